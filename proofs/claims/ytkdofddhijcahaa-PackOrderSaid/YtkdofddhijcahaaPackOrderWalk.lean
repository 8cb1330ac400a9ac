/-
  The walk of the statement PackOrder: it answers true, and no memory that was there has turned. Conditions: the arguments are within their kinds.
-/
import Derived.Test.YtkdofddhijcahaaPackPut
import Derived.BigQuiet
import Derived.Deep.DeepCutAuto
namespace Go.Proofs.Ytkdofddhijcahaa
open Go.RowKit

set_option maxHeartbeats 1000000 in
theorem awake_any (w : World) : Calls Try.prog 4 #[] w fun e w' => e = .returned (.bool true) ∧ Below w.heap.size w w' := by
  go_enter Try.func4, Try.ntmps4
  go_wp2_with fail
  refine (Put_yes 2 258 w (by decide) (by decide) (by decide)).mono ?_
  rintro e w' ⟨rfl, hb⟩
  have HB := Lib.hid hb
  clear hb
  have e : (⟨(be 2 258).toArray⟩ : ByteArray) = ⟨#[1, 2]⟩ := by rfl
  rw [e]
  clear e
  go_wp2_with fail
  go_ret
  exact ⟨rfl, HB.out⟩

theorem wrap_pow {k p : Nat} (h4 : k ≤ 4) (hp : p = 256 ^ k) : IntKind.i64.wrap (2 ^ (8 * (k : Int)).toNat) = (p : Int) := by
  have e1 : (8 * (k : Int)).toNat = 8 * k := by omega
  have e2 : (2 : Int) ^ (8 * k) = 256 ^ k := by rw [Int.pow_mul]; rfl
  have h := pow_le4 h4
  rw [e1, e2, ← cast_pow, ← hp]
  exact IntWalk.i64_in _ (by omega)

theorem wrap64_pow {k p : Nat} (h4 : k ≤ 4) (hp : p = 256 ^ k) : wrap64 (2 ^ (8 * k)) = (p : Int) := by
  have e2 : (2 : Int) ^ (8 * k) = 256 ^ k := by rw [Int.pow_mul]; rfl
  have h := pow_le4 h4
  rw [e2, ← cast_pow, ← hp]
  unfold wrap64
  omega
theorem unfit_pow {k p : Nat} (hp : p = 256 ^ k) : fitB k (p : Int) = false := by
  rw [fitB_false, hp, cast_pow]
  omega

theorem less_iff : ∀ a b : List UInt8, Op.bytesLess a b = true ↔ a < b
  | [], [] => by simp [Op.bytesLess]
  | _ :: _, [] => by simp [Op.bytesLess]
  | [], _ :: _ => by simp [Op.bytesLess]
  | a :: x, b :: y => by
    rw [List.cons_lt_cons_iff, ← less_iff x y]
    simp [Op.bytesLess]
theorem bytes_toList (l : List UInt8) : (⟨l.toArray⟩ : ByteArray).toList = l := by rw [ByteArray.toList_eq]
theorem less_be {k x y : Nat} (hx : x < 256 ^ k) (hy : y < 256 ^ k) : Op.bytesLess (⟨(be k x).toArray⟩ : ByteArray).toList (⟨(be k y).toArray⟩ : ByteArray).toList = decide (x < y) := by
  rw [Bool.eq_iff_iff, less_iff, bytes_toList, bytes_toList, be_lt hx hy, decide_eq_true_iff]

set_option maxHeartbeats 2000000 in
theorem order_walk (m k a b p x y : Nat) (w : World) (hm : m < 256) (ha : a < 4294967296) (hb : b < 4294967296) (hk : k = 1 + m % 4) (hp : p = 256 ^ k) (hx : x = a % p) (hy : y = b % p) :
    Calls Try.prog 3 #[.int .u8 m, .int .u32 a, .int .u32 b] w fun e w' => e = .returned (.bool true) ∧ Below w.heap.size w w' := by
  have h1 : 1 ≤ k := by omega
  have h4 : k ≤ 4 := by omega
  have hp0 : 0 < p := by rw [hp]; exact Nat.pow_pos (by decide)
  have E : Hid ((1 : Int) + (m : Int) % 4 = (k : Int)) := Lib.hid (by omega)
  have Q1 : Hid (IntKind.i64.wrap (a : Int) = a) := Lib.hid (IntWalk.i64_in _ (by omega))
  have Q2 : Hid (IntKind.i64.wrap (b : Int) = b) := Lib.hid (IntWalk.i64_in _ (by omega))
  have Q3 : Hid (IntKind.i64.wrap (8 * (k : Int)) = 8 * (k : Int)) := Lib.hid (IntWalk.i64_in _ (by omega))
  have q4 : (0 : Int) ≤ 8 * (k : Int) := by omega
  have Q5 := Lib.hid (wrap_pow h4 hp)
  have q6 : ¬ (p : Int) = 0 := by omega
  have q7 : ¬ p = 0 := by omega
  have Q8 : Hid ((a : Int).tmod p = (x : Int)) := Lib.hid (by rw [hx]; exact (Int.ofNat_tmod a p).symm)
  have Q9 : Hid ((b : Int).tmod p = (y : Int)) := Lib.hid (by rw [hy]; exact (Int.ofNat_tmod b p).symm)
  have HX : Hid (x < 256 ^ k) := Lib.hid (by rw [hx, ← hp]; exact Nat.mod_lt _ hp0)
  have HY : Hid (y < 256 ^ k) := Lib.hid (by rw [hy, ← hp]; exact Nat.mod_lt _ hp0)
  have hx9 : x < 4294967296 := Nat.lt_of_lt_of_le HX.out (pow_le4 h4)
  have hy9 : y < 4294967296 := Nat.lt_of_lt_of_le HY.out (pow_le4 h4)
  have HP := Lib.hid hp
  clear hk hp hx hy
  go_enter Try.func3, Try.ntmps3
  go_upto_region 2 with (fail)
  rw [E.out]
  have q1 := Q1.out
  have q2 := Q2.out
  have q3 := Q3.out
  have q5 := Q5.out
  have q8 := Q8.out
  have q9 := Q9.out
  go_quiet (fail)
  clear q1 q2 q3 q5 q8 q9
  go_wp2_with fail
  refine (awake_any _).mono ?_
  rintro e w1 ⟨rfl, hb1⟩
  have HB1 : Hid (Below w.heap.size w w1) := Lib.hid ((below_drewN w nq).trans hb1)
  clear hb1
  go_wp2_with fail
  refine (Put_yes k x _ h1 h4 HX.out).mono ?_
  obtain ⟨s, HS⟩ : ∃ s : ByteArray, Hid (s = ⟨(be k x).toArray⟩) := ⟨_, Lib.hid rfl⟩
  obtain ⟨t, HT⟩ : ∃ t : ByteArray, Hid (t = ⟨(be k y).toArray⟩) := ⟨_, Lib.hid rfl⟩
  have hz : ((s.size : Int) == (k : Int)) = true := by rw [HS.out]; show ((be k x).length : Int) == (k : Int); rw [be_length]; simp
  have hl : Op.bytesLess s.toList t.toList = decide (x < y) := by rw [HS.out, HT.out]; exact less_be HX.out HY.out
  rw [← HS.out]
  rintro e w2 ⟨rfl, hb2⟩
  have HB2 : Hid (Below w.heap.size w w2) := Lib.hid (HB1.out.trans (hb2.mono HB1.out.size))
  clear hb2 HB1
  go_wp2_with fail
  refine (Put_yes k x _ h1 h4 HX.out).mono ?_
  rw [← HS.out]
  rintro e w3 ⟨rfl, hb3⟩
  have HB3 : Hid (Below w.heap.size w w3) := Lib.hid (HB2.out.trans (hb3.mono HB2.out.size))
  clear hb3 HB2
  go_wp2_with fail
  refine (Put_yes k y _ h1 h4 HY.out).mono ?_
  rw [← HT.out]
  rintro e w4 ⟨rfl, hb4⟩
  have HB4 : Hid (Below w.heap.size w w4) := Lib.hid (HB3.out.trans (hb4.mono HB3.out.size))
  clear hb4 HB3
  go_wp2_with fail
  rw [wrap64_pow h4 HP.out]
  refine (Put_unfit k p _ h1 h4 (unfit_pow HP.out)).mono ?_
  rintro e w5 ⟨rfl, rfl⟩
  go_wp2_with fail
  go_ret
  exact ⟨rfl, HB4.out⟩
end Go.Proofs.Ytkdofddhijcahaa
