/-
  The contracts of pack.isWidth, pack.fits, pack.lay and pack.Put: the bytes of a number, the highest first. Conditions: none beyond the premises of each theorem.
-/
import Derived.Test.YtjjlghdcpkkdhaaDoorRow
import Derived.Test.YtjjlghdcpkkdhaaDoorPackMath
import Derived.IntWalk
import Derived.Deep.AppendLies
namespace Go.Proofs.YtjjlghdcpkkdhaaDoor
open Go.RowKit

/-- does a number fit so many bytes? -/
def fitB (k : Nat) (n : Int) : Bool := decide (0 ≤ n ∧ n < 256 ^ k)
theorem fitB_true {k : Nat} {n : Int} : fitB k n = true ↔ 0 ≤ n ∧ n < 256 ^ k := by simp [fitB]
theorem fitB_false {k : Nat} {n : Int} : fitB k n = false ↔ ¬ (0 ≤ n ∧ n < 256 ^ k) := by rw [← fitB_true]; simp
theorem pow_le4 {k : Nat} (h : k ≤ 4) : 256 ^ k ≤ 4294967296 := Nat.pow_le_pow_right (n := 256) (by decide) h
theorem shift_fits {k : Nat} (n : Int) : (n / 2 ^ (8 * k) == 0) = fitB k n := by
  have e2 : (2 : Int) ^ (8 * k) = 256 ^ k := by rw [Int.pow_mul]; rfl
  have hp : (0 : Int) < 256 ^ k := Int.pow_pos (by decide)
  rw [e2, Bool.eq_iff_iff, fitB_true, beq_iff_eq]
  constructor
  · intro h
    have h1 := Int.mul_ediv_add_emod n (256 ^ k)
    have h2 := Int.emod_nonneg n (Int.ne_of_gt hp)
    have h3 := Int.emod_lt_of_pos n hp
    rw [h, Int.mul_zero] at h1
    omega
  · rintro ⟨h0, h1⟩
    exact Int.ediv_eq_zero_of_lt h0 h1
theorem ret_bool {a b : Bool} (h : a = b) : Ending.returned (.bool a) = .returned (.bool b) := by rw [h]
theorem ret_int {k : IntKind} {a b : Int} (h : a = b) : Ending.returned (.int k a) = .returned (.int k b) := by rw [h]

theorem isWidth_yes (k : Nat) (w : World) (h1 : 1 ≤ k) (h4 : k ≤ 4) : Calls Tryd.prog 51 #[.int .i64 k] w fun e w' => e = .returned (.bool true) ∧ w = w' := by
  go_enter Tryd.func51, Tryd.ntmps51
  go_wp2
  go_ret
  exact ⟨ret_bool (by simp; omega), rfl⟩
theorem isWidth_no (n : Int) (w : World) (h : n < 1 ∨ 4 < n) : Calls Tryd.prog 51 #[.int .i64 n] w fun e w' => e = .returned (.bool false) ∧ w = w' := by
  rcases h with h | h
  · go_enter Tryd.func51, Tryd.ntmps51
    go_wp2
    go_ret
    exact ⟨rfl, rfl⟩
  · go_enter Tryd.func51, Tryd.ntmps51
    go_wp2
    go_ret
    exact ⟨ret_bool (by simp; omega), rfl⟩
theorem fits_any (k : Nat) (n : Int) (w : World) (h4 : k ≤ 4) : Calls Tryd.prog 44 #[.int .i64 k, .int .i64 n] w fun e w' => e = .returned (.bool (fitB k n)) ∧ w = w' := by
  go_enter Tryd.func44, Tryd.ntmps44
  go_wp2
  go_ret
  exact ⟨ret_bool (shift_fits n), rfl⟩

theorem Tryd.infoByte : (Tryd.prog.info? 5).map (fun i => (i.zero, i.size, i.bytes)) = some (some (.int .u8 0), 1, 1) := by kernel_rfl
/-- bytes as a memory holds them -/
def cellsOf (l : List UInt8) : List Value := l.map fun c => .int .u8 (c.toNat : Int)
theorem cellsOf_append (a b : List UInt8) : cellsOf (a ++ b) = cellsOf a ++ cellsOf b := by simp [cellsOf]
theorem cellsOf_length (l : List UInt8) : (cellsOf l).length = l.length := by simp [cellsOf]

theorem byte_shift (n d : Nat) : (n : Int) / 2 ^ (8 * d) % 256 = ((UInt8.ofNat (n / 256 ^ d)).toNat : Int) := by
  have e2 : (2 : Int) ^ (8 * d) = ((256 ^ d : Nat) : Int) := by rw [Int.pow_mul]; simp
  rw [e2, UInt8.toNat_ofNat']
  omega
/-- one cell, laid and appended -/
theorem news_one (w : World) (t : TypeId) (u : Value) (hu : u.oneCell' = true) : (∀ j x, [u][j]? = some x → (w.alloc (.cells #[u] t)).cell? ((⟨w.heap.size, 0, none⟩ : Addr).add j) = some x) ∧ ∀ x ∈ [u], x.oneCell' = true := by
  refine ⟨fun j x hj => ?_, fun x hx => by simp at hx; subst hx; exact hu⟩
  match j, hj with
  | 0, hj => simp at hj; subst hj; simp [Addr.add]

def LayPost (B : Nat) (l : List UInt8) (w : World) (e : Ending) (w' : World) : Prop :=
  ∃ g cap, e = .returned (.slice (some ⟨g, 0, none⟩) l.length cap) ∧ w'.ownsRow B 5 1 (.slice (some ⟨g, 0, none⟩) l.length cap) l.length (cellsOf l) ∧ Below B w w'
def LayRel (B k n : Nat) (l : List UInt8) (w : World) (t i : Value) (wr : World) : Prop :=
  ∃ j : Nat, j ≤ k ∧ i = .int .i64 (j : Int) ∧ wr.ownsRow B 5 1 t (l.length + j) (cellsOf (l ++ (be k n).take j)) ∧ Below B w wr

set_option maxHeartbeats 1000000 in
set_option maxRecDepth 100000 in
theorem lay_any (B k n : Nat) (l : List UInt8) (v : Value) (w : World) (h1 : 1 ≤ k) (h4 : k ≤ 4) (hl : l.length ≤ 100000) (hB : B ≤ w.heap.size) (hown : w.ownsRow B 5 1 v l.length (cellsOf l)) :
    Calls Tryd.prog 45 #[v, .int .i64 k, .int .i64 n] w (LayPost B (l ++ be k n) w) := by
  obtain ⟨i0, hi, hz0, hz1, hz2⟩ := info_parts Tryd.infoByte
  have HO := Lib.hid hown
  clear hown
  go_enter Tryd.func45, Tryd.ntmps45
  go_wp2
  go_loopw [0, 9] (fun t i wr => LayRel B k n l w t i wr) (fun _ i _ => k - (intOf i).toNat)
  case atStart => exact ⟨0, Nat.zero_le _, rfl, by simpa using HO.out, Below.refl _ _⟩
  case round =>
    obtain ⟨j, hj, rfl, ho, hb⟩ := hrel
    have HO' := Lib.hid ho
    have HB' := Lib.hid hb
    clear ho hb HO
    by_cases hlt : j < k
    · have hsz := HB'.out.size
      go_wp2_with (at_builtin; refine wpList_append_lies _ rfl _ _ 68 rfl B 5 i0 (.int .u8 0) 1 1 Tryd.underlying68 hi hz0 hz1 hz2 rfl (by decide) _ _ _ rfl (HO'.out.alloc _) ⟨wr.heap.size, 0, none⟩ 1 1 [.int .u8 ((n : Int) / 2 ^ (8 * (k - 1 - j)) % 256)] rfl rfl (news_one wr 5 _ rfl).1 (news_one wr 5 _ rfl).2 (by decide) (by unfold maxLen; omega) (by omega) (by simp; omega) _ rfl ?_; intro g cap w1 hown1 hgrow hat hg1)
      have HO1 := Lib.hid hown1
      have HB1 := Lib.hid ((HB'.out.alloc (by omega) _).grown hgrow (by simp; omega) (fun g hg => (HO'.out.lt g hg).1))
      clear hown1 hgrow hat hg1
      go_wp2
      go_roundw
      case rel =>
        refine ⟨j + 1, hlt, by go_num, ?_, HB1.out⟩
        rw [be_take n hlt, ← List.append_assoc, cellsOf_append, ← Nat.add_assoc]
        have e := HO1.out
        rw [byte_shift] at e
        exact e
      case measure => simp [intOf]; omega
    · obtain rfl : j = k := by omega
      have e := HO'.out
      rw [be_full] at e
      obtain ⟨g, cap, rfl, _, _⟩ := e.form (by omega)
      have HE := Lib.hid e
      clear e
      go_wp2
      go_ret
      refine ⟨g, cap, ?_, ?_, HB'.out⟩
      · rw [List.length_append, be_length]; rfl
      · rw [List.length_append, be_length]; exact HE.out

/-- the text of bytes that a call owns -/
theorem own_text {w : World} {B g cap : Nat} {l : List UInt8} (h : w.ownsRow B 5 1 (.slice (some ⟨g, 0, none⟩) l.length cap) l.length (cellsOf l)) :
    (convert 68 9 (.slice (some ⟨g, 0, none⟩) l.length cap)).run Tryd.prog w = .ok (.string ⟨l.toArray⟩) w := by
  have hr : Row w g l := by
    intro i hi
    refine ⟨?_, h.frozenAt i⟩
    rw [h.cellAt i (by omega)]
    simp [cellsOf, hi]
  exact hr.text cap l.length rfl
theorem cast_pow (k : Nat) : ((256 ^ k : Nat) : Int) = 256 ^ k := Int.natCast_pow 256 k
theorem fitB_nat {k n : Nat} (hn : n < 256 ^ k) : fitB k n = true := fitB_true.2 ⟨Int.natCast_nonneg n, by rw [← cast_pow]; exact Int.ofNat_lt.2 hn⟩
theorem fits_yes (k n : Nat) (w : World) (h4 : k ≤ 4) (hn : n < 256 ^ k) : Calls Tryd.prog 44 #[.int .i64 k, .int .i64 n] w fun e w' => e = .returned (.bool true) ∧ w = w' := by
  have hf : fitB k n = true := fitB_nat hn
  have h := fits_any k n w h4
  rw [hf] at h
  exact h
theorem fits_no (k : Nat) (n : Int) (w : World) (h4 : k ≤ 4) (hn : fitB k n = false) : Calls Tryd.prog 44 #[.int .i64 k, .int .i64 n] w fun e w' => e = .returned (.bool false) ∧ w = w' := by
  have h := fits_any k n w h4
  rw [hn] at h
  exact h

theorem wrap_pow {k p : Nat} (h4 : k ≤ 4) (hp : p = 256 ^ k) : IntKind.i64.wrap (2 ^ (8 * (k : Int)).toNat) = (p : Int) := by
  have e1 : (8 * (k : Int)).toNat = 8 * k := by omega
  have e2 : (2 : Int) ^ (8 * k) = 256 ^ k := by rw [Int.pow_mul]; rfl
  have h := pow_le4 h4
  rw [e1, e2, ← cast_pow, ← hp]
  exact IntWalk.i64_in _ (by omega)

theorem wrap64_pow {k p : Nat} (h4 : k ≤ 4) (hp : p = 256 ^ k) : wrap64 (2 ^ (8 * k)) = (p : Int) := by
  have e2 : (2 : Int) ^ (8 * k) = 256 ^ k := by rw [Int.pow_mul]; rfl
  have h := pow_le4 h4
  rw [e2, ← cast_pow, ← hp]
  unfold wrap64
  omega
theorem unfit_pow {k p : Nat} (hp : p = 256 ^ k) : fitB k (p : Int) = false := by
  rw [fitB_false, hp, cast_pow]
  omega
end Go.Proofs.YtjjlghdcpkkdhaaDoor
