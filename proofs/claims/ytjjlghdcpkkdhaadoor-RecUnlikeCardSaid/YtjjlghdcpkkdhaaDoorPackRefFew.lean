/-
  The contracts of the document's own Put and Get for layer 3, of numbers in range alone (XPackRef has them with all the rest of the layer). Conditions: none beyond the premises of each theorem.
-/
import Derived.Test.YtjjlghdcpkkdhaaDoorPackPut
namespace Go.Proofs.YtjjlghdcpkkdhaaDoor
open Go.RowKit

/-- a text of one byte -/
theorem one_text (w : World) (c : UInt8) : (convert 68 9 (.slice (some ⟨w.heap.size, 0, none⟩) 1 1)).run Tryd.prog (w.alloc (.cells #[.int .u8 (c.toNat : Int)] 5)) = .ok (.string ⟨#[c]⟩) (w.alloc (.cells #[.int .u8 (c.toNat : Int)] 5)) := by
  have hr : Row (w.alloc (.cells #[.int .u8 (c.toNat : Int)] 5)) w.heap.size [c] := by
    intro i hi
    obtain rfl : i = 0 := by simp at hi; omega
    exact ⟨by simp, by simp⟩
  exact hr.text 1 1 rfl
def RefPutRel (B k n : Nat) (w : World) (x s i : Value) (wr : World) : Prop := ∃ j : Nat, j ≤ k ∧ i = .int .i64 (j : Int) ∧ x = .int .i64 ((n / 256 ^ j : Nat) : Int) ∧ s = .string ⟨(be j n).toArray⟩ ∧ Below B w wr
set_option maxHeartbeats 1000000 in
theorem RefPut_nat (k n : Nat) (w : World) (h4 : k ≤ 4) (hn : n < 4294967296) : Calls Tryd.prog 30 #[.int .i64 k, .int .i64 n] w fun e w' => e = .returned (.string ⟨(be k n).toArray⟩) ∧ Below w.heap.size w w' := by
  go_enter Tryd.func30, Tryd.ntmps30
  go_wp2
  go_loopw [1, 5, 6] (fun x s i wr => RefPutRel w.heap.size k n w x s i wr) (fun _ _ i _ => k - (intOf i).toNat)
  case atStart => exact ⟨0, Nat.zero_le _, rfl, by simp, rfl, Below.refl _ _⟩
  case round =>
    obtain ⟨j, hj, rfl, rfl, rfl, hb⟩ := hrel
    have HB := Lib.hid hb
    clear hb
    obtain ⟨x, HX⟩ : ∃ x, Hid (x = n / 256 ^ j) := ⟨_, Lib.hid rfl⟩
    have hx : x < 4294967296 := by rw [HX.out]; exact Nat.lt_of_le_of_lt (Nat.div_le_self _ _) hn
    obtain ⟨s, HS⟩ : ∃ s : ByteArray, Hid (s = ⟨(be j n).toArray⟩) := ⟨_, Lib.hid rfl⟩
    have hs : s.size ≤ 4 := by rw [HS.out]; show (be j n).length ≤ 4; rw [be_length]; omega
    rw [← HX.out, ← HS.out]
    by_cases hlt : j < k
    · obtain ⟨c, HC⟩ : ∃ c : UInt8, Hid (c = UInt8.ofNat x) := ⟨_, Lib.hid rfl⟩
      have hcv := one_text wr c
      have hcat : ∀ w, (Op.stringOp .add ⟨#[c]⟩ s).run Tryd.prog w = .ok (.string (⟨#[c]⟩ ++ s)) w := fun w => run_string_add_sum w _ _ (by
        have e : (⟨#[c]⟩ : ByteArray).size = 1 := rfl
        omega)
      have hcx : (x : Int) % 256 = (c.toNat : Int) := by rw [HC.out, UInt8.toNat_ofNat']; omega
      go_wp2_with fail
      go_roundw
      case rel =>
        refine ⟨j + 1, hlt, by go_num, ?_, ?_, HB.out.alloc HB.out.size _⟩
        · rw [Nat.pow_succ, ← Nat.div_div_eq_div_mul, ← HX.out]; go_num
        · rw [be_cons, ← HX.out, ← HC.out, HS.out]
          congr 1
      case measure => simp [intOf]; omega
    · obtain rfl : j = k := by omega
      go_wp2
      go_ret
      exact ⟨by rw [← HS.out]; rfl, HB.out⟩
theorem add_byte (m : Nat) (c : UInt8) (hm : m < 16777216) : wrap64 (256 * (m : Int) + wrap64 (c.toNat : Int)) = ((256 * m + c.toNat : Nat) : Int) := by
  have hc := c.toNat_lt
  have e1 : wrap64 (c.toNat : Int) = (c.toNat : Int) := by unfold wrap64; omega
  rw [e1]
  unfold wrap64
  omega
def RefGetRel (s : ByteArray) (k : Nat) (n i : Value) : Prop := ∃ j : Nat, j ≤ k ∧ i = .int .i64 (j : Int) ∧ n = .int .i64 (num (s.data.toList.take j) : Int)
theorem be_num : ∀ (l : List UInt8), be l.length (num l) = l := by
  have h : ∀ k (l : List UInt8), l.length = k → be k (num l) = l := by
    intro k
    induction k with
    | zero => intro l hl; obtain rfl := List.eq_nil_of_length_eq_zero hl; rfl
    | succ k ih =>
      intro l hl
      have hne : l ≠ [] := by rintro rfl; simp at hl
      have e := List.dropLast_concat_getLast hne
      have hd := ih l.dropLast (by simp [hl])
      rw [← e, num_snoc]
      have hc := (l.getLast hne).toNat_lt
      rw [be, show (256 * num l.dropLast + (l.getLast hne).toNat) / 256 = num l.dropLast by omega, hd]
      congr 1
      congr 1
      exact UInt8.toNat_inj.1 (by rw [UInt8.toNat_ofNat']; omega)
  exact fun l => h _ l rfl
end Go.Proofs.YtjjlghdcpkkdhaaDoor
