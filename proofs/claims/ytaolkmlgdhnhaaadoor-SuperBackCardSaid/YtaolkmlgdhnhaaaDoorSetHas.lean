/-
  The contract of bits.Has. Conditions: none beyond the premises of each theorem.
-/
import Derived.Test.YtaolkmlgdhnhaaaDoorSetAt
namespace Go.Proofs.YtaolkmlgdhnhaaaDoor
open Go.RowKit
open Bits (Ok has)

/-- what Has answers -/
def hasZ (s : List Nat) (n : Int) : Bool := isNum n && has s n.toNat
theorem hasZ_nat {s : List Nat} {m : Nat} (h : m < 240) : hasZ s (m : Int) = has s m := by
  unfold hasZ
  rw [isNum_nat h, Bool.true_and, Int.toNat_natCast]
theorem and_bit {a p j : Nat} (hp : p = 2 ^ j) (ha : a < 256) (hj : j < 8) : (bits .and .u8 (a : Int) (p : Int) != 0) = a.testBit j := by
  have h2 : p < 256 := by
    have h : (2 : Nat) ^ j < 2 ^ 8 := Nat.pow_lt_pow_right (by decide) hj
    omega
  have e : a &&& 2 ^ j = if a.testBit j then 2 ^ j else 0 := by
    refine Nat.eq_of_testBit_eq fun i => ?_
    rw [Nat.testBit_and, Nat.testBit_two_pow]
    by_cases h : j = i
    · subst h
      cases a.testBit j <;> simp
    · rw [decide_eq_false h, Bool.and_false]
      cases a.testBit j <;> simp [h]
  have h3 : 0 < 2 ^ j := Nat.two_pow_pos j
  rw [u8_and_nat a p ha h2, hp, e]
  clear hp h2 e
  generalize 2 ^ j = q at h3 ⊢
  cases a.testBit j with
  | false => simp
  | true =>
    simp
    omega
set_option maxRecDepth 100000 in
theorem Has_yes (s : List Nat) (h : Ok s) (m : Nat) (hm : m < 240) (w : World) :
    Calls Tryd.prog 29 #[stV s, .int .i64 m] w fun e w' => e = .returned (.bool (has s m)) ∧ Below w.heap.size w w' := by
  obtain ⟨w1, HW⟩ : ∃ w1, Hid (w1 = w.alloc (.cells (stArr s) 31)) := ⟨_, Lib.hid rfl⟩
  have hr : w1.rangeAt w.heap.size 0 (stCells s) := by rw [HW.out]; exact (SOwn.new _).at_
  have hc := set_at hr (i := m / 8) (by rw [h.len]; omega)
  obtain ⟨a, HA⟩ : ∃ a, Hid (a = Bits.at_ s (m / 8)) := ⟨_, Lib.hid rfl⟩
  obtain ⟨p, HP⟩ : ∃ p, Hid (p = 2 ^ (m % 8)) := ⟨_, Lib.hid rfl⟩
  rw [← HA.out] at hc
  have HN : ∀ w, Calls Tryd.prog 48 #[.int .i64 m] w fun e w' => e = .returned (.bool true) ∧ w' = w := fun w => (isNumber_any m w).mono fun e w' ⟨h1, h2⟩ => ⟨by rw [h1, isNum_nat hm], h2.symm⟩
  have HB : ∀ w, Calls Tryd.prog 49 #[.int .i64 m] w fun e w' => e = .returned (.int .u8 (p : Int)) ∧ w' = w := fun w => (bit_any m w).mono fun e w' ⟨h1, h2⟩ => ⟨by rw [h1, HP.out], h2.symm⟩
  go_enter Tryd.func29, Tryd.ntmps29
  go_wp2_with fail
  rw [← HW.out]
  go_quiet (first | (go_at_call 48; exact Calls.quiet_of_same (HN _)) | (go_at_call 49; exact Calls.quiet_of_same (HB _)))
  rw [and_bit HP.out (by rw [HA.out]; exact Bits.at_lt h _) (Nat.mod_lt _ (by decide)), HA.out]
  go_wp2_with fail
  go_ret
  exact ⟨rfl, by rw [HW.out]; exact set_below_drewN ((Below.refl _ _).alloc (Nat.le_refl _) _) _⟩
set_option maxRecDepth 100000 in
theorem Has_no (s : List Nat) (n : Int) (hn : isNum n = false) (w : World) :
    Calls Tryd.prog 29 #[stV s, .int .i64 n] w fun e w' => e = .returned (.bool false) ∧ Below w.heap.size w w' := by
  obtain ⟨w1, HW⟩ : ∃ w1, Hid (w1 = w.alloc (.cells (stArr s) 31)) := ⟨_, Lib.hid rfl⟩
  have HN : ∀ w, Calls Tryd.prog 48 #[.int .i64 n] w fun e w' => e = .returned (.bool false) ∧ w' = w := fun w => (isNumber_any n w).mono fun e w' ⟨h1, h2⟩ => ⟨by rw [h1, hn], h2.symm⟩
  go_enter Tryd.func29, Tryd.ntmps29
  go_wp2_with fail
  rw [← HW.out]
  go_quiet ((go_at_call 48; exact Calls.quiet_of_same (HN _)))
  go_wp2_with fail
  go_ret
  exact ⟨rfl, by rw [HW.out]; exact set_below_drewN ((Below.refl _ _).alloc (Nat.le_refl _) _) _⟩
theorem Has_any (s : List Nat) (h : Ok s) (n : Int) (w : World) :
    Calls Tryd.prog 29 #[stV s, .int .i64 n] w fun e w' => e = .returned (.bool (hasZ s n)) ∧ Below w.heap.size w w' := by
  cases hn : isNum n with
  | true =>
    obtain ⟨m, rfl, hm⟩ := isNum_true hn
    rw [hasZ_nat hm]
    exact Has_yes s h m hm w
  | false =>
    have e : hasZ s n = false := by unfold hasZ; rw [hn, Bool.false_and]
    rw [e]
    exact Has_no s n hn w
end Go.Proofs.YtaolkmlgdhnhaaaDoor
