/-
  The contracts of the program's own fault and sized of layer 14. Conditions: none beyond the premises of each theorem.
-/
import Derived.Test.YtiffgmgefpoblaaDoorGridMath
import Derived.Test.YtiffgmgefpoblaaDoorGridShelf
import Derived.Test.YtiffgmgefpoblaaDoorErrFrom
import Derived.Test.YtiffgmgefpoblaaDoorStop
namespace Go.Proofs.YtiffgmgefpoblaaDoor
open Go.RowKit

theorem ret_bool9 {a b : Bool} (h : a = b) : Ending.returned (.bool a) = .returned (.bool b) := by rw [h]
theorem mul_small {W H : Int} (h : 1 ≤ W ∧ W ≤ 8 ∧ 1 ≤ H ∧ H ≤ 8) : wrap64 (W * H) = W * H := by
  have h1 : W * H ≤ 8 * 8 := Int.mul_le_mul h.2.1 h.2.2.2 (by omega) (by omega)
  have h2 : 0 ≤ W * H := Int.mul_nonneg (by omega) (by omega)
  unfold wrap64
  omega
set_option maxRecDepth 100000 in
theorem sized_any (W H : Int) (s : ByteArray) (w : World) :
    Calls Tryd.prog 32 #[.agg #[.int .i64 W, .int .i64 H, .string s]] w fun e w' => e = .returned (.bool (decide (Grid.sized W H s.size))) ∧ Below w.heap.size w w' := by
  by_cases h : 1 ≤ W ∧ W ≤ 8 ∧ 1 ≤ H ∧ H ≤ 8
  · have hm := mul_small h
    obtain ⟨h1, h2, h3, h4⟩ := h
    have e : decide (Grid.sized W H s.size) = decide ((s.size : Int) = W * H) := by
      rw [decide_eq_decide]
      unfold Grid.sized
      exact ⟨fun x => x.2.2.2.2, fun x => ⟨h1, h2, h3, h4, x⟩⟩
    rw [e]
    go_enter Tryd.func32, Tryd.ntmps32
    go_wp2_with fail
    go_ret
    exact ⟨rfl, (Below.refl _ _).alloc (Nat.le_refl _) _⟩
  · have e : decide (Grid.sized W H s.size) = false := by
      refine decide_eq_false fun x => h ⟨x.1, x.2.1, x.2.2.1, x.2.2.2.1⟩
    rw [e]
    go_enter Tryd.func32, Tryd.ntmps32
    go_wp2_with fail
    all_goals first
      | (exfalso; omega)
      | (go_ret; exact ⟨rfl, (Below.refl _ _).alloc (Nat.le_refl _) _⟩)
end Go.Proofs.YtiffgmgefpoblaaDoor
