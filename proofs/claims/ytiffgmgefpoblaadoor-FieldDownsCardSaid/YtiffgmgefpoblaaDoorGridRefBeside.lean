/-
  The document's own Beside (layer 14). Conditions: none beyond the premises of each theorem.
-/
import Derived.Test.YtiffgmgefpoblaaDoorGridLaw
namespace Go.Proofs.YtiffgmgefpoblaaDoor
open Go.RowKit

theorem wrap_left9 (n : Int) : IntKind.i64.wrap n = wrap64 n := by unfold wrap64; exact IntKind.wrap_i64 n
theorem beside_drewN (w : World) (n : Nat) : Below w.heap.size w (w.drewN n) := ⟨rfl, rfl, rfl, Nat.le_refl _, fun _ _ => rfl⟩
set_option maxRecDepth 100000 in
theorem RefBeside_any (a x y : Nat) (h1 : 1 ≤ a) (h8 : a ≤ 8) (hx : x < 300) (hy : y < 300) (w : World) :
    Calls Tryd.prog 27 #[.int .i64 (a : Int), .int .i64 (x : Int), .int .i64 (y : Int)] w fun e w' => e = .returned (.bool (Grid.beside a x y)) ∧ Below w.heap.size w w' := by
  have hz : ¬ a = 0 := by omega
  have q0 : ∀ n : Nat, n < 300 → wrap64 ((n : Int) / (a : Int)) = ((n / a : Nat) : Int) := fun n hn => by
    have h2 : n / a ≤ n := Nat.div_le_self _ _
    rw [← Int.natCast_ediv]
    generalize n / a = m at h2
    unfold wrap64
    omega
  have q1 := q0 x hx
  have q2 := q0 y hy
  clear q0
  obtain ⟨r, HR⟩ : ∃ r, Hid (r = Grid.beside a x y) := ⟨_, Lib.hid rfl⟩
  rw [← HR.out]
  go_enter Tryd.func27, Tryd.ntmps27
  by_cases he : x / a = y / a
  · have hr : r = (x == y + 1 || y == x + 1) := by rw [HR.out]; unfold Grid.beside; rw [if_pos he]
    have he2 : (wrap64 ((x : Int) / (a : Int)) == wrap64 ((y : Int) / (a : Int))) = true := by rw [q1, q2, he]; simp
    have he3 : (IntKind.i64.wrap ((x : Int) / (a : Int)) == IntKind.i64.wrap ((y : Int) / (a : Int))) = true := by rw [wrap_left9, wrap_left9]; exact he2
    clear q1 q2
    go_wp2_with fail
    go_quiet (fail)
    go_wp2_with fail
    all_goals
      rename_i hc
      go_ret
      refine ⟨ret_bool9 ?_, beside_drewN w _⟩
      rw [hr, Bool.eq_iff_iff]
      simp only [Bool.or_eq_true, beq_iff_eq, true_iff]
      omega
  · have hr : r = (x == y + a || y == x + a) := by rw [HR.out]; unfold Grid.beside; rw [if_neg he]
    have he2 : (wrap64 ((x : Int) / (a : Int)) == wrap64 ((y : Int) / (a : Int))) = false := by rw [q1, q2]; simp; omega
    have he3 : (IntKind.i64.wrap ((x : Int) / (a : Int)) == IntKind.i64.wrap ((y : Int) / (a : Int))) = false := by rw [wrap_left9, wrap_left9]; exact he2
    clear q1 q2
    go_wp2_with fail
    go_quiet (fail)
    go_wp2_with fail
    all_goals
      rename_i hc
      go_ret
      refine ⟨ret_bool9 ?_, beside_drewN w _⟩
      rw [hr, Bool.eq_iff_iff]
      simp only [Bool.or_eq_true, beq_iff_eq, true_iff]
      omega
end Go.Proofs.YtiffgmgefpoblaaDoor
