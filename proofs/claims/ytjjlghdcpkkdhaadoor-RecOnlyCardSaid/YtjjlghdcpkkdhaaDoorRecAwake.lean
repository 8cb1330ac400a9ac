/-
  The statements' own awake for layer 12: the document's example. Conditions: errors.errorType is laid.
-/
import Derived.Test.YtjjlghdcpkkdhaaDoorRecEq
import Derived.BigQuiet
namespace Go.Proofs.YtjjlghdcpkkdhaaDoor
open Go.RowKit

theorem layT_example : layT ⟨1, 2, 0⟩ = [1, 2, 0, 0, 0, 0, 0, 0, 0, 0, 0, 0] := by decide +kernel
theorem Tryd.tasTwo (x y : Value) : Tryd.prog.built 42 [(0, x), (1, y)] = Instr.fill ((#[(0, 1), (1, 1), (2, 1)] : Array (Nat × Nat))[·]?) #[.int .i64 0, .int .i64 0, .int .i64 0] [(0, x), (1, y)] := by kernel_rfl
set_option maxRecDepth 100000 in
theorem awake_any (w : World) (hg : Laid w) : Calls Tryd.prog 8 #[] w fun e w' => e = .returned (.bool true) ∧ Below w.heap.size w w' := by
  have HG := Lib.hid hg
  clear hg
  go_enter Tryd.func8, Tryd.ntmps8
  go_wp2_with fail
  refine (LayTask_any ⟨1, 2, 0⟩ w).mono ?_
  rintro e w1 ⟨v, rfl, he, hb⟩
  obtain rfl := ErrFrom.zero he
  rw [if_pos (by decide), layT_example]
  have HB1 := Lib.hid hb
  clear he hb
  go_wp2_with fail
  refine (Num_any 0 .nilIface w1 (.nil _) (HG.out.carry HB1.out)).mono ?_
  rintro e w2 ⟨rfl, hb⟩
  have HB2 := Lib.hid (HB1.out.trans (hb.mono HB1.out.size))
  clear hb
  have heq : ((⟨[1, 2, 0, 0, 0, 0, 0, 0, 0, 0, 0, 0].toArray⟩ : ByteArray).toList == (⟨#[1, 2, 0, 0, 0, 0, 0, 0, 0, 0, 0, 0]⟩ : ByteArray).toList) = true := by simp
  go_wp2_with fail
  go_ret
  exact ⟨rfl, HB2.out⟩
end Go.Proofs.YtjjlghdcpkkdhaaDoor
