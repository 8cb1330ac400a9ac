/-
  Robots of the document’s type: as the program has them, compared. Conditions: none beyond the premises of each theorem.
-/
import Derived.Test.YtjjlghdcpkkdhaaDoorRecRef
import Derived.Test.YtjjlghdcpkkdhaaDoorRecRefRight
import Derived.BigQuiet
namespace Go.Proofs.YtjjlghdcpkkdhaaDoor
open Go.RowKit

theorem Tryd.refRobTy : RowTy Tryd.prog 23 7 := ⟨⟨_, Tryd.underlying23, rfl⟩, by kernel_rfl⟩
theorem RobAt.range {w : World} {b : Nat} {x : Rob} (h : RobAt w b x) : w.rangeAt b 0 (robCells x) := fun j v hv => by
  rw [Nat.zero_add]
  match j, hv with
  | 0, hv => rw [← Option.some.inj hv]; exact h.c0
  | 1, hv => rw [← Option.some.inj hv]; exact h.c1
  | 2, hv => rw [← Option.some.inj hv]; exact h.c2
  | 3, hv => rw [← Option.some.inj hv]; exact h.c3
  | 4, hv => rw [← Option.some.inj hv]; exact h.c4
  | 5, hv => rw [← Option.some.inj hv]; exact h.c5
  | 6, hv => rw [← Option.some.inj hv]; exact h.c6
  | j + 7, hv => simp [robCells] at hv
set_option maxRecDepth 100000 in
theorem OfRobot_any (x : Rob) (w : World) : Calls Tryd.prog 10 #[robV x] w fun e w' => e = .returned (.agg (robCells x).toArray) ∧ Below w.heap.size w w' := by
  obtain ⟨b, HB⟩ : ∃ b, Hid (b = w.heap.size) := ⟨_, Lib.hid rfl⟩
  unfold robV
  go_enter Tryd.func10, Tryd.ntmps10
  go_wp2_with fail
  have h2 := COwn.new (w := w.alloc (.cells (robCells x).toArray 23)) (robCells x) 29
  have e : (w.alloc (.cells (robCells x).toArray 23)).heap.size = w.heap.size + 1 := by simp
  rw [e] at h2
  exact bodyPost_ret (results_c Tryd.robTy rfl _ _ (w.heap.size + 1) (robCells x) rfl h2.at_ rfl) rfl ⟨rfl, ((Below.refl _ _).alloc (Nat.le_refl _) _).alloc (by simp) _⟩
theorem Tryd.refRobFields : (Tryd.prog.fieldsOf 23).toList = [⟨"Cell", 3, 0, false, "", "", 0⟩, ⟨"Charge", 3, 1, false, "", "", 8⟩, ⟨"Phase", 3, 2, false, "", "", 16⟩, ⟨"Task", 3, 3, false, "", "", 24⟩, ⟨"Moved", 3, 4, false, "", "", 32⟩, ⟨"Gained", 3, 5, false, "", "", 40⟩, ⟨"Adjusted", 3, 6, false, "", "", 48⟩] := by kernel_rfl
theorem Tryd.refRobStruct : Tryd.prog.underlying 23 = some (.struct (Tryd.prog.fieldsOf 23)) := by kernel_rfl
theorem Tryd.refRobHeld : Tryd.prog.stoodInHeld 23 = false := by kernel_rfl
theorem guardRefRob : Tryd.prog.eqGuardType Tryd.prog.depth 23 = false := by kernel_rfl
theorem flatRefRob (x y : Rob) : FlatEq Tryd.prog 9999 (robCells x).toArray (robCells y).toArray (Tryd.prog.fieldsOf 23).toList (robBits x y) := by
  rw [Tryd.refRobFields]
  exact ⟨⟨by decide, field_int Tryd.underlying3 rfl rfl⟩, ⟨by decide, field_int Tryd.underlying3 rfl rfl⟩, ⟨by decide, field_int Tryd.underlying3 rfl rfl⟩, ⟨by decide, field_int Tryd.underlying3 rfl rfl⟩, ⟨by decide, field_int Tryd.underlying3 rfl rfl⟩, ⟨by decide, field_int Tryd.underlying3 rfl rfl⟩, ⟨by decide, field_int Tryd.underlying3 rfl rfl⟩, trivial⟩
set_option maxRecDepth 100000 in
theorem eql_refRob (x y : Rob) (w : World) : (binOp .eql 23 (.agg (robCells x).toArray) (.agg (robCells y).toArray)).run Tryd.prog w = .ok (.bool (decide (x = y))) w := by
  rw [← robBits_all]
  exact eql_flat Tryd.refRobStruct Tryd.refRobHeld (flatRefRob x y) w
end Go.Proofs.YtjjlghdcpkkdhaaDoor
