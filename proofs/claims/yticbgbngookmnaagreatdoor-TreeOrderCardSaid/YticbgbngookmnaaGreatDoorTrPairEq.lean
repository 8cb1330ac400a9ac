/-
  A pair compared with its like. Conditions: none.
-/
import Derived.Test.YticbgbngookmnaaGreatDoorSb
import Derived.Test.YticbgbngookmnaaGreatDoorTq
namespace Go.Proofs.YticbgbngookmnaaGreatDoor
open Go.RowKit

theorem Tryz.prFields : (Tryz.prog.fieldsOf 53).toList = [⟨"Key", 3, 0, false, "", "", 0⟩, ⟨"Val", 9, 1, false, "", "", 8⟩] := by kernel_rfl
theorem Tryz.prStruct : Tryz.prog.underlying 53 = some (.struct (Tryz.prog.fieldsOf 53)) := by kernel_rfl
theorem Tryz.prHeld : Tryz.prog.stoodInHeld 53 = false := by kernel_rfl
theorem guardPr : Tryz.prog.eqGuardType Tryz.prog.depth 53 = false := by kernel_rfl
abbrev prV (k : Int) (s : ByteArray) : Value := .agg #[.int .i64 k, .string s]
theorem part_key (k : Int) (s : ByteArray) (w : World) : (part 3 #[.int .i64 k, .string s] 0).run Tryz.prog w = .ok (.int .i64 k) w := by
  simp [part, isAgg, underlying, Tryz.underlying3]
theorem part_val (k : Int) (s : ByteArray) (w : World) : (part 9 #[.int .i64 k, .string s] 1).run Tryz.prog w = .ok (.string s) w := by
  simp [part, isAgg, underlying, Tryz.underlying9]
theorem equalIn_pr (k : Int) (s : ByteArray) (w : World) : (Op.equalIn 10000 53 (prV k s) (prV k s)).run Tryz.prog w = .ok true w := by
  rw [run_equalIn_agg w 9999 53 _ _ Tryz.prStruct Tryz.prHeld, Tryz.prFields]
  have e1 : (Op.equalIn 9999 3 (.int .i64 k) (.int .i64 k)).run Tryz.prog w = .ok (k == k) w := run_equalIn_int w 9998 _ .i64 .i64 _ _ Tryz.underlying3
  have e2 : (Op.equalIn 9999 9 (.string s) (.string s)).run Tryz.prog w = .ok true w := by
    have := run_equalIn_string (P := Tryz.prog) w 9998 9 s s Tryz.underlying9
    simpa using this
  have n1 : ("Key" : String) ≠ "_" := by decide
  have n2 : ("Val" : String) ≠ "_" := by decide
  simp [Op.eqFields, n1, n2, part_key, part_val, Result.andThen_ok, e1, e2]
theorem neq_pr (k : Int) (s : ByteArray) (w : World) : (binOp .neq 53 (prV k s) (prV k s)).run Tryz.prog w = .ok (.bool false) w := by
  rw [run_neq_struct, equalIn_pr, Result.andThen_ok]
  rfl
end Go.Proofs.YticbgbngookmnaaGreatDoor
