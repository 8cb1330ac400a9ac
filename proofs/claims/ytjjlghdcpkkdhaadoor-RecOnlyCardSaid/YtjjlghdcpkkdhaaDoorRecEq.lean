/-
  Robots, tasks, states of all compared. Conditions: none beyond the premises of each theorem.
-/
import Derived.Test.YtjjlghdcpkkdhaaDoorStructEq
import Derived.Test.YtjjlghdcpkkdhaaDoorRecReadAll
namespace Go.Proofs.YtjjlghdcpkkdhaaDoor
open Go.RowKit

theorem Tryd.robFields : (Tryd.prog.fieldsOf 29).toList = [⟨"Cell", 3, 0, false, "", "", 0⟩, ⟨"Charge", 3, 1, false, "", "", 8⟩, ⟨"Phase", 3, 2, false, "", "", 16⟩, ⟨"Task", 3, 3, false, "", "", 24⟩, ⟨"Moved", 3, 4, false, "", "", 32⟩, ⟨"Gained", 3, 5, false, "", "", 40⟩, ⟨"Adjusted", 3, 6, false, "", "", 48⟩] := by kernel_rfl
theorem Tryd.robStruct : Tryd.prog.underlying 29 = some (.struct (Tryd.prog.fieldsOf 29)) := by kernel_rfl
theorem Tryd.robHeld : Tryd.prog.stoodInHeld 29 = false := by kernel_rfl
theorem guardRob : Tryd.prog.eqGuardType Tryd.prog.depth 29 = false := by kernel_rfl
def robBits (x y : Rob) : List Bool := [x.cell == y.cell, x.charge == y.charge, x.phase == y.phase, x.task == y.task, x.moved == y.moved, x.gained == y.gained, x.adj == y.adj]
theorem robBits_all (x y : Rob) : (robBits x y).all id = decide (x = y) := by
  rw [Bool.eq_iff_iff]
  cases x; cases y
  simp [robBits]
theorem flatRob (x y : Rob) : FlatEq Tryd.prog 9999 (robCells x).toArray (robCells y).toArray (Tryd.prog.fieldsOf 29).toList (robBits x y) := by
  rw [Tryd.robFields]
  exact ⟨⟨by decide, field_int Tryd.underlying3 rfl rfl⟩, ⟨by decide, field_int Tryd.underlying3 rfl rfl⟩, ⟨by decide, field_int Tryd.underlying3 rfl rfl⟩, ⟨by decide, field_int Tryd.underlying3 rfl rfl⟩, ⟨by decide, field_int Tryd.underlying3 rfl rfl⟩, ⟨by decide, field_int Tryd.underlying3 rfl rfl⟩, ⟨by decide, field_int Tryd.underlying3 rfl rfl⟩, trivial⟩
set_option maxRecDepth 100000 in
theorem eql_rob (x y : Rob) (w : World) : (binOp .eql 29 (.agg (robCells x).toArray) (.agg (robCells y).toArray)).run Tryd.prog w = .ok (.bool (decide (x = y))) w := by
  rw [← robBits_all]
  exact eql_flat Tryd.robStruct Tryd.robHeld (flatRob x y) w
theorem Tryd.tasFields : (Tryd.prog.fieldsOf 42).toList = [⟨"From", 3, 0, false, "", "", 0⟩, ⟨"To", 3, 1, false, "", "", 8⟩, ⟨"State", 3, 2, false, "", "", 16⟩] := by kernel_rfl
theorem Tryd.tasStruct : Tryd.prog.underlying 42 = some (.struct (Tryd.prog.fieldsOf 42)) := by kernel_rfl
theorem Tryd.tasHeld : Tryd.prog.stoodInHeld 42 = false := by kernel_rfl
theorem guardTas : Tryd.prog.eqGuardType Tryd.prog.depth 42 = false := by kernel_rfl
def tasBits (x y : Tas) : List Bool := [x.frm == y.frm, x.to == y.to, x.state == y.state]
theorem tasBits_all (x y : Tas) : (tasBits x y).all id = decide (x = y) := by
  rw [Bool.eq_iff_iff]
  cases x; cases y
  simp [tasBits]
theorem flatTas (x y : Tas) : FlatEq Tryd.prog 9999 (tasCells x).toArray (tasCells y).toArray (Tryd.prog.fieldsOf 42).toList (tasBits x y) := by
  rw [Tryd.tasFields]
  exact ⟨⟨by decide, field_int Tryd.underlying3 rfl rfl⟩, ⟨by decide, field_int Tryd.underlying3 rfl rfl⟩, ⟨by decide, field_int Tryd.underlying3 rfl rfl⟩, trivial⟩
set_option maxRecDepth 100000 in
theorem eql_tas (x y : Tas) (w : World) : (binOp .eql 42 (.agg (tasCells x).toArray) (.agg (tasCells y).toArray)).run Tryd.prog w = .ok (.bool (decide (x = y))) w := by
  rw [← tasBits_all]
  exact eql_flat Tryd.tasStruct Tryd.tasHeld (flatTas x y) w
set_option maxRecDepth 100000 in
theorem neq_tas (x y : Tas) (w : World) : (binOp .neq 42 (.agg (tasCells x).toArray) (.agg (tasCells y).toArray)).run Tryd.prog w = .ok (.bool (!decide (x = y))) w := by
  rw [← tasBits_all]
  exact neq_flat Tryd.tasStruct Tryd.tasHeld (flatTas x y) w
theorem Tryd.alsFields : (Tryd.prog.fieldsOf 44).toList = [⟨"Tick", 3, 0, false, "", "", 0⟩, ⟨"Off", 38, 1, false, "", "", 8⟩] := by kernel_rfl
theorem Tryd.alsStruct : Tryd.prog.underlying 44 = some (.struct (Tryd.prog.fieldsOf 44)) := by kernel_rfl
theorem Tryd.alsHeld : Tryd.prog.stoodInHeld 44 = false := by kernel_rfl
theorem guardAls : Tryd.prog.eqGuardType Tryd.prog.depth 44 = false := by kernel_rfl
theorem sizeU8 (w : World) : (sizeOf 5).run Tryd.prog w = .ok 1 w := by kernel_rfl
theorem sizeOff (w : World) : (sizeOf 38).run Tryd.prog w = .ok 8 w := by kernel_rfl
def alsBits (x y : Als) : List Bool := [x.tick == y.tick, decide (x.off = y.off)]
theorem alsBits_all (x y : Als) : (alsBits x y).all id = decide (x = y) := by
  rw [Bool.eq_iff_iff]
  cases x; cases y
  simp [alsBits]
theorem off_extract {x : Als} (h : x.Ok) : (alsCells x).toArray.extract 1 (1 + 8) = (u8Cells x.off).toArray := by
  have hl : (offCells x.off).length ≤ 8 := by simp [offCells, h.len]
  apply Array.toList_inj.1
  simp [alsCells, List.take_of_length_le hl]
  rfl
theorem flatAls {x y : Als} (hx : x.Ok) (hy : y.Ok) : FlatEq Tryd.prog 9999 (alsCells x).toArray (alsCells y).toArray (Tryd.prog.fieldsOf 44).toList (alsBits x y) := by
  rw [Tryd.alsFields]
  exact ⟨⟨by decide, field_int Tryd.underlying3 rfl rfl⟩, ⟨by decide, field_u8s Tryd.underlying38 Tryd.underlying5 sizeU8 sizeOff hx.len hy.len (off_extract hx) (off_extract hy)⟩, trivial⟩
set_option maxRecDepth 100000 in
theorem eql_als {x y : Als} (hx : x.Ok) (hy : y.Ok) (w : World) : (binOp .eql 44 (.agg (alsCells x).toArray) (.agg (alsCells y).toArray)).run Tryd.prog w = .ok (.bool (decide (x = y))) w := by
  rw [← alsBits_all]
  exact eql_flat Tryd.alsStruct Tryd.alsHeld (flatAls hx hy) w
set_option maxRecDepth 100000 in
theorem neq_als {x y : Als} (hx : x.Ok) (hy : y.Ok) (w : World) : (binOp .neq 44 (.agg (alsCells x).toArray) (.agg (alsCells y).toArray)).run Tryd.prog w = .ok (.bool (!decide (x = y))) w := by
  rw [← alsBits_all]
  exact neq_flat Tryd.alsStruct Tryd.alsHeld (flatAls hx hy) w
end Go.Proofs.YtjjlghdcpkkdhaaDoor
