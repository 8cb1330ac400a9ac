/-
  What an argument that is a map of the document's type gives a walk. Conditions: none beyond the premises of each theorem.
-/
import Derived.Test.YtiffgmgefpoblaaDoorStructOpen
namespace Go.Proofs.YtiffgmgefpoblaaDoor
open Go.ChangeShapes Go.WideShapes Go.ChangeAt Go.RowKit

theorem Tryd.cellsInt : Tryd.prog.cellsOf 3 = 1 := by kernel_rfl
theorem Tryd.cellsStr : Tryd.prog.cellsOf 9 = 1 := by kernel_rfl
theorem Tryd.cellsRefMap : Tryd.prog.cellsOf 23 = 3 := by kernel_rfl
theorem Tryd.structRefMap : Tryd.prog.underlying 23 = some (.struct (Tryd.prog.fieldsOf 23)) := by kernel_rfl
theorem Tryd.fieldRefMap0 : (Tryd.prog.fieldsOf 23)[0]? = some ⟨"W", 3, 0, false, "", "", 0⟩ := by kernel_rfl
theorem Tryd.fieldRefMap1 : (Tryd.prog.fieldsOf 23)[1]? = some ⟨"H", 3, 1, false, "", "", 8⟩ := by kernel_rfl
theorem Tryd.fieldRefMap2 : (Tryd.prog.fieldsOf 23)[2]? = some ⟨"Cells", 9, 2, false, "", "", 16⟩ := by kernel_rfl
theorem Tryd.fieldsRefMap : (Tryd.prog.fieldsOf 23).size = 3 := by kernel_rfl
set_option maxRecDepth 100000 in
theorem open_gm {H : Type} {enc : TypeId × Value → H} {W : World} {v : Value} {d : DataW H} {ps : List MemPlace} {r : Reach} {b0 : Nat} (hval : Value.okWide Tryd.prog W r b0 23 v)
    (h : DataW.Trod enc Tryd.prog W 0 (fun _ => true) true 23 v d ps) : ∃ (x y : Int) (s : ByteArray), v = .agg #[.int .i64 x, .int .i64 y, .string s] ∧ (-9223372036854775808 ≤ x ∧ x ≤ 9223372036854775807) ∧ (-9223372036854775808 ≤ y ∧ y ≤ 9223372036854775807) := by
  obtain ⟨cs, rfl, hcs⟩ := agg_of_okWide Tryd.structRefMap hval
  rw [Tryd.cellsRefMap] at hcs
  obtain ⟨fuel, hf⟩ := h
  have hf' : DataW.trod enc Tryd.prog W 0 (fun _ => true) true fuel 23 cs.toList = some (d, ps) := hf
  obtain ⟨xs, n, _, _, hl, hx, hel⟩ := DataW.trod_struct Tryd.structRefMap hf'
  rw [Tryd.fieldsRefMap] at hx
  have h0 := hel 0 _ Tryd.fieldRefMap0
  have h1 := hel 1 _ Tryd.fieldRefMap1
  have h2 := hel 2 _ Tryd.fieldRefMap2
  simp only [Tryd.cellsInt, Tryd.cellsStr] at h0 h1 h2
  rw [List.getElem?_eq_getElem (by omega)] at h0 h1 h2
  have hlen : cs.toList.length = 3 := by simpa using hcs
  match hc : cs.toList, hlen with
  | [c0, c1, c2], _ =>
    rw [hc] at h0 h1 h2
    simp only [List.drop_zero, List.drop_succ_cons, List.take_succ_cons, List.take_zero] at h0 h1 h2
    obtain ⟨z0, rfl, hw0⟩ := num_of_trod Tryd.underlying3 h0
    obtain ⟨z1, rfl, hw1⟩ := num_of_trod Tryd.underlying3 h1
    obtain ⟨s, rfl⟩ := text_of_trod Tryd.underlying9 h2
    refine ⟨z0, z1, s, ?_, open_i64_bounds hw0, open_i64_bounds hw1⟩
    show Value.agg cs = Value.agg [.int .i64 z0, .int .i64 z1, .string s].toArray
    rw [← hc]
end Go.Proofs.YtiffgmgefpoblaaDoor
