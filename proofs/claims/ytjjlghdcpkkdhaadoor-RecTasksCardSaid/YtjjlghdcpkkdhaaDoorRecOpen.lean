/-
  What arguments that are robots, tasks, states of all of the document's types give a walk. Conditions: none beyond the premises of each theorem.
-/
import Derived.Test.YtjjlghdcpkkdhaaDoorStructOpen
import Derived.Test.YtjjlghdcpkkdhaaDoorRecEq
namespace Go.Proofs.YtjjlghdcpkkdhaaDoor
open Go.ChangeShapes Go.WideShapes Go.ChangeAt Go.RowKit

theorem Tryd.cellsInt : Tryd.prog.cellsOf 3 = 1 := by kernel_rfl
theorem Tryd.cellsU8 : Tryd.prog.cellsOf 5 = 1 := by kernel_rfl
theorem Tryd.cells8 : Tryd.prog.cellsOf 38 = 8 := by kernel_rfl
theorem Tryd.cellsRefRob : Tryd.prog.cellsOf 23 = 7 := by kernel_rfl
theorem Tryd.structRefRob : Tryd.prog.underlying 23 = some (.struct (Tryd.prog.fieldsOf 23)) := by kernel_rfl
theorem Tryd.fieldRefRob0 : (Tryd.prog.fieldsOf 23)[0]? = some ⟨"Cell", 3, 0, false, "", "", 0⟩ := by kernel_rfl
theorem Tryd.fieldRefRob1 : (Tryd.prog.fieldsOf 23)[1]? = some ⟨"Charge", 3, 1, false, "", "", 8⟩ := by kernel_rfl
theorem Tryd.fieldRefRob2 : (Tryd.prog.fieldsOf 23)[2]? = some ⟨"Phase", 3, 2, false, "", "", 16⟩ := by kernel_rfl
theorem Tryd.fieldRefRob3 : (Tryd.prog.fieldsOf 23)[3]? = some ⟨"Task", 3, 3, false, "", "", 24⟩ := by kernel_rfl
theorem Tryd.fieldRefRob4 : (Tryd.prog.fieldsOf 23)[4]? = some ⟨"Moved", 3, 4, false, "", "", 32⟩ := by kernel_rfl
theorem Tryd.fieldRefRob5 : (Tryd.prog.fieldsOf 23)[5]? = some ⟨"Gained", 3, 5, false, "", "", 40⟩ := by kernel_rfl
theorem Tryd.fieldRefRob6 : (Tryd.prog.fieldsOf 23)[6]? = some ⟨"Adjusted", 3, 6, false, "", "", 48⟩ := by kernel_rfl
theorem Tryd.fieldsRefRob : (Tryd.prog.fieldsOf 23).size = 7 := by kernel_rfl
set_option maxRecDepth 100000 in
theorem open_rob {H : Type} {enc : TypeId × Value → H} {W : World} {v : Value} {d : DataW H} {ps : List MemPlace} {r : Reach} {b0 : Nat} (hval : Value.okWide Tryd.prog W r b0 23 v)
    (h : DataW.Trod enc Tryd.prog W 0 (fun _ => true) true 23 v d ps) : ∃ x : Rob, v = robV x := by
  obtain ⟨cs, rfl, hcs⟩ := agg_of_okWide Tryd.structRefRob hval
  rw [Tryd.cellsRefRob] at hcs
  obtain ⟨fuel, hf⟩ := h
  have hf' : DataW.trod enc Tryd.prog W 0 (fun _ => true) true fuel 23 cs.toList = some (d, ps) := hf
  obtain ⟨xs, n, _, _, hl, hx, hel⟩ := DataW.trod_struct Tryd.structRefRob hf'
  rw [Tryd.fieldsRefRob] at hx
  have h0 := hel 0 _ Tryd.fieldRefRob0
  have h1 := hel 1 _ Tryd.fieldRefRob1
  have h2 := hel 2 _ Tryd.fieldRefRob2
  have h3 := hel 3 _ Tryd.fieldRefRob3
  have h4 := hel 4 _ Tryd.fieldRefRob4
  have h5 := hel 5 _ Tryd.fieldRefRob5
  have h6 := hel 6 _ Tryd.fieldRefRob6
  simp only [Tryd.cellsInt] at h0 h1 h2 h3 h4 h5 h6
  rw [List.getElem?_eq_getElem (by omega)] at h0 h1 h2 h3 h4 h5 h6
  have hlen : cs.toList.length = 7 := by simpa using hcs
  match hc : cs.toList, hlen with
  | [c0, c1, c2, c3, c4, c5, c6], _ =>
    rw [hc] at h0 h1 h2 h3 h4 h5 h6
    simp only [List.drop_zero, List.drop_succ_cons, List.take_succ_cons, List.take_zero] at h0 h1 h2 h3 h4 h5 h6
    obtain ⟨z0, rfl, _⟩ := num_of_trod Tryd.underlying3 h0
    obtain ⟨z1, rfl, _⟩ := num_of_trod Tryd.underlying3 h1
    obtain ⟨z2, rfl, _⟩ := num_of_trod Tryd.underlying3 h2
    obtain ⟨z3, rfl, _⟩ := num_of_trod Tryd.underlying3 h3
    obtain ⟨z4, rfl, _⟩ := num_of_trod Tryd.underlying3 h4
    obtain ⟨z5, rfl, _⟩ := num_of_trod Tryd.underlying3 h5
    obtain ⟨z6, rfl, _⟩ := num_of_trod Tryd.underlying3 h6
    refine ⟨⟨z0, z1, z2, z3, z4, z5, z6⟩, ?_⟩
    show Value.agg cs = Value.agg [.int .i64 z0, .int .i64 z1, .int .i64 z2, .int .i64 z3, .int .i64 z4, .int .i64 z5, .int .i64 z6].toArray
    rw [← hc]
theorem Tryd.cellsRefTas : Tryd.prog.cellsOf 37 = 3 := by kernel_rfl
theorem Tryd.structRefTas : Tryd.prog.underlying 37 = some (.struct (Tryd.prog.fieldsOf 37)) := by kernel_rfl
theorem Tryd.fieldRefTas0 : (Tryd.prog.fieldsOf 37)[0]? = some ⟨"From", 3, 0, false, "", "", 0⟩ := by kernel_rfl
theorem Tryd.fieldRefTas1 : (Tryd.prog.fieldsOf 37)[1]? = some ⟨"To", 3, 1, false, "", "", 8⟩ := by kernel_rfl
theorem Tryd.fieldRefTas2 : (Tryd.prog.fieldsOf 37)[2]? = some ⟨"State", 3, 2, false, "", "", 16⟩ := by kernel_rfl
theorem Tryd.fieldsRefTas : (Tryd.prog.fieldsOf 37).size = 3 := by kernel_rfl
set_option maxRecDepth 100000 in
theorem open_tas {H : Type} {enc : TypeId × Value → H} {W : World} {v : Value} {d : DataW H} {ps : List MemPlace} {r : Reach} {b0 : Nat} (hval : Value.okWide Tryd.prog W r b0 37 v)
    (h : DataW.Trod enc Tryd.prog W 0 (fun _ => true) true 37 v d ps) : ∃ x : Tas, v = tasV x := by
  obtain ⟨cs, rfl, hcs⟩ := agg_of_okWide Tryd.structRefTas hval
  rw [Tryd.cellsRefTas] at hcs
  obtain ⟨fuel, hf⟩ := h
  have hf' : DataW.trod enc Tryd.prog W 0 (fun _ => true) true fuel 37 cs.toList = some (d, ps) := hf
  obtain ⟨xs, n, _, _, hl, hx, hel⟩ := DataW.trod_struct Tryd.structRefTas hf'
  rw [Tryd.fieldsRefTas] at hx
  have h0 := hel 0 _ Tryd.fieldRefTas0
  have h1 := hel 1 _ Tryd.fieldRefTas1
  have h2 := hel 2 _ Tryd.fieldRefTas2
  simp only [Tryd.cellsInt] at h0 h1 h2
  rw [List.getElem?_eq_getElem (by omega)] at h0 h1 h2
  have hlen : cs.toList.length = 3 := by simpa using hcs
  match hc : cs.toList, hlen with
  | [c0, c1, c2], _ =>
    rw [hc] at h0 h1 h2
    simp only [List.drop_zero, List.drop_succ_cons, List.take_succ_cons, List.take_zero] at h0 h1 h2
    obtain ⟨z0, rfl, _⟩ := num_of_trod Tryd.underlying3 h0
    obtain ⟨z1, rfl, _⟩ := num_of_trod Tryd.underlying3 h1
    obtain ⟨z2, rfl, _⟩ := num_of_trod Tryd.underlying3 h2
    refine ⟨⟨z0, z1, z2⟩, ?_⟩
    show Value.agg cs = Value.agg [.int .i64 z0, .int .i64 z1, .int .i64 z2].toArray
    rw [← hc]
theorem Tryd.cellsRefAls : Tryd.prog.cellsOf 40 = 9 := by kernel_rfl
theorem Tryd.structRefAls : Tryd.prog.underlying 40 = some (.struct (Tryd.prog.fieldsOf 40)) := by kernel_rfl
theorem Tryd.fieldRefAls0 : (Tryd.prog.fieldsOf 40)[0]? = some ⟨"Tick", 3, 0, false, "", "", 0⟩ := by kernel_rfl
theorem Tryd.fieldRefAls1 : (Tryd.prog.fieldsOf 40)[1]? = some ⟨"Off", 38, 1, false, "", "", 8⟩ := by kernel_rfl
theorem Tryd.fieldsRefAls : (Tryd.prog.fieldsOf 40).size = 2 := by kernel_rfl
set_option maxRecDepth 100000 in
theorem open_als {H : Type} {enc : TypeId × Value → H} {W : World} {v : Value} {d : DataW H} {ps : List MemPlace} {r : Reach} {b0 : Nat} (hval : Value.okWide Tryd.prog W r b0 40 v)
    (h : DataW.Trod enc Tryd.prog W 0 (fun _ => true) true 40 v d ps) : ∃ x : Als, v = alsV x ∧ x.Ok := by
  obtain ⟨cs, rfl, hcs⟩ := agg_of_okWide Tryd.structRefAls hval
  rw [Tryd.cellsRefAls] at hcs
  obtain ⟨fuel, hf⟩ := h
  have hf' : DataW.trod enc Tryd.prog W 0 (fun _ => true) true fuel 40 cs.toList = some (d, ps) := hf
  obtain ⟨xs, n, _, _, hl, hx, hel⟩ := DataW.trod_struct Tryd.structRefAls hf'
  rw [Tryd.fieldsRefAls] at hx
  have h0 := hel 0 _ Tryd.fieldRefAls0
  have h1 := hel 1 _ Tryd.fieldRefAls1
  simp only [Tryd.cellsInt, Tryd.cells8] at h0 h1
  rw [List.getElem?_eq_getElem (by omega)] at h0 h1
  have hlen : cs.toList.length = 9 := by simpa using hcs
  match hc : cs.toList, hlen with
  | a :: q, hq =>
    rw [hc] at h0 h1
    have hq' : q.length = 8 := by simpa using hq
    simp only [List.drop_zero, List.drop_succ_cons, List.take_succ_cons, List.take_zero] at h0 h1
    rw [List.take_of_length_le (by omega)] at h1
    obtain ⟨g, rfl, hg⟩ := num_of_trod Tryd.underlying3 h0
    obtain ⟨s, hs, hsl, hsw⟩ := u8s_of_trod (n := 8) Tryd.underlying38 Tryd.underlying5 Tryd.cellsU8 Tryd.cells8 h1
    refine ⟨⟨g, s⟩, ?_, ⟨hsl, hsw⟩⟩
    have e : cs.toList = alsCells ⟨g, s⟩ := by rw [hc, hs]; rfl
    show Value.agg cs = Value.agg (alsCells ⟨g, s⟩).toArray
    rw [← e]
end Go.Proofs.YtjjlghdcpkkdhaaDoor
