/-
  What an argument that is a superblock of the document's type gives a walk. Conditions: none beyond the premises of each theorem.
-/
import Derived.Test.YtaolkmlgdhnhaaaDoorSbAt
import Derived.Test.YtaolkmlgdhnhaaaDoorSetOpen
import Derived.Test.YtaolkmlgdhnhaaaDoorOpen
namespace Go.Proofs.YtaolkmlgdhnhaaaDoor
open Go.ChangeShapes Go.WideShapes Go.ChangeAt Go.RowKit

theorem agg_of_okWide {P : Program} {w : World} {r : Reach} {base : Nat} {t : TypeId} {fs : Array Field} {v : Value} (ht : P.underlying t = some (.struct fs)) (h : Value.okWide P w r base t v) : ∃ cs, v = .agg cs ∧ cs.size = P.cellsOf t := by
  simp only [Value.okWide, ht] at h
  obtain ⟨cs, h1, h2, _⟩ := h
  exact ⟨cs, h1, h2⟩
theorem num_of_trod {H : Type} {enc : TypeId × Value → H} {P : Program} {w : World} {base : Nat} {sp : Nat → Bool} {held : Bool} {fuel : Nat} {t : TypeId} {k : IntKind} {c : Value} {y : DataW H × List MemPlace}
    (ht : P.underlying t = some (.int k)) (h : DataW.trod enc P w base sp held fuel t [c] = some y) : ∃ n, c = .int k n ∧ (Lit.int k n).wf = true := by
  cases fuel with
  | zero => simp [DataW.trod] at h
  | succ fuel =>
    cases c <;> simp [DataW.trod, ht] at h
    rename_i k' n
    obtain ⟨⟨rfl, hw⟩, rfl⟩ := h
    exact ⟨n, rfl, hw⟩
theorem Tryd.cellsSb : Tryd.prog.cellsOf 25 = 32 := by kernel_rfl
theorem Tryd.cellsU32 : Tryd.prog.cellsOf 22 = 1 := by kernel_rfl
theorem Tryd.cellsInt : Tryd.prog.cellsOf 3 = 1 := by kernel_rfl
theorem Tryd.sbField0 : (Tryd.prog.fieldsOf 25)[0]? = some ⟨"Gen", 22, 0, false, "", "", 0⟩ := by kernel_rfl
theorem Tryd.sbField1 : (Tryd.prog.fieldsOf 25)[1]? = some ⟨"Root", 3, 1, false, "", "", 8⟩ := by kernel_rfl
theorem Tryd.sbField2 : (Tryd.prog.fieldsOf 25)[2]? = some ⟨"Used", 23, 2, false, "", "", 16⟩ := by kernel_rfl
theorem Tryd.sbField3 : (Tryd.prog.fieldsOf 25).size = 3 := by kernel_rfl
set_option maxRecDepth 100000 in
/-- a superblock that is read as data -/
theorem open_sb {H : Type} {enc : TypeId × Value → H} {W : World} {v : Value} {d : DataW H} {ps : List MemPlace} {r : Reach} {b0 : Nat} (hval : Value.okWide Tryd.prog W r b0 25 v)
    (h : DataW.Trod enc Tryd.prog W 0 (fun _ => true) true 25 v d ps) : ∃ x : Sb, v = sbV x ∧ x.Ok ∧ -9223372036854775808 ≤ x.root ∧ x.root ≤ 9223372036854775807 := by
  obtain ⟨cs, rfl, hcs⟩ := agg_of_okWide Tryd.sbStruct hval
  rw [Tryd.cellsSb] at hcs
  obtain ⟨fuel, hf⟩ := h
  have hf' : DataW.trod enc Tryd.prog W 0 (fun _ => true) true fuel 25 cs.toList = some (d, ps) := hf
  obtain ⟨xs, n, _, _, hl, hx, hel⟩ := DataW.trod_struct Tryd.sbStruct hf'
  rw [Tryd.sbField3] at hx
  have h0 := hel 0 _ Tryd.sbField0
  have h1 := hel 1 _ Tryd.sbField1
  have h2 := hel 2 _ Tryd.sbField2
  simp only [Tryd.cellsU32, Tryd.cellsInt, Tryd.cells30] at h0 h1 h2
  rw [List.getElem?_eq_getElem (by omega)] at h0 h1 h2
  have hlen : cs.toList.length = 32 := by simpa using hcs
  match hc : cs.toList, hlen with
  | a :: b :: q, hq =>
    rw [hc] at h0 h1 h2
    have hq' : q.length = 30 := by simpa using hq
    simp only [List.drop_zero, List.drop_succ_cons, List.take_succ_cons, List.take_zero] at h0 h1 h2
    rw [List.take_of_length_le (by omega)] at h2
    obtain ⟨g, rfl, hg⟩ := num_of_trod Tryd.underlying22 h0
    obtain ⟨r, rfl, hr⟩ := num_of_trod Tryd.underlying3 h1
    obtain ⟨s, hs, hsl, hsw⟩ := set_of_trod (n := 30) Tryd.underlying23 Tryd.underlying5 Tryd.cellsU8 Tryd.cells30 h2
    obtain ⟨m, rfl, hm⟩ := open_u32_nat hg
    have hb := open_i64_bounds hr
    refine ⟨⟨m, r, s⟩, ?_, ⟨hm, ⟨hsl, hsw⟩⟩, hb.1, hb.2⟩
    have e : cs.toList = sbCells ⟨m, r, s⟩ := by rw [hc, hs]; rfl
    show Value.agg cs = Value.agg (sbCells ⟨m, r, s⟩).toArray
    rw [← e]
end Go.Proofs.YtaolkmlgdhnhaaaDoor
