/-
  What a reading's bulk says of the strings of a slice: their bytes, and one for each, are together no more. No condition.
-/
import Derived.Test.YtbngcempcihgoaaDoorClose
import Derived.Test.YtbngcempcihgoaaDoorMoreWalk
namespace Go.Proofs.YtbngcempcihgoaaDoor
open Go.ChangeShapes Go.WideShapes Go.ChangeAt Go.RowKit

theorem bulkAll_strs {H : Type} : ∀ l : List ByteArray, Rows.uptoBulkAll (l.map fun s => (DataW.lit (.string s.data.toList) : DataW H)) = bulk l
  | [] => by simp [Rows.uptoBulkAll, bulk]
  | s :: l => by
    rw [List.map_cons, Rows.uptoBulkAll, bulkAll_strs l, bulk_cons, Rows.uptoBulk, lenS]

set_option maxRecDepth 100000 in
theorem open_strs_bulk {H : Type} {enc : TypeId × Value → H} {W : World} {v : Value} {d : DataW H} {ps : List MemPlace} {r : Reach} {b0 : Nat} (hval : Value.okWide Tryd.prog W r b0 22 v)
    (h : DataW.Trod enc Tryd.prog W 0 (fun _ => true) true 22 v d ps) : ∃ (A : Option Addr) (len cap : Nat) (ss : List ByteArray), v = .slice A len cap ∧ Strs W A len ss ∧ (∀ s ∈ ss, s.size ≤ maxLen) ∧ bulk ss ≤ Rows.uptoBulk d := by
  obtain ⟨A, len, cap, rfl⟩ := okWide_slice Tryd.underlying22 hval
  obtain ⟨fuel, hf⟩ := h
  rcases Go.Deep.open_strs Tryd.underlying22 Tryd.underlying9 Tryd.cells9 hf with ⟨hcs, hx⟩ | ⟨a, len', cap', m, Sx, hcs, _, hl, hm, hmm, hx, hcell⟩
  · simp [Value.cells] at hcs
    obtain ⟨rfl, rfl, rfl⟩ := hcs
    exact ⟨none, 0, 0, [], rfl, ⟨rfl, fun h => absurd h (by omega)⟩, by simp, by simp [bulk]⟩
  · simp [Value.cells] at hcs
    obtain ⟨rfl, rfl, rfl⟩ := hcs
    rw [if_pos rfl] at hmm
    simp only [Prod.mk.injEq] at hx
    obtain ⟨rfl, rfl⟩ := hx
    refine ⟨some a, len, cap, (List.range len).map Sx, rfl, ⟨by simp, fun hp => ⟨a, rfl, ?_, fun i s hs => ?_⟩⟩, fun s hs => ?_, ?_⟩
    · have := (hcell 0 (by omega)).1
      have := lt_of_cell this
      rwa [block_of_add] at this
    · rw [List.getElem?_map] at hs
      obtain ⟨j, hj, rfl⟩ := Option.map_eq_some_iff.1 hs
      obtain ⟨hj1, hj2⟩ := List.getElem?_eq_some_iff.1 hj
      simp at hj1 hj2
      subst hj2
      exact (hcell i (by omega)).1
    · obtain ⟨j, hj, rfl⟩ := List.mem_map.1 hs
      have := List.mem_range.1 hj
      exact (hcell j (by omega)).2
    · rw [Rows.uptoBulk]
      have e := bulkAll_strs (H := H) ((List.range len).map Sx)
      rw [List.map_map] at e
      have e' : Rows.uptoBulkAll ((List.range len).map fun i => (DataW.lit (.string (Sx i).data.toList) : DataW H)) = bulk ((List.range len).map Sx) := e
      rw [e']
      omega
end Go.Proofs.YtbngcempcihgoaaDoor
