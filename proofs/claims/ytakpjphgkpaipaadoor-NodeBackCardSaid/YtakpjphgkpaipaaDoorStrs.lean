/-
  A slice of strings in memory, and what an argument that is one gives a walk. Conditions: none beyond the premises of each theorem.
-/
import Derived.Test.YtakpjphgkpaipaaDoorTagNum
import Derived.Test.YtakpjphgkpaipaaDoorOpen
import Derived.Deep.Strs
namespace Go.Proofs.YtakpjphgkpaipaaDoor
open Go.ChangeShapes Go.WideShapes Go.ChangeAt Go.RowKit

def Strs (w : World) (A : Option Addr) (len : Nat) (ss : List ByteArray) : Prop :=
  ss.length = len ∧ (0 < len → ∃ a, A = some a ∧ a.block < w.heap.size ∧ ∀ i s, ss[i]? = some s → w.cell? (a.add i) = some (.string s))
theorem Strs.below {w w' : World} {A : Option Addr} {len : Nat} {ss : List ByteArray} (h : Strs w A len ss) (hb : Below w.heap.size w w') : Strs w' A len ss :=
  ⟨h.1, fun hp => by
    obtain ⟨a, e, hlt, hc⟩ := h.2 hp
    exact ⟨a, e, Nat.lt_of_lt_of_le hlt hb.size, fun i s hs => (hb.cell (by rw [block_of_add]; exact hlt)).trans (hc i s hs)⟩⟩
theorem Tryd.cellsStr : Tryd.prog.cellsOf 9 = 1 := by kernel_rfl
set_option maxRecDepth 100000 in
/-- a slice of strings that is read as data -/
theorem open_strs {H : Type} {enc : TypeId × Value → H} {W : World} {v : Value} {d : DataW H} {ps : List MemPlace} {r : Reach} {b0 : Nat} (hval : Value.okWide Tryd.prog W r b0 23 v)
    (h : DataW.Trod enc Tryd.prog W 0 (fun _ => true) true 23 v d ps) : ∃ (A : Option Addr) (len cap : Nat) (ss : List ByteArray), v = .slice A len cap ∧ Strs W A len ss ∧ ∀ s ∈ ss, s.size ≤ maxLen := by
  obtain ⟨A, len, cap, rfl⟩ := okWide_slice Tryd.underlying23 hval
  obtain ⟨fuel, hf⟩ := h
  rcases Go.Deep.open_strs Tryd.underlying23 Tryd.underlying9 Tryd.cellsStr hf with ⟨hcs, hx⟩ | ⟨a, len', cap', m, Sx, hcs, _, hl, hm, hmm, hx, hcell⟩
  · simp [Value.cells] at hcs
    obtain ⟨rfl, rfl, rfl⟩ := hcs
    exact ⟨none, 0, 0, [], rfl, ⟨rfl, fun h => absurd h (by omega)⟩, by simp⟩
  · simp [Value.cells] at hcs
    obtain ⟨rfl, rfl, rfl⟩ := hcs
    rw [if_pos rfl] at hmm
    refine ⟨some a, len, cap, (List.range len).map Sx, rfl, ⟨by simp, fun hp => ⟨a, rfl, ?_, fun i s hs => ?_⟩⟩, fun s hs => ?_⟩
    · have := (hcell 0 (by omega)).1
      have := lt_of_cell this
      rwa [block_of_add] at this
    · rw [List.getElem?_map] at hs
      obtain ⟨j, hj, rfl⟩ := Option.map_eq_some_iff.1 hs
      obtain ⟨hj1, hj2⟩ := List.getElem?_eq_some_iff.1 hj
      simp at hj1 hj2
      subst hj2
      exact (hcell i (by omega)).1
    · obtain ⟨j, hj, rfl⟩ := List.mem_map.1 hs
      have := List.mem_range.1 hj
      exact (hcell j (by omega)).2
end Go.Proofs.YtakpjphgkpaipaaDoor
