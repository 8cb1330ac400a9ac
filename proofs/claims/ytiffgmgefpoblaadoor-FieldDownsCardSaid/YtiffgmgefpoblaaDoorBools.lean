/-
  A row of truth values in memory, as a list: what make lays, a value stored. Conditions: none beyond the premises of each theorem.
-/
import Derived.Test.YtiffgmgefpoblaaDoorGridLaw
namespace Go.Proofs.YtiffgmgefpoblaaDoor
open Go.RowKit

theorem Tryd.infoBool8 : (Tryd.prog.info? 4).map (fun i => (i.zero, i.size, i.bytes)) = some (some (.bool false), 1, 1) := by kernel_rfl
/-- a row of truth values that may be written -/
structure BL (w : World) (g : Nat) (l : List Bool) : Prop where
  at_ : ∀ i, i < l.length → w.cell? ⟨g, i, none⟩ = some (.bool (Grid.on l i))
  free : ∀ i, w.frozen? ⟨g, i, none⟩ = false
  lt : g < w.heap.size
theorem BL.carry {w w' : World} {g : Nat} {l : List Bool} (h : BL w g l) (hb : Below w.heap.size w w') : BL w' g l :=
  ⟨fun i hi => (hb.cell (p := ⟨g, i, none⟩) h.lt).trans (h.at_ i hi), fun i => (hb.frozen (p := ⟨g, i, none⟩) h.lt).trans (h.free i), Nat.lt_of_lt_of_le h.lt hb.size⟩
theorem BL.drew {w : World} {g : Nat} {l : List Bool} (h : BL w g l) : BL w.drew g l := ⟨h.at_, h.free, h.lt⟩
theorem BL.put {w : World} {g : Nat} {l : List Bool} (hr : BL w g l) {i : Nat} (hi : i < l.length) : BL (w.setCell ⟨g, i, none⟩ (.bool true)) g (l.set i true) := by
  refine ⟨fun j hj => ?_, fun j => by rw [World.frozen?_setCell]; exact hr.free j, by simp; exact hr.lt⟩
  rw [List.length_set] at hj
  rw [Grid.on_set hi]
  by_cases e : j = i
  · subst e
    simp
    exact World.cell?_setCell_same _ _ _ (hr.at_ j hj)
  · simp [e]
    exact (World.cell?_setCell_other _ _ _ _ (by intro hh; injection hh; omega)).trans (hr.at_ j hj)
theorem BL.made {w : World} {g n : Nat} {M : Array Value} (hM : M = madeCells #[Value.bool false] (n * 1)) (hb : w.heap[g]? = some (.cells M 4 (0, 0))) : BL w g (List.replicate n false) := by
  refine ⟨fun i hi => ?_, fun i => frozen_of_row w g i _ _ hb, (Array.getElem?_eq_some_iff.1 hb).1⟩
  rw [List.length_replicate] at hi
  rw [cell_of_row w g i M _ _ hb, hM, Grid.on_eq (by simpa using hi)]
  simp [madeCells, hi, Nat.mod_one]
theorem make_bools (n : Nat) (hn : n ≤ 1000) (w : World) : (Instr.makeSlice 54 (.int .i64 (n : Int)) (.int .i64 (n : Int))).run Tryd.prog w = .ok (.slice (some ⟨w.heap.size, 0, none⟩) n n) (w.alloc (.cells (madeCells #[Value.bool false] (n * 1)) 4)) := by
  obtain ⟨i0, hi0, hz0, hz1, hz2⟩ := info_parts Tryd.infoBool8
  have := run_make (P := Tryd.prog) w 54 4 i0 _ Tryd.underlying54 hi0 hz0 .i64 .i64 n n (Int.natCast_nonneg n) (Int.le_refl _) (by rw [hz2]; omega) (by omega)
  rw [this, hz1]
  rfl
end Go.Proofs.YtiffgmgefpoblaaDoor
