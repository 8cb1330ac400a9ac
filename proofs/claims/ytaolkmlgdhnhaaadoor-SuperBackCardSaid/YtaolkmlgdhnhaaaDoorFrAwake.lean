/-
  The document's example for layer 5: the laws' 'awake' answers true. Conditions: errors.errorType and crc.halved are laid.
-/
import Derived.Test.YtaolkmlgdhnhaaaDoorFrDisk
namespace Go.Proofs.YtaolkmlgdhnhaaaDoor
open Go.RowKit

theorem range_below {w w' : World} {b o : Nat} {cs : List Value} (h : w.rangeAt b o cs) (hb : Below w.heap.size w w') : w'.rangeAt b o cs := fun j v hv => (hb.cell (p := ⟨b, o + j, none⟩) (lt_of_cell (h j v hv))).trans (h j v hv)
theorem page_new (w : World) (p : Pg) (t : TypeId) : (w.alloc (.cells (pgArr p) t)).rangeAt w.heap.size 0 (pgCells p) := fun j u hu => by
  rw [cell_of_row _ w.heap.size (0 + j) _ _ _ (heap_alloc_last w _), Nat.zero_add]
  simpa [pgArr] using hu
/-- both listed variables are laid -/
structure Laid2 (w : World) : Prop where
  err : Laid w
  crc : LaidCrc w
theorem Laid2.carry {w w' : World} (h : Laid2 w) (hb : Below w.heap.size w w') : Laid2 w' := ⟨h.err.carry hb, h.crc.carry hb⟩
end Go.Proofs.YtaolkmlgdhnhaaaDoor
