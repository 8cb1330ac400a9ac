/-
 Cells. Conditions: as each theorem says.
-/
import Derived.Test.YtafclmbecmgbnaaGreatDoorFillRows
import Derived.Deep.MidRow
import Derived.Lib.LazyBuf
import Derived.Laws.ResultCell
namespace Go.Proofs.YtafclmbecmgbnaaGreatDoor
open Go.RowKit
structure zdq (P : Program) (T : TypeId) (k : Nat) : Prop where
 und : ∃ d, P.underlying T = some d /\ d.isRow = true
 size : (P.info? T).map (·.size) = some k
section
variable {P : Program} {T : TypeId} {k : Nat} (hT : zdq P T k)
include hT
end
end Go.Proofs.YtafclmbecmgbnaaGreatDoor
