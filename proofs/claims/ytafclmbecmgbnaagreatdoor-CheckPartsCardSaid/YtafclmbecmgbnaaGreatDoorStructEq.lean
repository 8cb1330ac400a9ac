/-
 StructEq. Conditions: as each theorem says.
-/
import Derived.Test.YtafclmbecmgbnaaGreatDoorRows
import Derived.WalkKit
import Derived.Laws.StructEq
namespace Go.Proofs.YtafclmbecmgbnaaGreatDoor
open Go.RowKit
end Go.Proofs.YtafclmbecmgbnaaGreatDoor
