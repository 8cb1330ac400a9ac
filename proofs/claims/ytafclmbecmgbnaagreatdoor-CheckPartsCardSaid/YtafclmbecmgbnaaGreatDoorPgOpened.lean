/-
 PgOpened. Conditions: as each theorem says.
-/
import Derived.Test.YtafclmbecmgbnaaGreatDoorPgLaw
namespace Go.Proofs.YtafclmbecmgbnaaGreatDoor
open Go.RowKit
end Go.Proofs.YtafclmbecmgbnaaGreatDoor
