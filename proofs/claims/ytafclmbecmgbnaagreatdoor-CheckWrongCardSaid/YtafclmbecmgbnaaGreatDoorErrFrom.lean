/-
 ErrFrom. Conditions: as each theorem says.
-/
import Derived.Test.YtafclmbecmgbnaaGreatDoorFrames
namespace Go.Proofs.YtafclmbecmgbnaaGreatDoor
open Go.RowKit
end Go.Proofs.YtafclmbecmgbnaaGreatDoor
