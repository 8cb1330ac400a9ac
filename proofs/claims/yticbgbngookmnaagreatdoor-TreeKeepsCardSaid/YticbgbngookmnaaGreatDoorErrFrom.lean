/-
 ErrFrom. Conditions: as each theorem says.
-/
import Derived.Test.YticbgbngookmnaaGreatDoorFrames
namespace Go.Proofs.YticbgbngookmnaaGreatDoor
open Go.RowKit
end Go.Proofs.YticbgbngookmnaaGreatDoor
