/-
 TrKeepMath. Conditions: as each theorem says.
-/
import Derived.Test.YtafclmbecmgbnaaGreatDoorTt
import Derived.Test.YtafclmbecmgbnaaGreatDoorTd
namespace Go.Proofs.YtafclmbecmgbnaaGreatDoor
end Go.Proofs.YtafclmbecmgbnaaGreatDoor
