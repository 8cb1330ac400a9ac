/-
 TrDelModel. Conditions: as each theorem says.
-/
import Derived.Test.YtafclmbecmgbnaaGreatDoorTm
import Derived.Test.YtafclmbecmgbnaaGreatDoorTx
import Derived.Test.YtafclmbecmgbnaaGreatDoorTw
namespace Go.Proofs.YtafclmbecmgbnaaGreatDoor
open Go.RowKit
end Go.Proofs.YtafclmbecmgbnaaGreatDoor
