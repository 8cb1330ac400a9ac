/-
  Tt: several texts in one file. Conditions: as each part says.
-/
import Derived.Test.YtafclmbecmgbnaaGreatDoorTx
import Derived.Lib.RowBridge
import Derived.Shelf.Slices.Delete
import Derived.Test.YtafclmbecmgbnaaGreatDoorTm
import Derived.Test.YtafclmbecmgbnaaGreatDoorTw
import Derived.Test.YtafclmbecmgbnaaGreatDoorTa
import Derived.Test.YtafclmbecmgbnaaGreatDoorTy
import Derived.Laws.AppendOwnNone
import Derived.Test.YtafclmbecmgbnaaGreatDoorTc
/-
 TrDelRow. Conditions: as each theorem says.
-/
namespace Go.Proofs.YtafclmbecmgbnaaGreatDoor
open Go.RowKit
section
open Go.Shelf
end
end Go.Proofs.YtafclmbecmgbnaaGreatDoor

/-
 TrDelModel. Conditions: as each theorem says.
-/
namespace Go.Proofs.YtafclmbecmgbnaaGreatDoor
open Go.RowKit
end Go.Proofs.YtafclmbecmgbnaaGreatDoor

/-
 TrWithout. Conditions: as each theorem says.
-/
namespace Go.Proofs.YtafclmbecmgbnaaGreatDoor
open Go.RowKit
end Go.Proofs.YtafclmbecmgbnaaGreatDoor

/-
 TrApp. Conditions: as each theorem says.
-/
namespace Go.Proofs.YtafclmbecmgbnaaGreatDoor
open Go.RowKit
end Go.Proofs.YtafclmbecmgbnaaGreatDoor

/-
 TrJoin. Conditions: as each theorem says.
-/
namespace Go.Proofs.YtafclmbecmgbnaaGreatDoor
open Go.RowKit
section
variable {w : World} {p q r b b2 : Nat} {l l2 : Lay3} {x y : Nd} {m : Lay3} {z : Nd} {wr w' : World}
end
end Go.Proofs.YtafclmbecmgbnaaGreatDoor

/-
 TrMend. Conditions: as each theorem says.
-/
namespace Go.Proofs.YtafclmbecmgbnaaGreatDoor
open Go.RowKit
section
variable {O : PgOwn} (H : PgSpec O)
include H
end
end Go.Proofs.YtafclmbecmgbnaaGreatDoor

/-
 TrCut. Conditions: as each theorem says.
-/
namespace Go.Proofs.YtafclmbecmgbnaaGreatDoor
open Go.RowKit
section
variable {O : PgOwn} (H : PgSpec O)
include H
end
end Go.Proofs.YtafclmbecmgbnaaGreatDoor

/-
 TrTopDel. Conditions: as each theorem says.
-/
namespace Go.Proofs.YtafclmbecmgbnaaGreatDoor
open Go.RowKit
section
variable {O : PgOwn} (H : PgSpec O)
include H
end
end Go.Proofs.YtafclmbecmgbnaaGreatDoor
