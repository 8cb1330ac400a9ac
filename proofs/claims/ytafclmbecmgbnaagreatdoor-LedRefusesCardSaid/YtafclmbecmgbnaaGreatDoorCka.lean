/-
  Cka: several texts in one file. Conditions: as each part says.
-/
import Derived.Test.YtafclmbecmgbnaaGreatDoorTa
import Derived.Test.YtafclmbecmgbnaaGreatDoorCells
/-
 ChkLoad. Conditions: as each theorem says.
-/
namespace Go.Proofs.YtafclmbecmgbnaaGreatDoor
section
open Go.RowKit
section
variable {O : yq} (H : yA O)
include H
end
end
section
open Go.RowKit
end
section
open Go.RowKit
structure Sp where
 at_ : Int
 lv : Int
 lo : Int
 hi : Int
def zdw (x : Nd) (hi : Int) (i : Nat) : Int := if i < x.keys.length then x.keys.getD i 0 else hi
def zdx (x : Nd) (lo hi : Int) : Nat -> Int
 | 0 => lo
 | i + 1 => zdw x hi i
def belowK (x : Nd) (lv lo hi : Int) : Nat -> List Sp
 | 0 => []
 | n + 1 => belowK x lv lo hi n ++ [⟨x.kids.getD n 0, lv + 1, zdx x lo hi n, zdw x hi n⟩]
end
section
open Go.RowKit
end
end Go.Proofs.YtafclmbecmgbnaaGreatDoor
