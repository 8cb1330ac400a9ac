/-
  Cka: several texts in one file. Conditions: as each part says.
-/
import Derived.Test.YtafclmbecmgbnaaGreatDoorTa
import Derived.Test.YtafclmbecmgbnaaGreatDoorCells
/-
 ChkLoad. Conditions: as each theorem says.
-/
namespace Go.Proofs.YtafclmbecmgbnaaGreatDoor
section
open Go.RowKit
section
variable {O : yo} (H : yv O)
include H
end
end
section
open Go.RowKit
end
section
open Go.RowKit
structure Sp where
 at_ : Int
 lv : Int
 lo : Int
 hi : Int
def zdh (x : Nd) (hi : Int) (i : Nat) : Int := if i < x.keys.length then x.keys.getD i 0 else hi
def zdi (x : Nd) (lo hi : Int) : Nat -> Int
 | 0 => lo
 | i + 1 => zdh x hi i
def belowK (x : Nd) (lv lo hi : Int) : Nat -> List Sp
 | 0 => []
 | n + 1 => belowK x lv lo hi n ++ [⟨x.kids.getD n 0, lv + 1, zdi x lo hi n, zdh x hi n⟩]
end
section
open Go.RowKit
end
end Go.Proofs.YtafclmbecmgbnaaGreatDoor
