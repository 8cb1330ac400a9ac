/-
 TrDelModel. Conditions: as each theorem says.
-/
import Derived.Test.YtafclmbecmgbnaaGreatDoorTm
import Derived.Test.YtafclmbecmgbnaaGreatDoorTx
import Derived.Test.YtafclmbecmgbnaaGreatDoorTw
namespace Go.Proofs.YtafclmbecmgbnaaGreatDoor
open Go.RowKit
def withoutN (x : Nd) (key : Int) : Except Int Nd :=
 if (seekN x key).2 = true then .ok ⟨x.keys.take (seekN x key).1 ++ x.keys.drop ((seekN x key).1 + 1), x.vals.take (seekN x key).1 ++ x.vals.drop ((seekN x key).1 + 1), []⟩ else .error 4
def joinN (a : Nd) (k : Int) (b : Nd) : Nd := ⟨(if a.kids.length = 0 then a.keys else a.keys ++ [k]) ++ b.keys, a.vals ++ b.vals, a.kids ++ b.kids⟩
def otherN (x : Nd) (at_ : Nat) : Nat := if at_ = x.keys.length then at_ - 1 else at_ + 1
def mendM (n : Nat) (S : TS) (x : Nd) (at_ : Nat) (lv : Int) (kid : Nd) : Except Int Nd × TS :=
 match loadM S (x.kids.getD (otherN x at_) 0) lv with
 | .error c => (.error c, S)
 | .ok y => if decide (y.kids.length = 0) ≠ decide (kid.kids.length = 0) then (.error 2, S)
  else if at_ = x.keys.length then replaceM n S x (at_ - 1) 2 (joinN y (x.keys.getD (at_ - 1) 0) kid)
  else replaceM n S x at_ 2 (joinN kid (x.keys.getD at_ 0) y)
def cutM (n : Nat) : Nat → TS → Int → Int → Except Int Nd × TS
 | 0, S, _, _ => (.error 2, S)
 | f + 1, S, sector, key => match loadM S sector (12 - f : Int) with
  | .error c => (.error c, S)
  | .ok x => if x.kids.length = 0 then (withoutN x key, S)
   else match cutM n f S (x.kids.getD (kidAtN x key) 0) key with
    | (.error c, S1) => (.error c, S1)
    | (.ok kid, S1) => if kid.keys.length < 3 then mendM n S1 x (kidAtN x key) (13 - f : Int) kid else replaceM n S1 x (kidAtN x key) 1 kid
def delTop (n : Nat) (S : TS) (root key : Int) : Except Int Int × TS :=
 if root = 0 then (.error 4, S)
 else match cutM n 12 S root key with
  | (.error c, S1) => (.error c, S1)
  | (.ok x, S1) => if 0 < x.keys.length then (match changeM n S1 x [root] with
    | (.error c, S2) => (.error c, S2)
    | (.ok (_, ks), S2) => (.ok (ks.getD 0 0), S2))
   else match dropM S1 root with
    | (c, S2) => if c = 0 then (.ok (x.kids.getD 0 0), S2) else (.error c, S2)
end Go.Proofs.YtafclmbecmgbnaaGreatDoor
