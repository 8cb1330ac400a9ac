/-
 TrModel. Conditions: as each theorem says.
-/
import Derived.Test.YtafclmbecmgbnaaGreatDoorMaths
import Derived.Test.YtafclmbecmgbnaaGreatDoorNodeMath
namespace Go.Proofs.YtafclmbecmgbnaaGreatDoor
structure TS where
 d : Dk
 s : Pst
 data : Nat → List UInt8
def inZ (s : Pst) (i : Int) : Bool := decide (0 ≤ i ∧ i < 240) && s.isIn i.toNat
def loadM (S : TS) (sector level : Int) : Except Int Nd :=
 if 12 < level then .error 2
 else if inZ S.s sector = true then (match readN (S.data sector.toNat) with | some x => .ok x | none => .error 2)
 else .error 4
def addM (n : Nat) (S : TS) (x : Nd) : Except Int Int × TS :=
 if rightN x = false then (.error 2, S)
 else match S.s.first n with
  | none => (.error 6, S)
  | some k => (.ok k, ⟨S.d.write k (pgB (pageP (layN x))), S.s.at_ k, upd S.data k (layN x)⟩)
def dropM (S : TS) (k : Int) : Int × TS := if hasI S.s.used k = true then (0, ⟨S.d, S.s.drop k.toNat, S.data⟩) else (4, S)
def addAllM (n : Nat) : TS → List Nd → Except Int (List Int) × TS
 | S, [] => (.ok [], S)
 | S, x :: r => match addM n S x with
  | (.error c, S1) => (.error c, S1)
  | (.ok k, S1) => match addAllM n S1 r with
   | (.error c, S2) => (.error c, S2)
   | (.ok l, S2) => (.ok (k :: l), S2)
def dropAllM : TS → List Int → Int × TS
 | S, [] => (0, S)
 | S, k :: r => match dropM S k with
  | (c, S1) => if c = 0 then dropAllM S1 r else (c, S1)
def partsN (x : Nd) : List Nd × List Int :=
 if x.keys.length ≤ 7 then ([x], [])
 else if x.kids.length = 0 then ([⟨x.keys.take (x.keys.length / 2), x.vals.take (x.keys.length / 2), []⟩, ⟨x.keys.drop (x.keys.length / 2), x.vals.drop (x.keys.length / 2), []⟩], (x.keys.drop (x.keys.length / 2)).take 1)
 else ([⟨x.keys.take (x.keys.length / 2), [], x.kids.take (x.keys.length / 2 + 1)⟩, ⟨x.keys.drop (x.keys.length / 2 + 1), [], x.kids.drop (x.keys.length / 2 + 1)⟩], (x.keys.drop (x.keys.length / 2)).take 1)
def changeM (n : Nat) (S : TS) (x : Nd) (old : List Int) : Except Int (List Int × List Int) × TS :=
 match addAllM n S (partsN x).1 with
 | (.error c, S1) => (.error c, S1)
 | (.ok ks, S1) => match dropAllM S1 old with
  | (c, S2) => if c = 0 then (.ok ((partsN x).2, ks), S2) else (.error c, S2)
def replaceM (n : Nat) (S : TS) (x : Nd) (at_ many : Nat) (kid : Nd) : Except Int Nd × TS :=
 match changeM n S kid ((x.kids.drop at_).take many) with
 | (.error c, S1) => (.error c, S1)
 | (.ok (bk, ks), S1) => (.ok ⟨x.keys.take at_ ++ bk ++ x.keys.drop (at_ + many - 1), [], x.kids.take at_ ++ ks ++ x.kids.drop (at_ + many)⟩, S1)
def kidAtN (x : Nd) (key : Int) : Nat := if (seekN x key).2 = true then (seekN x key).1 + 1 else (seekN x key).1
def withN (x : Nd) (key : Int) (val : ByteArray) : Nd :=
 if (seekN x key).2 = true then ⟨x.keys, x.vals.set (seekN x key).1 val, x.kids⟩
 else ⟨x.keys.take (seekN x key).1 ++ key :: x.keys.drop (seekN x key).1, x.vals.take (seekN x key).1 ++ val :: x.vals.drop (seekN x key).1, []⟩
def putM (n : Nat) : Nat → TS → Int → Int → ByteArray → Except Int Nd × TS
 | 0, S, _, _, _ => (.error 2, S)
 | f + 1, S, sector, key, val => match loadM S sector (12 - f : Int) with
  | .error c => (.error c, S)
  | .ok x => if x.kids.length = 0 then (.ok (withN x key val), S)
   else match putM n f S (x.kids.getD (kidAtN x key) 0) key val with
    | (.error c, S1) => (.error c, S1)
    | (.ok kid, S1) => replaceM n S1 x (kidAtN x key) 1 kid
def getM : Nat → TS → Int → Int → Except Int ByteArray
 | 0, _, _, _ => .error 2
 | f + 1, S, sector, key => match loadM S sector (12 - f : Int) with
  | .error c => .error c
  | .ok x => if x.kids.length = 0 then (if (seekN x key).2 = true then .ok (x.vals.getD (seekN x key).1 ⟨#[]⟩) else .error 4)
   else getM f S (x.kids.getD (kidAtN x key) 0) key
def getTop (S : TS) (root key : Int) : Except Int ByteArray := if root = 0 then .error 4 else getM 12 S root key
def putTop (n : Nat) (S : TS) (root key : Int) (val : ByteArray) : Except Int Int × TS :=
 if key < 0 ∨ 4294967295 < key ∨ val.size ≠ 12 then (.error 1, S)
 else if root = 0 then addM n S ⟨[key], [val], []⟩
 else match putM n 12 S root key val with
  | (.error c, S1) => (.error c, S1)
  | (.ok x, S1) => match changeM n S1 x [root] with
   | (.error c, S2) => (.error c, S2)
   | (.ok (bk, ks), S2) => if bk.length = 0 then (.ok (ks.getD 0 0), S2)
    else match addM n S2 ⟨bk, [], ks⟩ with
     | (.error c, S3) => (.error c, S3)
     | (.ok k, S3) => match getTop S3 k key with
      | .error c => (.error c, S3)
      | .ok _ => (.ok k, S3)
end Go.Proofs.YtafclmbecmgbnaaGreatDoor
