/-
 TrModel. Conditions: as each theorem says.
-/
import Derived.Test.YtafclmbecmgbnaaGreatDoorNodeMath
namespace Go.Proofs.YtafclmbecmgbnaaGreatDoor
structure TS where
 d : Dk
 s : Pst
 data : Nat -> List UInt8
def inZ (s : Pst) (i : Int) : Bool := decide (0 <= i /\ i < 240) && s.isIn i.toNat
def yt (S : TS) (sector level : Int) : Except Int Nd :=
 if 12 < level then .error 2
 else if inZ S.s sector = true then (match yc (S.data sector.toNat) with | some x => .ok x | none => .error 2)
 else .error 4
def xw (n : Nat) (S : TS) (x : Nd) : Except Int Int × TS :=
 if zJ x = false then (.error 2, S)
 else match S.s.first n with
  | none => (.error 6, S)
  | some k => (.ok k, ⟨S.d.write k (pgB (wZ (vK x))), S.s.at_ k, upd S.data k (vK x)⟩)
def xX (S : TS) (k : Int) : Int × TS := if vJ S.s.used k = true then (0, ⟨S.d, S.s.drop k.toNat, S.data⟩) else (4, S)
def zS (n : Nat) : TS -> List Nd -> Except Int (List Int) × TS
 | S, [] => (.ok [], S)
 | S, x :: r => match xw n S x with
  | (.error c, S1) => (.error c, S1)
  | (.ok k, S1) => match zS n S1 r with
   | (.error c, S2) => (.error c, S2)
   | (.ok l, S2) => (.ok (k :: l), S2)
def ye : TS -> List Int -> Int × TS
 | S, [] => (0, S)
 | S, k :: r => match xX S k with
  | (c, S1) => if c = 0 then ye S1 r else (c, S1)
def yl (x : Nd) : List Nd × List Int :=
 if x.keys.length <= 7 then ([x], [])
 else if x.kids.length = 0 then ([⟨x.keys.take (x.keys.length / 2), x.vals.take (x.keys.length / 2), []⟩, ⟨x.keys.drop (x.keys.length / 2), x.vals.drop (x.keys.length / 2), []⟩], (x.keys.drop (x.keys.length / 2)).take 1)
 else ([⟨x.keys.take (x.keys.length / 2), [], x.kids.take (x.keys.length / 2 + 1)⟩, ⟨x.keys.drop (x.keys.length / 2 + 1), [], x.kids.drop (x.keys.length / 2 + 1)⟩], (x.keys.drop (x.keys.length / 2)).take 1)
def yi (n : Nat) (S : TS) (x : Nd) (old : List Int) : Except Int (List Int × List Int) × TS :=
 match zS n S (yl x).1 with
 | (.error c, S1) => (.error c, S1)
 | (.ok ks, S1) => match ye S1 old with
  | (c, S2) => if c = 0 then (.ok ((yl x).2, ks), S2) else (.error c, S2)
def zO (n : Nat) (S : TS) (x : Nd) (at_ many : Nat) (kid : Nd) : Except Int Nd × TS :=
 match yi n S kid ((x.kids.drop at_).take many) with
 | (.error c, S1) => (.error c, S1)
 | (.ok (bk, ks), S1) => (.ok ⟨x.keys.take at_ ++ bk ++ x.keys.drop (at_ + many - 1), [], x.kids.take at_ ++ ks ++ x.kids.drop (at_ + many)⟩, S1)
def yx (x : Nd) (key : Int) : Nat := if (yq x key).2 = true then (yq x key).1 + 1 else (yq x key).1
def jB (x : Nd) (key : Int) (val : ByteArray) : Nd :=
 if (yq x key).2 = true then ⟨x.keys, x.vals.set (yq x key).1 val, x.kids⟩
 else ⟨x.keys.take (yq x key).1 ++ key :: x.keys.drop (yq x key).1, x.vals.take (yq x key).1 ++ val :: x.vals.drop (yq x key).1, []⟩
def kK (n : Nat) : Nat -> TS -> Int -> Int -> ByteArray -> Except Int Nd × TS
 | 0, S, _, _, _ => (.error 2, S)
 | f + 1, S, sector, key, val => match yt S sector (12 - f : Int) with
  | .error c => (.error c, S)
  | .ok x => if x.kids.length = 0 then (.ok (jB x key val), S)
   else match kK n f S (x.kids.getD (yx x key) 0) key val with
    | (.error c, S1) => (.error c, S1)
    | (.ok kid, S1) => zO n S1 x (yx x key) 1 kid
def jI : Nat -> TS -> Int -> Int -> Except Int ByteArray
 | 0, _, _, _ => .error 2
 | f + 1, S, sector, key => match yt S sector (12 - f : Int) with
  | .error c => .error c
  | .ok x => if x.kids.length = 0 then (if (yq x key).2 = true then .ok (x.vals.getD (yq x key).1 ⟨#[]⟩) else .error 4)
   else jI f S (x.kids.getD (yx x key) 0) key
def wV (S : TS) (root key : Int) : Except Int ByteArray := if root = 0 then .error 4 else jI 12 S root key
def xa (n : Nat) (S : TS) (root key : Int) (val : ByteArray) : Except Int Int × TS :=
 if key < 0 \/ 4294967295 < key \/ val.size ≠ 12 then (.error 1, S)
 else if root = 0 then xw n S ⟨[key], [val], []⟩
 else match kK n 12 S root key val with
  | (.error c, S1) => (.error c, S1)
  | (.ok x, S1) => match yi n S1 x [root] with
   | (.error c, S2) => (.error c, S2)
   | (.ok (bk, ks), S2) => if bk.length = 0 then (.ok (ks.getD 0 0), S2)
    else match xw n S2 ⟨bk, [], ks⟩ with
     | (.error c, S3) => (.error c, S3)
     | (.ok k, S3) => match wV S3 k key with
      | .error c => (.error c, S3)
      | .ok _ => (.ok k, S3)
end Go.Proofs.YtafclmbecmgbnaaGreatDoor
