/-
 TrModel. Conditions: as each theorem says.
-/
import Derived.Test.YtafclmbecmgbnaaGreatDoorNodeMath
namespace Go.Proofs.YtafclmbecmgbnaaGreatDoor
structure TS where
 d:Dk
 s:Pst
 data:Nat -> List UInt8
def inZ (s:Pst) (i:Int):Bool:=decide (0 <= i /\ i < 240) && s.isIn i.toNat
def yk (S:TS) (sector level:Int):Except Int Nd :=
 if 12 < level then .error 2
 else if inZ S.s sector = true then (match yg (S.data sector.toNat) with | some x=>.ok x | none=>.error 2)
 else .error 4
def xA (n:Nat) (S:TS) (x:Nd):Except Int Int × TS :=
 if zJ x = false then (.error 2,S)
 else match S.s.first n with
  | none=>(.error 6,S)
  | some k=>(.ok k,⟨S.d.write k (pgB (vh (vP x))),S.s.at_ k,upd S.data k (vP x)⟩)
def xY (S:TS) (k:Int):Int × TS:=if vD S.s.used k = true then (0,⟨S.d,S.s.drop k.toNat,S.data⟩) else (4,S)
def zT (n:Nat):TS -> List Nd -> Except Int (List Int) × TS
 | S,[]=>(.ok [],S)
 | S,x :: r=>match xA n S x with
  | (.error c,S1)=>(.error c,S1)
  | (.ok k,S1)=>match zT n S1 r with
   | (.error c,S2)=>(.error c,S2)
   | (.ok l,S2)=>(.ok (k :: l),S2)
def yj:TS -> List Int -> Int × TS
 | S,[]=>(0,S)
 | S,k :: r=>match xY S k with
  | (c,S1)=>if c = 0 then yj S1 r else (c,S1)
def yq (x:Nd):List Nd × List Int :=
 if x.keys.length <= 7 then ([x],[])
 else if x.kids.length = 0 then ([⟨x.keys.take (x.keys.length / 2),x.vals.take (x.keys.length / 2),[]⟩,⟨x.keys.drop (x.keys.length / 2),x.vals.drop (x.keys.length / 2),[]⟩],(x.keys.drop (x.keys.length / 2)).take 1)
 else ([⟨x.keys.take (x.keys.length / 2),[],x.kids.take (x.keys.length / 2 + 1)⟩,⟨x.keys.drop (x.keys.length / 2 + 1),[],x.kids.drop (x.keys.length / 2 + 1)⟩],(x.keys.drop (x.keys.length / 2)).take 1)
def yo (n:Nat) (S:TS) (x:Nd) (old:List Int):Except Int (List Int × List Int) × TS :=
 match zT n S (yq x).1 with
 | (.error c,S1)=>(.error c,S1)
 | (.ok ks,S1)=>match yj S1 old with
  | (c,S2)=>if c = 0 then (.ok ((yq x).2,ks),S2) else (.error c,S2)
def zQ (n:Nat) (S:TS) (x:Nd) (at_ many:Nat) (kid:Nd):Except Int Nd × TS :=
 match yo n S kid ((x.kids.drop at_).take many) with
 | (.error c,S1)=>(.error c,S1)
 | (.ok (bk,ks),S1)=>(.ok ⟨x.keys.take at_ ++ bk ++ x.keys.drop (at_ + many - 1),[],x.kids.take at_ ++ ks ++ x.kids.drop (at_ + many)⟩,S1)
def yB (x:Nd) (key:Int):Nat:=if (yw x key).2 = true then (yw x key).1 + 1 else (yw x key).1
def jD (x:Nd) (key:Int) (val:ByteArray):Nd :=
 if (yw x key).2 = true then ⟨x.keys,x.vals.set (yw x key).1 val,x.kids⟩
 else ⟨x.keys.take (yw x key).1 ++ key :: x.keys.drop (yw x key).1,x.vals.take (yw x key).1 ++ val :: x.vals.drop (yw x key).1,[]⟩
def kQ (n:Nat):Nat -> TS -> Int -> Int -> ByteArray -> Except Int Nd × TS
 | 0,S,_,_,_=>(.error 2,S)
 | f + 1,S,sector,key,val=>match yk S sector (12 - f:Int) with
  | .error c=>(.error c,S)
  | .ok x=>if x.kids.length = 0 then (.ok (jD x key val),S)
   else match kQ n f S (x.kids.getD (yB x key) 0) key val with
    | (.error c,S1)=>(.error c,S1)
    | (.ok kid,S1)=>zQ n S1 x (yB x key) 1 kid
def jM:Nat -> TS -> Int -> Int -> Except Int ByteArray
 | 0,_,_,_=>.error 2
 | f + 1,S,sector,key=>match yk S sector (12 - f:Int) with
  | .error c=>.error c
  | .ok x=>if x.kids.length = 0 then (if (yw x key).2 = true then .ok (x.vals.getD (yw x key).1 ⟨#[]⟩) else .error 4)
   else jM f S (x.kids.getD (yB x key) 0) key
def xy (S:TS) (root key:Int):Except Int ByteArray:=if root = 0 then .error 4 else jM 12 S root key
def yY (n:Nat) (S:TS) (root key:Int) (val:ByteArray):Except Int Int × TS :=
 if key < 0 \/ 4294967295 < key \/ val.size ≠ 12 then (.error 1,S)
 else if root = 0 then xA n S ⟨[key],[val],[]⟩
 else match kQ n 12 S root key val with
  | (.error c,S1)=>(.error c,S1)
  | (.ok x,S1)=>match yo n S1 x [root] with
   | (.error c,S2)=>(.error c,S2)
   | (.ok (bk,ks),S2)=>if bk.length = 0 then (.ok (ks.getD 0 0),S2)
    else match xA n S2 ⟨bk,[],ks⟩ with
     | (.error c,S3)=>(.error c,S3)
     | (.ok k,S3)=>match xy S3 k key with
      | .error c=>(.error c,S3)
      | .ok _=>(.ok k,S3)
def jk (x:Nd) (i:Nat) (from_:Int):Int:=if 0 < i then max from_ (x.keys.getD (i - 1) 0) else from_
def xZ (x:Nd) (i:Nat) (to_:Int):Int:=if i < x.keys.length then min to_ (x.keys.getD i 0) else to_
def KB (x:Nd) (from_ to_:Int):List (Int × ByteArray):=(x.keys.zip x.vals).filter fun p=>decide (from_ <= p.1) && decide (p.1 < to_)
def xG (f:Int -> Int -> Int -> Except Int (List (Int × ByteArray))) (x:Nd) (from_ to_:Int):Nat -> List Int -> Except Int (List (Int × ByteArray))
 | _,[]=>.ok []
 | i,k :: r=>if jk x i from_ < xZ x i to_ then
   match f k (jk x i from_) (xZ x i to_) with
   | .error c=>.error c
   | .ok l=>match xG f x from_ to_ (i + 1) r with
    | .error c=>.error c
    | .ok m=>.ok (l ++ m)
  else xG f x from_ to_ (i + 1) r
def xh:Nat -> TS -> Int -> Int -> Int -> Except Int (List (Int × ByteArray))
 | 0,_,_,_,_=>.error 2
 | f + 1,S,sector,from_,to_=>match yk S sector (12 - f:Int) with
  | .error c=>.error c
  | .ok x=>match xG (fun k a b=>xh f S k a b) x from_ to_ 0 x.kids with
   | .error c=>.error c
   | .ok m=>.ok (KB x from_ to_ ++ m)
def wA (S:TS) (root from_ to_:Int):Except Int (List (Int × ByteArray)):=if root = 0 then .ok [] else xh 12 S root from_ to_
