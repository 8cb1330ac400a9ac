/-
 TrDelModel. Conditions: as each theorem says.
-/
import Derived.Test.YtafclmbecmgbnaaGreatDoorTw
open List renaming length_append -> zfk
namespace Go.Proofs.YtafclmbecmgbnaaGreatDoor
open Go.RowKit
def wF (x:Nd) (key:Int):Except Int Nd :=
 if (yw x key).2 = true then .ok ⟨x.keys.take (yw x key).1 ++ x.keys.drop ((yw x key).1 + 1),x.vals.take (yw x key).1 ++ x.vals.drop ((yw x key).1 + 1),[]⟩ else .error 4
def vr (a:Nd) (k:Int) (b:Nd):Nd:=⟨(if a.kids.length = 0 then a.keys else a.keys ++ [k]) ++ b.keys,a.vals ++ b.vals,a.kids ++ b.kids⟩
def jl (x:Nd) (at_:Nat):Nat:=if at_ = x.keys.length then at_ - 1 else at_ + 1
def kq (n:Nat) (S:TS) (x:Nd) (at_:Nat) (lv:Int) (kid:Nd):Except Int Nd × TS :=
 match yk S (x.kids.getD (jl x at_) 0) lv with
 | .error c=>(.error c,S)
 | .ok y=>if decide (y.kids.length = 0) ≠ decide (kid.kids.length = 0) then (.error 2,S)
  else if at_ = x.keys.length then zQ n S x (at_ - 1) 2 (vr y (x.keys.getD (at_ - 1) 0) kid)
  else zQ n S x at_ 2 (vr kid (x.keys.getD at_ 0) y)
def ky (n:Nat):Nat -> TS -> Int -> Int -> Except Int Nd × TS
 | 0,S,_,_=>(.error 2,S)
 | f + 1,S,sector,key=>match yk S sector (12 - f:Int) with
  | .error c=>(.error c,S)
  | .ok x=>if x.kids.length = 0 then (wF x key,S)
   else match ky n f S (x.kids.getD (yB x key) 0) key with
    | (.error c,S1)=>(.error c,S1)
    | (.ok kid,S1)=>if kid.keys.length < 3 then kq n S1 x (yB x key) (13 - f:Int) kid else zQ n S1 x (yB x key) 1 kid
def xL (n:Nat) (S:TS) (root key:Int):Except Int Int × TS :=
 if root = 0 then (.error 4,S)
 else match ky n 12 S root key with
  | (.error c,S1)=>(.error c,S1)
  | (.ok x,S1)=>if 0 < x.keys.length then (match yo n S1 x [root] with
    | (.error c,S2)=>(.error c,S2)
    | (.ok (_,ks),S2)=>(.ok (ks.getD 0 0),S2))
   else match xY S1 root with
    | (c,S2)=>if c = 0 then (.ok (x.kids.getD 0 0),S2) else (.error c,S2)
theorem J5 {n:Nat} {S:TS} {firm:Nat -> List UInt8} (h:OkT n S firm) (x:Nd) (a:Nat) (lv:Int) (kid:Nd):xD n firm S (kq n S x a lv kid).2 2:=by
 unfold kq;split
 ·exact (xD.refl h).more (by decide)
 ·split
  ·exact (xD.refl h).more (by decide)
  ·split <;> exact jn h _ _ _ _
theorem kH {n:Nat} {firm:Nat -> List UInt8} (f:Nat):∀ {S:TS},OkT n S firm -> ∀ (i key:Int),xD n firm S (ky n f S i key).2 (2 * f):=by
 induction f with
 | zero=>intro S h i key; exact (xD.refl h).more (Nat.zero_le _)
 | succ f ih =>
  intro S h i key;unfold ky;cases hl:yk S i (12 - f:Int) with
  | error c=>exact (xD.refl h).more (Nat.zero_le _)
  | ok x =>
   simp only;split
   ·exact (xD.refl h).more (Nat.zero_le _)
   ·have h1:=ih h (x.kids.getD (yB x key) 0) key;cases hc:ky n f S (x.kids.getD (yB x key) 0) key with
    | mk o S1 =>
     rw [hc] at h1;cases o with
     | error c=>exact h1.more (by omega)
     | ok kid =>
      simp only;split
      ·exact (h1.trans (J5 h1.ok x _ _ kid)).more (by omega)
      ·exact (h1.trans (jn h1.ok x _ 1 kid)).more (by omega)
theorem Kr {n:Nat} {S:TS} {firm:Nat -> List UInt8} (h:OkT n S firm) (root key:Int):xD n firm S (xL n S root key).2 26:=by
 unfold xL;split
 ·exact (xD.refl h).more (Nat.zero_le _)
 ·have h1:=kH 12 h root key;cases hc:ky n 12 S root key with
  | mk o S1 =>
   rw [hc] at h1;cases o with
   | error c=>exact h1.more (by omega)
   | ok x =>
    simp only;split
    ·have h2:=vo h1.ok x [root];cases hd:yo n S1 x [root] with
     | mk o2 S2 =>
      rw [hd] at h2;cases o2 with
      | error c=>exact (h1.trans h2).more (by omega)
      | ok r=>exact (h1.trans h2).more (by omega)
    ·have h2:=XU h1.ok root;cases hd:xY S1 root with
     | mk c S2 =>
      rw [hd] at h2;simp only;split <;> exact (h1.trans h2).more (by omega)
theorem Wo {x y:Nd} (hr:zJ x = true) (hlf:x.kids.length = 0) {key:Int} (h:wF x key = .ok y):xB y:=by
 have h7:=(zm hr).2.1;have hv:=(yc hr).leaf hlf;unfold wF at h;split at h
 ·cases h;refine ⟨fun _=>?_,fun h=>absurd rfl h,?_⟩
  ·simp only [zfk,List.length_take,List.length_drop]; omega
  ·simp only [zfk,List.length_take,List.length_drop]; omega
 ·cases h
theorem Y4 {a b:Nd} (ha:xB a) (hb:xB b) (hl:decide (a.kids.length = 0) = decide (b.kids.length = 0)) (hf:a.keys.length + b.keys.length <= 90) (k:Int):xB (vr a k b):=by
 unfold vr;by_cases h0:a.kids.length = 0
 ·have h1:b.kids.length = 0:=by rw [decide_eq_true h0] at hl; exact of_decide_eq_true hl.symm
  rw [if_pos h0];have h2:=ha.leaf h0;have h3:=hb.leaf h1;refine ⟨fun _=>by simp only [zfk]; omega,fun h=>?_,by simp only [zfk]; omega⟩;simp only [zfk] at h;omega
 ·have h1:b.kids.length ≠ 0:=fun h=>by rw [decide_eq_true h] at hl; exact h0 (of_decide_eq_true hl)
  rw [if_neg h0];have h2:=ha.inner h0;have h3:=hb.inner h1;refine ⟨fun h=>?_,fun _=>⟨?_,?_⟩,?_⟩
  ·simp only [zfk] at h; omega
  ·simp only [zfk]; omega
  ·simp only [zfk,List.length_singleton]; omega
  ·simp only [zfk,List.length_singleton]; omega
theorem KD {n:Nat} {S S1:TS} {x kid z:Nd} {a:Nat} {lv:Int} (hr:zJ x = true) (hk:x.kids.length ≠ 0) (ha:a < x.kids.length) (h:kq n S x a lv kid = (.ok z,S1)):xB z:=by
 have h1:=(yc hr).inner hk;unfold kq at h;split at h
 ·simp only [Prod.mk.injEq] at h; cases h.1
 ·rename_i y hy
  have hyr:=xn hy;split at h
  ·simp only [Prod.mk.injEq] at h; cases h.1
  ·split at h
   ·rename_i e
    have hp:=YJ hr hk;exact vx hr hk (by decide) (by omega) h
   ·exact vx hr hk (by decide) (by omega) h
theorem XS {n:Nat} {key:Int} (f:Nat):∀ {S S1:TS} {i:Int} {z:Nd},ky n f S i key = (.ok z,S1) -> xB z:=by
 induction f with
 | zero=>intro S S1 i z h; simp only [ky,Prod.mk.injEq] at h; cases h.1
 | succ f ih =>
  intro S S1 i z h;unfold ky at h;cases hl:yk S i (12 - f:Int) with
  | error c=>rw [hl] at h; simp only [Prod.mk.injEq] at h; cases h.1
  | ok x =>
   rw [hl] at h;simp only at h;have hr:=xn hl;split at h
   ·rename_i h0
    simp only [Prod.mk.injEq] at h;exact Wo hr h0 h.1
   ·rename_i h0
    split at h
    ·simp only [Prod.mk.injEq] at h; cases h.1
    ·rename_i kid S2 hp
     split at h
     ·exact KD hr h0 (kI hr h0 key) h
     ·exact vx hr h0 (Nat.le_refl _) (kI hr h0 key) h
