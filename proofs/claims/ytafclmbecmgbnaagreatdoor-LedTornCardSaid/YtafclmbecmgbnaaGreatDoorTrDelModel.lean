/-
 TrDelModel. Conditions: as each theorem says.
-/
import Derived.Test.YtafclmbecmgbnaaGreatDoorTw
open List renaming length_append -> zf0
namespace Go.Proofs.YtafclmbecmgbnaaGreatDoor
open Go.RowKit
def wP (x:Nd) (key:Int):Except Int Nd :=
 if (yA x key).2 = true then .ok ⟨x.keys.take (yA x key).1 ++ x.keys.drop ((yA x key).1 + 1),x.vals.take (yA x key).1 ++ x.vals.drop ((yA x key).1 + 1),[]⟩ else .error 4
def vJ (a:Nd) (k:Int) (b:Nd):Nd:=⟨(if a.kids.length = 0 then a.keys else a.keys ++ [k]) ++ b.keys,a.vals ++ b.vals,a.kids ++ b.kids⟩
def jH (x:Nd) (at_:Nat):Nat:=if at_ = x.keys.length then at_ - 1 else at_ + 1
def kJ (n:Nat) (S:TS) (x:Nd) (at_:Nat) (lv:Int) (kid:Nd):Except Int Nd × TS :=
 match yp S (x.kids.getD (jH x at_) 0) lv with
 | .error c=>(.error c,S)
 | .ok y=>if decide (y.kids.length = 0) ≠ decide (kid.kids.length = 0) then (.error 2,S)
  else if at_ = x.keys.length then zS n S x (at_ - 1) 2 (vJ y (x.keys.getD (at_ - 1) 0) kid)
  else zS n S x at_ 2 (vJ kid (x.keys.getD at_ 0) y)
def kN (n:Nat):Nat -> TS -> Int -> Int -> Except Int Nd × TS
 | 0,S,_,_=>(.error 2,S)
 | f + 1,S,sector,key=>match yp S sector (12 - f:Int) with
  | .error c=>(.error c,S)
  | .ok x=>if x.kids.length = 0 then (wP x key,S)
   else match kN n f S (x.kids.getD (yF x key) 0) key with
    | (.error c,S1)=>(.error c,S1)
    | (.ok kid,S1)=>if kid.keys.length < 3 then kJ n S1 x (yF x key) (13 - f:Int) kid else zS n S1 x (yF x key) 1 kid
def wB (n:Nat) (S:TS) (root key:Int):Except Int Int × TS :=
 if root = 0 then (.error 4,S)
 else match kN n 12 S root key with
  | (.error c,S1)=>(.error c,S1)
  | (.ok x,S1)=>if 0 < x.keys.length then (match yt n S1 x [root] with
    | (.error c,S2)=>(.error c,S2)
    | (.ok (_,ks),S2)=>(.ok (ks.getD 0 0),S2))
   else match wH S1 root with
    | (c,S2)=>if c = 0 then (.ok (x.kids.getD 0 0),S2) else (.error c,S2)
theorem QG {n:Nat} {S:TS} {firm:Nat -> List UInt8} (h:OkT n S firm) (x:Nd) (a:Nat) (lv:Int) (kid:Nd):ww n firm S (kJ n S x a lv kid).2 2:=by
 unfold kJ;split
 ·exact (ww.refl h).more (by decide)
 ·split
  ·exact (ww.refl h).more (by decide)
  ·split <;> exact jI h _ _ _ _
theorem kX {n:Nat} {firm:Nat -> List UInt8} (f:Nat):∀ {S:TS},OkT n S firm -> ∀ (i key:Int),ww n firm S (kN n f S i key).2 (2 * f):=by
 induction f with
 | zero=>intro S h i key; exact (ww.refl h).more (Nat.zero_le _)
 | succ f ih =>
  intro S h i key;unfold kN;cases hl:yp S i (12 - f:Int) with
  | error c=>exact (ww.refl h).more (Nat.zero_le _)
  | ok x =>
   simp only;split
   ·exact (ww.refl h).more (Nat.zero_le _)
   ·have h1:=ih h (x.kids.getD (yF x key) 0) key;cases hc:kN n f S (x.kids.getD (yF x key) 0) key with
    | mk o S1 =>
     rw [hc] at h1;cases o with
     | error c=>exact h1.more (by omega)
     | ok kid =>
      simp only;split
      ·exact (h1.trans (QG h1.ok x _ _ kid)).more (by omega)
      ·exact (h1.trans (jI h1.ok x _ 1 kid)).more (by omega)
theorem K5 {n:Nat} {S:TS} {firm:Nat -> List UInt8} (h:OkT n S firm) (root key:Int):ww n firm S (wB n S root key).2 26:=by
 unfold wB;split
 ·exact (ww.refl h).more (Nat.zero_le _)
 ·have h1:=kX 12 h root key;cases hc:kN n 12 S root key with
  | mk o S1 =>
   rw [hc] at h1;cases o with
   | error c=>exact h1.more (by omega)
   | ok x =>
    simp only;split
    ·have h2:=vF h1.ok x [root];cases hd:yt n S1 x [root] with
     | mk o2 S2 =>
      rw [hd] at h2;cases o2 with
      | error c=>exact (h1.trans h2).more (by omega)
      | ok r=>exact (h1.trans h2).more (by omega)
    ·have h2:=Ws h1.ok root;cases hd:wH S1 root with
     | mk c S2 =>
      rw [hd] at h2;simp only;split <;> exact (h1.trans h2).more (by omega)
theorem WW {x y:Nd} (hr:zM x = true) (hlf:x.kids.length = 0) {key:Int} (h:wP x key = .ok y):xL y:=by
 have h7:=(zm hr).2.1;have hv:=(yh hr).leaf hlf;unfold wP at h;split at h
 ·cases h;refine ⟨fun _=>?_,fun h=>absurd rfl h,?_⟩
  ·simp only [zf0,List.length_take,List.length_drop]; omega
  ·simp only [zf0,List.length_take,List.length_drop]; omega
 ·cases h
theorem Xy {a b:Nd} (ha:xL a) (hb:xL b) (hl:decide (a.kids.length = 0) = decide (b.kids.length = 0)) (hf:a.keys.length + b.keys.length <= 90) (k:Int):xL (vJ a k b):=by
 unfold vJ;by_cases h0:a.kids.length = 0
 ·have h1:b.kids.length = 0:=by rw [decide_eq_true h0] at hl; exact of_decide_eq_true hl.symm
  rw [if_pos h0];have h2:=ha.leaf h0;have h3:=hb.leaf h1;refine ⟨fun _=>by simp only [zf0]; omega,fun h=>?_,by simp only [zf0]; omega⟩;simp only [zf0] at h;omega
 ·have h1:b.kids.length ≠ 0:=fun h=>by rw [decide_eq_true h] at hl; exact h0 (of_decide_eq_true hl)
  rw [if_neg h0];have h2:=ha.inner h0;have h3:=hb.inner h1;refine ⟨fun h=>?_,fun _=>⟨?_,?_⟩,?_⟩
  ·simp only [zf0] at h; omega
  ·simp only [zf0]; omega
  ·simp only [zf0,List.length_singleton]; omega
  ·simp only [zf0,List.length_singleton]; omega
theorem Jh {n:Nat} {S S1:TS} {x kid z:Nd} {a:Nat} {lv:Int} (hr:zM x = true) (hk:x.kids.length ≠ 0) (ha:a < x.kids.length) (h:kJ n S x a lv kid = (.ok z,S1)):xL z:=by
 have h1:=(yh hr).inner hk;unfold kJ at h;split at h
 ·simp only [Prod.mk.injEq] at h; cases h.1
 ·rename_i y hy
  have hyr:=xB hy;split at h
  ·simp only [Prod.mk.injEq] at h; cases h.1
  ·split at h
   ·rename_i e
    have hp:=Xa hr hk;exact vM hr hk (by decide) (by omega) h
   ·exact vM hr hk (by decide) (by omega) h
theorem Wq {n:Nat} {key:Int} (f:Nat):∀ {S S1:TS} {i:Int} {z:Nd},kN n f S i key = (.ok z,S1) -> xL z:=by
 induction f with
 | zero=>intro S S1 i z h; simp only [kN,Prod.mk.injEq] at h; cases h.1
 | succ f ih =>
  intro S S1 i z h;unfold kN at h;cases hl:yp S i (12 - f:Int) with
  | error c=>rw [hl] at h; simp only [Prod.mk.injEq] at h; cases h.1
  | ok x =>
   rw [hl] at h;simp only at h;have hr:=xB hl;split at h
   ·rename_i h0
    simp only [Prod.mk.injEq] at h;exact WW hr h0 h.1
   ·rename_i h0
    split at h
    ·simp only [Prod.mk.injEq] at h; cases h.1
    ·rename_i kid S2 hp
     split at h
     ·exact Jh hr h0 (kY hr h0 key) h
     ·exact vM hr h0 (Nat.le_refl _) (kY hr h0 key) h
