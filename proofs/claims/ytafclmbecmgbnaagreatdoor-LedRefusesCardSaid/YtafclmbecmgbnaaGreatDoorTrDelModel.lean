/-
 TrDelModel. Conditions: as each theorem says.
-/
import Derived.Test.YtafclmbecmgbnaaGreatDoorTw
open List renaming length_append -> zdW
namespace Go.Proofs.YtafclmbecmgbnaaGreatDoor
open Go.RowKit
def ww (x : Nd) (key : Int) : Except Int Nd :=
 if (yp x key).2 = true then .ok ⟨x.keys.take (yp x key).1 ++ x.keys.drop ((yp x key).1 + 1), x.vals.take (yp x key).1 ++ x.vals.drop ((yp x key).1 + 1), []⟩ else .error 4
def vg (a : Nd) (k : Int) (b : Nd) : Nd := ⟨(if a.kids.length = 0 then a.keys else a.keys ++ [k]) ++ b.keys, a.vals ++ b.vals, a.kids ++ b.kids⟩
def jd (x : Nd) (at_ : Nat) : Nat := if at_ = x.keys.length then at_ - 1 else at_ + 1
def vZ (n : Nat) (S : TS) (x : Nd) (at_ : Nat) (lv : Int) (kid : Nd) : Except Int Nd × TS :=
 match yI S (x.kids.getD (jd x at_) 0) lv with
 | .error c => (.error c, S)
 | .ok y => if decide (y.kids.length = 0) ≠ decide (kid.kids.length = 0) then (.error 2, S)
  else if at_ = x.keys.length then zQ n S x (at_ - 1) 2 (vg y (x.keys.getD (at_ - 1) 0) kid)
  else zQ n S x at_ 2 (vg kid (x.keys.getD at_ 0) y)
def kp (n : Nat) : Nat -> TS -> Int -> Int -> Except Int Nd × TS
 | 0, S, _, _ => (.error 2, S)
 | f + 1, S, sector, key => match yI S sector (12 - f : Int) with
  | .error c => (.error c, S)
  | .ok x => if x.kids.length = 0 then (ww x key, S)
   else match kp n f S (x.kids.getD (yu x key) 0) key with
    | (.error c, S1) => (.error c, S1)
    | (.ok kid, S1) => if kid.keys.length < 3 then vZ n S1 x (yu x key) (13 - f : Int) kid else zQ n S1 x (yu x key) 1 kid
def xO (n : Nat) (S : TS) (root key : Int) : Except Int Int × TS :=
 if root = 0 then (.error 4, S)
 else match kp n 12 S root key with
  | (.error c, S1) => (.error c, S1)
  | (.ok x, S1) => if 0 < x.keys.length then (match yh n S1 x [root] with
    | (.error c, S2) => (.error c, S2)
    | (.ok (_, ks), S2) => (.ok (ks.getD 0 0), S2))
   else match xU S1 root with
    | (c, S2) => if c = 0 then (.ok (x.kids.getD 0 0), S2) else (.error c, S2)
theorem Jf {n : Nat} {S : TS} {firm : Nat -> List UInt8} (h : OkT n S firm) (x : Nd) (a : Nat) (lv : Int) (kid : Nd) : xL n firm S (vZ n S x a lv kid).2 2 := by
 unfold vZ;split
 ·exact (xL.refl h).more (by decide)
 ·split
  ·exact (xL.refl h).more (by decide)
  ·split <;> exact je h _ _ _ _
theorem kC {n : Nat} {firm : Nat -> List UInt8} (f : Nat) : ∀ {S : TS}, OkT n S firm -> ∀ (i key : Int), xL n firm S (kp n f S i key).2 (2 * f) := by
 induction f with
 | zero => intro S h i key; exact (xL.refl h).more (Nat.zero_le _)
 | succ f ih =>
  intro S h i key;unfold kp;cases hl : yI S i (12 - f : Int) with
  | error c => exact (xL.refl h).more (Nat.zero_le _)
  | ok x =>
   simp only;split
   ·exact (xL.refl h).more (Nat.zero_le _)
   ·have h1 := ih h (x.kids.getD (yu x key) 0) key;cases hc : kp n f S (x.kids.getD (yu x key) 0) key with
    | mk o S1 =>
     rw [hc] at h1;cases o with
     | error c => exact h1.more (by omega)
     | ok kid =>
      simp only;split
      ·exact (h1.trans (Jf h1.ok x _ _ kid)).more (by omega)
      ·exact (h1.trans (je h1.ok x _ 1 kid)).more (by omega)
theorem VH {n : Nat} {S : TS} {firm : Nat -> List UInt8} (h : OkT n S firm) (root key : Int) : xL n firm S (xO n S root key).2 26 := by
 unfold xO;split
 ·exact (xL.refl h).more (Nat.zero_le _)
 ·have h1 := kC 12 h root key;cases hc : kp n 12 S root key with
  | mk o S1 =>
   rw [hc] at h1;cases o with
   | error c => exact h1.more (by omega)
   | ok x =>
    simp only;split
    ·have h2 := ve h1.ok x [root];cases hd : yh n S1 x [root] with
     | mk o2 S2 =>
      rw [hd] at h2;cases o2 with
      | error c => exact (h1.trans h2).more (by omega)
      | ok r => exact (h1.trans h2).more (by omega)
    ·have h2 := Xw h1.ok root;cases hd : xU S1 root with
     | mk c S2 =>
      rw [hd] at h2;simp only;split <;> exact (h1.trans h2).more (by omega)
theorem X1 {x y : Nd} (hr : zL x = true) (hlf : x.kids.length = 0) {key : Int} (h : ww x key = .ok y) : xw y := by
 have h7 := (zo hr).2.1;have hv := (yb hr).leaf hlf;unfold ww at h;split at h
 ·cases h;refine ⟨fun _ => ?_, fun h => absurd rfl h, ?_⟩
  ·simp only [zdW, List.length_take, List.length_drop]; omega
  ·simp only [zdW, List.length_take, List.length_drop]; omega
 ·cases h
theorem YF {a b : Nd} (ha : xw a) (hb : xw b) (hl : decide (a.kids.length = 0) = decide (b.kids.length = 0)) (hf : a.keys.length + b.keys.length <= 90) (k : Int) : xw (vg a k b) := by
 unfold vg;by_cases h0 : a.kids.length = 0
 ·have h1 : b.kids.length = 0 := by rw [decide_eq_true h0] at hl; exact of_decide_eq_true hl.symm
  rw [if_pos h0];have h2 := ha.leaf h0;have h3 := hb.leaf h1;refine ⟨fun _ => by simp only [zdW]; omega, fun h => ?_, by simp only [zdW]; omega⟩;simp only [zdW] at h;omega
 ·have h1 : b.kids.length ≠ 0 := fun h => by rw [decide_eq_true h] at hl; exact h0 (of_decide_eq_true hl)
  rw [if_neg h0];have h2 := ha.inner h0;have h3 := hb.inner h1;refine ⟨fun h => ?_, fun _ => ⟨?_, ?_⟩, ?_⟩
  ·simp only [zdW] at h; omega
  ·simp only [zdW]; omega
  ·simp only [zdW, List.length_singleton]; omega
  ·simp only [zdW, List.length_singleton]; omega
theorem VS {n : Nat} {S S1 : TS} {x kid z : Nd} {a : Nat} {lv : Int} (hr : zL x = true) (hk : x.kids.length ≠ 0) (ha : a < x.kids.length) (h : vZ n S x a lv kid = (.ok z, S1)) : xw z := by
 have h1 := (yb hr).inner hk;unfold vZ at h;split at h
 ·simp only [Prod.mk.injEq] at h; cases h.1
 ·rename_i y hy
  have hyr := xY hy;split at h
  ·simp only [Prod.mk.injEq] at h; cases h.1
  ·split at h
   ·rename_i e
    have hp := Yo hr hk;exact vm hr hk (by decide) (by omega) h
   ·exact vm hr hk (by decide) (by omega) h
theorem Xu {n : Nat} {key : Int} (f : Nat) : ∀ {S S1 : TS} {i : Int} {z : Nd}, kp n f S i key = (.ok z, S1) -> xw z := by
 induction f with
 | zero => intro S S1 i z h; simp only [kp, Prod.mk.injEq] at h; cases h.1
 | succ f ih =>
  intro S S1 i z h;unfold kp at h;cases hl : yI S i (12 - f : Int) with
  | error c => rw [hl] at h; simp only [Prod.mk.injEq] at h; cases h.1
  | ok x =>
   rw [hl] at h;simp only at h;have hr := xY hl;split at h
   ·rename_i h0
    simp only [Prod.mk.injEq] at h;exact X1 hr h0 h.1
   ·rename_i h0
    split at h
    ·simp only [Prod.mk.injEq] at h; cases h.1
    ·rename_i kid S2 hp
     split at h
     ·exact VS hr h0 (kD hr h0 key) h
     ·exact vm hr h0 (Nat.le_refl _) (kD hr h0 key) h
end Go.Proofs.YtafclmbecmgbnaaGreatDoor
