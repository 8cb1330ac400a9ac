/-
 TrDelModel. Conditions: as each theorem says.
-/
import Derived.Test.YticbgbngookmnaaGreatDoorTm
import Derived.Test.YticbgbngookmnaaGreatDoorTx
import Derived.Test.YticbgbngookmnaaGreatDoorTw
namespace Go.Proofs.YticbgbngookmnaaGreatDoor
open Go.RowKit
def withoutN (x : Nd) (key : Int) : Except Int Nd :=
 if (seekN x key).2 = true then .ok ⟨x.keys.take (seekN x key).1 ++ x.keys.drop ((seekN x key).1 + 1), x.vals.take (seekN x key).1 ++ x.vals.drop ((seekN x key).1 + 1), []⟩ else .error 4
def joinN (a : Nd) (k : Int) (b : Nd) : Nd := ⟨(if a.kids.length = 0 then a.keys else a.keys ++ [k]) ++ b.keys, a.vals ++ b.vals, a.kids ++ b.kids⟩
def otherN (x : Nd) (at_ : Nat) : Nat := if at_ = x.keys.length then at_ - 1 else at_ + 1
def mendM (n : Nat) (S : TS) (x : Nd) (at_ : Nat) (lv : Int) (kid : Nd) : Except Int Nd × TS :=
 match loadM S (x.kids.getD (otherN x at_) 0) lv with
 | .error c => (.error c, S)
 | .ok y => if decide (y.kids.length = 0) ≠ decide (kid.kids.length = 0) then (.error 2, S)
  else if at_ = x.keys.length then replaceM n S x (at_ - 1) 2 (joinN y (x.keys.getD (at_ - 1) 0) kid)
  else replaceM n S x at_ 2 (joinN kid (x.keys.getD at_ 0) y)
def cutM (n : Nat) : Nat → TS → Int → Int → Except Int Nd × TS
 | 0, S, _, _ => (.error 2, S)
 | f + 1, S, sector, key => match loadM S sector (12 - f : Int) with
  | .error c => (.error c, S)
  | .ok x => if x.kids.length = 0 then (withoutN x key, S)
   else match cutM n f S (x.kids.getD (kidAtN x key) 0) key with
    | (.error c, S1) => (.error c, S1)
    | (.ok kid, S1) => if kid.keys.length < 3 then mendM n S1 x (kidAtN x key) (13 - f : Int) kid else replaceM n S1 x (kidAtN x key) 1 kid
def delTop (n : Nat) (S : TS) (root key : Int) : Except Int Int × TS :=
 if root = 0 then (.error 4, S)
 else match cutM n 12 S root key with
  | (.error c, S1) => (.error c, S1)
  | (.ok x, S1) => if 0 < x.keys.length then (match changeM n S1 x [root] with
    | (.error c, S2) => (.error c, S2)
    | (.ok (_, ks), S2) => (.ok (ks.getD 0 0), S2))
   else match dropM S1 root with
    | (c, S2) => if c = 0 then (.ok (x.kids.getD 0 0), S2) else (.error c, S2)
theorem mendM_stay {n : Nat} {S : TS} {firm : Nat → List UInt8} (h : OkT n S firm) (x : Nd) (a : Nat) (lv : Int) (kid : Nd) : Stay n firm S (mendM n S x a lv kid).2 2 := by
 unfold mendM
 split
 ·exact (Stay.refl h).more (by decide)
 ·split
  ·exact (Stay.refl h).more (by decide)
  ·split <;> exact replaceM_stay h _ _ _ _
theorem cutM_stay {n : Nat} {firm : Nat → List UInt8} (f : Nat) : ∀ {S : TS}, OkT n S firm → ∀ (i key : Int), Stay n firm S (cutM n f S i key).2 (2 * f) := by
 induction f with
 | zero => intro S h i key; exact (Stay.refl h).more (Nat.zero_le _)
 | succ f ih =>
  intro S h i key
  unfold cutM
  cases hl : loadM S i (12 - f : Int) with
  | error c => exact (Stay.refl h).more (Nat.zero_le _)
  | ok x =>
   simp only
   split
   ·exact (Stay.refl h).more (Nat.zero_le _)
   ·have h1 := ih h (x.kids.getD (kidAtN x key) 0) key
    cases hc : cutM n f S (x.kids.getD (kidAtN x key) 0) key with
    | mk o S1 =>
     rw [hc] at h1
     cases o with
     | error c => exact h1.more (by omega)
     | ok kid =>
      simp only
      split
      ·exact (h1.trans (mendM_stay h1.ok x _ _ kid)).more (by omega)
      ·exact (h1.trans (replaceM_stay h1.ok x _ 1 kid)).more (by omega)
theorem delTop_stay {n : Nat} {S : TS} {firm : Nat → List UInt8} (h : OkT n S firm) (root key : Int) : Stay n firm S (delTop n S root key).2 26 := by
 unfold delTop
 split
 ·exact (Stay.refl h).more (Nat.zero_le _)
 ·have h1 := cutM_stay 12 h root key
  cases hc : cutM n 12 S root key with
  | mk o S1 =>
   rw [hc] at h1
   cases o with
   | error c => exact h1.more (by omega)
   | ok x =>
    simp only
    split
    ·have h2 := changeM_stay h1.ok x [root]
     cases hd : changeM n S1 x [root] with
     | mk o2 S2 =>
      rw [hd] at h2
      cases o2 with
      | error c => exact (h1.trans h2).more (by omega)
      | ok r => exact (h1.trans h2).more (by omega)
    ·have h2 := dropM_stay h1.ok root
     cases hd : dropM S1 root with
     | mk c S2 =>
      rw [hd] at h2
      simp only
      split <;> exact (h1.trans h2).more (by omega)
theorem withoutN_shape {x y : Nd} (hr : rightN x = true) (hlf : x.kids.length = 0) {key : Int} (h : withoutN x key = .ok y) : NdShape y := by
 have h7 := (right_parts hr).2.1
 have hv := (right_shape hr).leaf hlf
 unfold withoutN at h
 split at h
 ·cases h
  refine ⟨fun _ => ?_, fun h => absurd rfl h, ?_⟩
  ·simp only [List.length_append, List.length_take, List.length_drop]; omega
  ·simp only [List.length_append, List.length_take, List.length_drop]; omega
 ·cases h
theorem joinN_shape {a b : Nd} (ha : NdShape a) (hb : NdShape b) (hl : decide (a.kids.length = 0) = decide (b.kids.length = 0)) (hf : a.keys.length + b.keys.length ≤ 90) (k : Int) : NdShape (joinN a k b) := by
 unfold joinN
 by_cases h0 : a.kids.length = 0
 ·have h1 : b.kids.length = 0 := by rw [decide_eq_true h0] at hl; exact of_decide_eq_true hl.symm
  rw [if_pos h0]
  have h2 := ha.leaf h0
  have h3 := hb.leaf h1
  refine ⟨fun _ => by simp only [List.length_append]; omega, fun h => ?_, by simp only [List.length_append]; omega⟩
  simp only [List.length_append] at h
  omega
 ·have h1 : b.kids.length ≠ 0 := fun h => by rw [decide_eq_true h] at hl; exact h0 (of_decide_eq_true hl)
  rw [if_neg h0]
  have h2 := ha.inner h0
  have h3 := hb.inner h1
  refine ⟨fun h => ?_, fun _ => ⟨?_, ?_⟩, ?_⟩
  ·simp only [List.length_append] at h; omega
  ·simp only [List.length_append]; omega
  ·simp only [List.length_append, List.length_singleton]; omega
  ·simp only [List.length_append, List.length_singleton]; omega
theorem mendM_shape {n : Nat} {S S1 : TS} {x kid z : Nd} {a : Nat} {lv : Int} (hr : rightN x = true) (hk : x.kids.length ≠ 0) (ha : a < x.kids.length) (h : mendM n S x a lv kid = (.ok z, S1)) : NdShape z := by
 have h1 := (right_shape hr).inner hk
 unfold mendM at h
 split at h
 ·simp only [Prod.mk.injEq] at h; cases h.1
 ·rename_i y hy
  have hyr := loadM_right hy
  split at h
  ·simp only [Prod.mk.injEq] at h; cases h.1
  ·split at h
   ·rename_i e
    have hp := right_pos hr hk
    exact replaceM_shape hr hk (by decide) (by omega) h
   ·exact replaceM_shape hr hk (by decide) (by omega) h
theorem cutM_shape {n : Nat} {key : Int} (f : Nat) : ∀ {S S1 : TS} {i : Int} {z : Nd}, cutM n f S i key = (.ok z, S1) → NdShape z := by
 induction f with
 | zero => intro S S1 i z h; simp only [cutM, Prod.mk.injEq] at h; cases h.1
 | succ f ih =>
  intro S S1 i z h
  unfold cutM at h
  cases hl : loadM S i (12 - f : Int) with
  | error c => rw [hl] at h; simp only [Prod.mk.injEq] at h; cases h.1
  | ok x =>
   rw [hl] at h
   simp only at h
   have hr := loadM_right hl
   split at h
   ·rename_i h0
    simp only [Prod.mk.injEq] at h
    exact withoutN_shape hr h0 h.1
   ·rename_i h0
    split at h
    ·simp only [Prod.mk.injEq] at h; cases h.1
    ·rename_i kid S2 hp
     split at h
     ·exact mendM_shape hr h0 (kidAtN_lt hr h0 key) h
     ·exact replaceM_shape hr h0 (Nat.le_refl _) (kidAtN_lt hr h0 key) h
end Go.Proofs.YticbgbngookmnaaGreatDoor
