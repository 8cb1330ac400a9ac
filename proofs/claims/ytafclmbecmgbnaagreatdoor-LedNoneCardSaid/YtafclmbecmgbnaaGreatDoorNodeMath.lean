/-
 NodeMath. Conditions: as each theorem says.
-/
import Derived.Test.YtafclmbecmgbnaaGreatDoorMaths
open Bool renaming and_eq_true -> zdL
open List renaming range -> zd9, mem_range -> zea, length_cons -> zdz, all_eq_true -> zeb, pairwise_iff_getElem -> zec, map_congr_left -> zed
namespace Go.Proofs.YtafclmbecmgbnaaGreatDoor
structure Nd where
 keys : List Int
 vals : List ByteArray
 kids : List Int
def Nd.empty : Nd := ⟨[], [], []⟩
def zbe (l : List Int) (i : Nat) : Bool := decide (0 <= l.getD i 0) && decide (l.getD i 0 <= 4294967295) && (decide (i = 0) || decide (l.getD (i - 1) 0 < l.getD i 0))
def jH (l : List Int) : Bool := (zd9 l.length).all (zbe l)
def vW (v : ByteArray) : Bool := decide (v.size = 12)
def zbf (l : List Int) (i : Nat) : Bool := decide (2 <= l.getD i 0) && decide (l.getD i 0 <= 239) && (zd9 i).all fun k => !decide (l.getD k 0 = l.getD i 0)
def kR (l : List Int) : Bool := (zd9 l.length).all (zbf l)
def zJ (x : Nd) : Bool :=
 jH x.keys && decide (x.keys.length <= 7) &&
  (if x.kids.length = 0 then x.vals.all vW && decide (x.vals.length = x.keys.length)
   else kR x.kids && decide (x.vals.length = 0) && decide (1 <= x.keys.length) && decide (x.kids.length = x.keys.length + 1))
theorem wA {l : List Int} : jH l = true ↔ (∀ z ∈ l, 0 <= z /\ z <= 4294967295) /\ l.Pairwise (· < ·) := by
 have hat : ∀ i (h : i < l.length), l.getD i 0 = l[i] := fun i h => by simp [List.getD_eq_getElem?_getD, h]
 unfold jH;rw [zeb];constructor
 ·intro h;have h1 : ∀ i (hi : i < l.length), (0 <= l[i] /\ l[i] <= 4294967295) /\ ∀ (h0 : 0 < i), l[i - 1]'(by omega) < l[i] := fun i hi => by
   have := h i (zea.2 hi);unfold zbe at this;simp only [zdL, Bool.or_eq_true, decide_eq_true_eq, hat i hi] at this;refine ⟨this.1, fun h0 => ?_⟩;rcases this.2 with h2 | h2
   ·omega
   ·rwa [hat (i - 1) (by omega)] at h2
  refine ⟨fun z hz => ?_, ?_⟩
  ·obtain ⟨i, hi, rfl⟩ := List.mem_iff_getElem.1 hz;exact (h1 i hi).1
  ·rw [zec];intro i j hi hj hij;induction j with
   | zero => omega
   | succ j ih =>
    have h2 : l[j]'(by omega) < l[j + 1] := (h1 (j + 1) hj).2 (by omega);rcases Nat.lt_or_ge i j with h3 | h3
    ·exact Int.lt_trans (ih (by omega) h3) h2
    ·obtain rfl : i = j := by omega
     exact h2
 ·rintro ⟨h1, h2⟩ i hi;have hi := zea.1 hi;unfold zbe;simp only [zdL, Bool.or_eq_true, decide_eq_true_eq, hat i hi];refine ⟨h1 _ (List.getElem_mem _), ?_⟩;rcases Nat.eq_zero_or_pos i with h0 | h0
  ·exact .inl h0
  ·rw [hat (i - 1) (by omega)];exact .inr (zec.1 h2 (i - 1) i (by omega) hi (by omega))
theorem jj {l : List Int} : kR l = true ↔ (∀ z ∈ l, 2 <= z /\ z <= 239) /\ l.Pairwise (· ≠ ·) := by
 have hat : ∀ i (h : i < l.length), l.getD i 0 = l[i] := fun i h => by simp [List.getD_eq_getElem?_getD, h]
 unfold kR;rw [zeb];constructor
 ·intro h;have h1 : ∀ i (hi : i < l.length), (2 <= l[i] /\ l[i] <= 239) /\ ∀ k (hk : k < i), l[k]'(by omega) ≠ l[i] := fun i hi => by
   have := h i (zea.2 hi);unfold zbf at this;simp only [zdL, decide_eq_true_eq, hat i hi, zeb, Bool.not_eq_true', decide_eq_false_iff_not] at this;refine ⟨this.1, fun k hk => ?_⟩;have := this.2 k (zea.2 hk)
   rwa [hat k (by omega)] at this
  refine ⟨fun z hz => ?_, ?_⟩
  ·obtain ⟨i, hi, rfl⟩ := List.mem_iff_getElem.1 hz;exact (h1 i hi).1
  ·rw [zec];intro i j hi hj hij;exact (h1 j hj).2 i hij
 ·rintro ⟨h1, h2⟩ i hi;have hi := zea.1 hi;unfold zbf;simp only [zdL, decide_eq_true_eq, hat i hi, zeb, Bool.not_eq_true', decide_eq_false_iff_not];refine ⟨h1 _ (List.getElem_mem _), fun k hk => ?_⟩;have hk := zea.1 hk;rw [hat k (by omega)];exact zec.1 h2 k i (by omega) hi hk
def xV (l : List Int) : List UInt8 := l.flatMap fun z => be 4 z.toNat
def xF (l : List ByteArray) : List UInt8 := l.flatMap fun v => v.data.toList
def vr (l : List Int) : List UInt8 := l.map fun z => UInt8.ofNat z.toNat
def vB (x : Nd) : List UInt8 := (if x.kids.length = 0 then (0 : UInt8) else 1) :: UInt8.ofNat x.keys.length :: (xV x.keys ++ xF x.vals ++ vr x.kids)
theorem vi (l : List Int) : (xV l).length = 4 * l.length := by
 induction l with
 | nil => rfl
 | cons z r ih => simp only [xV, List.flatMap_cons, List.length_append, yx, zdz] at ih ⊢; omega
theorem ZX {l : List ByteArray} (h : l.all vW = true) : (xF l).length = 12 * l.length := by
 induction l with
 | nil => rfl
 | cons v r ih =>
  rw [List.all_cons, zdL] at h;have h1 : v.data.toList.length = 12 := by simpa [vW] using h.1
  have := ih h.2;simp only [xF, List.flatMap_cons, List.length_append, zdz] at this ⊢;omega
theorem ZK (l : List Int) : (vr l).length = l.length := by simp [vr]
def XG (leaf : Bool) (k : Nat) : Nat := if leaf then 2 + 16 * k else 3 + 5 * k
theorem zm {x : Nd} (h : zJ x = true) : jH x.keys = true /\ x.keys.length <= 7 /\
  ((x.kids = [] /\ x.vals.all vW = true /\ x.vals.length = x.keys.length) \/ (x.kids ≠ [] /\ kR x.kids = true /\ x.vals = [] /\ 1 <= x.keys.length /\ x.kids.length = x.keys.length + 1)) := by
 unfold zJ at h;simp only [zdL, decide_eq_true_eq] at h;refine ⟨h.1.1, h.1.2, ?_⟩;have h2 := h.2;by_cases hk : x.kids.length = 0
 ·rw [if_pos hk] at h2;simp only [zdL, decide_eq_true_eq] at h2;exact .inl ⟨List.length_eq_zero_iff.1 hk, h2.1, h2.2⟩
 ·rw [if_neg hk] at h2;simp only [zdL, decide_eq_true_eq] at h2;exact .inr ⟨fun e => hk (by rw [e]; rfl), h2.1.1.1, List.length_eq_zero_iff.1 h2.1.1.2, h2.1.2, h2.2⟩
theorem qe {x : Nd} (h : zJ x = true) : (vB x).length = XG (decide (x.kids.length = 0)) x.keys.length := by
 obtain ⟨_, _, h3⟩ := zm h;unfold vB XG;simp only [zdz, List.length_append, vi, ZK];rcases h3 with ⟨h4, h5, h6⟩ | ⟨h4, h5, h6, h7, h8⟩
 ·rw [ZX h5, h4];simp;omega
 ·rw [h6];have : x.kids.length ≠ 0 := by omega
  simp [xF, this];omega
def jI (k : Nat) (r : List UInt8) : List Int := (zd9 k).map fun i => (num ((r.drop (4 * i)).take 4) : Int)
def zbA (k : Nat) (r : List UInt8) : List ByteArray := (zd9 k).map fun i => ⟨((r.drop (4 * k + 12 * i)).take 12).toArray⟩
def zaV (k : Nat) (r : List UInt8) : List Int := (r.drop (4 * k)).map fun c => (c.toNat : Int)
def qg (leaf : Bool) (k : Nat) (r : List UInt8) : Nd := ⟨jI k r, if leaf then zbA k r else [], if leaf then [] else zaV k r⟩
def jG (s : List UInt8) : Option (Bool × Nat × List UInt8) :=
 match s with
 | a :: b :: r => if a <= 1 /\ b <= 7 /\ s.length = XG (decide (a = 0)) b.toNat then some (decide (a = 0), b.toNat, r) else none
 | _ => none
def yl (s : List UInt8) : Option Nd := (jG s).bind fun h => if zJ (qg h.1 h.2.1 h.2.2) = true then some (qg h.1 h.2.1 h.2.2) else none
theorem Qp {l : List Int} (h : ∀ z ∈ l, 0 <= z /\ z <= 4294967295) (r : List UInt8) : jI l.length (xV l ++ r) = l := by
 induction l with
 | nil => rfl
 | cons z t ih =>
  have hz := h z (by simp);unfold jI;rw [zdz, List.range_succ_eq_map, List.map_cons, List.map_map];have hb : (be 4 z.toNat).length = 4 := yx _ _;have e : xV (z :: t) ++ r = be 4 z.toNat ++ (xV t ++ r) := by simp [xV]
  rw [e];refine List.cons_eq_cons.2 ⟨?_, ?_⟩
  ·rw [Nat.mul_zero, List.drop_zero, List.take_left' hb, K6 (by omega)];omega
  ·have := ih fun y hy => h y (by simp [hy])
   unfold jI at this;refine Eq.trans (zed fun i _ => ?_) this;show ((num (((be 4 z.toNat ++ (xV t ++ r)).drop (4 * (i + 1))).take 4) : Nat) : Int) = _;rw [List.drop_append, List.drop_eq_nil_of_le (by omega), hb, List.nil_append];congr 3
theorem zbB {l : List ByteArray} (h : l.all vW = true) (r : List UInt8) : ((zd9 l.length).map fun i => (⟨(((xF l ++ r).drop (12 * i)).take 12).toArray⟩ : ByteArray)) = l := by
 induction l with
 | nil => rfl
 | cons v t ih =>
  rw [List.all_cons, zdL] at h;have hb : v.data.toList.length = 12 := by simpa [vW] using h.1
  rw [zdz, List.range_succ_eq_map, List.map_cons, List.map_map];have e : xF (v :: t) ++ r = v.data.toList ++ (xF t ++ r) := by simp [xF]
  rw [e];refine List.cons_eq_cons.2 ⟨?_, ?_⟩
  ·rw [Nat.mul_zero, List.drop_zero, List.take_left' hb]
  ·refine Eq.trans (zed fun i _ => ?_) (ih h.2);show (⟨(((v.data.toList ++ (xF t ++ r)).drop (12 * (i + 1))).take 12).toArray⟩ : ByteArray) = _;rw [List.drop_append, List.drop_eq_nil_of_le (by omega), hb, List.nil_append];congr 4
theorem QZ {ks : List Int} {l : List ByteArray} (hl : l.length = ks.length) (h : l.all vW = true) (r : List UInt8) : zbA ks.length (xV ks ++ (xF l ++ r)) = l := by
 have := zbB h r;unfold zbA;rw [hl] at this;refine Eq.trans (zed fun i _ => ?_) this;rw [<- List.drop_drop, List.drop_left' (vi ks)]
theorem Qq {ks l : List Int} (h : ∀ z ∈ l, 2 <= z /\ z <= 239) : zaV ks.length (xV ks ++ vr l) = l := by
 unfold zaV;rw [List.drop_left' (vi ks)];unfold vr;rw [List.map_map];refine (zed fun z hz => ?_).trans (List.map_id l);have := h z hz;show (((UInt8.ofNat z.toNat).toNat : Nat) : Int) = z;rw [UInt8.toNat_ofNat'];omega
theorem Qm {x : Nd} (h : zJ x = true) : jG (vB x) = some (decide (x.kids.length = 0), x.keys.length, xV x.keys ++ xF x.vals ++ vr x.kids) := by
 have hl := qe h;have h7 := (zm h).2.1;have hb : (UInt8.ofNat x.keys.length).toNat = x.keys.length := by rw [UInt8.toNat_ofNat']; omega
 have hb7 : UInt8.ofNat x.keys.length <= 7 := by
  rw [UInt8.le_iff_toNat_le, hb];exact h7
 unfold vB at hl ⊢;unfold jG;simp only;by_cases hk : x.kids.length = 0
 ·simp only [hk, if_true] at hl ⊢;rw [if_pos ⟨by decide, hb7, by rw [hl, hb]⟩, hb]
 ·simp only [hk, if_false] at hl ⊢;rw [if_pos ⟨by decide, hb7, by rw [hl, hb]; rfl⟩, hb];simp
theorem QB {x : Nd} (h : zJ x = true) : qg (decide (x.kids.length = 0)) x.keys.length (xV x.keys ++ xF x.vals ++ vr x.kids) = x := by
 obtain ⟨h1, h2, h3⟩ := zm h;have hk := (wA.1 h1).1;obtain ⟨keys, vals, kids⟩ := x;simp only at h1 h2 h3 hk ⊢;unfold qg;rw [List.append_assoc, Qp hk];rcases h3 with ⟨rfl, h5, h6⟩ | ⟨h4, h5, rfl, h7, h8⟩
 ·rw [QZ h6 h5];simp
 ·have h0 : kids.length ≠ 0 := by omega
  have := Qq (ks := keys) (jj.1 h5).1;simp [h0, xF, this]
theorem QI {x : Nd} (h : zJ x = true) : yl (vB x) = some x := by
 unfold yl;rw [Qm h, Option.bind_some];simp only [QB h, if_pos h]
theorem xe {s : List UInt8} (h : jG s = none) : yl s = none := by unfold yl; rw [h]; rfl
theorem X2 {s r : List UInt8} {l : Bool} {k : Nat} (h : jG s = some (l, k, r)) : yl s = if zJ (qg l k r) = true then some (qg l k r) else none := by unfold yl; rw [h]; rfl
theorem qk {s : List UInt8} {x : Nd} (h : yl s = some x) : zJ x = true := by
 unfold yl at h;cases hh : jG s with
 | none => rw [hh] at h; cases h
 | some v =>
  rw [hh, Option.bind_some] at h;split at h
  ·rename_i hr
   cases h;exact hr
  ·cases h
theorem Jj {keys : List Int} {vals : List ByteArray} (h1 : jH keys = true) (h2 : keys.length <= 7) (h3 : vals.all vW = true) (h4 : vals.length = keys.length) : zJ ⟨keys, vals, []⟩ = true := by
 unfold zJ;simp [h1, h2, h3, h4]
def less (keys : List Int) (key : Int) : Nat := (keys.takeWhile fun z => decide (z < key)).length
theorem ZL {keys : List Int} (h : keys.Pairwise (· < ·)) (key : Int) {i : Nat} (hi : i < keys.length) : (keys[i] < key ↔ i < less keys key) := by
 induction keys generalizing i with
 | nil => cases hi
 | cons z t ih =>
  unfold less;rw [List.pairwise_cons] at h;by_cases hz : z < key
  ·rw [List.takeWhile_cons_of_pos (by simpa using hz)];cases i with
   | zero => simp [hz]
   | succ i =>
    have := ih h.2 (i := i) (by simpa using hi);unfold less at this;simp only [List.getElem_cons_succ, zdz];rw [this];omega
  ·rw [List.takeWhile_cons_of_neg (by simpa using hz)];have hle : ∀ y ∈ z :: t, ¬ y < key := fun y hy => by
    rcases List.mem_cons.1 hy with rfl | hy
    ·exact hz
    ·have := h.1 y hy;omega
   have := hle _ (List.getElem_mem hi);simp [this]
theorem qI (keys : List Int) (key : Int) : less keys key <= keys.length := (List.takeWhile_sublist _).length_le
def ym (x : Nd) (key : Int) : Nat × Bool := if zJ x = true then (less x.keys key, decide (x.keys[less x.keys key]? = some key)) else (0, false)
theorem WW {keys : List Int} (h : keys.Pairwise (· < ·)) (key : Int) {k : Nat} (hk : k <= keys.length) (h1 : ∀ i (hi : i < k), keys[i]'(by omega) < key) (h2 : ∀ (hi : k < keys.length), ¬ keys[k] < key) : less keys key = k := by
 have hl := qI keys key;rcases Nat.lt_trichotomy (less keys key) k with h3 | h3 | h3
 ·have := (ZL h key (i := less keys key) (by omega)).1 (h1 _ h3);omega
 ·exact h3
 ·exact absurd ((ZL h key (i := k) (by omega)).2 h3) (h2 (by omega))
end Go.Proofs.YtafclmbecmgbnaaGreatDoor
