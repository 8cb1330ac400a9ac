/-
 NodeMath. Conditions: as each theorem says.
-/
import Derived.Test.YtafclmbecmgbnaaGreatDoorMaths
open Bool renaming and_eq_true -> zd1
open List renaming range -> zeo, mem_range -> zep, length_cons -> zdO, all_eq_true -> zeq, pairwise_iff_getElem -> zer, map_congr_left -> zes
namespace Go.Proofs.YtafclmbecmgbnaaGreatDoor
structure Nd where
 keys : List Int
 vals : List ByteArray
 kids : List Int
def Nd.empty : Nd := ⟨[], [], []⟩
def zbo (l : List Int) (i : Nat) : Bool := decide (0 <= l.getD i 0) && decide (l.getD i 0 <= 4294967295) && (decide (i = 0) || decide (l.getD (i - 1) 0 < l.getD i 0))
def jK (l : List Int) : Bool := (zeo l.length).all (zbo l)
def ke (v : ByteArray) : Bool := decide (v.size = 12)
def zbp (l : List Int) (i : Nat) : Bool := decide (2 <= l.getD i 0) && decide (l.getD i 0 <= 239) && (zeo i).all fun k => !decide (l.getD k 0 = l.getD i 0)
def kV (l : List Int) : Bool := (zeo l.length).all (zbp l)
def zL (x : Nd) : Bool :=
 jK x.keys && decide (x.keys.length <= 7) &&
  (if x.kids.length = 0 then x.vals.all ke && decide (x.vals.length = x.keys.length)
   else kV x.kids && decide (x.vals.length = 0) && decide (1 <= x.keys.length) && decide (x.kids.length = x.keys.length + 1))
theorem wC {l : List Int} : jK l = true ↔ (∀ z ∈ l, 0 <= z /\ z <= 4294967295) /\ l.Pairwise (· < ·) := by
 have hat : ∀ i (h : i < l.length), l.getD i 0 = l[i] := fun i h => by simp [List.getD_eq_getElem?_getD, h]
 unfold jK;rw [zeq];constructor
 ·intro h;have h1 : ∀ i (hi : i < l.length), (0 <= l[i] /\ l[i] <= 4294967295) /\ ∀ (h0 : 0 < i), l[i - 1]'(by omega) < l[i] := fun i hi => by
   have := h i (zep.2 hi);unfold zbo at this;simp only [zd1, Bool.or_eq_true, decide_eq_true_eq, hat i hi] at this;refine ⟨this.1, fun h0 => ?_⟩;rcases this.2 with h2 | h2
   ·omega
   ·rwa [hat (i - 1) (by omega)] at h2
  refine ⟨fun z hz => ?_, ?_⟩
  ·obtain ⟨i, hi, rfl⟩ := List.mem_iff_getElem.1 hz;exact (h1 i hi).1
  ·rw [zer];intro i j hi hj hij;induction j with
   | zero => omega
   | succ j ih =>
    have h2 : l[j]'(by omega) < l[j + 1] := (h1 (j + 1) hj).2 (by omega);rcases Nat.lt_or_ge i j with h3 | h3
    ·exact Int.lt_trans (ih (by omega) h3) h2
    ·obtain rfl : i = j := by omega
     exact h2
 ·rintro ⟨h1, h2⟩ i hi;have hi := zep.1 hi;unfold zbo;simp only [zd1, Bool.or_eq_true, decide_eq_true_eq, hat i hi];refine ⟨h1 _ (List.getElem_mem _), ?_⟩;rcases Nat.eq_zero_or_pos i with h0 | h0
  ·exact .inl h0
  ·rw [hat (i - 1) (by omega)];exact .inr (zer.1 h2 (i - 1) i (by omega) hi (by omega))
theorem jn {l : List Int} : kV l = true ↔ (∀ z ∈ l, 2 <= z /\ z <= 239) /\ l.Pairwise (· ≠ ·) := by
 have hat : ∀ i (h : i < l.length), l.getD i 0 = l[i] := fun i h => by simp [List.getD_eq_getElem?_getD, h]
 unfold kV;rw [zeq];constructor
 ·intro h;have h1 : ∀ i (hi : i < l.length), (2 <= l[i] /\ l[i] <= 239) /\ ∀ k (hk : k < i), l[k]'(by omega) ≠ l[i] := fun i hi => by
   have := h i (zep.2 hi);unfold zbp at this;simp only [zd1, decide_eq_true_eq, hat i hi, zeq, Bool.not_eq_true', decide_eq_false_iff_not] at this;refine ⟨this.1, fun k hk => ?_⟩;have := this.2 k (zep.2 hk)
   rwa [hat k (by omega)] at this
  refine ⟨fun z hz => ?_, ?_⟩
  ·obtain ⟨i, hi, rfl⟩ := List.mem_iff_getElem.1 hz;exact (h1 i hi).1
  ·rw [zer];intro i j hi hj hij;exact (h1 j hj).2 i hij
 ·rintro ⟨h1, h2⟩ i hi;have hi := zep.1 hi;unfold zbp;simp only [zd1, decide_eq_true_eq, hat i hi, zeq, Bool.not_eq_true', decide_eq_false_iff_not];refine ⟨h1 _ (List.getElem_mem _), fun k hk => ?_⟩;have hk := zep.1 hk;rw [hat k (by omega)];exact zer.1 h2 k i (by omega) hi hk
def xX (l : List Int) : List UInt8 := l.flatMap fun z => be 4 z.toNat
def xG (l : List ByteArray) : List UInt8 := l.flatMap fun v => v.data.toList
def vt (l : List Int) : List UInt8 := l.map fun z => UInt8.ofNat z.toNat
def vD (x : Nd) : List UInt8 := (if x.kids.length = 0 then (0 : UInt8) else 1) :: UInt8.ofNat x.keys.length :: (xX x.keys ++ xG x.vals ++ vt x.kids)
theorem vh (l : List Int) : (xX l).length = 4 * l.length := by
 induction l with
 | nil => rfl
 | cons z r ih => simp only [xX, List.flatMap_cons, List.length_append, yz, zdO] at ih ⊢; omega
theorem Z4 {l : List ByteArray} (h : l.all ke = true) : (xG l).length = 12 * l.length := by
 induction l with
 | nil => rfl
 | cons v r ih =>
  rw [List.all_cons, zd1] at h;have h1 : v.data.toList.length = 12 := by simpa [ke] using h.1
  have := ih h.2;simp only [xG, List.flatMap_cons, List.length_append, zdO] at this ⊢;omega
theorem ZM (l : List Int) : (vt l).length = l.length := by simp [vt]
def XY (leaf : Bool) (k : Nat) : Nat := if leaf then 2 + 16 * k else 3 + 5 * k
theorem zo {x : Nd} (h : zL x = true) : jK x.keys = true /\ x.keys.length <= 7 /\
  ((x.kids = [] /\ x.vals.all ke = true /\ x.vals.length = x.keys.length) \/ (x.kids ≠ [] /\ kV x.kids = true /\ x.vals = [] /\ 1 <= x.keys.length /\ x.kids.length = x.keys.length + 1)) := by
 unfold zL at h;simp only [zd1, decide_eq_true_eq] at h;refine ⟨h.1.1, h.1.2, ?_⟩;have h2 := h.2;by_cases hk : x.kids.length = 0
 ·rw [if_pos hk] at h2;simp only [zd1, decide_eq_true_eq] at h2;exact .inl ⟨List.length_eq_zero_iff.1 hk, h2.1, h2.2⟩
 ·rw [if_neg hk] at h2;simp only [zd1, decide_eq_true_eq] at h2;exact .inr ⟨fun e => hk (by rw [e]; rfl), h2.1.1.1, List.length_eq_zero_iff.1 h2.1.1.2, h2.1.2, h2.2⟩
theorem qj {x : Nd} (h : zL x = true) : (vD x).length = XY (decide (x.kids.length = 0)) x.keys.length := by
 obtain ⟨_, _, h3⟩ := zo h;unfold vD XY;simp only [zdO, List.length_append, vh, ZM];rcases h3 with ⟨h4, h5, h6⟩ | ⟨h4, h5, h6, h7, h8⟩
 ·rw [Z4 h5, h4];simp;omega
 ·rw [h6];have : x.kids.length ≠ 0 := by omega
  simp [xG, this];omega
def jL (k : Nat) (r : List UInt8) : List Int := (zeo k).map fun i => (num ((r.drop (4 * i)).take 4) : Int)
def zbK (k : Nat) (r : List UInt8) : List ByteArray := (zeo k).map fun i => ⟨((r.drop (4 * k + 12 * i)).take 12).toArray⟩
def za4 (k : Nat) (r : List UInt8) : List Int := (r.drop (4 * k)).map fun c => (c.toNat : Int)
def ql (leaf : Bool) (k : Nat) (r : List UInt8) : Nd := ⟨jL k r, if leaf then zbK k r else [], if leaf then [] else za4 k r⟩
def jJ (s : List UInt8) : Option (Bool × Nat × List UInt8) :=
 match s with
 | a :: b :: r => if a <= 1 /\ b <= 7 /\ s.length = XY (decide (a = 0)) b.toNat then some (decide (a = 0), b.toNat, r) else none
 | _ => none
def yo (s : List UInt8) : Option Nd := (jJ s).bind fun h => if zL (ql h.1 h.2.1 h.2.2) = true then some (ql h.1 h.2.1 h.2.2) else none
theorem QD {l : List Int} (h : ∀ z ∈ l, 0 <= z /\ z <= 4294967295) (r : List UInt8) : jL l.length (xX l ++ r) = l := by
 induction l with
 | nil => rfl
 | cons z t ih =>
  have hz := h z (by simp);unfold jL;rw [zdO, List.range_succ_eq_map, List.map_cons, List.map_map];have hb : (be 4 z.toNat).length = 4 := yz _ _;have e : xX (z :: t) ++ r = be 4 z.toNat ++ (xX t ++ r) := by simp [xX]
  rw [e];refine List.cons_eq_cons.2 ⟨?_, ?_⟩
  ·rw [Nat.mul_zero, List.drop_zero, List.take_left' hb, Jh (by omega)];omega
  ·have := ih fun y hy => h y (by simp [hy])
   unfold jL at this;refine Eq.trans (zes fun i _ => ?_) this;show ((num (((be 4 z.toNat ++ (xX t ++ r)).drop (4 * (i + 1))).take 4) : Nat) : Int) = _;rw [List.drop_append, List.drop_eq_nil_of_le (by omega), hb, List.nil_append];congr 3
theorem zbL {l : List ByteArray} (h : l.all ke = true) (r : List UInt8) : ((zeo l.length).map fun i => (⟨(((xG l ++ r).drop (12 * i)).take 12).toArray⟩ : ByteArray)) = l := by
 induction l with
 | nil => rfl
 | cons v t ih =>
  rw [List.all_cons, zd1] at h;have hb : v.data.toList.length = 12 := by simpa [ke] using h.1
  rw [zdO, List.range_succ_eq_map, List.map_cons, List.map_map];have e : xG (v :: t) ++ r = v.data.toList ++ (xG t ++ r) := by simp [xG]
  rw [e];refine List.cons_eq_cons.2 ⟨?_, ?_⟩
  ·rw [Nat.mul_zero, List.drop_zero, List.take_left' hb]
  ·refine Eq.trans (zes fun i _ => ?_) (ih h.2);show (⟨(((v.data.toList ++ (xG t ++ r)).drop (12 * (i + 1))).take 12).toArray⟩ : ByteArray) = _;rw [List.drop_append, List.drop_eq_nil_of_le (by omega), hb, List.nil_append];congr 4
theorem zab {ks : List Int} {l : List ByteArray} (hl : l.length = ks.length) (h : l.all ke = true) (r : List UInt8) : zbK ks.length (xX ks ++ (xG l ++ r)) = l := by
 have := zbL h r;unfold zbK;rw [hl] at this;refine Eq.trans (zes fun i _ => ?_) this;rw [<- List.drop_drop, List.drop_left' (vh ks)]
theorem QE {ks l : List Int} (h : ∀ z ∈ l, 2 <= z /\ z <= 239) : za4 ks.length (xX ks ++ vt l) = l := by
 unfold za4;rw [List.drop_left' (vh ks)];unfold vt;rw [List.map_map];refine (zes fun z hz => ?_).trans (List.map_id l);have := h z hz;show (((UInt8.ofNat z.toNat).toNat : Nat) : Int) = z;rw [UInt8.toNat_ofNat'];omega
theorem QA {x : Nd} (h : zL x = true) : jJ (vD x) = some (decide (x.kids.length = 0), x.keys.length, xX x.keys ++ xG x.vals ++ vt x.kids) := by
 have hl := qj h;have h7 := (zo h).2.1;have hb : (UInt8.ofNat x.keys.length).toNat = x.keys.length := by rw [UInt8.toNat_ofNat']; omega
 have hb7 : UInt8.ofNat x.keys.length <= 7 := by
  rw [UInt8.le_iff_toNat_le, hb];exact h7
 unfold vD at hl ⊢;unfold jJ;simp only;by_cases hk : x.kids.length = 0
 ·simp only [hk, if_true] at hl ⊢;rw [if_pos ⟨by decide, hb7, by rw [hl, hb]⟩, hb]
 ·simp only [hk, if_false] at hl ⊢;rw [if_pos ⟨by decide, hb7, by rw [hl, hb]; rfl⟩, hb];simp
theorem QO {x : Nd} (h : zL x = true) : ql (decide (x.kids.length = 0)) x.keys.length (xX x.keys ++ xG x.vals ++ vt x.kids) = x := by
 obtain ⟨h1, h2, h3⟩ := zo h;have hk := (wC.1 h1).1;obtain ⟨keys, vals, kids⟩ := x;simp only at h1 h2 h3 hk ⊢;unfold ql;rw [List.append_assoc, QD hk];rcases h3 with ⟨rfl, h5, h6⟩ | ⟨h4, h5, rfl, h7, h8⟩
 ·rw [zab h6 h5];simp
 ·have h0 : kids.length ≠ 0 := by omega
  have := QE (ks := keys) (jn.1 h5).1;simp [h0, xG, this]
theorem QU {x : Nd} (h : zL x = true) : yo (vD x) = some x := by
 unfold yo;rw [QA h, Option.bind_some];simp only [QO h, if_pos h]
theorem xf {s : List UInt8} (h : jJ s = none) : yo s = none := by unfold yo; rw [h]; rfl
theorem Wl {s r : List UInt8} {l : Bool} {k : Nat} (h : jJ s = some (l, k, r)) : yo s = if zL (ql l k r) = true then some (ql l k r) else none := by unfold yo; rw [h]; rfl
theorem qr {s : List UInt8} {x : Nd} (h : yo s = some x) : zL x = true := by
 unfold yo at h;cases hh : jJ s with
 | none => rw [hh] at h; cases h
 | some v =>
  rw [hh, Option.bind_some] at h;split at h
  ·rename_i hr
   cases h;exact hr
  ·cases h
theorem Jw {keys : List Int} {vals : List ByteArray} (h1 : jK keys = true) (h2 : keys.length <= 7) (h3 : vals.all ke = true) (h4 : vals.length = keys.length) : zL ⟨keys, vals, []⟩ = true := by
 unfold zL;simp [h1, h2, h3, h4]
def less (keys : List Int) (key : Int) : Nat := (keys.takeWhile fun z => decide (z < key)).length
theorem ZR {keys : List Int} (h : keys.Pairwise (· < ·)) (key : Int) {i : Nat} (hi : i < keys.length) : (keys[i] < key ↔ i < less keys key) := by
 induction keys generalizing i with
 | nil => cases hi
 | cons z t ih =>
  unfold less;rw [List.pairwise_cons] at h;by_cases hz : z < key
  ·rw [List.takeWhile_cons_of_pos (by simpa using hz)];cases i with
   | zero => simp [hz]
   | succ i =>
    have := ih h.2 (i := i) (by simpa using hi);unfold less at this;simp only [List.getElem_cons_succ, zdO];rw [this];omega
  ·rw [List.takeWhile_cons_of_neg (by simpa using hz)];have hle : ∀ y ∈ z :: t, ¬ y < key := fun y hy => by
    rcases List.mem_cons.1 hy with rfl | hy
    ·exact hz
    ·have := h.1 y hy;omega
   have := hle _ (List.getElem_mem hi);simp [this]
theorem qP (keys : List Int) (key : Int) : less keys key <= keys.length := (List.takeWhile_sublist _).length_le
def yp (x : Nd) (key : Int) : Nat × Bool := if zL x = true then (less x.keys key, decide (x.keys[less x.keys key]? = some key)) else (0, false)
theorem Vb {keys : List Int} (h : keys.Pairwise (· < ·)) (key : Int) {k : Nat} (hk : k <= keys.length) (h1 : ∀ i (hi : i < k), keys[i]'(by omega) < key) (h2 : ∀ (hi : k < keys.length), ¬ keys[k] < key) : less keys key = k := by
 have hl := qP keys key;rcases Nat.lt_trichotomy (less keys key) k with h3 | h3 | h3
 ·have := (ZR h key (i := less keys key) (by omega)).1 (h1 _ h3);omega
 ·exact h3
 ·exact absurd ((ZR h key (i := k) (by omega)).2 h3) (h2 (by omega))
end Go.Proofs.YtafclmbecmgbnaaGreatDoor
