/-
 NodeMath. Conditions: as each theorem says.
-/
import Derived.Test.YtafclmbecmgbnaaGreatDoorMaths
open Bool renaming and_eq_true -> zfq
open List renaming range -> zfM, mem_range -> zfN, length_cons -> ze7, all_eq_true -> zfO, pairwise_iff_getElem -> zfP, map_congr_left -> zfQ
namespace Go.Proofs.YtafclmbecmgbnaaGreatDoor
structure Nd where
 keys : List Int
 vals : List ByteArray
 kids : List Int
def Nd.empty : Nd := ⟨[], [], []⟩
def zcE (l : List Int) (i : Nat) : Bool := decide (0 <= l.getD i 0) && decide (l.getD i 0 <= 4294967295) && (decide (i = 0) || decide (l.getD (i - 1) 0 < l.getD i 0))
def qf (l : List Int) : Bool := (zfM l.length).all (zcE l)
def kt (v : ByteArray) : Bool := decide (v.size = 12)
def zcF (l : List Int) (i : Nat) : Bool := decide (2 <= l.getD i 0) && decide (l.getD i 0 <= 239) && (zfM i).all fun k => !decide (l.getD k 0 = l.getD i 0)
def jg (l : List Int) : Bool := (zfM l.length).all (zcF l)
def zJ (x : Nd) : Bool :=
 qf x.keys && decide (x.keys.length <= 7) &&
  (if x.kids.length = 0 then x.vals.all kt && decide (x.vals.length = x.keys.length)
   else jg x.kids && decide (x.vals.length = 0) && decide (1 <= x.keys.length) && decide (x.kids.length = x.keys.length + 1))
theorem wH {l : List Int} : qf l = true ↔ (∀ z ∈ l, 0 <= z /\ z <= 4294967295) /\ l.Pairwise (· < ·) := by
 have hat : ∀ i (h : i < l.length), l.getD i 0 = l[i] := fun i h => by simp [List.getD_eq_getElem?_getD, h]
 unfold qf;rw [zfO];constructor
 ·intro h;have h1 : ∀ i (hi : i < l.length), (0 <= l[i] /\ l[i] <= 4294967295) /\ ∀ (h0 : 0 < i), l[i - 1]'(by omega) < l[i] := fun i hi => by
   have := h i (zfN.2 hi);unfold zcE at this;simp only [zfq, Bool.or_eq_true, decide_eq_true_eq, hat i hi] at this;refine ⟨this.1, fun h0 => ?_⟩;rcases this.2 with h2 | h2
   ·omega
   ·rwa [hat (i - 1) (by omega)] at h2
  refine ⟨fun z hz => ?_, ?_⟩
  ·obtain ⟨i, hi, rfl⟩ := List.mem_iff_getElem.1 hz;exact (h1 i hi).1
  ·rw [zfP];intro i j hi hj hij;induction j with
   | zero => omega
   | succ j ih =>
    have h2 : l[j]'(by omega) < l[j + 1] := (h1 (j + 1) hj).2 (by omega);rcases Nat.lt_or_ge i j with h3 | h3
    ·exact Int.lt_trans (ih (by omega) h3) h2
    ·obtain rfl : i = j := by omega
     exact h2
 ·rintro ⟨h1, h2⟩ i hi;have hi := zfN.1 hi;unfold zcE;simp only [zfq, Bool.or_eq_true, decide_eq_true_eq, hat i hi];refine ⟨h1 _ (List.getElem_mem _), ?_⟩;rcases Nat.eq_zero_or_pos i with h0 | h0
  ·exact .inl h0
  ·rw [hat (i - 1) (by omega)];exact .inr (zfP.1 h2 (i - 1) i (by omega) hi (by omega))
theorem kN {l : List Int} : jg l = true ↔ (∀ z ∈ l, 2 <= z /\ z <= 239) /\ l.Pairwise (· ≠ ·) := by
 have hat : ∀ i (h : i < l.length), l.getD i 0 = l[i] := fun i h => by simp [List.getD_eq_getElem?_getD, h]
 unfold jg;rw [zfO];constructor
 ·intro h;have h1 : ∀ i (hi : i < l.length), (2 <= l[i] /\ l[i] <= 239) /\ ∀ k (hk : k < i), l[k]'(by omega) ≠ l[i] := fun i hi => by
   have := h i (zfN.2 hi);unfold zcF at this;simp only [zfq, decide_eq_true_eq, hat i hi, zfO, Bool.not_eq_true', decide_eq_false_iff_not] at this;refine ⟨this.1, fun k hk => ?_⟩;have := this.2 k (zfN.2 hk)
   rwa [hat k (by omega)] at this
  refine ⟨fun z hz => ?_, ?_⟩
  ·obtain ⟨i, hi, rfl⟩ := List.mem_iff_getElem.1 hz;exact (h1 i hi).1
  ·rw [zfP];intro i j hi hj hij;exact (h1 j hj).2 i hij
 ·rintro ⟨h1, h2⟩ i hi;have hi := zfN.1 hi;unfold zcF;simp only [zfq, decide_eq_true_eq, hat i hi, zfO, Bool.not_eq_true', decide_eq_false_iff_not];refine ⟨h1 _ (List.getElem_mem _), fun k hk => ?_⟩;have hk := zfN.1 hk;rw [hat k (by omega)];exact zfP.1 h2 k i (by omega) hi hk
def xZ (l : List Int) : List UInt8 := l.flatMap fun z => be 4 z.toNat
def xJ (l : List ByteArray) : List UInt8 := l.flatMap fun v => v.data.toList
def vG (l : List Int) : List UInt8 := l.map fun z => UInt8.ofNat z.toNat
def vP (x : Nd) : List UInt8 := (if x.kids.length = 0 then (0 : UInt8) else 1) :: UInt8.ofNat x.keys.length :: (xZ x.keys ++ xJ x.vals ++ vG x.kids)
theorem vu (l : List Int) : (xZ l).length = 4 * l.length := by
 induction l with
 | nil => rfl
 | cons z r ih => simp only [xZ, List.flatMap_cons, List.length_append, yF, ze7] at ih ⊢; omega
theorem Yv {l : List ByteArray} (h : l.all kt = true) : (xJ l).length = 12 * l.length := by
 induction l with
 | nil => rfl
 | cons v r ih =>
  rw [List.all_cons, zfq] at h;have h1 : v.data.toList.length = 12 := by simpa [kt] using h.1
  have := ih h.2;simp only [xJ, List.flatMap_cons, List.length_append, ze7] at this ⊢;omega
theorem Yf (l : List Int) : (vG l).length = l.length := by simp [vG]
def Wl (leaf : Bool) (k : Nat) : Nat := if leaf then 2 + 16 * k else 3 + 5 * k
theorem zm {x : Nd} (h : zJ x = true) : qf x.keys = true /\ x.keys.length <= 7 /\
  ((x.kids = [] /\ x.vals.all kt = true /\ x.vals.length = x.keys.length) \/ (x.kids ≠ [] /\ jg x.kids = true /\ x.vals = [] /\ 1 <= x.keys.length /\ x.kids.length = x.keys.length + 1)) := by
 unfold zJ at h;simp only [zfq, decide_eq_true_eq] at h;refine ⟨h.1.1, h.1.2, ?_⟩;have h2 := h.2;by_cases hk : x.kids.length = 0
 ·rw [if_pos hk] at h2;simp only [zfq, decide_eq_true_eq] at h2;exact .inl ⟨List.length_eq_zero_iff.1 hk, h2.1, h2.2⟩
 ·rw [if_neg hk] at h2;simp only [zfq, decide_eq_true_eq] at h2;exact .inr ⟨fun e => hk (by rw [e]; rfl), h2.1.1.1, List.length_eq_zero_iff.1 h2.1.1.2, h2.1.2, h2.2⟩
theorem qO {x : Nd} (h : zJ x = true) : (vP x).length = Wl (decide (x.kids.length = 0)) x.keys.length := by
 obtain ⟨_, _, h3⟩ := zm h;unfold vP Wl;simp only [ze7, List.length_append, vu, Yf];rcases h3 with ⟨h4, h5, h6⟩ | ⟨h4, h5, h6, h7, h8⟩
 ·rw [Yv h5, h4];simp;omega
 ·rw [h6];have : x.kids.length ≠ 0 := by omega
  simp [xJ, this];omega
def qg (k : Nat) (r : List UInt8) : List Int := (zfM k).map fun i => (num ((r.drop (4 * i)).take 4) : Int)
def zc3 (k : Nat) (r : List UInt8) : List ByteArray := (zfM k).map fun i => ⟨((r.drop (4 * k + 12 * i)).take 12).toArray⟩
def zch (k : Nat) (r : List UInt8) : List Int := (r.drop (4 * k)).map fun c => (c.toNat : Int)
def qR (leaf : Bool) (k : Nat) (r : List UInt8) : Nd := ⟨qg k r, if leaf then zc3 k r else [], if leaf then [] else zch k r⟩
def qe (s : List UInt8) : Option (Bool × Nat × List UInt8) :=
 match s with
 | a :: b :: r => if a <= 1 /\ b <= 7 /\ s.length = Wl (decide (a = 0)) b.toNat then some (decide (a = 0), b.toNat, r) else none
 | _ => none
def yf (s : List UInt8) : Option Nd := (qe s).bind fun h => if zJ (qR h.1 h.2.1 h.2.2) = true then some (qR h.1 h.2.1 h.2.2) else none
theorem zaF {l : List Int} (h : ∀ z ∈ l, 0 <= z /\ z <= 4294967295) (r : List UInt8) : qg l.length (xZ l ++ r) = l := by
 induction l with
 | nil => rfl
 | cons z t ih =>
  have hz := h z (by simp);unfold qg;rw [ze7, List.range_succ_eq_map, List.map_cons, List.map_map];have hb : (be 4 z.toNat).length = 4 := yF _ _;have e : xZ (z :: t) ++ r = be 4 z.toNat ++ (xZ t ++ r) := by simp [xZ]
  rw [e];refine List.cons_eq_cons.2 ⟨?_, ?_⟩
  ·rw [Nat.mul_zero, List.drop_zero, List.take_left' hb, Qd (by omega)];omega
  ·have := ih fun y hy => h y (by simp [hy])
   unfold qg at this;refine Eq.trans (zfQ fun i _ => ?_) this;show ((num (((be 4 z.toNat ++ (xZ t ++ r)).drop (4 * (i + 1))).take 4) : Nat) : Int) = _;rw [List.drop_append, List.drop_eq_nil_of_le (by omega), hb, List.nil_append];congr 3
theorem zc4 {l : List ByteArray} (h : l.all kt = true) (r : List UInt8) : ((zfM l.length).map fun i => (⟨(((xJ l ++ r).drop (12 * i)).take 12).toArray⟩ : ByteArray)) = l := by
 induction l with
 | nil => rfl
 | cons v t ih =>
  rw [List.all_cons, zfq] at h;have hb : v.data.toList.length = 12 := by simpa [kt] using h.1
  rw [ze7, List.range_succ_eq_map, List.map_cons, List.map_map];have e : xJ (v :: t) ++ r = v.data.toList ++ (xJ t ++ r) := by simp [xJ]
  rw [e];refine List.cons_eq_cons.2 ⟨?_, ?_⟩
  ·rw [Nat.mul_zero, List.drop_zero, List.take_left' hb]
  ·refine Eq.trans (zfQ fun i _ => ?_) (ih h.2);show (⟨(((v.data.toList ++ (xJ t ++ r)).drop (12 * (i + 1))).take 12).toArray⟩ : ByteArray) = _;rw [List.drop_append, List.drop_eq_nil_of_le (by omega), hb, List.nil_append];congr 4
theorem zbk {ks : List Int} {l : List ByteArray} (hl : l.length = ks.length) (h : l.all kt = true) (r : List UInt8) : zc3 ks.length (xZ ks ++ (xJ l ++ r)) = l := by
 have := zc4 h r;unfold zc3;rw [hl] at this;refine Eq.trans (zfQ fun i _ => ?_) this;rw [<- List.drop_drop, List.drop_left' (vu ks)]
theorem zaG {ks l : List Int} (h : ∀ z ∈ l, 2 <= z /\ z <= 239) : zch ks.length (xZ ks ++ vG l) = l := by
 unfold zch;rw [List.drop_left' (vu ks)];unfold vG;rw [List.map_map];refine (zfQ fun z hz => ?_).trans (List.map_id l);have := h z hz;show (((UInt8.ofNat z.toNat).toNat : Nat) : Int) = z;rw [UInt8.toNat_ofNat'];omega
theorem zaD {x : Nd} (h : zJ x = true) : qe (vP x) = some (decide (x.kids.length = 0), x.keys.length, xZ x.keys ++ xJ x.vals ++ vG x.kids) := by
 have hl := qO h;have h7 := (zm h).2.1;have hb : (UInt8.ofNat x.keys.length).toNat = x.keys.length := by rw [UInt8.toNat_ofNat']; omega
 have hb7 : UInt8.ofNat x.keys.length <= 7 := by
  rw [UInt8.le_iff_toNat_le, hb];exact h7
 unfold vP at hl ⊢;unfold qe;simp only;by_cases hk : x.kids.length = 0
 ·simp only [hk, if_true] at hl ⊢;rw [if_pos ⟨by decide, hb7, by rw [hl, hb]⟩, hb]
 ·simp only [hk, if_false] at hl ⊢;rw [if_pos ⟨by decide, hb7, by rw [hl, hb]; rfl⟩, hb];simp
theorem zaR {x : Nd} (h : zJ x = true) : qR (decide (x.kids.length = 0)) x.keys.length (xZ x.keys ++ xJ x.vals ++ vG x.kids) = x := by
 obtain ⟨h1, h2, h3⟩ := zm h;have hk := (wH.1 h1).1;obtain ⟨keys, vals, kids⟩ := x;simp only at h1 h2 h3 hk ⊢;unfold qR;rw [List.append_assoc, zaF hk];rcases h3 with ⟨rfl, h5, h6⟩ | ⟨h4, h5, rfl, h7, h8⟩
 ·rw [zbk h6 h5];simp
 ·have h0 : kids.length ≠ 0 := by omega
  have := zaG (ks := keys) (kN.1 h5).1;simp [h0, xJ, this]
theorem zaY {x : Nd} (h : zJ x = true) : yf (vP x) = some x := by
 unfold yf;rw [zaD h, Option.bind_some];simp only [zaR h, if_pos h]
theorem xi {s : List UInt8} (h : qe s = none) : yf s = none := by unfold yf; rw [h]; rfl
theorem WJ {s r : List UInt8} {l : Bool} {k : Nat} (h : qe s = some (l, k, r)) : yf s = if zJ (qR l k r) = true then some (qR l k r) else none := by unfold yf; rw [h]; rfl
theorem ji {s : List UInt8} {x : Nd} (h : yf s = some x) : zJ x = true := by
 unfold yf at h;cases hh : qe s with
 | none => rw [hh] at h; cases h
 | some v =>
  rw [hh, Option.bind_some] at h;split at h
  ·rename_i hr
   cases h;exact hr
  ·cases h
theorem Qs {keys : List Int} {vals : List ByteArray} (h1 : qf keys = true) (h2 : keys.length <= 7) (h3 : vals.all kt = true) (h4 : vals.length = keys.length) : zJ ⟨keys, vals, []⟩ = true := by
 unfold zJ;simp [h1, h2, h3, h4]
def less (keys : List Int) (key : Int) : Nat := (keys.takeWhile fun z => decide (z < key)).length
theorem Yi {keys : List Int} (h : keys.Pairwise (· < ·)) (key : Int) {i : Nat} (hi : i < keys.length) : (keys[i] < key ↔ i < less keys key) := by
 induction keys generalizing i with
 | nil => cases hi
 | cons z t ih =>
  unfold less;rw [List.pairwise_cons] at h;by_cases hz : z < key
  ·rw [List.takeWhile_cons_of_pos (by simpa using hz)];cases i with
   | zero => simp [hz]
   | succ i =>
    have := ih h.2 (i := i) (by simpa using hi);unfold less at this;simp only [List.getElem_cons_succ, ze7];rw [this];omega
  ·rw [List.takeWhile_cons_of_neg (by simpa using hz)];have hle : ∀ y ∈ z :: t, ¬ y < key := fun y hy => by
    rcases List.mem_cons.1 hy with rfl | hy
    ·exact hz
    ·have := h.1 y hy;omega
   have := hle _ (List.getElem_mem hi);simp [this]
theorem Zm (keys : List Int) (key : Int) : less keys key <= keys.length := (List.takeWhile_sublist _).length_le
def yw (x : Nd) (key : Int) : Nat × Bool := if zJ x = true then (less x.keys key, decide (x.keys[less x.keys key]? = some key)) else (0, false)
theorem VN {keys : List Int} (h : keys.Pairwise (· < ·)) (key : Int) {k : Nat} (hk : k <= keys.length) (h1 : ∀ i (hi : i < k), keys[i]'(by omega) < key) (h2 : ∀ (hi : k < keys.length), ¬ keys[k] < key) : less keys key = k := by
 have hl := Zm keys key;rcases Nat.lt_trichotomy (less keys key) k with h3 | h3 | h3
 ·have := (Yi h key (i := less keys key) (by omega)).1 (h1 _ h3);omega
 ·exact h3
 ·exact absurd ((Yi h key (i := k) (by omega)).2 h3) (h2 (by omega))
