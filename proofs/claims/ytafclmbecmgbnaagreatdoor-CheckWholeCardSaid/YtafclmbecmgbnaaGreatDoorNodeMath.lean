/-
 NodeMath. Conditions: as each theorem says.
-/
import Derived.Test.YtafclmbecmgbnaaGreatDoorMaths
open Bool renaming and_eq_true -> zez
open List renaming range -> zeT, mem_range -> zeU, length_cons -> zef, all_eq_true -> zeV, pairwise_iff_getElem -> zeW, map_congr_left -> zeX
namespace Go.Proofs.YtafclmbecmgbnaaGreatDoor
structure Nd where
 keys : List Int
 vals : List ByteArray
 kids : List Int
def Nd.empty : Nd := ⟨[], [], []⟩
def zbS (l : List Int) (i : Nat) : Bool := decide (0 <= l.getD i 0) && decide (l.getD i 0 <= 4294967295) && (decide (i = 0) || decide (l.getD (i - 1) 0 < l.getD i 0))
def jT (l : List Int) : Bool := (zeT l.length).all (zbS l)
def ke (v : ByteArray) : Bool := decide (v.size = 12)
def zbT (l : List Int) (i : Nat) : Bool := decide (2 <= l.getD i 0) && decide (l.getD i 0 <= 239) && (zeT i).all fun k => !decide (l.getD k 0 = l.getD i 0)
def kY (l : List Int) : Bool := (zeT l.length).all (zbT l)
def zJ (x : Nd) : Bool :=
 jT x.keys && decide (x.keys.length <= 7) &&
  (if x.kids.length = 0 then x.vals.all ke && decide (x.vals.length = x.keys.length)
   else kY x.kids && decide (x.vals.length = 0) && decide (1 <= x.keys.length) && decide (x.kids.length = x.keys.length + 1))
theorem wG {l : List Int} : jT l = true ↔ (∀ z ∈ l, 0 <= z /\ z <= 4294967295) /\ l.Pairwise (· < ·) := by
 have hat : ∀ i (h : i < l.length), l.getD i 0 = l[i] := fun i h => by simp [List.getD_eq_getElem?_getD, h]
 unfold jT;rw [zeV];constructor
 ·intro h;have h1 : ∀ i (hi : i < l.length), (0 <= l[i] /\ l[i] <= 4294967295) /\ ∀ (h0 : 0 < i), l[i - 1]'(by omega) < l[i] := fun i hi => by
   have := h i (zeU.2 hi);unfold zbS at this;simp only [zez, Bool.or_eq_true, decide_eq_true_eq, hat i hi] at this;refine ⟨this.1, fun h0 => ?_⟩;rcases this.2 with h2 | h2
   ·omega
   ·rwa [hat (i - 1) (by omega)] at h2
  refine ⟨fun z hz => ?_, ?_⟩
  ·obtain ⟨i, hi, rfl⟩ := List.mem_iff_getElem.1 hz;exact (h1 i hi).1
  ·rw [zeW];intro i j hi hj hij;induction j with
   | zero => omega
   | succ j ih =>
    have h2 : l[j]'(by omega) < l[j + 1] := (h1 (j + 1) hj).2 (by omega);rcases Nat.lt_or_ge i j with h3 | h3
    ·exact Int.lt_trans (ih (by omega) h3) h2
    ·obtain rfl : i = j := by omega
     exact h2
 ·rintro ⟨h1, h2⟩ i hi;have hi := zeU.1 hi;unfold zbS;simp only [zez, Bool.or_eq_true, decide_eq_true_eq, hat i hi];refine ⟨h1 _ (List.getElem_mem _), ?_⟩;rcases Nat.eq_zero_or_pos i with h0 | h0
  ·exact .inl h0
  ·rw [hat (i - 1) (by omega)];exact .inr (zeW.1 h2 (i - 1) i (by omega) hi (by omega))
theorem kD {l : List Int} : kY l = true ↔ (∀ z ∈ l, 2 <= z /\ z <= 239) /\ l.Pairwise (· ≠ ·) := by
 have hat : ∀ i (h : i < l.length), l.getD i 0 = l[i] := fun i h => by simp [List.getD_eq_getElem?_getD, h]
 unfold kY;rw [zeV];constructor
 ·intro h;have h1 : ∀ i (hi : i < l.length), (2 <= l[i] /\ l[i] <= 239) /\ ∀ k (hk : k < i), l[k]'(by omega) ≠ l[i] := fun i hi => by
   have := h i (zeU.2 hi);unfold zbT at this;simp only [zez, decide_eq_true_eq, hat i hi, zeV, Bool.not_eq_true', decide_eq_false_iff_not] at this;refine ⟨this.1, fun k hk => ?_⟩;have := this.2 k (zeU.2 hk)
   rwa [hat k (by omega)] at this
  refine ⟨fun z hz => ?_, ?_⟩
  ·obtain ⟨i, hi, rfl⟩ := List.mem_iff_getElem.1 hz;exact (h1 i hi).1
  ·rw [zeW];intro i j hi hj hij;exact (h1 j hj).2 i hij
 ·rintro ⟨h1, h2⟩ i hi;have hi := zeU.1 hi;unfold zbT;simp only [zez, decide_eq_true_eq, hat i hi, zeV, Bool.not_eq_true', decide_eq_false_iff_not];refine ⟨h1 _ (List.getElem_mem _), fun k hk => ?_⟩;have hk := zeU.1 hk;rw [hat k (by omega)];exact zeW.1 h2 k i (by omega) hi hk
def xY (l : List Int) : List UInt8 := l.flatMap fun z => be 4 z.toNat
def xM (l : List ByteArray) : List UInt8 := l.flatMap fun v => v.data.toList
def vB (l : List Int) : List UInt8 := l.map fun z => UInt8.ofNat z.toNat
def vK (x : Nd) : List UInt8 := (if x.kids.length = 0 then (0 : UInt8) else 1) :: UInt8.ofNat x.keys.length :: (xY x.keys ++ xM x.vals ++ vB x.kids)
theorem vn (l : List Int) : (xY l).length = 4 * l.length := by
 induction l with
 | nil => rfl
 | cons z r ih => simp only [xY, List.flatMap_cons, List.length_append, yB, zef] at ih ⊢; omega
theorem Yb {l : List ByteArray} (h : l.all ke = true) : (xM l).length = 12 * l.length := by
 induction l with
 | nil => rfl
 | cons v r ih =>
  rw [List.all_cons, zez] at h;have h1 : v.data.toList.length = 12 := by simpa [ke] using h.1
  have := ih h.2;simp only [xM, List.flatMap_cons, List.length_append, zef] at this ⊢;omega
theorem ZW (l : List Int) : (vB l).length = l.length := by simp [vB]
def X6 (leaf : Bool) (k : Nat) : Nat := if leaf then 2 + 16 * k else 3 + 5 * k
theorem zl {x : Nd} (h : zJ x = true) : jT x.keys = true /\ x.keys.length <= 7 /\
  ((x.kids = [] /\ x.vals.all ke = true /\ x.vals.length = x.keys.length) \/ (x.kids ≠ [] /\ kY x.kids = true /\ x.vals = [] /\ 1 <= x.keys.length /\ x.kids.length = x.keys.length + 1)) := by
 unfold zJ at h;simp only [zez, decide_eq_true_eq] at h;refine ⟨h.1.1, h.1.2, ?_⟩;have h2 := h.2;by_cases hk : x.kids.length = 0
 ·rw [if_pos hk] at h2;simp only [zez, decide_eq_true_eq] at h2;exact .inl ⟨List.length_eq_zero_iff.1 hk, h2.1, h2.2⟩
 ·rw [if_neg hk] at h2;simp only [zez, decide_eq_true_eq] at h2;exact .inr ⟨fun e => hk (by rw [e]; rfl), h2.1.1.1, List.length_eq_zero_iff.1 h2.1.1.2, h2.1.2, h2.2⟩
theorem qx {x : Nd} (h : zJ x = true) : (vK x).length = X6 (decide (x.kids.length = 0)) x.keys.length := by
 obtain ⟨_, _, h3⟩ := zl h;unfold vK X6;simp only [zef, List.length_append, vn, ZW];rcases h3 with ⟨h4, h5, h6⟩ | ⟨h4, h5, h6, h7, h8⟩
 ·rw [Yb h5, h4];simp;omega
 ·rw [h6];have : x.kids.length ≠ 0 := by omega
  simp [xM, this];omega
def jU (k : Nat) (r : List UInt8) : List Int := (zeT k).map fun i => (num ((r.drop (4 * i)).take 4) : Int)
def zcg (k : Nat) (r : List UInt8) : List ByteArray := (zeT k).map fun i => ⟨((r.drop (4 * k + 12 * i)).take 12).toArray⟩
def zbw (k : Nat) (r : List UInt8) : List Int := (r.drop (4 * k)).map fun c => (c.toNat : Int)
def qA (leaf : Bool) (k : Nat) (r : List UInt8) : Nd := ⟨jU k r, if leaf then zcg k r else [], if leaf then [] else zbw k r⟩
def jS (s : List UInt8) : Option (Bool × Nat × List UInt8) :=
 match s with
 | a :: b :: r => if a <= 1 /\ b <= 7 /\ s.length = X6 (decide (a = 0)) b.toNat then some (decide (a = 0), b.toNat, r) else none
 | _ => none
def yc (s : List UInt8) : Option Nd := (jS s).bind fun h => if zJ (qA h.1 h.2.1 h.2.2) = true then some (qA h.1 h.2.1 h.2.2) else none
theorem Q0 {l : List Int} (h : ∀ z ∈ l, 0 <= z /\ z <= 4294967295) (r : List UInt8) : jU l.length (xY l ++ r) = l := by
 induction l with
 | nil => rfl
 | cons z t ih =>
  have hz := h z (by simp);unfold jU;rw [zef, List.range_succ_eq_map, List.map_cons, List.map_map];have hb : (be 4 z.toNat).length = 4 := yB _ _;have e : xY (z :: t) ++ r = be 4 z.toNat ++ (xY t ++ r) := by simp [xY]
  rw [e];refine List.cons_eq_cons.2 ⟨?_, ?_⟩
  ·rw [Nat.mul_zero, List.drop_zero, List.take_left' hb, JF (by omega)];omega
  ·have := ih fun y hy => h y (by simp [hy])
   unfold jU at this;refine Eq.trans (zeX fun i _ => ?_) this;show ((num (((be 4 z.toNat ++ (xY t ++ r)).drop (4 * (i + 1))).take 4) : Nat) : Int) = _;rw [List.drop_append, List.drop_eq_nil_of_le (by omega), hb, List.nil_append];congr 3
theorem zch {l : List ByteArray} (h : l.all ke = true) (r : List UInt8) : ((zeT l.length).map fun i => (⟨(((xM l ++ r).drop (12 * i)).take 12).toArray⟩ : ByteArray)) = l := by
 induction l with
 | nil => rfl
 | cons v t ih =>
  rw [List.all_cons, zez] at h;have hb : v.data.toList.length = 12 := by simpa [ke] using h.1
  rw [zef, List.range_succ_eq_map, List.map_cons, List.map_map];have e : xM (v :: t) ++ r = v.data.toList ++ (xM t ++ r) := by simp [xM]
  rw [e];refine List.cons_eq_cons.2 ⟨?_, ?_⟩
  ·rw [Nat.mul_zero, List.drop_zero, List.take_left' hb]
  ·refine Eq.trans (zeX fun i _ => ?_) (ih h.2);show (⟨(((v.data.toList ++ (xM t ++ r)).drop (12 * (i + 1))).take 12).toArray⟩ : ByteArray) = _;rw [List.drop_append, List.drop_eq_nil_of_le (by omega), hb, List.nil_append];congr 4
theorem zaC {ks : List Int} {l : List ByteArray} (hl : l.length = ks.length) (h : l.all ke = true) (r : List UInt8) : zcg ks.length (xY ks ++ (xM l ++ r)) = l := by
 have := zch h r;unfold zcg;rw [hl] at this;refine Eq.trans (zeX fun i _ => ?_) this;rw [<- List.drop_drop, List.drop_left' (vn ks)]
theorem Q2 {ks l : List Int} (h : ∀ z ∈ l, 2 <= z /\ z <= 239) : zbw ks.length (xY ks ++ vB l) = l := by
 unfold zbw;rw [List.drop_left' (vn ks)];unfold vB;rw [List.map_map];refine (zeX fun z hz => ?_).trans (List.map_id l);have := h z hz;show (((UInt8.ofNat z.toNat).toNat : Nat) : Int) = z;rw [UInt8.toNat_ofNat'];omega
theorem QY {x : Nd} (h : zJ x = true) : jS (vK x) = some (decide (x.kids.length = 0), x.keys.length, xY x.keys ++ xM x.vals ++ vB x.kids) := by
 have hl := qx h;have h7 := (zl h).2.1;have hb : (UInt8.ofNat x.keys.length).toNat = x.keys.length := by rw [UInt8.toNat_ofNat']; omega
 have hb7 : UInt8.ofNat x.keys.length <= 7 := by
  rw [UInt8.le_iff_toNat_le, hb];exact h7
 unfold vK at hl ⊢;unfold jS;simp only;by_cases hk : x.kids.length = 0
 ·simp only [hk, if_true] at hl ⊢;rw [if_pos ⟨by decide, hb7, by rw [hl, hb]⟩, hb]
 ·simp only [hk, if_false] at hl ⊢;rw [if_pos ⟨by decide, hb7, by rw [hl, hb]; rfl⟩, hb];simp
theorem zab {x : Nd} (h : zJ x = true) : qA (decide (x.kids.length = 0)) x.keys.length (xY x.keys ++ xM x.vals ++ vB x.kids) = x := by
 obtain ⟨h1, h2, h3⟩ := zl h;have hk := (wG.1 h1).1;obtain ⟨keys, vals, kids⟩ := x;simp only at h1 h2 h3 hk ⊢;unfold qA;rw [List.append_assoc, Q0 hk];rcases h3 with ⟨rfl, h5, h6⟩ | ⟨h4, h5, rfl, h7, h8⟩
 ·rw [zaC h6 h5];simp
 ·have h0 : kids.length ≠ 0 := by omega
  have := Q2 (ks := keys) (kD.1 h5).1;simp [h0, xM, this]
theorem zaj {x : Nd} (h : zJ x = true) : yc (vK x) = some x := by
 unfold yc;rw [QY h, Option.bind_some];simp only [zab h, if_pos h]
theorem xh {s : List UInt8} (h : jS s = none) : yc s = none := by unfold yc; rw [h]; rfl
theorem Wv {s r : List UInt8} {l : Bool} {k : Nat} (h : jS s = some (l, k, r)) : yc s = if zJ (qA l k r) = true then some (qA l k r) else none := by unfold yc; rw [h]; rfl
theorem jb {s : List UInt8} {x : Nd} (h : yc s = some x) : zJ x = true := by
 unfold yc at h;cases hh : jS s with
 | none => rw [hh] at h; cases h
 | some v =>
  rw [hh, Option.bind_some] at h;split at h
  ·rename_i hr
   cases h;exact hr
  ·cases h
theorem JQ {keys : List Int} {vals : List ByteArray} (h1 : jT keys = true) (h2 : keys.length <= 7) (h3 : vals.all ke = true) (h4 : vals.length = keys.length) : zJ ⟨keys, vals, []⟩ = true := by
 unfold zJ;simp [h1, h2, h3, h4]
def less (keys : List Int) (key : Int) : Nat := (keys.takeWhile fun z => decide (z < key)).length
theorem ZY {keys : List Int} (h : keys.Pairwise (· < ·)) (key : Int) {i : Nat} (hi : i < keys.length) : (keys[i] < key ↔ i < less keys key) := by
 induction keys generalizing i with
 | nil => cases hi
 | cons z t ih =>
  unfold less;rw [List.pairwise_cons] at h;by_cases hz : z < key
  ·rw [List.takeWhile_cons_of_pos (by simpa using hz)];cases i with
   | zero => simp [hz]
   | succ i =>
    have := ih h.2 (i := i) (by simpa using hi);unfold less at this;simp only [List.getElem_cons_succ, zef];rw [this];omega
  ·rw [List.takeWhile_cons_of_neg (by simpa using hz)];have hle : ∀ y ∈ z :: t, ¬ y < key := fun y hy => by
    rcases List.mem_cons.1 hy with rfl | hy
    ·exact hz
    ·have := h.1 y hy;omega
   have := hle _ (List.getElem_mem hi);simp [this]
theorem qS (keys : List Int) (key : Int) : less keys key <= keys.length := (List.takeWhile_sublist _).length_le
def yq (x : Nd) (key : Int) : Nat × Bool := if zJ x = true then (less x.keys key, decide (x.keys[less x.keys key]? = some key)) else (0, false)
theorem Vt {keys : List Int} (h : keys.Pairwise (· < ·)) (key : Int) {k : Nat} (hk : k <= keys.length) (h1 : ∀ i (hi : i < k), keys[i]'(by omega) < key) (h2 : ∀ (hi : k < keys.length), ¬ keys[k] < key) : less keys key = k := by
 have hl := qS keys key;rcases Nat.lt_trichotomy (less keys key) k with h3 | h3 | h3
 ·have := (ZY h key (i := less keys key) (by omega)).1 (h1 _ h3);omega
 ·exact h3
 ·exact absurd ((ZY h key (i := k) (by omega)).2 h3) (h2 (by omega))
end Go.Proofs.YtafclmbecmgbnaaGreatDoor
