/-
 NodeMath. Conditions: as each theorem says.
-/
import Derived.Test.YtafclmbecmgbnaaGreatDoorMaths
namespace Go.Proofs.YtafclmbecmgbnaaGreatDoor
structure Nd where
 keys : List Int
 vals : List ByteArray
 kids : List Int
def Nd.empty : Nd := ⟨[], [], []⟩
def okKey (l : List Int) (i : Nat) : Bool := decide (0 ≤ l.getD i 0) && decide (l.getD i 0 ≤ 4294967295) && (decide (i = 0) || decide (l.getD (i - 1) 0 < l.getD i 0))
def keysB (l : List Int) : Bool := (List.range l.length).all (okKey l)
def okVal (v : ByteArray) : Bool := decide (v.size = 12)
def okKid (l : List Int) (i : Nat) : Bool := decide (2 ≤ l.getD i 0) && decide (l.getD i 0 ≤ 239) && (List.range i).all fun k => !decide (l.getD k 0 = l.getD i 0)
def kidsB (l : List Int) : Bool := (List.range l.length).all (okKid l)
def rightN (x : Nd) : Bool :=
 keysB x.keys && decide (x.keys.length ≤ 7) &&
  (if x.kids.length = 0 then x.vals.all okVal && decide (x.vals.length = x.keys.length)
   else kidsB x.kids && decide (x.vals.length = 0) && decide (1 ≤ x.keys.length) && decide (x.kids.length = x.keys.length + 1))
theorem keysB_iff {l : List Int} : keysB l = true ↔ (∀ z ∈ l, 0 ≤ z ∧ z ≤ 4294967295) ∧ l.Pairwise (· < ·) := by
 have hat : ∀ i (h : i < l.length), l.getD i 0 = l[i] := fun i h => by simp [List.getD_eq_getElem?_getD, h]
 unfold keysB
 rw [List.all_eq_true]
 constructor
 ·intro h
  have h1 : ∀ i (hi : i < l.length), (0 ≤ l[i] ∧ l[i] ≤ 4294967295) ∧ ∀ (h0 : 0 < i), l[i - 1]'(by omega) < l[i] := fun i hi => by
   have := h i (List.mem_range.2 hi)
   unfold okKey at this
   simp only [Bool.and_eq_true, Bool.or_eq_true, decide_eq_true_eq, hat i hi] at this
   refine ⟨this.1, fun h0 => ?_⟩
   rcases this.2 with h2 | h2
   ·omega
   ·rwa [hat (i - 1) (by omega)] at h2
  refine ⟨fun z hz => ?_, ?_⟩
  ·obtain ⟨i, hi, rfl⟩ := List.mem_iff_getElem.1 hz
   exact (h1 i hi).1
  ·rw [List.pairwise_iff_getElem]
   intro i j hi hj hij
   induction j with
   | zero => omega
   | succ j ih =>
    have h2 : l[j]'(by omega) < l[j + 1] := (h1 (j + 1) hj).2 (by omega)
    rcases Nat.lt_or_ge i j with h3 | h3
    ·exact Int.lt_trans (ih (by omega) h3) h2
    ·obtain rfl : i = j := by omega
     exact h2
 ·rintro ⟨h1, h2⟩ i hi
  have hi := List.mem_range.1 hi
  unfold okKey
  simp only [Bool.and_eq_true, Bool.or_eq_true, decide_eq_true_eq, hat i hi]
  refine ⟨h1 _ (List.getElem_mem _), ?_⟩
  rcases Nat.eq_zero_or_pos i with h0 | h0
  ·exact .inl h0
  ·rw [hat (i - 1) (by omega)]
   exact .inr (List.pairwise_iff_getElem.1 h2 (i - 1) i (by omega) hi (by omega))
theorem kidsB_iff {l : List Int} : kidsB l = true ↔ (∀ z ∈ l, 2 ≤ z ∧ z ≤ 239) ∧ l.Pairwise (· ≠ ·) := by
 have hat : ∀ i (h : i < l.length), l.getD i 0 = l[i] := fun i h => by simp [List.getD_eq_getElem?_getD, h]
 unfold kidsB
 rw [List.all_eq_true]
 constructor
 ·intro h
  have h1 : ∀ i (hi : i < l.length), (2 ≤ l[i] ∧ l[i] ≤ 239) ∧ ∀ k (hk : k < i), l[k]'(by omega) ≠ l[i] := fun i hi => by
   have := h i (List.mem_range.2 hi)
   unfold okKid at this
   simp only [Bool.and_eq_true, decide_eq_true_eq, hat i hi, List.all_eq_true, Bool.not_eq_true', decide_eq_false_iff_not] at this
   refine ⟨this.1, fun k hk => ?_⟩
   have := this.2 k (List.mem_range.2 hk)
   rwa [hat k (by omega)] at this
  refine ⟨fun z hz => ?_, ?_⟩
  ·obtain ⟨i, hi, rfl⟩ := List.mem_iff_getElem.1 hz
   exact (h1 i hi).1
  ·rw [List.pairwise_iff_getElem]
   intro i j hi hj hij
   exact (h1 j hj).2 i hij
 ·rintro ⟨h1, h2⟩ i hi
  have hi := List.mem_range.1 hi
  unfold okKid
  simp only [Bool.and_eq_true, decide_eq_true_eq, hat i hi, List.all_eq_true, Bool.not_eq_true', decide_eq_false_iff_not]
  refine ⟨h1 _ (List.getElem_mem _), fun k hk => ?_⟩
  have hk := List.mem_range.1 hk
  rw [hat k (by omega)]
  exact List.pairwise_iff_getElem.1 h2 k i (by omega) hi hk
def keysD (l : List Int) : List UInt8 := l.flatMap fun z => be 4 z.toNat
def valsD (l : List ByteArray) : List UInt8 := l.flatMap fun v => v.data.toList
def kidsD (l : List Int) : List UInt8 := l.map fun z => UInt8.ofNat z.toNat
def layN (x : Nd) : List UInt8 := (if x.kids.length = 0 then (0 : UInt8) else 1) :: UInt8.ofNat x.keys.length :: (keysD x.keys ++ valsD x.vals ++ kidsD x.kids)
theorem keysD_length (l : List Int) : (keysD l).length = 4 * l.length := by
 induction l with
 | nil => rfl
 | cons z r ih => simp only [keysD, List.flatMap_cons, List.length_append, be_length, List.length_cons] at ih ⊢; omega
theorem valsD_length {l : List ByteArray} (h : l.all okVal = true) : (valsD l).length = 12 * l.length := by
 induction l with
 | nil => rfl
 | cons v r ih =>
  rw [List.all_cons, Bool.and_eq_true] at h
  have h1 : v.data.toList.length = 12 := by simpa [okVal] using h.1
  have := ih h.2
  simp only [valsD, List.flatMap_cons, List.length_append, List.length_cons] at this ⊢
  omega
theorem kidsD_length (l : List Int) : (kidsD l).length = l.length := by simp [kidsD]
def sizeN (leaf : Bool) (k : Nat) : Nat := if leaf then 2 + 16 * k else 3 + 5 * k
theorem right_parts {x : Nd} (h : rightN x = true) : keysB x.keys = true ∧ x.keys.length ≤ 7 ∧
  ((x.kids = [] ∧ x.vals.all okVal = true ∧ x.vals.length = x.keys.length) ∨ (x.kids ≠ [] ∧ kidsB x.kids = true ∧ x.vals = [] ∧ 1 ≤ x.keys.length ∧ x.kids.length = x.keys.length + 1)) := by
 unfold rightN at h
 simp only [Bool.and_eq_true, decide_eq_true_eq] at h
 refine ⟨h.1.1, h.1.2, ?_⟩
 have h2 := h.2
 by_cases hk : x.kids.length = 0
 ·rw [if_pos hk] at h2
  simp only [Bool.and_eq_true, decide_eq_true_eq] at h2
  exact .inl ⟨List.length_eq_zero_iff.1 hk, h2.1, h2.2⟩
 ·rw [if_neg hk] at h2
  simp only [Bool.and_eq_true, decide_eq_true_eq] at h2
  exact .inr ⟨fun e => hk (by rw [e]; rfl), h2.1.1.1, List.length_eq_zero_iff.1 h2.1.1.2, h2.1.2, h2.2⟩
theorem layN_length {x : Nd} (h : rightN x = true) : (layN x).length = sizeN (decide (x.kids.length = 0)) x.keys.length := by
 obtain ⟨_, _, h3⟩ := right_parts h
 unfold layN sizeN
 simp only [List.length_cons, List.length_append, keysD_length, kidsD_length]
 rcases h3 with ⟨h4, h5, h6⟩ | ⟨h4, h5, h6, h7, h8⟩
 ·rw [valsD_length h5, h4]
  simp
  omega
 ·rw [h6]
  have : x.kids.length ≠ 0 := by omega
  simp [valsD, this]
  omega
def keysR (k : Nat) (r : List UInt8) : List Int := (List.range k).map fun i => (num ((r.drop (4 * i)).take 4) : Int)
def valsR (k : Nat) (r : List UInt8) : List ByteArray := (List.range k).map fun i => ⟨((r.drop (4 * k + 12 * i)).take 12).toArray⟩
def kidsR (k : Nat) (r : List UInt8) : List Int := (r.drop (4 * k)).map fun c => (c.toNat : Int)
def nodeR (leaf : Bool) (k : Nat) (r : List UInt8) : Nd := ⟨keysR k r, if leaf then valsR k r else [], if leaf then [] else kidsR k r⟩
def headN (s : List UInt8) : Option (Bool × Nat × List UInt8) :=
 match s with
 | a :: b :: r => if a ≤ 1 ∧ b ≤ 7 ∧ s.length = sizeN (decide (a = 0)) b.toNat then some (decide (a = 0), b.toNat, r) else none
 | _ => none
def readN (s : List UInt8) : Option Nd := (headN s).bind fun h => if rightN (nodeR h.1 h.2.1 h.2.2) = true then some (nodeR h.1 h.2.1 h.2.2) else none
theorem keysR_lay {l : List Int} (h : ∀ z ∈ l, 0 ≤ z ∧ z ≤ 4294967295) (r : List UInt8) : keysR l.length (keysD l ++ r) = l := by
 induction l with
 | nil => rfl
 | cons z t ih =>
  have hz := h z (by simp)
  unfold keysR
  rw [List.length_cons, List.range_succ_eq_map, List.map_cons, List.map_map]
  have hb : (be 4 z.toNat).length = 4 := be_length _ _
  have e : keysD (z :: t) ++ r = be 4 z.toNat ++ (keysD t ++ r) := by simp [keysD]
  rw [e]
  refine List.cons_eq_cons.2 ⟨?_, ?_⟩
  ·rw [Nat.mul_zero, List.drop_zero, List.take_left' hb, num_be (by omega)]
   omega
  ·have := ih fun y hy => h y (by simp [hy])
   unfold keysR at this
   refine Eq.trans (List.map_congr_left fun i _ => ?_) this
   show ((num (((be 4 z.toNat ++ (keysD t ++ r)).drop (4 * (i + 1))).take 4) : Nat) : Int) = _
   rw [List.drop_append, List.drop_eq_nil_of_le (by omega), hb, List.nil_append]
   congr 3
theorem valsR_go {l : List ByteArray} (h : l.all okVal = true) (r : List UInt8) : ((List.range l.length).map fun i => (⟨(((valsD l ++ r).drop (12 * i)).take 12).toArray⟩ : ByteArray)) = l := by
 induction l with
 | nil => rfl
 | cons v t ih =>
  rw [List.all_cons, Bool.and_eq_true] at h
  have hb : v.data.toList.length = 12 := by simpa [okVal] using h.1
  rw [List.length_cons, List.range_succ_eq_map, List.map_cons, List.map_map]
  have e : valsD (v :: t) ++ r = v.data.toList ++ (valsD t ++ r) := by simp [valsD]
  rw [e]
  refine List.cons_eq_cons.2 ⟨?_, ?_⟩
  ·rw [Nat.mul_zero, List.drop_zero, List.take_left' hb]
  ·refine Eq.trans (List.map_congr_left fun i _ => ?_) (ih h.2)
   show (⟨(((v.data.toList ++ (valsD t ++ r)).drop (12 * (i + 1))).take 12).toArray⟩ : ByteArray) = _
   rw [List.drop_append, List.drop_eq_nil_of_le (by omega), hb, List.nil_append]
   congr 4
theorem valsR_lay {ks : List Int} {l : List ByteArray} (hl : l.length = ks.length) (h : l.all okVal = true) (r : List UInt8) : valsR ks.length (keysD ks ++ (valsD l ++ r)) = l := by
 have := valsR_go h r
 unfold valsR
 rw [hl] at this
 refine Eq.trans (List.map_congr_left fun i _ => ?_) this
 rw [← List.drop_drop, List.drop_left' (keysD_length ks)]
theorem kidsR_lay {ks l : List Int} (h : ∀ z ∈ l, 2 ≤ z ∧ z ≤ 239) : kidsR ks.length (keysD ks ++ kidsD l) = l := by
 unfold kidsR
 rw [List.drop_left' (keysD_length ks)]
 unfold kidsD
 rw [List.map_map]
 refine (List.map_congr_left fun z hz => ?_).trans (List.map_id l)
 have := h z hz
 show (((UInt8.ofNat z.toNat).toNat : Nat) : Int) = z
 rw [UInt8.toNat_ofNat']
 omega
theorem headN_lay {x : Nd} (h : rightN x = true) : headN (layN x) = some (decide (x.kids.length = 0), x.keys.length, keysD x.keys ++ valsD x.vals ++ kidsD x.kids) := by
 have hl := layN_length h
 have h7 := (right_parts h).2.1
 have hb : (UInt8.ofNat x.keys.length).toNat = x.keys.length := by rw [UInt8.toNat_ofNat']; omega
 have hb7 : UInt8.ofNat x.keys.length ≤ 7 := by
  rw [UInt8.le_iff_toNat_le, hb]
  exact h7
 unfold layN at hl ⊢
 unfold headN
 simp only
 by_cases hk : x.kids.length = 0
 ·simp only [hk, if_true] at hl ⊢
  rw [if_pos ⟨by decide, hb7, by rw [hl, hb]⟩, hb]
 ·simp only [hk, if_false] at hl ⊢
  rw [if_pos ⟨by decide, hb7, by rw [hl, hb]; rfl⟩, hb]
  simp
theorem nodeR_lay {x : Nd} (h : rightN x = true) : nodeR (decide (x.kids.length = 0)) x.keys.length (keysD x.keys ++ valsD x.vals ++ kidsD x.kids) = x := by
 obtain ⟨h1, h2, h3⟩ := right_parts h
 have hk := (keysB_iff.1 h1).1
 obtain ⟨keys, vals, kids⟩ := x
 simp only at h1 h2 h3 hk ⊢
 unfold nodeR
 rw [List.append_assoc, keysR_lay hk]
 rcases h3 with ⟨rfl, h5, h6⟩ | ⟨h4, h5, rfl, h7, h8⟩
 ·rw [valsR_lay h6 h5]
  simp
 ·have h0 : kids.length ≠ 0 := by omega
  have := kidsR_lay (ks := keys) (kidsB_iff.1 h5).1
  simp [h0, valsD, this]
theorem readN_lay {x : Nd} (h : rightN x = true) : readN (layN x) = some x := by
 unfold readN
 rw [headN_lay h, Option.bind_some]
 simp only [nodeR_lay h, if_pos h]
theorem readN_none_head {s : List UInt8} (h : headN s = none) : readN s = none := by unfold readN; rw [h]; rfl
theorem readN_of_head {s r : List UInt8} {l : Bool} {k : Nat} (h : headN s = some (l, k, r)) : readN s = if rightN (nodeR l k r) = true then some (nodeR l k r) else none := by unfold readN; rw [h]; rfl
theorem readN_right {s : List UInt8} {x : Nd} (h : readN s = some x) : rightN x = true := by
 unfold readN at h
 cases hh : headN s with
 | none => rw [hh] at h; cases h
 | some v =>
  rw [hh, Option.bind_some] at h
  split at h
  ·rename_i hr
   cases h
   exact hr
  ·cases h
theorem right_leaf {keys : List Int} {vals : List ByteArray} (h1 : keysB keys = true) (h2 : keys.length ≤ 7) (h3 : vals.all okVal = true) (h4 : vals.length = keys.length) : rightN ⟨keys, vals, []⟩ = true := by
 unfold rightN
 simp [h1, h2, h3, h4]
def less (keys : List Int) (key : Int) : Nat := (keys.takeWhile fun z => decide (z < key)).length
theorem less_at {keys : List Int} (h : keys.Pairwise (· < ·)) (key : Int) {i : Nat} (hi : i < keys.length) : (keys[i] < key ↔ i < less keys key) := by
 induction keys generalizing i with
 | nil => cases hi
 | cons z t ih =>
  unfold less
  rw [List.pairwise_cons] at h
  by_cases hz : z < key
  ·rw [List.takeWhile_cons_of_pos (by simpa using hz)]
   cases i with
   | zero => simp [hz]
   | succ i =>
    have := ih h.2 (i := i) (by simpa using hi)
    unfold less at this
    simp only [List.getElem_cons_succ, List.length_cons]
    rw [this]
    omega
  ·rw [List.takeWhile_cons_of_neg (by simpa using hz)]
   have hle : ∀ y ∈ z :: t, ¬ y < key := fun y hy => by
    rcases List.mem_cons.1 hy with rfl | hy
    ·exact hz
    ·have := h.1 y hy
     omega
   have := hle _ (List.getElem_mem hi)
   simp [this]
theorem less_le (keys : List Int) (key : Int) : less keys key ≤ keys.length := (List.takeWhile_sublist _).length_le
def seekN (x : Nd) (key : Int) : Nat × Bool := if rightN x = true then (less x.keys key, decide (x.keys[less x.keys key]? = some key)) else (0, false)
theorem less_of {keys : List Int} (h : keys.Pairwise (· < ·)) (key : Int) {k : Nat} (hk : k ≤ keys.length) (h1 : ∀ i (hi : i < k), keys[i]'(by omega) < key) (h2 : ∀ (hi : k < keys.length), ¬ keys[k] < key) : less keys key = k := by
 have hl := less_le keys key
 rcases Nat.lt_trichotomy (less keys key) k with h3 | h3 | h3
 ·have := (less_at h key (i := less keys key) (by omega)).1 (h1 _ h3)
  omega
 ·exact h3
 ·exact absurd ((less_at h key (i := k) (by omega)).2 h3) (h2 (by omega))
end Go.Proofs.YtafclmbecmgbnaaGreatDoor
