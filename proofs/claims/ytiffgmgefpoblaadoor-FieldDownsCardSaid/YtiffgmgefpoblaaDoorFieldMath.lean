/-
  Fields of costs on a map, as plain mathematics: ways of so many steps, what is found by taking the least out, by going over all, and the way down. Conditions: none beyond the premises of each theorem.
-/
import Derived.Test.YtiffgmgefpoblaaDoorGridMath
import Derived.Test.YtiffgmgefpoblaaDoorHeapMath
namespace Fld
open Grid Hp

/-- from an open source in so many steps -/
inductive Walk (xs : List UInt8) (w : Nat) (S : List Int) : Nat → Nat → Prop
  | src {i : Nat} : (i : Int) ∈ S → openAt xs i = true → Walk xs w S 0 i
  | step {k i j : Nat} : Walk xs w S k i → beside w i j = true → openAt xs j = true → Walk xs w S (k + 1) j
def Least (xs : List UInt8) (w : Nat) (S : List Int) (k i : Nat) : Prop := Walk xs w S k i ∧ ∀ m, Walk xs w S m i → k ≤ m
section
variable {xs : List UInt8} {w : Nat} {S : List Int}
theorem Walk.open_ {k i : Nat} (h : Walk xs w S k i) : openAt xs i = true := by cases h <;> assumption
theorem Walk.lt {k i : Nat} (h : Walk xs w S k i) : i < xs.length := openAt_lt h.open_
theorem Walk.zero {i : Nat} (h : Walk xs w S 0 i) : (i : Int) ∈ S := by cases h; assumption
theorem Walk.pred {k j : Nat} (h : Walk xs w S (k + 1) j) : ∃ i, Walk xs w S k i ∧ beside w i j = true := by
  cases h with
  | step a b c => exact ⟨_, a, b⟩
theorem least_of : ∀ {m i : Nat}, Walk xs w S m i → ∃ k, k ≤ m ∧ Least xs w S k i := by
  intro m
  induction m using Nat.strongRecOn with
  | ind m ih =>
    intro i h
    by_cases hl : ∃ k, k < m ∧ Walk xs w S k i
    · obtain ⟨k, h1, h2⟩ := hl
      obtain ⟨r, h3, h4⟩ := ih k h1 h2
      exact ⟨r, by omega, h4⟩
    · refine ⟨m, Nat.le_refl _, h, fun r hr => ?_⟩
      by_cases hlt : r < m
      · exact absurd ⟨r, hlt, hr⟩ hl
      · omega
theorem Least.uniq {k m i : Nat} (h1 : Least xs w S k i) (h2 : Least xs w S m i) : k = m := Nat.le_antisymm (h1.2 _ h2.1) (h2.2 _ h1.1)
theorem Least.pred {k j : Nat} (h : Least xs w S (k + 1) j) : ∃ i, Least xs w S k i ∧ beside w i j = true := by
  obtain ⟨i, h1, h2⟩ := h.1.pred
  refine ⟨i, ⟨h1, fun m hm => ?_⟩, h2⟩
  have := h.2 _ (.step hm h2 h.1.open_)
  omega
theorem Least.next {k m i j : Nat} (h : Least xs w S k i) (h2 : Least xs w S m j) (hb : beside w i j = true) : m ≤ k + 1 := h2.2 _ (.step h.1 hb h2.1.open_)
theorem Least.list : ∀ {k i : Nat}, Least xs w S k i → ∃ l : List Nat, l.Nodup ∧ l.length = k + 1 ∧ (∀ x ∈ l, openAt xs x = true) ∧ ∀ x ∈ l, ∃ m, m ≤ k ∧ Least xs w S m x
  | 0, i, h => ⟨[i], by simp, rfl, by intro x hx; rw [List.mem_singleton.1 hx]; exact h.1.open_, fun x hx => ⟨0, Nat.le_refl _, by rw [List.mem_singleton.1 hx]; exact h⟩⟩
  | k + 1, j, h => by
    obtain ⟨i, h1, _⟩ := h.pred
    obtain ⟨l, a, b, c, d⟩ := Least.list h1
    refine ⟨j :: l, List.nodup_cons.2 ⟨fun hj => ?_, a⟩, by simp [b], fun x hx => ?_, fun x hx => ?_⟩
    · obtain ⟨m, hm, hl⟩ := d j hj
      have := hl.uniq h
      omega
    · rcases List.mem_cons.1 hx with rfl | hx
      · exact h.1.open_
      · exact c x hx
    · rcases List.mem_cons.1 hx with rfl | hx
      · exact ⟨_, Nat.le_refl _, h⟩
      · obtain ⟨m, hm, hl⟩ := d x hx
        exact ⟨m, by omega, hl⟩
theorem Least.lt {k i : Nat} (h : Least xs w S k i) : k < xs.length := by
  obtain ⟨l, a, b, c, _⟩ := h.list
  have := a.length_le_of_subset (l₂ := List.range xs.length) fun x hx => List.mem_range.2 (openAt_lt (c x hx))
  simp at this
  omega
theorem walk_append {T : List Int} {k i : Nat} : Walk xs w (S ++ T) k i ↔ Walk xs w S k i ∨ Walk xs w T k i := by
  constructor
  · intro h
    induction h with
    | src h ho =>
      rcases List.mem_append.1 h with h | h
      · exact .inl (.src h ho)
      · exact .inr (.src h ho)
    | step _ hb ho ih =>
      rcases ih with ih | ih
      · exact .inl (.step ih hb ho)
      · exact .inr (.step ih hb ho)
  · rintro (h | h)
    · induction h with
      | src h ho => exact .src (List.mem_append.2 (.inl h)) ho
      | step _ hb ho ih => exact .step ih hb ho
    · induction h with
      | src h ho => exact .src (List.mem_append.2 (.inr h)) ho
      | step _ hb ho ih => exact .step ih hb ho
theorem walk_reach {s i : Nat} (hs : openAt xs s = true) (h : Reach xs w (some s) i) : ∃ k, Walk xs w [(s : Int)] k i := by
  induction h with
  | base e => cases e; exact ⟨0, .src (by simp) hs⟩
  | step _ hb ho ih =>
    obtain ⟨k, hk⟩ := ih
    exact ⟨k + 1, .step hk (by rw [beside_comm]; exact hb) ho⟩
theorem no_walk (h : ∀ i : Nat, (i : Int) ∈ S → openAt xs i = false) {k i : Nat} (hw : Walk xs w S k i) : False := by
  induction hw with
  | src h1 h2 => rw [h _ h1] at h2; cases h2
  | step _ _ _ ih => exact ih
end

/-! costs -/
def fat (F : List Int) (i : Nat) : Int := F.getD i (-1)
theorem fat_eq {F : List Int} {i : Nat} (h : i < F.length) : F[i]? = some (fat F i) := by
  unfold fat
  rw [List.getD_eq_getElem?_getD, List.getElem?_eq_getElem h]
  rfl
theorem fat_out {F : List Int} {i : Nat} (h : F.length ≤ i) : fat F i = -1 := by
  unfold fat
  rw [List.getD_eq_getElem?_getD, List.getElem?_eq_none h]
  rfl
theorem fat_lt {F : List Int} {i : Nat} (h : fat F i ≠ -1) : i < F.length := by
  by_cases hl : i < F.length
  · exact hl
  · exact absurd (fat_out (by omega)) h
theorem fat_set {F : List Int} {i j : Nat} {v : Int} (h : i < F.length) : fat (F.set i v) j = if j = i then v else fat F j := by
  unfold fat
  simp only [List.getD_eq_getElem?_getD, List.getElem?_set]
  by_cases e : i = j
  · subst e; simp [h]
  · rw [if_neg e, if_neg (fun x => e x.symm)]
theorem fat_rep (n i : Nat) : fat (List.replicate n (-1)) i = -1 := by
  unfold fat
  rw [List.getD_eq_getElem?_getD, List.getElem?_replicate]
  split <;> rfl
def cnt (F : List Int) : Nat := F.countP fun v => v != -1
theorem cnt_le (F : List Int) : cnt F ≤ F.length := List.countP_le_length
theorem cnt_new : ∀ {F : List Int} {i : Nat} {v : Int}, i < F.length → fat F i = -1 → v ≠ -1 → cnt (F.set i v) = cnt F + 1
  | x :: F, 0, v, _, h, hv => by
    have hx : x = -1 := h
    subst hx
    simp [cnt, hv]
  | x :: F, i + 1, v, hl, h, hv => by
    have := cnt_new (F := F) (i := i) (v := v) (by simpa using hl) h hv
    simp only [cnt, List.set_cons_succ, List.countP_cons] at this ⊢
    omega
theorem cnt_old : ∀ {F : List Int} {i : Nat} {v : Int}, fat F i ≠ -1 → v ≠ -1 → cnt (F.set i v) = cnt F
  | [], i, v, h, hv => by simp
  | x :: F, 0, v, h, hv => by
    have hx : x ≠ -1 := h
    simp [cnt, hv, hx]
  | x :: F, i + 1, v, h, hv => by
    have := cnt_old (F := F) (i := i) (v := v) h hv
    simp only [cnt, List.set_cons_succ, List.countP_cons] at this ⊢
    omega

/-- the field -/
structure IsField (xs : List UInt8) (w : Nat) (S : List Int) (st : Int) (F : List Int) : Prop where
  len : F.length = xs.length
  at_ : ∀ i, (fat F i = -1 ∧ ∀ k, ¬ Walk xs w S k i) ∨ ∃ k : Nat, fat F i = st * k ∧ Least xs w S k i
theorem mul_le {st : Int} {a b : Nat} (h : 1 ≤ st) : st * a ≤ st * b ↔ a ≤ b := by
  constructor
  · intro e
    by_cases hl : a ≤ b
    · exact hl
    · have : st * ((b : Int) + 1) ≤ st * a := Int.mul_le_mul_of_nonneg_left (by omega) (by omega)
      rw [Int.mul_add] at this
      omega
  · intro e; exact Int.mul_le_mul_of_nonneg_left (by omega) (by omega)
theorem mul_eq {st : Int} {a b : Nat} (h : 1 ≤ st) (e : st * (a : Int) = st * b) : a = b := Nat.le_antisymm ((mul_le h).1 (by omega)) ((mul_le h).1 (by omega))
theorem mul_nn {st : Int} (a : Nat) (h : 1 ≤ st) : 0 ≤ st * (a : Int) := Int.mul_nonneg (by omega) (by omega)
theorem mul_ne {st : Int} (a : Nat) (h : 1 ≤ st) : st * (a : Int) ≠ -1 := by have := mul_nn a h; omega
theorem mul_succ (st : Int) (a : Nat) : st * ((a + 1 : Nat) : Int) = st * a + st := by rw [Int.natCast_add, Int.mul_add]; simp
theorem mul_bound {st : Int} {a : Nat} (h2 : st ≤ 100) (ha : a ≤ 1000) : st * (a : Int) ≤ 100000 :=
  Int.le_trans (Int.mul_le_mul h2 (b := (a : Int)) (d := 1000) (by omega) (by omega) (by omega)) (by decide)
section
variable {xs : List UInt8} {w : Nat} {S : List Int} {st : Int} {F G : List Int}
theorem IsField.nn (h : IsField xs w S st F) (hs : 1 ≤ st) {i : Nat} : fat F i = -1 ∨ 0 ≤ fat F i := by
  rcases h.at_ i with h | ⟨k, h, _⟩
  · exact .inl h.1
  · exact .inr (by rw [h]; exact mul_nn k hs)
theorem IsField.walk (h : IsField xs w S st F) {k i : Nat} (hw : Walk xs w S k i) : ∃ m : Nat, m ≤ k ∧ fat F i = st * m ∧ Least xs w S m i := by
  rcases h.at_ i with h | ⟨m, h, h2⟩
  · exact absurd hw (h.2 k)
  · exact ⟨m, h2.2 _ hw, h, h2⟩
theorem IsField.least (h : IsField xs w S st F) {k i : Nat} (hw : Least xs w S k i) : fat F i = st * k := by
  obtain ⟨m, _, h1, h2⟩ := h.walk hw.1
  rw [h1, h2.uniq hw]
theorem IsField.no (h : IsField xs w S st F) {i : Nat} (hw : ∀ k, ¬ Walk xs w S k i) : fat F i = -1 := by
  rcases h.at_ i with h | ⟨m, h, h2⟩
  · exact h.1
  · exact absurd h2.1 (hw m)
theorem IsField.uniq (h : IsField xs w S st F) (g : IsField xs w S st G) : F = G := by
  refine List.ext_getElem? fun i => ?_
  by_cases hi : i < xs.length
  · rw [fat_eq (by rw [h.len]; exact hi), fat_eq (by rw [g.len]; exact hi)]
    congr 1
    rcases h.at_ i with h | ⟨m, h, h2⟩
    · rw [h.1, g.no h.2]
    · rw [h, g.least h2]
  · rw [List.getElem?_eq_none (by rw [h.len]; omega), List.getElem?_eq_none (by rw [g.len]; omega)]

/-! the least is taken out first -/
structure DijE (xs : List UInt8) (w : Nat) (S : List Int) (st : Int) (E : Nat → Nat → Prop) (F : List Int) (L : List Itm) : Prop where
  len : F.length = xs.length
  items : ∀ x ∈ L, ∃ k i : Nat, x = (st * (k : Int), (i : Int)) ∧ Walk xs w S k i ∧ k ≤ cnt F
  fixed : ∀ i, fat F i = -1 ∨ ∃ k : Nat, fat F i = st * k ∧ Least xs w S k i
  srcs : ∀ i : Nat, (i : Int) ∈ S → openAt xs i = true → fat F i ≠ -1 ∨ ((0 : Int), (i : Int)) ∈ L
  edges : ∀ i j : Nat, fat F i ≠ -1 → beside w i j = true → openAt xs j = true → fat F j ≠ -1 ∨ (fat F i + st, (j : Int)) ∈ L ∨ E i j
abbrev Dij (xs : List UInt8) (w : Nat) (S : List Int) (st : Int) (F : List Int) (L : List Itm) : Prop := DijE xs w S st (fun _ _ => False) F L
theorem Dij.start {L : List Itm} (hL : ∀ x, x ∈ L ↔ ∃ i : Nat, (i : Int) ∈ S ∧ openAt xs i = true ∧ x = (0, (i : Int))) : Dij xs w S st (List.replicate xs.length (-1)) L where
  len := by simp
  items := fun x hx => by
    obtain ⟨i, h1, h2, rfl⟩ := (hL x).1 hx
    exact ⟨0, i, by simp, .src h1 h2, Nat.zero_le _⟩
  fixed := fun i => .inl (fat_rep _ _)
  srcs := fun i h1 h2 => .inr ((hL _).2 ⟨i, h1, h2, rfl⟩)
  edges := fun i j h => absurd (fat_rep _ _) h
theorem Dij.least {L : List Itm} {x : Itm} (h : Dij xs w S st F L) (hs : 1 ≤ st) (hx : ∀ y ∈ L, le2 x y) {k i : Nat} (e : x = (st * (k : Int), (i : Int))) (hw : Walk xs w S k i) (hf : fat F i = -1) : Least xs w S k i := by
  have key : ∀ m j, Walk xs w S m j → (∃ k' : Nat, fat F j = st * k' ∧ k' ≤ m) ∨ k ≤ m := by
    intro m j hm
    induction hm with
    | @src j h1 h2 =>
      rcases h.srcs j h1 h2 with h3 | h3
      · rcases h.fixed j with h4 | ⟨r, h4, h5⟩
        · exact absurd h4 h3
        · exact .inl ⟨r, h4, h5.2 _ (.src h1 h2)⟩
      · have := le2_iff.1 (hx _ h3)
        rw [e] at this
        have h0 := mul_nn (st := st) k hs
        refine .inr ((mul_le hs).1 ?_)
        simp at this ⊢
        omega
    | @step m a b h1 h2 h3 ih =>
      rcases ih with ⟨r, h4, h5⟩ | ih
      · rcases h.edges a b (by rw [h4]; exact mul_ne r hs) h2 h3 with h6 | h6 | h6
        · rcases h.fixed b with h7 | ⟨r', h7, h8⟩
          · exact absurd h7 h6
          · exact .inl ⟨r', h7, h8.2 _ (.step h1 h2 h3)⟩
        · have := le2_iff.1 (hx _ h6)
          rw [e, h4, ← mul_succ] at this
          have : k ≤ r + 1 := (mul_le hs).1 (by simp only at this; omega)
          exact .inr (by omega)
        · exact h6.elim
      · exact .inr (by omega)
  refine ⟨hw, fun m hm => ?_⟩
  rcases key m i hm with ⟨r, h1, _⟩ | h1
  · rw [hf] at h1; exact absurd h1.symm (mul_ne r hs)
  · exact h1
theorem Dij.skip {L L' : List Itm} {x : Itm} (h : Dij xs w S st F L) (hp : L.Perm (x :: L')) {i : Nat} (e : x.2 = (i : Int)) (hf : fat F i ≠ -1) : Dij xs w S st F L' := by
  have hm : ∀ (y : Itm) (j : Nat), y.2 = (j : Int) → fat F j = -1 → y ∈ L → y ∈ L' := fun y j hy hj hl => by
    rcases List.mem_cons.1 (hp.mem_iff.1 hl) with rfl | h2
    · rw [e] at hy
      rw [Int.ofNat.inj hy] at hf
      exact absurd hj hf
    · exact h2
  refine ⟨h.len, fun y hy => h.items y (hp.mem_iff.2 (List.mem_cons_of_mem _ hy)), h.fixed, fun j h1 h2 => ?_, fun a b h1 h2 h3 => ?_⟩
  · by_cases hj : fat F j = -1
    · rcases h.srcs j h1 h2 with h3 | h3
      · exact .inl h3
      · exact .inr (hm _ j rfl hj h3)
    · exact .inl hj
  · by_cases hj : fat F b = -1
    · rcases h.edges a b h1 h2 h3 with h4 | h4 | h4
      · exact .inl h4
      · exact .inr (.inl (hm _ b rfl hj h4))
      · exact h4.elim
    · exact .inl hj
/-- the neighbours that are still to be looked at -/
def Rest (c : Nat) (pre : List Nat) : Nat → Nat → Prop := fun a b => a = c ∧ b ∉ pre
theorem Dij.settle {L L' : List Itm} {x : Itm} (h : Dij xs w S st F L) (hs : 1 ≤ st) (hp : L.Perm (x :: L')) (hx : ∀ y ∈ L, le2 x y) {k i : Nat} (e : x = (st * (k : Int), (i : Int))) (hw : Walk xs w S k i) (hf : fat F i = -1) :
    DijE xs w S st (Rest i []) (F.set i (st * k)) L' := by
  have hl := h.least hs hx e hw hf
  have hi : i < F.length := by rw [h.len]; exact hw.lt
  have hc := cnt_new hi hf (mul_ne k hs)
  have hm : ∀ (y : Itm) (j : Nat), y.2 = (j : Int) → j ≠ i → y ∈ L → y ∈ L' := fun y j hy hj hl => by
    rcases List.mem_cons.1 (hp.mem_iff.1 hl) with rfl | h2
    · rw [e] at hy
      exact absurd (Int.ofNat.inj hy).symm hj
    · exact h2
  refine ⟨by simp [h.len], fun y hy => ?_, fun j => ?_, fun j h1 h2 => ?_, fun a b h1 h2 h3 => ?_⟩
  · obtain ⟨k', i', h1, h2, h3⟩ := h.items y (hp.mem_iff.2 (List.mem_cons_of_mem _ hy))
    exact ⟨k', i', h1, h2, by omega⟩
  · rw [fat_set hi]
    by_cases ej : j = i
    · subst ej; rw [if_pos rfl]; exact .inr ⟨k, rfl, hl⟩
    · rw [if_neg ej]; exact h.fixed j
  · rw [fat_set hi]
    by_cases ej : j = i
    · rw [if_pos ej]; exact .inl (mul_ne k hs)
    · rw [if_neg ej]
      rcases h.srcs j h1 h2 with h3 | h3
      · exact .inl h3
      · exact .inr (hm _ j rfl ej h3)
  · rw [fat_set hi] at h1
    rw [fat_set hi, fat_set hi]
    by_cases ej : b = i
    · rw [if_pos ej]; exact .inl (mul_ne k hs)
    · rw [if_neg ej]
      by_cases ea : a = i
      · exact .inr (.inr ⟨ea, by simp⟩)
      · rw [if_neg ea] at h1 ⊢
        rcases h.edges a b h1 h2 h3 with h4 | h4 | h4
        · exact .inl h4
        · exact .inr (.inl (hm _ b rfl ej h4))
        · exact h4.elim
theorem DijE.pass {L : List Itm} {c n : Nat} {pre : List Nat} (h : DijE xs w S st (Rest c pre) F L) (hn : fat F n ≠ -1) : DijE xs w S st (Rest c (pre ++ [n])) F L :=
  ⟨h.len, h.items, h.fixed, h.srcs, fun a b h1 h2 h3 => by
    rcases h.edges a b h1 h2 h3 with h4 | h4 | ⟨h4, h5⟩
    · exact .inl h4
    · exact .inr (.inl h4)
    · by_cases e : b = n
      · subst e; exact .inl hn
      · exact .inr (.inr ⟨h4, by simp [h5, e]⟩)⟩
theorem DijE.push {L L' : List Itm} {c n k : Nat} {pre : List Nat} (h : DijE xs w S st (Rest c pre) F L) (hc : fat F c = st * k) (hw : Walk xs w S k c) (hk : k + 1 ≤ cnt F) (hb : beside w c n = true) (ho : openAt xs n = true)
    (hp : L'.Perm (L ++ [(st * (k : Int) + st, (n : Int))])) : DijE xs w S st (Rest c (pre ++ [n])) F L' := by
  have hm : ∀ y, y ∈ L → y ∈ L' := fun y hy => hp.mem_iff.2 (List.mem_append.2 (.inl hy))
  refine ⟨h.len, fun y hy => ?_, h.fixed, fun j h1 h2 => (h.srcs j h1 h2).imp_right (hm _), fun a b h1 h2 h3 => ?_⟩
  · rcases List.mem_append.1 (hp.mem_iff.1 hy) with h1 | h1
    · exact h.items y h1
    · rw [List.mem_singleton.1 h1]
      exact ⟨k + 1, n, by rw [mul_succ], .step hw hb ho, hk⟩
  · rcases h.edges a b h1 h2 h3 with h4 | h4 | ⟨h4, h5⟩
    · exact .inl h4
    · exact .inr (.inl (hm _ h4))
    · by_cases e : b = n
      · subst e; subst h4
        exact .inr (.inl (hp.mem_iff.2 (by rw [hc]; simp)))
      · exact .inr (.inr ⟨h4, by simp [h5, e]⟩)
theorem DijE.end_ {L : List Itm} {c : Nat} (h : DijE xs w S st (Rest c (nears xs w c)) F L) : Dij xs w S st F L :=
  ⟨h.len, h.items, h.fixed, h.srcs, fun a b h1 h2 h3 => by
    rcases h.edges a b h1 h2 h3 with h4 | h4 | ⟨h4, h5⟩
    · exact .inl h4
    · exact .inr (.inl h4)
    · subst h4
      exact absurd (mem_nears.2 ⟨h3, h2⟩) h5⟩
theorem Dij.done (h : Dij xs w S st F []) : IsField xs w S st F := by
  have key : ∀ m j, Walk xs w S m j → fat F j ≠ -1 := by
    intro m j hm
    induction hm with
    | @src j h1 h2 =>
      rcases h.srcs j h1 h2 with h3 | h3
      · exact h3
      · cases h3
    | @step m a b h1 h2 h3 ih =>
      rcases h.edges a b ih h2 h3 with h6 | h6 | h6
      · exact h6
      · cases h6
      · exact h6.elim
  refine ⟨h.len, fun i => ?_⟩
  rcases h.fixed i with h1 | ⟨k, h1, h2⟩
  · exact .inl ⟨h1, fun k hk => key k i hk h1⟩
  · exact .inr ⟨k, h1, h2⟩

/-! as long as something changes -/
structure Bel (xs : List UInt8) (w : Nat) (S : List Int) (st : Int) (F : List Int) : Prop where
  len : F.length = xs.length
  sound : ∀ i, fat F i = -1 ∨ ∃ k : Nat, fat F i = st * k ∧ Walk xs w S k i ∧ k ≤ cnt F
def Upto (xs : List UInt8) (w : Nat) (S : List Int) (st : Int) (F : List Int) (r i : Nat) : Prop := ∀ k, k ≤ r → Walk xs w S k i → fat F i ≠ -1 ∧ fat F i ≤ st * k
/-- in round r, cells below i done; of cell i what comes from below k -/
structure BelI (xs : List UInt8) (w : Nat) (S : List Int) (st : Int) (r i : Nat) (F : List Int) : Prop where
  bel : Bel xs w S st F
  all : ∀ j, Upto xs w S st F r j
  pre : ∀ j, j < i → Upto xs w S st F (r + 1) j
structure BelK (xs : List UInt8) (w : Nat) (S : List Int) (st : Int) (r i k : Nat) (F : List Int) : Prop where
  bel : BelI xs w S st r i F
  pre : ∀ j, j < k → beside w i j = true → openAt xs i = true → ∀ m, m ≤ r → Walk xs w S m j → fat F i ≠ -1 ∧ fat F i ≤ st * (m + 1 : Nat)
theorem BelI.start (hl : F.length = xs.length) (h : ∀ i : Nat, fat F i = if (i : Int) ∈ S ∧ openAt xs i = true then 0 else -1) : BelI xs w S st 0 0 F := by
  refine ⟨⟨hl, fun i => ?_⟩, fun j k hk hw => ?_, fun j hj => by omega⟩
  · rw [h i]
    by_cases e : (i : Int) ∈ S ∧ openAt xs i = true
    · rw [if_pos e]; exact .inr ⟨0, by simp, .src e.1 e.2, Nat.zero_le _⟩
    · rw [if_neg e]; exact .inl rfl
  · obtain rfl : k = 0 := by omega
    rw [h j, if_pos ⟨hw.zero, hw.open_⟩]
    simp
theorem BelI.begin {r i : Nat} (h : BelI xs w S st r i F) : BelK xs w S st r i 0 F := ⟨h, fun j hj => by omega⟩
theorem BelK.same {r i k : Nat} (h : BelK xs w S st r i k F) (hn : beside w i k = true → openAt xs i = true → fat F k ≠ -1 → fat F i ≠ -1 ∧ fat F i ≤ fat F k + st) : BelK xs w S st r i (k + 1) F :=
  ⟨h.bel, fun j hj hb ho m hm hw => by
    by_cases e : j = k
    · subst e
      have h1 := h.bel.all j m hm hw
      have h2 := hn hb ho h1.1
      refine ⟨h2.1, ?_⟩
      rw [mul_succ]
      have := h1.2; have := h2.2
      omega
    · exact h.pre j (by omega) hb ho m hm hw⟩
theorem BelK.set {r i k : Nat} (h : BelK xs w S st r i k F) (hs : 1 ≤ st) (hb : beside w i k = true) (ho : openAt xs i = true) (hk : fat F k ≠ -1) (hlt : fat F i = -1 ∨ fat F k + st < fat F i) : BelK xs w S st r i (k + 1) (F.set i (fat F k + st)) := by
  have hi : i < F.length := by rw [h.bel.bel.len]; exact openAt_lt ho
  have hne : k ≠ i := fun e => beside_ne hb e.symm
  obtain ⟨m, e1, e2, e3⟩ := (h.bel.bel.sound k).resolve_left hk
  have ev : fat F k + st = st * ((m + 1 : Nat) : Int) := by rw [e1, mul_succ]
  have hv : fat F k + st ≠ -1 := by rw [ev]; exact mul_ne _ hs
  have hcnt : cnt F ≤ cnt (F.set i (fat F k + st)) ∧ m + 1 ≤ cnt (F.set i (fat F k + st)) := by
    rcases h.bel.bel.sound i with h1 | ⟨q, h1, _, h3⟩
    · rw [cnt_new hi h1 hv]; omega
    · rw [cnt_old (by rw [h1]; exact mul_ne q hs) hv]
      refine ⟨Nat.le_refl _, ?_⟩
      rcases hlt with h4 | h4
      · rw [h1] at h4; exact absurd h4 (mul_ne q hs)
      · rw [ev, h1] at h4
        have : m + 1 ≤ q := (mul_le hs).1 (by omega)
        omega
  have up : ∀ r j, Upto xs w S st F r j → Upto xs w S st (F.set i (fat F k + st)) r j := fun r j hu q hq hw => by
    rw [fat_set hi]
    have := hu q hq hw
    by_cases e : j = i
    · subst e
      rw [if_pos rfl]
      refine ⟨hv, ?_⟩
      rcases hlt with h4 | h4
      · exact absurd h4 this.1
      · have := this.2; omega
    · rw [if_neg e]; exact this
  refine ⟨⟨⟨by simp [h.bel.bel.len], fun j => ?_⟩, fun j => up r j (h.bel.all j), fun j hj => up _ j (h.bel.pre j hj)⟩, fun j hj hb' ho' q hq hw => ?_⟩
  · rw [fat_set hi]
    by_cases e : j = i
    · subst e
      rw [if_pos rfl, ev]
      exact .inr ⟨m + 1, rfl, .step e2 (by rw [beside_comm]; exact hb) ho, by rw [ev] at hcnt; exact hcnt.2⟩
    · rw [if_neg e]
      rcases h.bel.bel.sound j with h1 | ⟨q, h1, h2, h3⟩
      · exact .inl h1
      · exact .inr ⟨q, h1, h2, by omega⟩
  · rw [fat_set hi, if_pos rfl]
    refine ⟨hv, ?_⟩
    by_cases e : j = k
    · subst e
      have := (h.bel.all j q hq hw).2
      rw [mul_succ]
      omega
    · have := h.pre j (by omega) hb' ho' q hq hw
      rcases hlt with h4 | h4
      · exact absurd h4 this.1
      · have := this.2; omega
theorem BelK.end_ {r i : Nat} (h : BelK xs w S st r i xs.length F) : BelI xs w S st r (i + 1) F :=
  ⟨h.bel.bel, h.bel.all, fun j hj => by
    by_cases e : j = i
    · subst e
      intro q hq hw
      match q, hq, hw with
      | 0, _, hw => exact h.bel.all j 0 (Nat.zero_le _) hw
      | q + 1, hq, hw =>
        obtain ⟨a, h1, h2⟩ := hw.pred
        exact h.pre a h1.lt (by rw [beside_comm]; exact h2) hw.open_ q (by omega) h1
    · exact h.bel.pre j (by omega)⟩
theorem BelI.wall {r i : Nat} (h : BelI xs w S st r i F) (ho : openAt xs i = false) : BelI xs w S st r (i + 1) F :=
  ⟨h.bel, h.all, fun j hj => by
    by_cases e : j = i
    · subst e
      intro q hq hw
      rw [hw.open_] at ho; cases ho
    · exact h.pre j (by omega)⟩
theorem BelI.next {r : Nat} (h : BelI xs w S st r xs.length F) : BelI xs w S st (r + 1) 0 F :=
  ⟨h.bel, fun j => by
    by_cases e : j < xs.length
    · exact h.pre j e
    · intro q _ hw
      exact absurd hw.lt e, fun j hj => by omega⟩
theorem BelI.done {r : Nat} (h : BelI xs w S st r 0 F) (hs : 1 ≤ st) (hr : xs.length ≤ r) : IsField xs w S st F := by
  refine ⟨h.bel.len, fun i => ?_⟩
  rcases h.bel.sound i with h1 | ⟨k, h1, h2, _⟩
  · refine .inl ⟨h1, fun k hk => ?_⟩
    obtain ⟨m, _, hm⟩ := least_of hk
    exact (h.all i m (by have := hm.lt; omega) hm.1).1 h1
  · refine .inr ⟨k, h1, h2, fun m hm => ?_⟩
    obtain ⟨q, hq, hl⟩ := least_of hm
    have h3 := (h.all i q (by have := hl.lt; omega) hl.1).2
    rw [h1] at h3
    have : k ≤ q := (mul_le hs).1 h3
    omega
end

/-! the way down -/
def insF (F : List Int) (x : Nat) : List Nat → List Nat
  | [] => [x]
  | o :: r => if fat F o ≤ fat F x then o :: insF F x r else x :: o :: r
def lows (F : List Int) (v : Int) (l : List Nat) : List Nat := l.filter fun n => decide (0 ≤ fat F n) && decide (fat F n < v)
def sortF (F : List Int) (l : List Nat) : List Nat := l.foldl (fun out x => insF F x out) []
def itm (F : List Int) (n : Nat) : Itm := (fat F n, (n : Int))
theorem insF_perm (F : List Int) (x : Nat) : ∀ l, (insF F x l).Perm (x :: l)
  | [] => List.Perm.refl _
  | o :: r => by
    unfold insF
    by_cases h : fat F o ≤ fat F x
    · rw [if_pos h]
      exact ((insF_perm F x r).cons o).trans (List.Perm.swap x o r)
    · rw [if_neg h]
theorem sortF_snoc (F : List Int) (l : List Nat) (x : Nat) : sortF F (l ++ [x]) = insF F x (sortF F l) := by simp [sortF]
theorem insF_rise {F : List Int} {x : Nat} : ∀ {l : List Nat}, Rise (l.map (itm F)) → (∀ o ∈ l, o < x) → Rise ((insF F x l).map (itm F))
  | [], _, _ => by simp [insF, Rise]
  | o :: r, h, hx => by
    have h' := List.pairwise_cons.1 h
    unfold insF
    by_cases hle : fat F o ≤ fat F x
    · rw [if_pos hle]
      refine List.pairwise_cons.2 ⟨fun y hy => ?_, insF_rise h'.2 fun o ho => hx o (List.mem_cons_of_mem _ ho)⟩
      rcases List.mem_cons.1 ((List.Perm.map (itm F) (insF_perm F x r)).mem_iff.1 hy) with e | e
      · rw [e]
        have := hx o (by simp)
        refine le2_iff.2 ?_
        simp only [itm]
        omega
      · exact h'.1 y e
    · rw [if_neg hle]
      have h0 : le2 (itm F x) (itm F o) := le2_iff.2 (by simp only [itm]; omega)
      refine List.pairwise_cons.2 ⟨fun y hy => ?_, h⟩
      rcases List.mem_cons.1 hy with e | e
      · rw [e]; exact h0
      · exact le2_trans h0 (h'.1 y e)
theorem sortF_spec (F : List Int) : ∀ l : List Nat, l.Pairwise (· < ·) → (sortF F l).Perm l ∧ Rise ((sortF F l).map (itm F)) := by
  intro l
  generalize hn : l.length = n
  induction n generalizing l with
  | zero =>
    obtain rfl := List.length_eq_zero_iff.1 hn
    intro _; exact ⟨List.Perm.refl _, List.Pairwise.nil⟩
  | succ n ih =>
    intro hp
    obtain ⟨m, x, rfl⟩ : ∃ m x, l = m ++ [x] := ⟨l.dropLast, l.getLast (by rintro rfl; simp at hn), (List.dropLast_concat_getLast _).symm⟩
    have h1 := List.pairwise_append.1 hp
    obtain ⟨a, b⟩ := ih m (by simp at hn; exact hn) h1.1
    rw [sortF_snoc]
    refine ⟨(insF_perm F x _).trans ?_, insF_rise b fun o ho => h1.2.2 o (a.mem_iff.1 ho) x (by simp)⟩
    exact (a.cons x).trans (List.perm_append_comm (l₁ := [x]) (l₂ := m))
noncomputable def downM (xs : List UInt8) (F : List Int) (v : Int) (l : List Nat) : List Nat := if F.length = xs.length then sortF F (lows F v l) else []
theorem lows_rising {F : List Int} {v : Int} {l : List Nat} (h : l.Pairwise (· < ·)) : (lows F v l).Pairwise (· < ·) := h.filter _
theorem mem_sortF {F : List Int} {l : List Nat} (h : l.Pairwise (· < ·)) {x : Nat} : x ∈ sortF F l ↔ x ∈ l := (sortF_spec F l h).1.mem_iff
theorem mem_lows {F : List Int} {v : Int} {l : List Nat} {x : Nat} : x ∈ lows F v l ↔ x ∈ l ∧ 0 ≤ fat F x ∧ fat F x < v := by
  unfold lows; simp [List.mem_filter]
theorem map_itm_snd (F : List Int) (l : List Nat) : (l.map (itm F)).map (fun x => x.2) = l.map (fun n : Nat => (n : Int)) := by rw [List.map_map]; rfl
/-- what the program gathers, put in order, is it -/
theorem down_uniq {F : List Int} {v : Int} {l : List Nat} (hl : l.Pairwise (· < ·)) {R : List Itm} (h1 : Rise R) (h2 : R.Perm ((lows F v l).map (itm F))) : R = (sortF F (lows F v l)).map (itm F) := by
  obtain ⟨a, b⟩ := sortF_spec F _ (lows_rising (F := F) (v := v) hl)
  exact h1.uniq b (h2.trans (a.map _).symm)
/-- the way down: the first, its first one, and so on -/
def wayM (dn : Int → List Nat) : Nat → Int → List Nat
  | 0, _ => []
  | k + 1, c => match dn c with
    | [] => []
    | j :: _ => j :: wayM dn k (j : Int)
theorem wayM_length (dn : Int → List Nat) : ∀ (k : Nat) (c : Int), (wayM dn k c).length ≤ k
  | 0, _ => Nat.le_refl _
  | k + 1, c => by
    unfold wayM
    cases dn c with
    | nil => exact Nat.zero_le _
    | cons j r => simp only [List.length_cons]; have := wayM_length dn k (j : Int); omega
/-- down a field of one source: as many steps as the cost says, to the source -/
theorem wayM_field {xs : List UInt8} {w s : Nat} {st : Int} {F : List Int} (hf : IsField xs w [(s : Int)] st F) (hs : 1 ≤ st) {dn : Int → List Nat} (hdn : ∀ c : Nat, openAt xs c = true → dn c = sortF F (lows F (fat F c) (nears xs w c))) :
    ∀ (m k c : Nat), m ≤ k → Least xs w [(s : Int)] m c → (wayM dn k c).length = m ∧ (m = 0 → c = s) ∧ (0 < m → (wayM dn k c).getLast? = some s)
  | 0, k, c, _, hl => by
    have hc : c = s := by have := hl.1.zero; simp at this; omega
    have h0 : fat F c = st * (0 : Nat) := hf.least hl
    have hd : dn c = [] := by
      rw [hdn c hl.1.open_, h0]
      have : lows F (st * (0 : Nat)) (nears xs w c) = [] := List.eq_nil_iff_forall_not_mem.2 fun x hx => by
        have := (mem_lows.1 hx).2
        simp at this
        omega
      rw [this]; rfl
    refine ⟨?_, fun _ => hc, fun h => by omega⟩
    cases k with
    | zero => rfl
    | succ k => unfold wayM; rw [hd]; rfl
  | m + 1, 0, c, h, _ => by omega
  | m + 1, k + 1, c, h, hl => by
    have h0 : fat F c = st * (m + 1 : Nat) := hf.least hl
    obtain ⟨a, h1, h2⟩ := hl.pred
    have hr := lows_rising (F := F) (v := fat F c) (nears_rising xs w c)
    have ha : a ∈ dn c := by
      rw [hdn c hl.1.open_, mem_sortF hr, mem_lows]
      refine ⟨mem_nears.2 ⟨h1.1.open_, by rw [beside_comm]; exact h2⟩, ?_, ?_⟩
      · rw [hf.least h1]; exact mul_nn _ hs
      · rw [hf.least h1, h0, mul_succ]; omega
    cases e : dn c with
    | nil => rw [e] at ha; cases ha
    | cons j r =>
      have hj : j ∈ dn c := by rw [e]; simp
      rw [hdn c hl.1.open_, mem_sortF hr, mem_lows] at hj
      obtain ⟨hn, hj1, hj2⟩ := hj
      obtain ⟨ho, hb⟩ := mem_nears.1 hn
      obtain ⟨q, hq, hq1, hq2⟩ := hf.walk (.step hl.1 hb ho)
      have hqm : q = m := by
        have h3 := hq2.next hl (by rw [beside_comm]; exact hb)
        rw [hq1, h0] at hj2
        have : ¬ m + 1 ≤ q := fun hh => by have := (mul_le hs).2 hh; omega
        omega
      subst hqm
      have ih := wayM_field hf hs hdn q k j (by omega) hq2
      unfold wayM
      rw [e]
      refine ⟨by simp [ih.1], fun h => by omega, fun _ => ?_⟩
      by_cases hz : q = 0
      · have hnil : wayM dn k (j : Int) = [] := List.length_eq_zero_iff.1 (by rw [ih.1, hz])
        have hj := ih.2.1 hz
        show (j :: wayM dn k (j : Int)).getLast? = some s
        rw [hnil, hj]
        rfl
      · have hne : wayM dn k (j : Int) ≠ [] := by
          intro e0; have := ih.1; rw [e0] at this; simp at this; omega
        have := ih.2.2 (by omega)
        simp only [List.getLast?_cons]
        rw [this]
        rfl
end Fld
