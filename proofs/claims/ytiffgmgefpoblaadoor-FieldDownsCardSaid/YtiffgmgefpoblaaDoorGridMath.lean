/-
  Maps of cells, as plain mathematics: neighbours, what is reached over open cells, closed sets, right maps. Conditions: none beyond the premises of each theorem.
-/
namespace Grid

def openAt (xs : List UInt8) (i : Nat) : Bool := match xs[i]? with | some c => c != 35 | none => false
theorem openAt_lt {xs : List UInt8} {i : Nat} (h : openAt xs i = true) : i < xs.length := by
  unfold openAt at h
  cases e : xs[i]? with
  | none => rw [e] at h; cases h
  | some c => exact (List.getElem?_eq_some_iff.1 e).1
theorem openAt_eq {xs : List UInt8} {i : Nat} (h : i < xs.length) : openAt xs i = (xs[i] != 35) := by
  unfold openAt; rw [List.getElem?_eq_getElem h]
def beside (w a b : Nat) : Bool := if a / w = b / w then a == b + 1 || b == a + 1 else a == b + w || b == a + w
theorem beside_comm (w a b : Nat) : beside w a b = beside w b a := by
  unfold beside
  by_cases h : a / w = b / w
  · rw [if_pos h, if_pos h.symm, Bool.or_comm]
  · rw [if_neg h, if_neg (fun e => h e.symm), Bool.or_comm]
theorem beside_ne {w a b : Nat} (h : beside w a b = true) : a ≠ b := by
  rintro rfl
  unfold beside at h
  simp at h

/-- what is reached from a cell over open cells -/
inductive Reach (xs : List UInt8) (w : Nat) (o : Option Nat) : Nat → Prop
  | base {f : Nat} : o = some f → Reach xs w o f
  | step {k i : Nat} : Reach xs w o k → beside w i k = true → openAt xs i = true → Reach xs w o i
theorem Reach.none_ {xs : List UInt8} {w i : Nat} (h : Reach xs w none i) : False := by
  induction h with
  | base e => cases e
  | step _ _ _ ih => exact ih
theorem Reach.open_ {xs : List UInt8} {w f i : Nat} (hf : openAt xs f = true) (h : Reach xs w (some f) i) : openAt xs i = true := by
  cases h with
  | base e => cases e; exact hf
  | step _ _ h => exact h
theorem Reach.trans {xs : List UInt8} {w a b c : Nat} (h1 : Reach xs w (some a) b) (h2 : Reach xs w (some b) c) : Reach xs w (some a) c := by
  induction h2 with
  | base e => cases e; exact h1
  | step _ hb ho ih => exact .step ih hb ho
theorem Reach.symm {xs : List UInt8} {w a b : Nat} (ha : openAt xs a = true) (h : Reach xs w (some a) b) : Reach xs w (some b) a := by
  induction h with
  | base e => cases e; exact .base rfl
  | step hk hb ho ih =>
    rename_i k i
    have hko : openAt xs k = true := Reach.open_ ha hk
    exact Reach.trans (.step (.base rfl) (by rw [beside_comm]; exact hb) hko) ih

/-! right maps -/
def sign (c : UInt8) : Bool := c == 35 || c == 46 || c == 67 || c == 80
def firstC (xs : List UInt8) : Option Nat := xs.findIdx? (· == 67)
def Joined (xs : List UInt8) (w : Nat) : Prop := ∃ f, firstC xs = some f ∧ ∀ i, openAt xs i = true → Reach xs w (some f) i
theorem firstC_some {xs : List UInt8} {f : Nat} (h : firstC xs = some f) : ∃ hf : f < xs.length, xs[f] = 67 := by
  unfold firstC at h
  rw [List.findIdx?_eq_some_iff_getElem] at h
  obtain ⟨hf, h1, _⟩ := h
  exact ⟨hf, by simpa using h1⟩
theorem firstC_open {xs : List UInt8} {f : Nat} (h : firstC xs = some f) : openAt xs f = true := by
  obtain ⟨hf, e⟩ := firstC_some h
  rw [openAt_eq hf, e]
  rfl
theorem firstC_none {xs : List UInt8} (h : firstC xs = none) (i : Nat) (hi : i < xs.length) : xs[i] ≠ 67 := by
  unfold firstC at h
  rw [List.findIdx?_eq_none_iff] at h
  have := h xs[i] (List.getElem_mem _)
  simpa using this
theorem firstC_ex {xs : List UInt8} : (∃ f, firstC xs = some f) ↔ ∃ i, ∃ h : i < xs.length, xs[i] = 67 := by
  constructor
  · rintro ⟨f, h⟩
    exact ⟨f, firstC_some h⟩
  · rintro ⟨i, hi, e⟩
    cases h : firstC xs with
    | none => exact absurd e (firstC_none h i hi)
    | some f => exact ⟨f, rfl⟩
theorem joined_iff {xs : List UInt8} {w : Nat} : Joined xs w ↔ (∃ i, ∃ h : i < xs.length, xs[i] = 67) ∧ ∀ i j, openAt xs i = true → openAt xs j = true → Reach xs w (some i) j := by
  constructor
  · rintro ⟨f, hf, h⟩
    exact ⟨firstC_ex.1 ⟨f, hf⟩, fun i j hi hj => Reach.trans (Reach.symm (firstC_open hf) (h i hi)) (h j hj)⟩
  · rintro ⟨h1, h2⟩
    obtain ⟨f, hf⟩ := firstC_ex.2 h1
    exact ⟨f, hf, fun i hi => h2 f i (firstC_open hf) hi⟩
def sized (W H : Int) (n : Nat) : Prop := 1 ≤ W ∧ W ≤ 8 ∧ 1 ≤ H ∧ H ≤ 8 ∧ (n : Int) = W * H
instance (W H : Int) (n : Nat) : Decidable (sized W H n) := by unfold sized; infer_instance
def Right (W H : Int) (xs : List UInt8) : Prop := sized W H xs.length ∧ xs.all sign = true ∧ Joined xs W.toNat
open Classical in
noncomputable def joinedB (xs : List UInt8) (w : Nat) : Bool := decide (Joined xs w)
open Classical in
noncomputable def rightB (W H : Int) (xs : List UInt8) : Bool := decide (Right W H xs)
theorem joinedB_iff {xs : List UInt8} {w : Nat} : joinedB xs w = true ↔ Joined xs w := by unfold joinedB; simp
theorem rightB_iff {W H : Int} {xs : List UInt8} : rightB W H xs = true ↔ Right W H xs := by unfold rightB; simp
theorem rightB_false {W H : Int} {xs : List UInt8} : rightB W H xs = false ↔ ¬ Right W H xs := by unfold rightB; simp
theorem rightB_not {W H : Int} {xs : List UInt8} (h : ¬ sized W H xs.length) : rightB W H xs = false := rightB_false.2 fun hr => h hr.1
theorem rightB_signs {W H : Int} {xs : List UInt8} (h : xs.all sign = false) : rightB W H xs = false := rightB_false.2 fun hr => by rw [hr.2.1] at h; cases h
theorem rightB_joined {W H : Int} {xs : List UInt8} (h1 : sized W H xs.length) (h2 : xs.all sign = true) : rightB W H xs = joinedB xs W.toNat := by
  cases h : joinedB xs W.toNat with
  | true => exact rightB_iff.2 ⟨h1, h2, joinedB_iff.1 h⟩
  | false => exact rightB_false.2 fun hr => by rw [joinedB_iff.2 hr.2.2] at h; cases h
/-- the sides of a map of right size, as natural numbers -/
theorem sized_nat {W H : Int} {n : Nat} (h : sized W H n) : ∃ a b : Nat, W = a ∧ H = b ∧ 1 ≤ a ∧ a ≤ 8 ∧ 1 ≤ b ∧ b ≤ 8 ∧ n = a * b ∧ n ≤ 64 := by
  obtain ⟨h1, h2, h3, h4, h5⟩ := h
  refine ⟨W.toNat, H.toNat, by omega, by omega, by omega, by omega, by omega, by omega, ?_, ?_⟩
  · have e1 : W = (W.toNat : Int) := by omega
    have e2 : H = (H.toNat : Int) := by omega
    rw [e1, e2] at h5
    exact_mod_cast h5
  · have : W * H ≤ 8 * 8 := Int.mul_le_mul h2 h4 (by omega) (by omega)
    omega

/-! marks that are set till nothing changes any more -/
def cnt (m : List Bool) : Nat := m.count true
def on (m : List Bool) (i : Nat) : Bool := m[i]?.getD false
theorem on_lt {m : List Bool} {i : Nat} (h : on m i = true) : i < m.length := by
  rcases Nat.lt_or_ge i m.length with h1 | h1
  · exact h1
  · unfold on at h; rw [List.getElem?_eq_none h1] at h; cases h
theorem on_eq {m : List Bool} {i : Nat} (h : i < m.length) : on m i = m[i] := by unfold on; rw [List.getElem?_eq_getElem h]; rfl
theorem on_set {m : List Bool} {i j : Nat} (hi : i < m.length) : on (m.set i true) j = (decide (j = i) || on m j) := by
  unfold on
  rw [List.getElem?_set]
  by_cases e : i = j
  · subst e; simp [hi]
  · rw [if_neg e]; simp [show ¬ j = i from fun h => e h.symm]
theorem cnt_le (m : List Bool) : cnt m ≤ m.length := List.count_le_length
theorem cnt_set {m : List Bool} {i : Nat} (hi : i < m.length) (h : on m i = false) : cnt (m.set i true) = cnt m + 1 := by
  unfold cnt
  rw [List.count_set hi]
  rw [on_eq hi] at h
  simp [h]
theorem set_on {m : List Bool} {i : Nat} (h : on m i = true) : m.set i true = m := by
  have hi := on_lt h
  rw [on_eq hi] at h
  rw [← h]
  exact List.set_getElem_self hi
/-- the edges E are closed -/
def Closed (E : Nat → Nat → Prop) (m : List Bool) : Prop := ∀ a b, E a b → on m a = true → on m b = true
/-- in round n, the edges D being done -/
def Prog (E : Nat → Nat → Prop) (n : Nat) (D : Nat → Nat → Prop) (m : List Bool) : Prop := n + 2 ≤ cnt m ∨ Closed E m ∨ (n + 1 ≤ cnt m ∧ Closed D m)
theorem Prog.mono {E D D' : Nat → Nat → Prop} {n : Nat} {m : List Bool} (h : Prog E n D m) (hd : ∀ a b, D' a b → D a b) : Prog E n D' m := by
  rcases h with h | h | ⟨h1, h2⟩
  · exact .inl h
  · exact .inr (.inl h)
  · exact .inr (.inr ⟨h1, fun a b e => h2 a b (hd a b e)⟩)
/-- one edge more, whose beginning isn't marked, or whose end is -/
theorem Prog.pass {E D : Nat → Nat → Prop} {n x y : Nat} {m : List Bool} (h : Prog E n D m) (hx : on m x = true → on m y = true) : Prog E n (fun a b => D a b ∨ (a = x ∧ b = y)) m := by
  rcases h with h | h | ⟨h1, h2⟩
  · exact .inl h
  · exact .inr (.inl h)
  · refine .inr (.inr ⟨h1, fun a b e => ?_⟩)
    rcases e with e | ⟨rfl, rfl⟩
    · exact h2 a b e
    · exact hx
/-- one edge more, whose end is marked now -/
theorem Prog.mark {E D : Nat → Nat → Prop} {n x y : Nat} {m : List Bool} (h : Prog E n D m) (he : E x y) (hx : on m x = true) (hy : y < m.length) : Prog E n (fun a b => D a b ∨ (a = x ∧ b = y)) (m.set y true) := by
  cases e : on m y with
  | true => rw [set_on e]; exact h.pass fun _ => e
  | false =>
    rcases h with h | h | ⟨h1, h2⟩
    · left; rw [cnt_set hy e]; omega
    · rw [h x y he hx] at e; cases e
    · left; rw [cnt_set hy e]; omega
theorem Prog.next {E D : Nat → Nat → Prop} {n : Nat} {m : List Bool} (h : Prog E n D m) (hd : ∀ a b, E a b → D a b) : Prog E (n + 1) (fun _ _ => False) m := by
  rcases h with h | h | ⟨h1, h2⟩
  · exact .inr (.inr ⟨by omega, fun _ _ e => e.elim⟩)
  · exact .inr (.inl h)
  · exact .inr (.inl fun a b e => h2 a b (hd a b e))
theorem Prog.done {E D : Nat → Nat → Prop} {n : Nat} {m : List Bool} (h : Prog E n D m) (hn : m.length ≤ n) : Closed E m := by
  have := cnt_le m
  rcases h with h | h | ⟨h1, _⟩
  · omega
  · exact h
  · omega
/-- the edges over which a map is gone through -/
def Edge (xs : List UInt8) (w : Nat) (a b : Nat) : Prop := beside w b a = true ∧ openAt xs b = true
/-- what is marked is reached from o; o is marked -/
structure Marks (xs : List UInt8) (w : Nat) (o : Option Nat) (m : List Bool) : Prop where
  len : m.length = xs.length
  base : ∀ f, o = some f → on m f = true
  reach : ∀ i, on m i = true → Reach xs w o i
theorem Marks.mark {xs : List UInt8} {w : Nat} {o : Option Nat} {m : List Bool} {x y : Nat} (h : Marks xs w o m) (he : Edge xs w x y) (hx : on m x = true) : Marks xs w o (m.set y true) := by
  have hy : y < m.length := by rw [h.len]; exact openAt_lt he.2
  refine ⟨by rw [List.length_set]; exact h.len, fun f hf => by rw [on_set hy, h.base f hf]; simp, fun i hi => ?_⟩
  rw [on_set hy] at hi
  by_cases e : i = y
  · subst e; exact .step (h.reach x hx) he.1 he.2
  · simp [e] at hi; exact h.reach i hi
theorem Marks.all {xs : List UInt8} {w : Nat} {o : Option Nat} {m : List Bool} (h : Marks xs w o m) (hc : Closed (Edge xs w) m) (i : Nat) : on m i = true ↔ Reach xs w o i := by
  refine ⟨h.reach i, fun hr => ?_⟩
  induction hr with
  | base e => exact h.base _ e
  | step _ hb ho ih => exact hc _ _ ⟨hb, ho⟩ ih

/-! the open neighbours of a cell -/
def nears (xs : List UInt8) (w c : Nat) : List Nat := (List.range xs.length).filter fun n => openAt xs n && beside w c n
def nearsOf (xs : List UInt8) (w c : Nat) : List Nat :=
  (if w ≤ c ∧ openAt xs (c - w) = true then [c - w] else []) ++ (if 0 < c % w ∧ openAt xs (c - 1) = true then [c - 1] else [])
    ++ (if c % w + 1 < w ∧ openAt xs (c + 1) = true then [c + 1] else []) ++ (if c + w < xs.length ∧ openAt xs (c + w) = true then [c + w] else [])
theorem mem_nears {xs : List UInt8} {w c n : Nat} : n ∈ nears xs w c ↔ openAt xs n = true ∧ beside w c n = true := by
  unfold nears
  rw [List.mem_filter]
  simp only [List.mem_range, Bool.and_eq_true]
  exact ⟨fun h => h.2, fun h => ⟨openAt_lt h.1, h⟩⟩
theorem eq_of_rising {l m : List Nat} (h1 : l.Pairwise (· < ·)) (h2 : m.Pairwise (· < ·)) (h : ∀ x, x ∈ l ↔ x ∈ m) : l = m := by
  induction l generalizing m with
  | nil =>
    cases m with
    | nil => rfl
    | cons a m => exact absurd ((h a).2 (by simp)) (by simp)
  | cons a l ih =>
    cases m with
    | nil => exact absurd ((h a).1 (by simp)) (by simp)
    | cons b m =>
      rw [List.pairwise_cons] at h1 h2
      have hab : a = b := by
        have ha := (h a).1 (by simp)
        have hb := (h b).2 (by simp)
        rcases List.mem_cons.1 ha with e | e
        · exact e
        · rcases List.mem_cons.1 hb with e' | e'
          · exact e'.symm
          · have := h1.1 b e'
            have := h2.1 a e
            omega
      subst hab
      rw [ih h1.2 h2.2 fun x => ?_]
      constructor
      · intro hx
        rcases List.mem_cons.1 ((h x).1 (by simp [hx])) with e | e
        · subst e; have := h1.1 x hx; omega
        · exact e
      · intro hx
        rcases List.mem_cons.1 ((h x).2 (by simp [hx])) with e | e
        · subst e; have := h2.1 x hx; omega
        · exact e
theorem nears_rising (xs : List UInt8) (w c : Nat) : (nears xs w c).Pairwise (· < ·) := List.pairwise_lt_range.filter _
theorem beside_cases {w c n : Nat} (h1 : 1 ≤ w) (h8 : w ≤ 8) : beside w c n = true ↔ (w ≤ c ∧ n = c - w) ∨ (0 < c % w ∧ n = c - 1) ∨ (c % w + 1 < w ∧ n = c + 1) ∨ n = c + w := by
  have hw : w = 1 ∨ w = 2 ∨ w = 3 ∨ w = 4 ∨ w = 5 ∨ w = 6 ∨ w = 7 ∨ w = 8 := by omega
  unfold beside
  rcases hw with rfl | rfl | rfl | rfl | rfl | rfl | rfl | rfl <;> (split <;> simp only [Bool.or_eq_true, beq_iff_eq] <;> omega)
theorem nearsOf_eq {xs : List UInt8} {w c : Nat} (h1 : 1 ≤ w) (h8 : w ≤ 8) : nearsOf xs w c = nears xs w c := by
  refine eq_of_rising ?_ (nears_rising xs w c) fun x => ?_
  · unfold nearsOf
    simp only [List.pairwise_append]
    have hw : w = 1 ∨ w = 2 ∨ w = 3 ∨ w = 4 ∨ w = 5 ∨ w = 6 ∨ w = 7 ∨ w = 8 := by omega
    refine ⟨⟨⟨by split <;> simp, by split <;> simp, ?_⟩, by split <;> simp, ?_⟩, by split <;> simp, ?_⟩
    · intro a ha b hb
      split at ha <;> split at hb <;> simp at ha hb
      rename_i p q; obtain ⟨p, _⟩ := p; obtain ⟨q, _⟩ := q
      subst ha hb
      rcases hw with rfl | rfl | rfl | rfl | rfl | rfl | rfl | rfl <;> omega
    · intro a ha b hb
      split at hb <;> simp at hb
      subst hb
      simp only [List.mem_append] at ha
      rcases ha with ha | ha <;> (split at ha <;> simp at ha; omega)
    · intro a ha b hb
      split at hb <;> simp at hb
      subst hb
      simp only [List.mem_append] at ha
      rcases ha with (ha | ha) | ha <;> (split at ha <;> simp at ha <;> omega)
  · rw [mem_nears, beside_cases h1 h8]
    unfold nearsOf
    simp only [List.mem_append]
    constructor
    · rintro (((h | h) | h) | h) <;> (split at h <;> simp at h; rename_i p; obtain ⟨p, q⟩ := p; subst h; refine ⟨q, ?_⟩)
      · exact .inl ⟨p, rfl⟩
      · exact .inr (.inl ⟨p, rfl⟩)
      · exact .inr (.inr (.inl ⟨p, rfl⟩))
      · exact .inr (.inr (.inr rfl))
    · rintro ⟨ho, ⟨p, rfl⟩ | ⟨p, rfl⟩ | ⟨p, rfl⟩ | rfl⟩
      · left; left; left; rw [if_pos ⟨p, ho⟩]; simp
      · left; left; right; rw [if_pos ⟨p, ho⟩]; simp
      · left; right; rw [if_pos ⟨p, ho⟩]; simp
      · right; rw [if_pos ⟨openAt_lt ho, ho⟩]; simp
theorem nears_length_le {xs : List UInt8} {w c : Nat} (h1 : 1 ≤ w) (h8 : w ≤ 8) : (nears xs w c).length ≤ 4 := by
  rw [← nearsOf_eq h1 h8]
  unfold nearsOf
  simp only [List.length_append]
  repeat' split
  all_goals simp

/-! the queue -/
structure Bfs (xs : List UInt8) (w f : Nat) (keys wait : List Nat) : Prop where
  nodup : keys.Nodup
  sub : ∀ q ∈ wait, q ∈ keys
  reach : ∀ k ∈ keys, Reach xs w (some f) k
  base : f ∈ keys
  done : ∀ k ∈ keys, k ∉ wait → ∀ n, openAt xs n = true → beside w k n = true → n ∈ keys
/-- while the cell c is looked at, pre having been told -/
structure BfsMid (xs : List UInt8) (w f c : Nat) (pre keys wait : List Nat) : Prop where
  nodup : keys.Nodup
  sub : ∀ q ∈ wait, q ∈ keys
  at_ : c ∈ keys
  reach : ∀ k ∈ keys, Reach xs w (some f) k
  base : f ∈ keys
  told : ∀ n ∈ pre, n ∈ keys
  done : ∀ k ∈ keys, k ∉ wait → k ≠ c → ∀ n, openAt xs n = true → beside w k n = true → n ∈ keys
theorem Bfs.start {xs : List UInt8} {w f : Nat} : Bfs xs w f [f] [f] :=
  ⟨by simp, fun q h => h, fun k hk => by rw [List.mem_singleton.1 hk]; exact .base rfl, by simp, fun k hk hn => absurd hk hn⟩
theorem Bfs.begin {xs : List UInt8} {w f c : Nat} {keys wait : List Nat} (h : Bfs xs w f keys (c :: wait)) : BfsMid xs w f c [] keys wait :=
  ⟨h.nodup, fun q hq => h.sub q (by simp [hq]), h.sub c (by simp), h.reach, h.base, (fun n hn => by cases hn),
    fun k hk h1 h2 => h.done k hk (by simp [h1, h2])⟩
theorem BfsMid.old {xs : List UInt8} {w f c n : Nat} {pre keys wait : List Nat} (h : BfsMid xs w f c pre keys wait) (hn : n ∈ keys) : BfsMid xs w f c (pre ++ [n]) keys wait :=
  ⟨h.nodup, h.sub, h.at_, h.reach, h.base, (fun m hm => by
    rcases List.mem_append.1 hm with hm | hm
    · exact h.told m hm
    · rw [List.mem_singleton.1 hm]; exact hn), h.done⟩
theorem BfsMid.new {xs : List UInt8} {w f c n : Nat} {pre keys wait : List Nat} (h : BfsMid xs w f c pre keys wait) (hn : n ∉ keys) (ho : openAt xs n = true) (hb : beside w c n = true) : BfsMid xs w f c (pre ++ [n]) (keys ++ [n]) (wait ++ [n]) := by
  refine ⟨?_, ?_, List.mem_append_left _ h.at_, ?_, List.mem_append_left _ h.base, ?_, ?_⟩
  · rw [List.nodup_append]
    exact ⟨h.nodup, by simp, fun a ha b hb => by rw [List.mem_singleton.1 hb]; rintro rfl; exact hn ha⟩
  · intro q hq
    rcases List.mem_append.1 hq with hq | hq
    · exact List.mem_append_left _ (h.sub q hq)
    · exact List.mem_append_right _ hq
  · intro k hk
    rcases List.mem_append.1 hk with hk | hk
    · exact h.reach k hk
    · rw [List.mem_singleton.1 hk]; exact .step (h.reach c h.at_) (by rw [beside_comm]; exact hb) ho
  · intro m hm
    rcases List.mem_append.1 hm with hm | hm
    · exact List.mem_append_left _ (h.told m hm)
    · exact List.mem_append_right _ hm
  · intro k hk hkw hkc m hm hmb
    rcases List.mem_append.1 hk with hk | hk
    · exact List.mem_append_left _ (h.done k hk (fun e => hkw (List.mem_append_left _ e)) hkc m hm hmb)
    · exact absurd (List.mem_append_right _ hk) hkw
theorem BfsMid.end_ {xs : List UInt8} {w f c : Nat} {keys wait : List Nat} (h : BfsMid xs w f c (nears xs w c) keys wait) : Bfs xs w f keys wait :=
  ⟨h.nodup, h.sub, h.reach, h.base, fun k hk hkw n hn hb => by
    by_cases e : k = c
    · subst e; exact h.told n (mem_nears.2 ⟨hn, hb⟩)
    · exact h.done k hk hkw e n hn hb⟩
theorem Bfs.all {xs : List UInt8} {w f : Nat} {keys : List Nat} (h : Bfs xs w f keys []) (i : Nat) : i ∈ keys ↔ Reach xs w (some f) i := by
  refine ⟨h.reach i, fun hr => ?_⟩
  induction hr with
  | base e => cases e; exact h.base
  | step _ hb ho ih => exact h.done _ ih (by simp) _ ho (by rw [beside_comm]; exact hb)
def opens (xs : List UInt8) : List Nat := (List.range xs.length).filter (openAt xs)
theorem mem_opens {xs : List UInt8} {i : Nat} : i ∈ opens xs ↔ openAt xs i = true := by
  unfold opens
  rw [List.mem_filter, List.mem_range]
  exact ⟨fun h => h.2, fun h => ⟨openAt_lt h, h⟩⟩
theorem opens_nodup (xs : List UInt8) : (opens xs).Nodup := List.nodup_range.filter _
theorem length_filter_range (xs : List UInt8) (p : UInt8 → Bool) : ((List.range xs.length).filter fun i => match xs[i]? with | some c => p c | none => false).length = xs.countP p := by
  induction xs with
  | nil => rfl
  | cons x xs ih =>
    rw [List.length_cons, List.range_succ_eq_map, List.filter_cons]
    have : ((List.range xs.length).map Nat.succ).filter (fun i => match (x :: xs)[i]? with | some c => p c | none => false) = ((List.range xs.length).filter fun i => match xs[i]? with | some c => p c | none => false).map Nat.succ := by
      rw [List.filter_map]
      rfl
    rw [this, List.countP_cons, ← ih]
    simp only [List.getElem?_cons_zero]
    by_cases hp : p x = true <;> simp [hp]
theorem opens_length (xs : List UInt8) : (opens xs).length + xs.count 35 = xs.length := by
  have h1 : (opens xs).length = xs.countP (· != 35) := length_filter_range xs (· != 35)
  rw [h1, List.count_eq_countP]
  have h2 := List.length_eq_countP_add_countP (· == (35 : UInt8)) (l := xs)
  have h3 : xs.countP (fun a => decide ¬(a == 35) = true) = xs.countP (· != 35) := by
    congr 1; funext a; rw [Bool.eq_iff_iff]; simp [bne]
  rw [h3] at h2
  omega
theorem Bfs.open_ {xs : List UInt8} {w f : Nat} {keys wait : List Nat} (h : Bfs xs w f keys wait) (hf : openAt xs f = true) (k : Nat) (hk : k ∈ keys) : openAt xs k = true := Reach.open_ hf (h.reach k hk)
theorem Bfs.length_le {xs : List UInt8} {w f : Nat} {keys wait : List Nat} (h : Bfs xs w f keys wait) (hf : openAt xs f = true) : keys.length ≤ (opens xs).length :=
  h.nodup.length_le_of_subset fun k hk => mem_opens.2 (h.open_ hf k hk)
theorem Bfs.joined {xs : List UInt8} {w f : Nat} {keys : List Nat} (h : Bfs xs w f keys []) (hf : firstC xs = some f) : (keys.length = (opens xs).length) ↔ Joined xs w := by
  have ho := firstC_open hf
  constructor
  · intro he
    refine ⟨f, hf, fun i hi => ?_⟩
    rw [← h.all i]
    by_cases hk : i ∈ keys
    · exact hk
    · have h1 : (i :: keys).Nodup := List.nodup_cons.2 ⟨hk, h.nodup⟩
      have h2 := h1.length_le_of_subset (l₂ := opens xs) fun k hk' => by
        rcases List.mem_cons.1 hk' with rfl | hk'
        · exact mem_opens.2 hi
        · exact mem_opens.2 (h.open_ ho k hk')
      simp at h2
      omega
  · rintro ⟨g, hg, hall⟩
    have : g = f := by rw [hf] at hg; injection hg with e; exact e.symm
    subst this
    have h1 := h.length_le ho
    have h2 : (opens xs).length ≤ keys.length := (opens_nodup xs).length_le_of_subset fun k hk => (h.all k).2 (hall k (mem_opens.1 hk))
    omega
theorem BfsMid.length_le {xs : List UInt8} {w f c : Nat} {pre keys wait : List Nat} (h : BfsMid xs w f c pre keys wait) (hf : openAt xs f = true) : keys.length ≤ (opens xs).length :=
  h.nodup.length_le_of_subset fun k hk => mem_opens.2 (Reach.open_ hf (h.reach k hk))

/-! the rows, each the other way round -/
def mir (w i : Nat) : Nat := i / w * w + (w - 1 - i % w)
theorem mir_facts {w h i : Nat} (h1 : 1 ≤ w) (h8 : w ≤ 8) (hi : i < w * h) : mir w i < w * h ∧ mir w (mir w i) = i := by
  have hw : w = 1 ∨ w = 2 ∨ w = 3 ∨ w = 4 ∨ w = 5 ∨ w = 6 ∨ w = 7 ∨ w = 8 := by omega
  unfold mir
  rcases hw with rfl | rfl | rfl | rfl | rfl | rfl | rfl | rfl <;> constructor <;> omega
theorem beside_mir {w a b : Nat} (h1 : 1 ≤ w) (h8 : w ≤ 8) : beside w (mir w a) (mir w b) = beside w a b := by
  have hw : w = 1 ∨ w = 2 ∨ w = 3 ∨ w = 4 ∨ w = 5 ∨ w = 6 ∨ w = 7 ∨ w = 8 := by omega
  rw [Bool.eq_iff_iff]
  unfold beside mir
  rcases hw with rfl | rfl | rfl | rfl | rfl | rfl | rfl | rfl <;> (split <;> split <;> simp only [Bool.or_eq_true, beq_iff_eq] <;> omega)
/-- ys is xs, its rows the other way round -/
def Mirror (w h : Nat) (xs ys : List UInt8) : Prop := xs.length = w * h ∧ ys.length = w * h ∧ ∀ i, i < w * h → ys[i]? = xs[mir w i]?
theorem Mirror.symm {w h : Nat} {xs ys : List UInt8} (h1 : 1 ≤ w) (h8 : w ≤ 8) (hm : Mirror w h xs ys) : Mirror w h ys xs := by
  refine ⟨hm.2.1, hm.1, fun i hi => ?_⟩
  have hf := mir_facts h1 h8 hi
  rw [hm.2.2 _ hf.1, hf.2]
theorem Mirror.openAt {w h : Nat} {xs ys : List UInt8} (hm : Mirror w h xs ys) {i : Nat} (hi : i < w * h) : openAt ys i = Grid.openAt xs (mir w i) := by
  unfold Grid.openAt; rw [hm.2.2 i hi]
theorem Mirror.reach {w h : Nat} {xs ys : List UInt8} (h1 : 1 ≤ w) (h8 : w ≤ 8) (hm : Mirror w h xs ys) {a b : Nat} (h0 : Reach xs w (some a) b) : Reach ys w (some (mir w a)) (mir w b) := by
  induction h0 with
  | base e => cases e; exact .base rfl
  | step _ hb ho ih =>
    rename_i k i _
    have hi : i < w * h := by rw [← hm.1]; exact openAt_lt ho
    have hf := mir_facts h1 h8 hi
    refine .step ih (by rw [beside_mir h1 h8]; exact hb) ?_
    rw [hm.openAt hf.1, hf.2]
    exact ho
theorem Mirror.joined {w h : Nat} {xs ys : List UInt8} (h1 : 1 ≤ w) (h8 : w ≤ 8) (hm : Mirror w h xs ys) (hj : Joined xs w) : Joined ys w := by
  rw [joined_iff] at hj ⊢
  obtain ⟨⟨i, hi, e⟩, hall⟩ := hj
  have hf := mir_facts h1 h8 (show i < w * h by rw [← hm.1]; exact hi)
  refine ⟨⟨mir w i, by rw [hm.2.1]; exact hf.1, ?_⟩, fun a b ha hb => ?_⟩
  · have := hm.2.2 _ hf.1
    rw [hf.2, List.getElem?_eq_getElem hi, e] at this
    exact (List.getElem?_eq_some_iff.1 this).2
  · have ha' : a < w * h := by rw [← hm.2.1]; exact openAt_lt ha
    have hb' : b < w * h := by rw [← hm.2.1]; exact openAt_lt hb
    have := hm.reach h1 h8 (hall (mir w a) (mir w b) (by rw [← hm.openAt ha']; exact ha) (by rw [← hm.openAt hb']; exact hb))
    rwa [(mir_facts h1 h8 ha').2, (mir_facts h1 h8 hb').2] at this
theorem Mirror.signs {w h : Nat} {xs ys : List UInt8} (hm : Mirror w h xs ys) (hs : xs.all sign = true) : ys.all sign = true := by
  rw [List.all_eq_true] at hs ⊢
  intro c hc
  obtain ⟨i, hi, e⟩ := List.getElem_of_mem hc
  have hi' : i < w * h := by rw [← hm.2.1]; exact hi
  have := hm.2.2 i hi'
  rw [List.getElem?_eq_getElem hi, e] at this
  obtain ⟨hj, e'⟩ := List.getElem?_eq_some_iff.1 this.symm
  exact hs c (by rw [← e']; exact List.getElem_mem _)
theorem Mirror.right {w h : Nat} {xs ys : List UInt8} (h1 : 1 ≤ w) (h8 : w ≤ 8) (hm : Mirror w h xs ys) : rightB w h ys = rightB w h xs := by
  rw [Bool.eq_iff_iff, rightB_iff, rightB_iff]
  have key : ∀ {xs ys : List UInt8}, Mirror w h xs ys → Right w h xs → Right w h ys := fun {xs ys} hm hr => by
    refine ⟨?_, hm.signs hr.2.1, hm.joined h1 h8 hr.2.2⟩
    have := hr.1
    rw [hm.1] at this
    rw [hm.2.1]
    exact this
  exact ⟨key (hm.symm h1 h8), key hm⟩
theorem Mirror.near {w h : Nat} {xs ys : List UInt8} (h1 : 1 ≤ w) (h8 : w ≤ 8) (hm : Mirror w h xs ys) {c : Nat} (hc : c < w * h) : (nears xs w c).length = (nears ys w (mir w c)).length := by
  have key : ∀ {xs ys : List UInt8} {c : Nat}, Mirror w h xs ys → c < w * h → (nears xs w c).length ≤ (nears ys w (mir w c)).length := fun {xs ys c} hm hc => by
    have hnd : ((nears xs w c).map (mir w)).Nodup := by
      rw [List.Nodup, List.pairwise_map]
      refine List.Pairwise.imp_of_mem ?_ (nears_rising xs w c)
      intro a b ha hb hab e
      have ha' : a < w * h := by rw [← hm.1]; exact openAt_lt (mem_nears.1 ha).1
      have hb' : b < w * h := by rw [← hm.1]; exact openAt_lt (mem_nears.1 hb).1
      have := congrArg (mir w) e
      rw [(mir_facts h1 h8 ha').2, (mir_facts h1 h8 hb').2] at this
      omega
    have := hnd.length_le_of_subset (l₂ := nears ys w (mir w c)) fun x hx => by
      obtain ⟨n, hn, rfl⟩ := List.mem_map.1 hx
      obtain ⟨ho, hb⟩ := mem_nears.1 hn
      have hn' : n < w * h := by rw [← hm.1]; exact openAt_lt ho
      have hf := mir_facts h1 h8 hn'
      refine mem_nears.2 ⟨?_, by rw [beside_mir h1 h8]; exact hb⟩
      rw [hm.openAt hf.1, hf.2]
      exact ho
    simpa using this
  have h2 := key (hm.symm h1 h8) (mir_facts h1 h8 hc).1
  rw [(mir_facts h1 h8 hc).2] at h2
  exact Nat.le_antisymm (key hm hc) h2

/-! the cells of a sign -/
def kinds (xs : List UInt8) (k : UInt8) : List Nat := (List.range xs.length).filter fun i => match xs[i]? with | some c => c == k | none => false
theorem kinds_length (xs : List UInt8) (k : UInt8) : (kinds xs k).length = xs.count k := by
  unfold kinds
  rw [length_filter_range xs (· == k), List.count_eq_countP]
theorem signs_length {xs : List UInt8} (h : xs.all sign = true) : xs.count 35 + xs.count 46 + xs.count 67 + xs.count 80 = xs.length := by
  induction xs with
  | nil => rfl
  | cons x xs ih =>
    simp only [List.all_cons, Bool.and_eq_true] at h
    have := ih h.2
    have hs := h.1
    unfold sign at hs
    simp only [Bool.or_eq_true, beq_iff_eq] at hs
    simp only [List.count_cons, List.length_cons]
    rcases hs with ((rfl | rfl) | rfl) | rfl <;> simp <;> omega
theorem kinds_snoc {xs : List UInt8} {k : UInt8} {n : Nat} (hn : n < xs.length) :
    ((List.range (n + 1)).filter fun i => match xs[i]? with | some c => c == k | none => false) = ((List.range n).filter fun i => match xs[i]? with | some c => c == k | none => false) ++ (if xs[n] = k then [n] else []) := by
  rw [List.range_succ, List.filter_append]
  congr 1
  simp only [List.filter_cons, List.getElem?_eq_getElem hn, List.filter_nil]
  by_cases e : xs[n] = k <;> simp [e]

/-! texts -/
/-- the rows of a text: none, if the last one has no end -/
def rows : List UInt8 → Option (List (List UInt8))
  | [] => some []
  | c :: s => if c = 10 then (rows s).map ([] :: ·) else match rows s with
    | some (r :: l) => some ((c :: r) :: l)
    | _ => none
def layRows (l : List (List UInt8)) : List UInt8 := l.flatMap (· ++ [10])
theorem rows_row {r s : List UInt8} (h : ∀ c ∈ r, c ≠ 10) : rows (r ++ 10 :: s) = (rows s).map (r :: ·) := by
  induction r with
  | nil => simp [rows]
  | cons c r ih =>
    rw [List.cons_append, rows, if_neg (h c (by simp)), ih fun d hd => h d (by simp [hd])]
    cases rows s <;> rfl
theorem rows_none {r : List UInt8} (h : ∀ c ∈ r, c ≠ 10) (h0 : r ≠ []) : rows r = none := by
  induction r with
  | nil => exact absurd rfl h0
  | cons c r ih =>
    rw [rows, if_neg (h c (by simp))]
    cases r with
    | nil => rfl
    | cons d r => rw [ih (fun e he => h e (by simp [he])) (by simp)]
theorem rows_lay {l : List (List UInt8)} (h : ∀ r ∈ l, ∀ c ∈ r, c ≠ 10) : rows (layRows l) = some l := by
  induction l with
  | nil => rfl
  | cons r l ih =>
    unfold layRows
    rw [List.flatMap_cons, List.append_assoc, List.singleton_append, rows_row (h r (by simp))]
    have := ih fun r hr => h r (by simp [hr])
    unfold layRows at this
    rw [this]
    rfl
theorem rows_some {s : List UInt8} {l : List (List UInt8)} (h : rows s = some l) : s = layRows l ∧ ∀ r ∈ l, ∀ c ∈ r, c ≠ 10 := by
  induction s generalizing l with
  | nil => cases h; exact ⟨rfl, fun r hr => by cases hr⟩
  | cons c s ih =>
    rw [rows] at h
    by_cases e : c = 10
    · rw [if_pos e] at h
      cases hr : rows s with
      | none => rw [hr] at h; cases h
      | some m =>
        rw [hr] at h
        cases h
        obtain ⟨h1, h2⟩ := ih hr
        refine ⟨by rw [h1, e]; rfl, fun r hr' => ?_⟩
        rcases List.mem_cons.1 hr' with rfl | hr'
        · intro c hc; cases hc
        · exact h2 r hr'
    · rw [if_neg e] at h
      cases hr : rows s with
      | none => rw [hr] at h; cases h
      | some m =>
        rw [hr] at h
        cases m with
        | nil => cases h
        | cons r m =>
          cases h
          obtain ⟨h1, h2⟩ := ih hr
          refine ⟨by rw [h1]; rfl, fun q hq => ?_⟩
          rcases List.mem_cons.1 hq with rfl | hq
          · intro d hd
            rcases List.mem_cons.1 hd with rfl | hd
            · exact e
            · exact h2 r (by simp) d hd
          · exact h2 q (by simp [hq])
end Grid
