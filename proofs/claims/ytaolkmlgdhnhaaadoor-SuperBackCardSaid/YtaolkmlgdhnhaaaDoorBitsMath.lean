/-
  The plain mathematics of a set of the numbers from 0 to 239 in 30 bytes: what is in it, with and without a number, both of two, how many, the first that isn't in it. It imports nothing of the program. Conditions: none beyond the premises of each theorem.
-/
namespace Go.Proofs.YtaolkmlgdhnhaaaDoor.Bits

/-- thirty bytes -/
structure Ok (s : List Nat) : Prop where
  len : s.length = 30
  small : ∀ b ∈ s, b < 256
/-- a byte of a set -/
def at_ (s : List Nat) (i : Nat) : Nat := s.getD i 0
theorem at_lt {s : List Nat} (h : Ok s) (i : Nat) : at_ s i < 256 := by
  unfold at_
  rw [List.getD_eq_getElem?_getD]
  by_cases hi : i < s.length
  · rw [List.getElem?_eq_getElem hi]
    exact h.small _ (List.getElem_mem hi)
  · rw [List.getElem?_eq_none (by omega)]
    decide
theorem at_eq {s : List Nat} {i : Nat} (hi : i < s.length) : s[i] = at_ s i := by
  unfold at_
  rw [List.getD_eq_getElem?_getD, List.getElem?_eq_getElem hi]
  rfl
theorem at_set {s : List Nat} {i j b : Nat} (hi : i < s.length) : at_ (s.set i b) j = if i = j then b else at_ s j := by
  unfold at_
  rw [List.getD_eq_getElem?_getD, List.getD_eq_getElem?_getD, List.getElem?_set]
  by_cases e : i = j
  · subst e; simp [hi]
  · simp [e]
/-- is a number in a set? -/
def has (s : List Nat) (n : Nat) : Bool := (at_ s (n / 8)).testBit (n % 8)
/-- by halving, as the document says it -/
theorem has_div (s : List Nat) (n : Nat) : has s n = decide (at_ s (n / 8) / 2 ^ (n % 8) % 2 = 1) := by
  unfold has
  rw [Nat.testBit_eq_decide_div_mod_eq]
theorem byte_ext {a b : Nat} (ha : a < 256) (hb : b < 256) (h : ∀ i, i < 8 → a.testBit i = b.testBit i) : a = b := by
  refine Nat.eq_of_testBit_eq fun i => ?_
  by_cases hi : i < 8
  · exact h i hi
  · have hp : 256 ≤ 2 ^ i := by
      have : (2 : Nat) ^ 8 ≤ 2 ^ i := Nat.pow_le_pow_right (by decide) (by omega)
      simpa using this
    rw [Nat.testBit_lt_two_pow (by omega), Nat.testBit_lt_two_pow (by omega)]
/-- two sets of the same numbers are one -/
theorem ext {s t : List Nat} (hs : Ok s) (ht : Ok t) (h : ∀ n, n < 240 → has s n = has t n) : s = t := by
  refine List.ext_getElem (by rw [hs.len, ht.len]) fun i h1 h2 => ?_
  rw [at_eq h1, at_eq h2]
  refine byte_ext (at_lt hs i) (at_lt ht i) fun j hj => ?_
  have hi : i < 30 := by rw [← hs.len]; exact h1
  have := h (i * 8 + j) (by omega)
  unfold has at this
  rwa [show (i * 8 + j) / 8 = i by omega, show (i * 8 + j) % 8 = j by omega] at this
/-- a byte of a set laid anew -/
theorem Ok.set {s : List Nat} (h : Ok s) (i : Nat) {b : Nat} (hb : b < 256) : Ok (s.set i b) :=
  ⟨by rw [List.length_set]; exact h.len, fun x hx => by
    rcases List.mem_or_eq_of_mem_set hx with hx | rfl
    · exact h.small x hx
    · exact hb⟩
/-- .. by what its bits are -/
theorem has_set {s : List Nat} (h : Ok s) {n : Nat} (hn : n < 240) {b : Nat} {v : Bool} (hb : ∀ i, i < 8 → b.testBit i = if i = n % 8 then v else (at_ s (n / 8)).testBit i) (m : Nat) :
    has (s.set (n / 8) b) m = if m = n then v else has s m := by
  unfold has
  rw [at_set (by rw [h.len]; omega)]
  by_cases e : n / 8 = m / 8
  · rw [if_pos e, hb _ (Nat.mod_lt _ (by decide)), ← e]
    by_cases e2 : m % 8 = n % 8
    · rw [if_pos e2, if_pos (by omega)]
    · rw [if_neg e2, if_neg (by omega)]
  · rw [if_neg e, if_neg (by omega)]
/-- with a number -/
def with_ (s : List Nat) (n : Nat) : List Nat := s.set (n / 8) (at_ s (n / 8) ||| 2 ^ (n % 8))
/-- .. without one -/
def without (s : List Nat) (n : Nat) : List Nat := s.set (n / 8) (at_ s (n / 8) &&& (255 - 2 ^ (n % 8)))
theorem pow_lt (n : Nat) : 2 ^ (n % 8) < 256 := by
  have h : (2 : Nat) ^ (n % 8) < 2 ^ 8 := Nat.pow_lt_pow_right (by decide) (Nat.mod_lt _ (by decide))
  simpa using h
theorem or_lt {a b : Nat} (ha : a < 256) (hb : b < 256) : a ||| b < 256 := Nat.or_lt_two_pow (n := 8) ha hb
theorem Ok.with_ {s : List Nat} (h : Ok s) (n : Nat) : Ok (with_ s n) := h.set _ (or_lt (at_lt h _) (pow_lt n))
theorem Ok.without {s : List Nat} (h : Ok s) (n : Nat) : Ok (without s n) := h.set _ (Nat.lt_of_le_of_lt Nat.and_le_left (at_lt h _))
theorem mask_bit : ∀ j, j < 8 → ∀ i, i < 8 → (255 - 2 ^ j).testBit i = !decide (i = j) := by decide
theorem has_with {s : List Nat} (h : Ok s) {n : Nat} (hn : n < 240) (m : Nat) : has (with_ s n) m = if m = n then true else has s m := by
  refine has_set h hn (fun i _ => ?_) m
  rw [Nat.testBit_or, Nat.testBit_two_pow]
  by_cases e : i = n % 8
  · rw [if_pos e, decide_eq_true e.symm, Bool.or_true]
  · rw [if_neg e, decide_eq_false (Ne.symm e), Bool.or_false]
theorem has_without {s : List Nat} (h : Ok s) {n : Nat} (hn : n < 240) (m : Nat) : has (without s n) m = if m = n then false else has s m := by
  refine has_set h hn (fun i hi => ?_) m
  rw [Nat.testBit_and, mask_bit _ (Nat.mod_lt _ (by decide)) i hi]
  by_cases e : i = n % 8
  · rw [if_pos e, decide_eq_true e, Bool.not_true, Bool.and_false]
  · rw [if_neg e, decide_eq_false e, Bool.not_false, Bool.and_true]
/-- both of two -/
def both (s t : List Nat) : List Nat := List.zipWith (· ||| ·) s t
theorem Ok.both {s t : List Nat} (hs : Ok s) (ht : Ok t) : Ok (both s t) := by
  refine ⟨by simp [Bits.both, hs.len, ht.len], fun x hx => ?_⟩
  obtain ⟨i, hi, rfl⟩ := List.mem_iff_getElem.1 hx
  simp only [Bits.both, List.getElem_zipWith]
  exact or_lt (hs.small _ (List.getElem_mem _)) (ht.small _ (List.getElem_mem _))
theorem has_both {s t : List Nat} (hs : Ok s) (ht : Ok t) {n : Nat} (hn : n < 240) : has (both s t) n = (has s n || has t n) := by
  have h1 : n / 8 < s.length := by rw [hs.len]; omega
  have h2 : n / 8 < t.length := by rw [ht.len]; omega
  have e : at_ (both s t) (n / 8) = at_ s (n / 8) ||| at_ t (n / 8) := by
    rw [← at_eq h1, ← at_eq h2, ← at_eq (by simp [both]; omega)]
    simp [both]
  unfold has
  rw [e, Nat.testBit_or]
/-- how many -/
def countBelow (s : List Nat) : Nat → Nat
  | 0 => 0
  | k + 1 => countBelow s k + if has s k then 1 else 0
def count (s : List Nat) : Nat := countBelow s 240
theorem countBelow_le (s : List Nat) : ∀ k, countBelow s k ≤ k
  | 0 => Nat.le_refl _
  | k + 1 => by
    have := countBelow_le s k
    rw [countBelow]
    split <;> omega
theorem countBelow_congr {s t : List Nat} : ∀ {k : Nat}, (∀ n, n < k → has s n = has t n) → countBelow s k = countBelow t k
  | 0, _ => rfl
  | k + 1, h => by rw [countBelow, countBelow, countBelow_congr fun n hn => h n (by omega), h k (by omega)]
/-- a number put in -/
theorem countBelow_put {s t : List Nat} {n : Nat} (hn : has s n = false) (hp : ∀ m, has t m = if m = n then true else has s m) : ∀ k, countBelow t k = countBelow s k + if n < k then 1 else 0
  | 0 => rfl
  | k + 1 => by
    rw [countBelow, countBelow, countBelow_put hn hp k, hp k]
    by_cases e : k = n
    · subst e; simp [hn]
    · rw [if_neg e]
      by_cases h : n < k
      · rw [if_pos h, if_pos (show n < k + 1 by omega)]; omega
      · rw [if_neg h, if_neg (show ¬ n < k + 1 by omega)]; omega
theorem count_with {s : List Nat} (h : Ok s) {n : Nat} (hn : n < 240) : count (with_ s n) = count s + if has s n then 0 else 1 := by
  cases hs : has s n with
  | true =>
    rw [show count (with_ s n) = count s from countBelow_congr fun m _ => by rw [has_with h hn]; split <;> simp_all]
    rw [if_pos rfl, Nat.add_zero]
  | false =>
    have := countBelow_put hs (has_with h hn) 240
    rw [if_pos hn] at this
    exact this
theorem count_without {s : List Nat} (h : Ok s) {n : Nat} (hn : n < 240) : count (without s n) + (if has s n then 1 else 0) = count s := by
  cases hs : has s n with
  | false =>
    rw [show count (without s n) = count s from countBelow_congr fun m _ => by rw [has_without h hn]; split <;> simp_all]
    rw [if_neg (by decide), Nat.add_zero]
  | true =>
    have h0 : has (without s n) n = false := by rw [has_without h hn, if_pos rfl]
    have := countBelow_put (s := without s n) (t := s) h0 (fun m => by
      rw [has_without h hn]
      by_cases e : m = n
      · subst e; simp [hs]
      · simp [e]) 240
    rw [if_pos hn] at this
    exact this.symm
/-- of two sets: those in either and those in both -/
theorem countBelow_both {s t u v : List Nat} : ∀ {k : Nat}, (∀ n, n < k → has u n = (has s n || has t n)) → (∀ n, n < k → has v n = (has s n && has t n)) → countBelow u k + countBelow v k = countBelow s k + countBelow t k
  | 0, _, _ => rfl
  | k + 1, hu, hv => by
    have ih := countBelow_both (k := k) (fun n hn => hu n (by omega)) (fun n hn => hv n (by omega))
    rw [countBelow, countBelow, countBelow, countBelow, hu k (by omega), hv k (by omega)]
    cases has s k <;> cases has t k <;> simp <;> omega
/-- how many below k are in both -/
def inBoth (s t : List Nat) : Nat → Nat
  | 0 => 0
  | k + 1 => inBoth s t k + if has s k && has t k then 1 else 0
theorem countBelow_either {s t u : List Nat} : ∀ {k : Nat}, (∀ n, n < k → has u n = (has s n || has t n)) → countBelow u k + inBoth s t k = countBelow s k + countBelow t k
  | 0, _ => rfl
  | k + 1, hu => by
    have ih := countBelow_either (k := k) (fun n hn => hu n (by omega))
    rw [countBelow, countBelow, countBelow, inBoth, hu k (by omega)]
    cases has s k <;> cases has t k <;> simp <;> omega
/-- a set without all of another one -/
theorem countBelow_rest {t u v : List Nat} : ∀ {k : Nat}, (∀ n, n < k → has t n = true → has u n = true) → (∀ n, n < k → has v n = (has u n && !has t n)) → countBelow v k + countBelow t k = countBelow u k
  | 0, _, _ => rfl
  | k + 1, ht, hv => by
    have ih := countBelow_rest (k := k) (fun n hn => ht n (by omega)) (fun n hn => hv n (by omega))
    have h1 := ht k (by omega)
    rw [countBelow, countBelow, countBelow, hv k (by omega)]
    revert h1
    cases has u k <;> cases has t k <;> simp <;> omega
/-- the numbers below k of a set taken out -/
def minus (u t : List Nat) : Nat → List Nat
  | 0 => u
  | k + 1 => if has t k then without (minus u t k) k else minus u t k
theorem Ok.minus {u t : List Nat} (h : Ok u) : ∀ k, Ok (minus u t k)
  | 0 => h
  | k + 1 => by
    rw [Bits.minus]
    split
    · exact (h.minus k).without k
    · exact h.minus k
theorem has_minus {u t : List Nat} (h : Ok u) : ∀ {k : Nat}, k ≤ 240 → ∀ m, has (minus u t k) m = (has u m && !(decide (m < k) && has t m))
  | 0, _, m => by simp [minus]
  | k + 1, hk, m => by
    have ih := has_minus (t := t) h (k := k) (by omega) m
    rw [minus]
    by_cases ht : has t k = true
    · rw [if_pos ht, has_without (h.minus k) (by omega), ih]
      by_cases e : m = k
      · subst e; simp [ht]
      · have e2 : decide (m < k + 1) = decide (m < k) := by rw [decide_eq_decide]; omega
        rw [if_neg e, e2]
    · rw [if_neg ht, ih]
      by_cases e : m = k
      · subst e; simp [ht]
      · have e2 : decide (m < k + 1) = decide (m < k) := by rw [decide_eq_decide]; omega
        rw [e2]
theorem count_all {s : List Nat} (h : ∀ n, n < 240 → has s n = true) : count s = 240 := by
  have key : ∀ k, k ≤ 240 → countBelow s k = k := by
    intro k
    induction k with
    | zero => intro _; rfl
    | succ k ih => intro hk; rw [countBelow, ih (by omega), h k (by omega)]; rfl
  exact key 240 (Nat.le_refl _)
theorem count_full {s : List Nat} : ∀ {k : Nat}, countBelow s k = k → ∀ n, n < k → has s n = true
  | 0, _, n, hn => by omega
  | k + 1, h, n, hn => by
    have hle := countBelow_le s k
    rw [countBelow] at h
    by_cases hk : has s k = true
    · rw [if_pos hk] at h
      by_cases e : n = k
      · rw [e]; exact hk
      · exact count_full (k := k) (by omega) n (by omega)
    · rw [if_neg hk] at h
      omega
/-- the first number from a on, of c numbers, that isn't in a set -/
def first (s : List Nat) (a : Nat) : Nat → Option Nat
  | 0 => none
  | c + 1 => if has s a then first s (a + 1) c else some a
theorem first_some {s : List Nat} : ∀ {c a n : Nat}, first s a c = some n → a ≤ n ∧ n < a + c ∧ has s n = false ∧ ∀ m, a ≤ m → m < n → has s m = true
  | 0, a, n, h => by cases h
  | c + 1, a, n, h => by
    rw [first] at h
    by_cases ha : has s a = true
    · rw [if_pos ha] at h
      obtain ⟨h1, h2, h3, h4⟩ := first_some h
      exact ⟨by omega, by omega, h3, fun m hm hm2 => by
        by_cases e : m = a
        · rw [e]; exact ha
        · exact h4 m (by omega) hm2⟩
    · rw [if_neg ha] at h
      obtain rfl := Option.some.inj h
      exact ⟨Nat.le_refl _, by omega, by simpa using ha, fun m hm hm2 => by omega⟩
theorem first_none {s : List Nat} : ∀ {c a : Nat}, first s a c = none → ∀ m, a ≤ m → m < a + c → has s m = true
  | 0, a, _, m, h1, h2 => by omega
  | c + 1, a, h, m, h1, h2 => by
    rw [first] at h
    by_cases ha : has s a = true
    · rw [if_pos ha] at h
      by_cases e : m = a
      · rw [e]; exact ha
      · exact first_none h m (by omega) (by omega)
    · rw [if_neg ha] at h
      cases h
/-- what is told of the first, whoever finds it -/
theorem first_of {s : List Nat} {a c n : Nat} (h1 : a ≤ n) (h2 : n < a + c) (h3 : has s n = false) (h4 : ∀ m, a ≤ m → m < n → has s m = true) : first s a c = some n := by
  cases e : first s a c with
  | none =>
    have := first_none e n h1 h2
    rw [h3] at this
    cases this
  | some m =>
    obtain ⟨g1, g2, g3, g4⟩ := first_some e
    rcases Nat.lt_trichotomy m n with h | h | h
    · have := h4 m g1 h
      rw [g3] at this
      cases this
    · rw [h]
    · have := g4 n h1 h
      rw [h3] at this
      cases this
/-- filled up, k times, by the first that isn't in it -/
def fill (s : List Nat) : Nat → List Nat
  | 0 => s
  | k + 1 => match first (fill s k) 0 240 with
    | some n => with_ (fill s k) n
    | none => fill s k
theorem Ok.fill {s : List Nat} (h : Ok s) : ∀ k, Ok (fill s k)
  | 0 => h
  | k + 1 => by
    rw [Bits.fill]
    split
    · exact (h.fill k).with_ _
    · exact h.fill k
/-- all below a number that was just put in are in it: the next one is greater -/
theorem fill_greater {s : List Nat} (h : Ok s) {n m : Nat} (h1 : first s 0 240 = some n) (h2 : first (with_ s n) 0 240 = some m) : n < m := by
  obtain ⟨_, g2, _, g4⟩ := first_some h1
  obtain ⟨_, _, k3, _⟩ := first_some h2
  rw [has_with h (by omega)] at k3
  rcases Nat.lt_trichotomy m n with e | e | e
  · rw [if_neg (by omega), g4 m (Nat.zero_le _) e] at k3
    cases k3
  · rw [if_pos e] at k3
    cases k3
  · exact e
theorem fill_count {s : List Nat} (h : Ok s) : ∀ k, first (fill s k) 0 240 = none ∨ k ≤ count (fill s k)
  | 0 => .inr (Nat.zero_le _)
  | k + 1 => by
    have ih := fill_count h k
    cases e : first (fill s k) 0 240 with
    | none =>
      left
      rw [fill, e]
      exact e
    | some n =>
      right
      obtain ⟨_, g2, g3, _⟩ := first_some e
      rw [e] at ih
      rw [fill, e]
      show k + 1 ≤ count (with_ (fill s k) n)
      rw [count_with (h.fill k) (by omega), g3]
      rcases ih with ih | ih
      · cases ih
      · simpa using ih
/-- in the end all are in it -/
theorem fill_all {s : List Nat} (h : Ok s) : first (fill s 240) 0 240 = none ∧ count (fill s 240) = 240 := by
  have hall : ∀ n, n < 240 → has (fill s 240) n = true := by
    rcases fill_count h 240 with e | e
    · exact fun n hn => first_none e n (Nat.zero_le _) (by omega)
    · exact count_full (k := 240) (Nat.le_antisymm (countBelow_le _ _) e)
  refine ⟨?_, count_all hall⟩
  cases e : first (fill s 240) 0 240 with
  | none => rfl
  | some n =>
    obtain ⟨_, g2, g3, _⟩ := first_some e
    rw [hall n (by omega)] at g3
    cases g3
/-- the document's set of a list, k of its numbers laid -/
def ofK (l : List Bool) : Nat → List Nat
  | 0 => List.replicate 30 0
  | k + 1 => if l.getD k false then (ofK l k).set (k / 8) (at_ (ofK l k) (k / 8) + 2 ^ (k % 8)) else ofK l k
/-- .. what it holds: bytes that are small where they are laid next, and the list's numbers -/
theorem ofK_spec (l : List Bool) : ∀ k, k ≤ 240 → Ok (ofK l k) ∧ at_ (ofK l k) (k / 8) < 2 ^ (k % 8) ∧ ∀ m, m < 240 → has (ofK l k) m = (decide (m < k) && l.getD m false)
  | 0, _ => by
    have hz : ∀ i, at_ (List.replicate 30 0) i = 0 := fun i => by
      unfold at_
      rw [List.getD_eq_getElem?_getD, List.getElem?_replicate]
      split <;> rfl
    exact ⟨⟨by simp [ofK], by simp [ofK]⟩, by rw [ofK, hz]; decide, fun m _ => by unfold has; rw [ofK, hz]; simp⟩
  | k + 1, hk => by
    obtain ⟨h1, h2, h3⟩ := ofK_spec l k (by omega)
    have hadd : at_ (ofK l k) (k / 8) + 2 ^ (k % 8) = at_ (ofK l k) (k / 8) ||| 2 ^ (k % 8) := by
      have := Nat.two_pow_add_eq_or_of_lt h2 1
      rw [Nat.mul_one] at this
      rw [Nat.add_comm, this, Nat.or_comm]
    have hw : ofK l (k + 1) = if l.getD k false then with_ (ofK l k) k else ofK l k := by rw [ofK, hadd]; rfl
    have hok : Ok (ofK l (k + 1)) := by
      rw [hw]
      split
      · exact h1.with_ k
      · exact h1
    have hhas : ∀ m, m < 240 → has (ofK l (k + 1)) m = (decide (m < k + 1) && l.getD m false) := fun m hm => by
      rw [hw]
      by_cases hl : l.getD k false = true
      · rw [if_pos hl, has_with h1 (by omega), h3 m hm]
        by_cases e : m = k
        · subst e; rw [if_pos rfl, hl]; simp
        · have e2 : decide (m < k + 1) = decide (m < k) := by rw [decide_eq_decide]; omega
          rw [if_neg e, e2]
      · rw [if_neg hl, h3 m hm]
        by_cases e : m = k
        · subst e; rw [show l.getD m false = false by simpa using hl]; simp
        · have e2 : decide (m < k + 1) = decide (m < k) := by rw [decide_eq_decide]; omega
          rw [e2]
    refine ⟨hok, ?_, hhas⟩
    refine Nat.lt_pow_two_of_testBit _ fun i hi => ?_
    by_cases hi8 : i < 8
    · by_cases hq : (k + 1) / 8 < 30
      · have := hhas ((k + 1) / 8 * 8 + i) (by omega)
        unfold has at this
        rw [show ((k + 1) / 8 * 8 + i) / 8 = (k + 1) / 8 by omega, show ((k + 1) / 8 * 8 + i) % 8 = i by omega, decide_eq_false (by omega), Bool.false_and] at this
        exact this
      · have hz : at_ (ofK l (k + 1)) ((k + 1) / 8) = 0 := by
          unfold at_
          rw [List.getD_eq_getElem?_getD, List.getElem?_eq_none (by rw [hok.len]; omega)]
          rfl
        rw [hz]
        simp
    · have hlt := at_lt hok ((k + 1) / 8)
      have hp : 256 ≤ 2 ^ i := by
        have : (2 : Nat) ^ 8 ≤ 2 ^ i := Nat.pow_le_pow_right (by decide) (by omega)
        simpa using this
      exact Nat.testBit_lt_two_pow (by omega)
end Go.Proofs.YtaolkmlgdhnhaaaDoor.Bits
