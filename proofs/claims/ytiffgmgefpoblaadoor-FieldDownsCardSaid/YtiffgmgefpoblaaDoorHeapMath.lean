/-
  Binary heaps of pairs, as plain mathematics: which of two is less, rising and sinking, the least one, rising lists. Conditions: none beyond the premises of each theorem.
-/
namespace Hp

abbrev Itm := Int × Int
def lt2 (a b : Itm) : Bool := decide (a.1 < b.1) || (decide (a.1 = b.1) && decide (a.2 < b.2))
def le2 (a b : Itm) : Prop := lt2 b a = false
theorem lt2_iff {a b : Itm} : lt2 a b = true ↔ a.1 < b.1 ∨ (a.1 = b.1 ∧ a.2 < b.2) := by simp [lt2]
theorem le2_iff {a b : Itm} : le2 a b ↔ a.1 < b.1 ∨ (a.1 = b.1 ∧ a.2 ≤ b.2) := by
  unfold le2
  rw [← Bool.not_eq_true, lt2_iff]
  omega
theorem le2_refl (a : Itm) : le2 a a := le2_iff.2 (by omega)
theorem le2_trans {a b c : Itm} (h1 : le2 a b) (h2 : le2 b c) : le2 a c := by
  rw [le2_iff] at *
  omega
theorem le2_of_lt {a b : Itm} (h : lt2 a b = true) : le2 a b := by
  rw [le2_iff]; rw [lt2_iff] at h
  omega
theorem le2_antisymm {a b : Itm} (h1 : le2 a b) (h2 : le2 b a) : a = b := by
  rw [le2_iff] at h1 h2
  exact Prod.ext (by omega) (by omega)
theorem le2_total (a b : Itm) : le2 a b ∨ le2 b a := by
  rw [le2_iff, le2_iff]
  omega
theorem lt2_self (a : Itm) : lt2 a a = false := le2_refl a

def at2 (L : List Itm) (i : Nat) : Itm := L.getD i (0, 0)
theorem at2_eq {L : List Itm} {i : Nat} (h : i < L.length) : L[i]? = some (at2 L i) := by
  unfold at2
  rw [List.getD_eq_getElem?_getD, List.getElem?_eq_getElem h]
  rfl
theorem at2_get {L : List Itm} {i : Nat} (h : i < L.length) : L[i] = at2 L i := by
  have := at2_eq h
  rw [List.getElem?_eq_getElem h] at this
  exact Option.some.inj this
theorem at2_mem {L : List Itm} {i : Nat} (h : i < L.length) : at2 L i ∈ L := by
  rw [← at2_get h]; exact List.getElem_mem _
theorem at2_app {L M : List Itm} {i : Nat} (h : i < L.length) : at2 (L ++ M) i = at2 L i := by
  unfold at2
  rw [List.getD_eq_getElem?_getD, List.getD_eq_getElem?_getD, List.getElem?_append_left h]
theorem at2_snoc (L : List Itm) (x : Itm) : at2 (L ++ [x]) L.length = x := by
  unfold at2
  rw [List.getD_eq_getElem?_getD, List.getElem?_append_right (Nat.le_refl _)]
  simp
theorem at2_set {L : List Itm} {i k : Nat} {v : Itm} (h : i < L.length) : at2 (L.set i v) k = if k = i then v else at2 L k := by
  unfold at2
  rw [List.getD_eq_getElem?_getD, List.getD_eq_getElem?_getD, List.getElem?_set]
  by_cases e : i = k
  · subst e; simp [h]
  · rw [if_neg e, if_neg (fun h => e h.symm)]
theorem at2_take {L : List Itm} {i n : Nat} (h : i < n) : at2 (L.take n) i = at2 L i := by
  unfold at2
  rw [List.getD_eq_getElem?_getD, List.getD_eq_getElem?_getD, List.getElem?_take, if_pos h]

/-- two places change -/
def swap2 (L : List Itm) (i j : Nat) : List Itm := (L.set i (at2 L j)).set j (at2 L i)
theorem swap2_length (L : List Itm) (i j : Nat) : (swap2 L i j).length = L.length := by simp [swap2]
theorem at2_swap {L : List Itm} {i j k : Nat} (hi : i < L.length) (hj : j < L.length) : at2 (swap2 L i j) k = if k = j then at2 L i else if k = i then at2 L j else at2 L k := by
  unfold swap2
  rw [at2_set (by simpa using hj), at2_set hi]
theorem swap2_perm {L : List Itm} {i j : Nat} (hi : i < L.length) (hj : j < L.length) : (swap2 L i j).Perm L := by
  unfold swap2
  rw [← at2_get hi, ← at2_get hj]
  exact List.set_set_perm hi hj

/-- each is no greater than those below it -/
def IsHp (L : List Itm) : Prop := ∀ i, 0 < i → i < L.length → le2 (at2 L ((i - 1) / 2)) (at2 L i)
theorem isHp_nil : IsHp [] := fun i _ h => absurd h (by simp)
theorem IsHp.least {L : List Itm} (h : IsHp L) : ∀ i, i < L.length → le2 (at2 L 0) (at2 L i) := by
  intro i
  induction i using Nat.strongRecOn with
  | _ i ih =>
    intro hi
    by_cases h0 : i = 0
    · subst h0; exact le2_refl _
    · exact le2_trans (ih ((i - 1) / 2) (by omega) (by omega)) (h i (by omega) hi)
theorem mem_at2 {L : List Itm} {x : Itm} (h : x ∈ L) : ∃ i, i < L.length ∧ at2 L i = x := by
  obtain ⟨i, hi, e⟩ := List.mem_iff_getElem.1 h
  exact ⟨i, hi, by rw [← at2_get hi, e]⟩
theorem IsHp.least_mem {L : List Itm} (h : IsHp L) {x : Itm} (hx : x ∈ L) : le2 (at2 L 0) x := by
  obtain ⟨i, hi, e⟩ := mem_at2 hx
  rw [← e]; exact h.least i hi

/-- all is well but at place i, against what is above it -/
structure UpI (L : List Itm) (i : Nat) : Prop where
  all : ∀ j, 0 < j → j < L.length → j ≠ i → le2 (at2 L ((j - 1) / 2)) (at2 L j)
  kid : ∀ j, 0 < j → j < L.length → (j - 1) / 2 = i → 0 < i → le2 (at2 L ((i - 1) / 2)) (at2 L j)
theorem UpI.done {L : List Itm} {i : Nat} (h : UpI L i) (hd : 0 < i → le2 (at2 L ((i - 1) / 2)) (at2 L i)) : IsHp L := fun j h0 hj => by
  by_cases e : j = i
  · subst e; exact hd h0
  · exact h.all j h0 hj e
theorem UpI.step {L : List Itm} {i p : Nat} (h : UpI L i) (h0 : 0 < i) (hi : i < L.length) (hp : p = (i - 1) / 2) (hlt : lt2 (at2 L i) (at2 L p) = true) : UpI (swap2 L i p) p := by
  have hpl : p < L.length := by omega
  have hpi : p < i := by omega
  have hle := le2_of_lt hlt
  refine ⟨fun j hj0 hj hne => ?_, fun j hj0 hj hpar hp0 => ?_⟩
  · rw [swap2_length] at hj
    by_cases e : j = i
    · subst e
      rw [← hp, at2_swap hi hpl, at2_swap hi hpl, if_pos rfl, if_neg (by omega), if_pos rfl]
      exact hle
    · rw [at2_swap hi hpl (k := j), if_neg hne, if_neg e]
      by_cases q : (j - 1) / 2 = p
      · rw [q, at2_swap hi hpl, if_pos rfl]
        exact le2_trans hle (q ▸ h.all j hj0 hj e)
      · by_cases q2 : (j - 1) / 2 = i
        · rw [q2, at2_swap hi hpl, if_neg (by omega), if_pos rfl]
          have := h.kid j hj0 hj q2 h0
          rwa [← hp] at this
        · rw [at2_swap hi hpl, if_neg q, if_neg q2]
          exact h.all j hj0 hj e
  · rw [swap2_length] at hj
    have h1 := h.all p hp0 hpl (by omega)
    rw [at2_swap hi hpl, if_neg (by omega), if_neg (by omega)]
    by_cases e : j = i
    · subst e
      rw [at2_swap hi hpl, if_neg (by omega), if_pos rfl]
      exact h1
    · rw [at2_swap hi hpl, if_neg (by omega), if_neg e]
      exact le2_trans h1 (hpar ▸ h.all j hj0 hj e)
theorem UpI.push {L : List Itm} (h : IsHp L) (x : Itm) : UpI (L ++ [x]) L.length := by
  refine ⟨fun j hj0 hj hne => ?_, fun j hj0 hj hpar hp0 => ?_⟩
  · rw [List.length_append, List.length_singleton] at hj
    rw [at2_app (by omega), at2_app (by omega)]
    exact h j hj0 (by omega)
  · rw [List.length_append, List.length_singleton] at hj
    omega

/-- all is well but at place i, against what is below it -/
structure DnI (L : List Itm) (i : Nat) : Prop where
  all : ∀ j, 0 < j → j < L.length → (j - 1) / 2 ≠ i → le2 (at2 L ((j - 1) / 2)) (at2 L j)
  kid : ∀ j, 0 < j → j < L.length → (j - 1) / 2 = i → 0 < i → le2 (at2 L ((i - 1) / 2)) (at2 L j)
theorem DnI.done {L : List Itm} {i : Nat} (h : DnI L i) (hd : ∀ j, 0 < j → j < L.length → (j - 1) / 2 = i → le2 (at2 L i) (at2 L j)) : IsHp L := fun j h0 hj => by
  by_cases e : (j - 1) / 2 = i
  · rw [e]; exact hd j h0 hj e
  · exact h.all j h0 hj e
theorem DnI.step {L : List Itm} {i c : Nat} (h : DnI L i) (h0 : 0 < c) (hc : c < L.length) (hi : (c - 1) / 2 = i) (hmin : ∀ j, 0 < j → j < L.length → (j - 1) / 2 = i → le2 (at2 L c) (at2 L j)) (hlt : lt2 (at2 L c) (at2 L i) = true) : DnI (swap2 L c i) c := by
  have hil : i < L.length := by omega
  have hic : i < c := by omega
  have hle := le2_of_lt hlt
  refine ⟨fun j hj0 hj hne => ?_, fun j hj0 hj hpar hp0 => ?_⟩
  · rw [swap2_length] at hj
    by_cases q : (j - 1) / 2 = i
    · rw [q, at2_swap hc hil, if_pos rfl]
      by_cases e : j = c
      · subst e
        rw [at2_swap hc hil, if_neg (by omega), if_pos rfl]
        exact hle
      · rw [at2_swap hc hil, if_neg (by omega), if_neg e]
        exact hmin j hj0 hj q
    · rw [at2_swap hc hil (k := (j - 1) / 2), if_neg q, if_neg hne]
      by_cases e : j = i
      · subst e
        rw [at2_swap hc hil, if_pos rfl]
        exact h.kid c h0 hc hi (by omega)
      · rw [at2_swap hc hil, if_neg e, if_neg (by intro h; subst h; exact q hi)]
        exact h.all j hj0 hj q
  · rw [swap2_length] at hj
    rw [hi, at2_swap hc hil, if_pos rfl, at2_swap hc hil, if_neg (by omega), if_neg (by omega)]
    have := h.all j hj0 hj (by omega)
    rwa [hpar] at this

/-- the last one is laid at the first one's place -/
def pop2 (L : List Itm) : List Itm := (L.set 0 (at2 L (L.length - 1))).take (L.length - 1)
theorem pop2_length (L : List Itm) : (pop2 L).length = L.length - 1 := by simp [pop2]
theorem at2_pop {L : List Itm} {j : Nat} (h0 : 0 < j) (hj : j < (pop2 L).length) : at2 (pop2 L) j = at2 L j := by
  rw [pop2_length] at hj
  unfold pop2
  rw [at2_take hj, at2_set (by omega), if_neg (by omega)]
theorem DnI.pop {L : List Itm} (h : IsHp L) : DnI (pop2 L) 0 := by
  refine ⟨fun j hj0 hj hne => ?_, fun j hj0 hj hpar hp0 => by omega⟩
  rw [at2_pop hj0 hj, at2_pop (by omega) (by omega)]
  exact h j hj0 (by rw [pop2_length] at hj; omega)
theorem pop2_perm {L : List Itm} (h : 0 < L.length) : L.Perm (at2 L 0 :: pop2 L) := by
  cases L with
  | nil => simp at h
  | cons a r =>
    rcases List.eq_nil_or_concat r with rfl | ⟨m, z, rfl⟩
    · simp [pop2, at2]
    · have hz : at2 (a :: (m ++ [z])) (m.length + 1) = z := by
        show at2 ((a :: m) ++ [z]) (a :: m).length = z
        exact at2_snoc _ _
      have : pop2 (a :: (m ++ [z])) = z :: m := by
        unfold pop2
        simp only [List.length_cons, List.length_append, List.length_nil, Nat.zero_add, Nat.add_sub_cancel, hz, List.set_cons_zero, List.take_succ_cons]
        rw [List.take_left]
      rw [List.concat_eq_append, this]
      show (a :: (m ++ [z])).Perm (a :: z :: m)
      refine List.Perm.cons a ?_
      simp

/-- rising -/
def Rise (L : List Itm) : Prop := L.Pairwise le2
theorem Rise.uniq {A B : List Itm} (ha : Rise A) (hb : Rise B) (h : A.Perm B) : A = B :=
  h.eq_of_pairwise (fun _ _ _ _ h1 h2 => le2_antisymm h1 h2) ha hb
theorem rise_nil : Rise [] := List.Pairwise.nil
theorem Rise.snoc {L : List Itm} {x : Itm} (h : Rise L) (hx : ∀ y ∈ L, le2 y x) : Rise (L ++ [x]) := by
  unfold Rise
  rw [List.pairwise_append]
  refine ⟨h, List.pairwise_singleton _ _, fun a ha b hb => ?_⟩
  rw [List.mem_singleton.1 hb]; exact hx a ha
theorem Rise.at_ {L : List Itm} (h : Rise L) {i j : Nat} (hij : i < j) (hj : j < L.length) : le2 (at2 L i) (at2 L j) := by
  have := List.pairwise_iff_getElem.1 h i j (by omega) hj hij
  rwa [at2_get, at2_get] at this
/-- what a heap's items come to, taken out one by one -/
theorem rise_last {L : List Itm} {m : Itm} (h : Rise L) (hm : m ∈ L) (hall : ∀ y ∈ L, le2 y m) (hl : 0 < L.length) : at2 L (L.length - 1) = m := by
  obtain ⟨i, hi, e⟩ := mem_at2 hm
  refine le2_antisymm (hall _ (at2_mem (by omega))) ?_
  by_cases h1 : i = L.length - 1
  · rw [← e, h1]; exact le2_refl _
  · rw [← e]; exact h.at_ (by omega) (by omega)

/-- the place of the least one, as the document looks for it: among the first k -/
def lst (L : List Itm) : Nat → Int
  | 0 => -1
  | k + 1 => if lst L k < 0 ∨ lt2 (at2 L k) (at2 L (lst L k).toNat) = true then (k : Int) else lst L k
theorem lst_spec (L : List Itm) : ∀ k, 0 < k → 0 ≤ lst L k ∧ lst L k < k ∧ ∀ j, j < k → le2 (at2 L (lst L k).toNat) (at2 L j)
  | 0, h => absurd h (by omega)
  | k + 1, _ => by
    rw [lst]
    by_cases hk : k = 0
    · subst hk
      rw [if_pos (.inl (by show (-1 : Int) < 0; decide))]
      refine ⟨by omega, by omega, fun j hj => ?_⟩
      obtain rfl : j = 0 := by omega
      exact le2_refl _
    · obtain ⟨h1, h2, h3⟩ := lst_spec L k (by omega)
      by_cases hc : lst L k < 0 ∨ lt2 (at2 L k) (at2 L (lst L k).toNat) = true
      · rw [if_pos hc]
        have hlt : lt2 (at2 L k) (at2 L (lst L k).toNat) = true := hc.resolve_left (by omega)
        refine ⟨by omega, by omega, fun j hj => ?_⟩
        rw [Int.toNat_natCast]
        by_cases e : j = k
        · subst e; exact le2_refl _
        · exact le2_trans (le2_of_lt hlt) (h3 j (by omega))
      · rw [if_neg hc]
        refine ⟨h1, by omega, fun j hj => ?_⟩
        by_cases e : j = k
        · subst e
          have : lt2 (at2 L j) (at2 L (lst L j).toNat) = false := by simpa using fun h => hc (.inr h)
          exact this
        · exact h3 j (by omega)
end Hp
