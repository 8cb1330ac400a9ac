/-
  The plain mathematics of numbers in bytes, the highest byte first: the bytes of a number, the number of bytes, there and back, and their order. Conditions: none beyond the premises of each theorem.
-/
namespace Go.Proofs.YtjjlghdcpkkdhaaDoor

/-- the w lowest digits of 256 of a number, the highest first -/
def be : Nat → Nat → List UInt8
  | 0, _ => []
  | w + 1, n => be w (n / 256) ++ [UInt8.ofNat n]
/-- the number of bytes, the highest first -/
def num (l : List UInt8) : Nat := l.foldl (fun a c => 256 * a + c.toNat) 0

theorem be_length (w n : Nat) : (be w n).length = w := by
  induction w generalizing n with
  | zero => rfl
  | succ w ih => simp [be, ih]
theorem be_cons (w n : Nat) : be (w + 1) n = UInt8.ofNat (n / 256 ^ w) :: be w n := by
  induction w generalizing n with
  | zero => simp [be]
  | succ w ih =>
    rw [be, ih, List.cons_append, Nat.div_div_eq_div_mul, ← Nat.pow_add_one']
    rfl
theorem be_at {w i : Nat} (n : Nat) (h : i < w) : (be w n)[i]? = some (UInt8.ofNat (n / 256 ^ (w - 1 - i))) := by
  induction w generalizing i with
  | zero => omega
  | succ w ih =>
    rw [be_cons]
    cases i with
    | zero => simp
    | succ i =>
      rw [List.getElem?_cons_succ, ih (by omega)]
      have e : w - 1 - i = w + 1 - 1 - (i + 1) := by omega
      rw [e]
theorem be_take {w i : Nat} (n : Nat) (h : i < w) : (be w n).take (i + 1) = (be w n).take i ++ [UInt8.ofNat (n / 256 ^ (w - 1 - i))] := by
  rw [List.take_add_one, be_at n h]
  rfl
theorem be_full (w n : Nat) : (be w n).take w = be w n := List.take_of_length_le (by rw [be_length]; exact Nat.le_refl _)

theorem num_nil : num [] = 0 := rfl
theorem num_snoc (l : List UInt8) (c : UInt8) : num (l ++ [c]) = 256 * num l + c.toNat := by simp [num]
theorem num_lt (l : List UInt8) : num l < 256 ^ l.length := by
  have h : ∀ k (l : List UInt8), l.length = k → num l < 256 ^ k := by
    intro k
    induction k with
    | zero => intro l hl; obtain rfl := List.eq_nil_of_length_eq_zero hl; decide
    | succ k ih =>
      intro l hl
      have hne : l ≠ [] := by rintro rfl; simp at hl
      rw [← List.dropLast_concat_getLast hne, num_snoc]
      have h1 := ih l.dropLast (by simp [hl])
      have h2 := (l.getLast hne).toNat_lt
      rw [Nat.pow_succ]
      omega
  exact h _ l rfl
theorem num_be {w n : Nat} (h : n < 256 ^ w) : num (be w n) = n := by
  induction w generalizing n with
  | zero => simp at h; subst h; rfl
  | succ w ih =>
    rw [Nat.pow_succ] at h
    rw [be, num_snoc, ih (by omega), UInt8.toNat_ofNat']
    omega
theorem be_inj {w m n : Nat} (hm : m < 256 ^ w) (hn : n < 256 ^ w) (h : be w m = be w n) : m = n := by rw [← num_be hm, ← num_be hn, h]
theorem num_take {l : List UInt8} {k : Nat} (h : k < l.length) : num (l.take (k + 1)) = 256 * num (l.take k) + l[k].toNat := by
  rw [List.take_add_one, List.getElem?_eq_getElem h]
  exact num_snoc _ _
theorem num_take_lt (l : List UInt8) (k : Nat) : num (l.take k) < 256 ^ k :=
  Nat.lt_of_lt_of_le (num_lt _) (Nat.pow_le_pow_right (by decide) (by rw [List.length_take]; omega))

/-- of numbers in as many bytes the lesser one has the lesser bytes -/
theorem be_lt {w m n : Nat} (hm : m < 256 ^ w) (hn : n < 256 ^ w) : be w m < be w n ↔ m < n := by
  induction w generalizing m n with
  | zero =>
    simp at hm hn
    subst hm; subst hn
    simp [be]
  | succ w ih =>
    have hp : 0 < 256 ^ w := Nat.pow_pos (by decide)
    rw [Nat.pow_succ] at hm hn
    have q1 : m / 256 ^ w < 256 := by rw [Nat.div_lt_iff_lt_mul hp, Nat.mul_comm]; exact hm
    have q2 : n / 256 ^ w < 256 := by rw [Nat.div_lt_iff_lt_mul hp, Nat.mul_comm]; exact hn
    have e : ∀ k, be w k = be w (k % 256 ^ w) := by
      intro k
      clear ih hm hn q1 q2 hp
      induction w generalizing k with
      | zero => rfl
      | succ w ih =>
        rw [be, be, ih, ih (k % 256 ^ (w + 1) / 256)]
        have h1 : k % 256 ^ (w + 1) / 256 % 256 ^ w = k / 256 % 256 ^ w := by
          rw [Nat.pow_succ, Nat.mul_comm, Nat.mod_mul_right_div_self, Nat.mod_mod]
        have h2 : UInt8.ofNat (k % 256 ^ (w + 1)) = UInt8.ofNat k := by
          apply UInt8.toNat_inj.1
          rw [UInt8.toNat_ofNat', UInt8.toNat_ofNat', Nat.pow_succ]
          exact Nat.mod_mul_left_mod k (256 ^ w) 256
        rw [h1, h2]
    rw [be_cons, be_cons, e m, e n, List.cons_lt_cons_iff, ih (Nat.mod_lt _ hp) (Nat.mod_lt _ hp), UInt8.lt_iff_toNat_lt, ← UInt8.toNat_inj, UInt8.toNat_ofNat', UInt8.toNat_ofNat']
    have d1 := Nat.div_add_mod m (256 ^ w)
    have d2 := Nat.div_add_mod n (256 ^ w)
    have m1 := Nat.mod_lt m hp
    have m2 := Nat.mod_lt n hp
    rw [Nat.mod_eq_of_lt q1, Nat.mod_eq_of_lt q2]
    generalize m / 256 ^ w = a at *
    generalize n / 256 ^ w = b at *
    generalize m % 256 ^ w = c at *
    generalize n % 256 ^ w = d at *
    generalize 256 ^ w = p at *
    subst d1; subst d2
    constructor
    · rintro (h | ⟨h, h'⟩)
      · have := Nat.mul_le_mul_left p (show a + 1 ≤ b from h)
        rw [Nat.mul_add] at this
        omega
      · subst h; omega
    · intro h
      rcases Nat.lt_trichotomy a b with h1 | h1 | h1
      · exact .inl h1
      · subst h1; exact .inr ⟨rfl, by omega⟩
      · have := Nat.mul_le_mul_left p (show b + 1 ≤ a from h1)
        rw [Nat.mul_add] at this
        omega

/-- widths and numbers laid one behind the other -/
def lays : List (Nat × Nat) → List UInt8
  | [] => []
  | x :: r => be x.1 x.2 ++ lays r
theorem lays_append (a b : List (Nat × Nat)) : lays (a ++ b) = lays a ++ lays b := by
  induction a with
  | nil => rfl
  | cons x r ih => simp [lays, ih]
theorem lays_one (x : Nat × Nat) : lays [x] = be x.1 x.2 := by simp [lays]
theorem lays_length (l : List (Nat × Nat)) : (lays l).length = (l.map Prod.fst).sum := by
  induction l with
  | nil => rfl
  | cons x r ih => simp [lays, ih, be_length]
end Go.Proofs.YtjjlghdcpkkdhaaDoor
