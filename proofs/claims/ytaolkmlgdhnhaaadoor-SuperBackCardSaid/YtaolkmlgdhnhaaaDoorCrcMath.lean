/-
  Plain mathematics of the checksum CRC-32: the register is halved bit by bit; linear, injective. No dump. Conditions: none beyond the premises of each theorem.
-/
namespace Go.Proofs.YtaolkmlgdhnhaaaDoor
namespace Crc

def poly : BitVec 32 := 0xedb88320#32
def half (r : BitVec 32) : BitVec 32 := if r.getLsbD 0 then (r >>> 1) ^^^ poly else r >>> 1

theorem half_xor (a b : BitVec 32) : half (a ^^^ b) = half a ^^^ half b := by
  unfold half
  rw [BitVec.getLsbD_xor, BitVec.ushiftRight_xor_distrib]
  cases a.getLsbD 0 <;> cases b.getLsbD 0 <;> simp
  · rw [BitVec.xor_assoc]
  · rw [BitVec.xor_assoc, BitVec.xor_assoc, BitVec.xor_comm poly]
  · rw [BitVec.xor_comm (b >>> 1), ← BitVec.xor_assoc, BitVec.xor_assoc (a >>> 1) poly poly]; simp
theorem half_zero : half 0#32 = 0#32 := by decide
theorem half_eq_zero {r : BitVec 32} (h : half r = 0#32) : r = 0#32 := by
  unfold half at h
  by_cases hb : r.getLsbD 0 = true
  · rw [if_pos hb] at h
    have h31 := congrArg (fun x : BitVec 32 => x.getLsbD 31) h
    simp [poly] at h31
  · rw [if_neg hb] at h
    apply BitVec.eq_of_getLsbD_eq
    intro i hi
    cases i with
    | zero => simpa using hb
    | succ i =>
      have := congrArg (fun x : BitVec 32 => x.getLsbD i) h
      simp [BitVec.getLsbD_ushiftRight] at this
      rw [Nat.add_comm] at this
      simpa using this
theorem xor_eq_zero {a b : BitVec 32} (h : a ^^^ b = 0#32) : a = b := by
  have := congrArg (· ^^^ b) h
  simpa [BitVec.xor_assoc] using this

/-- halved n times -/
def hn : Nat → BitVec 32 → BitVec 32
  | 0, r => r
  | n + 1, r => half (hn n r)
theorem hn_xor (n : Nat) (a b : BitVec 32) : hn n (a ^^^ b) = hn n a ^^^ hn n b := by
  induction n with
  | zero => rfl
  | succ n ih => simp only [hn, ih, half_xor]
theorem hn_zero (n : Nat) : hn n 0#32 = 0#32 := by
  induction n with
  | zero => rfl
  | succ n ih => simp only [hn, ih, half_zero]
theorem hn_eq_zero {n : Nat} {r : BitVec 32} (h : hn n r = 0#32) : r = 0#32 := by
  induction n with
  | zero => exact h
  | succ n ih => exact ih (half_eq_zero h)
theorem hn_add (m n : Nat) (r : BitVec 32) : hn (m + n) r = hn m (hn n r) := by
  induction m with
  | zero => simp [hn]
  | succ m ih => rw [Nat.succ_add]; simp only [hn, ih]
theorem hn_inj {n : Nat} {a b : BitVec 32} (h : hn n a = hn n b) : a = b := by
  apply xor_eq_zero
  apply hn_eq_zero (n := n)
  rw [hn_xor, h, BitVec.xor_self]
/-- a single bit, halved down -/
theorem half_bit (i : Nat) (hi : i + 1 < 32) : half (1#32 <<< (i + 1)) = 1#32 <<< i := by
  have : ∀ i : Fin 31, half (1#32 <<< (i.val + 1)) = 1#32 <<< i.val := by decide
  exact this ⟨i, by omega⟩
theorem hn_bit (i : Nat) (hi : i < 32) : hn i (1#32 <<< i) = 1#32 := by
  have : ∀ i : Fin 32, hn i.val (1#32 <<< i.val) = 1#32 := by decide +kernel
  exact this ⟨i, hi⟩

/-- the table of sixteen words -/
def tabL : List Nat := [0, 498536548, 997073096, 651767980, 1994146192, 1802195444, 1303535960, 1342533948, 3988292384, 4027552580, 3604390888, 3412177804, 2607071920, 2262029012, 2685067896, 3183342108]
def tab (k : Nat) : BitVec 32 := BitVec.ofNat 32 (tabL.getD k 0)
theorem tab_hn (k : Nat) (hk : k < 16) : hn 4 (BitVec.ofNat 32 k) = tab k := by
  have : ∀ k : Fin 16, hn 4 (BitVec.ofNat 32 k.val) = tab k.val := by decide +kernel
  exact this ⟨k, hk⟩
theorem half_shl (r : BitVec 32) (h : r.getLsbD 0 = false) : half r = r >>> 1 := by unfold half; rw [if_neg (by rw [h]; decide)]
theorem hn4_high (r : BitVec 32) : hn 4 ((r >>> 4) <<< 4) = r >>> 4 := by
  simp only [hn]
  have z : ∀ i, i < 4 → ((r >>> 4) <<< 4).getLsbD i = false := fun i hi => by simp [BitVec.getLsbD_shiftLeft, hi]
  rw [half_shl ((r >>> 4) <<< 4) (z 0 (by omega)), half_shl (((r >>> 4) <<< 4) >>> 1) (by rw [BitVec.getLsbD_ushiftRight]; exact z 1 (by omega)),
    half_shl (((r >>> 4) <<< 4) >>> 1 >>> 1) (by rw [BitVec.getLsbD_ushiftRight, BitVec.getLsbD_ushiftRight]; exact z 2 (by omega)),
    half_shl (((r >>> 4) <<< 4) >>> 1 >>> 1 >>> 1) (by rw [BitVec.getLsbD_ushiftRight, BitVec.getLsbD_ushiftRight, BitVec.getLsbD_ushiftRight]; exact z 3 (by omega))]
  apply BitVec.eq_of_getLsbD_eq
  intro i hi
  simp only [BitVec.getLsbD_ushiftRight, BitVec.getLsbD_shiftLeft]
  by_cases h : 4 + i < 32
  · have e : 1 + (1 + (1 + (1 + i))) = 4 + i := by omega
    rw [e]
    simp [h]
  · have e : 1 + (1 + (1 + (1 + i))) = 4 + i := by omega
    rw [e]
    have : r.getLsbD (4 + i) = false := BitVec.getLsbD_of_ge _ _ (by omega)
    simp [this]
theorem split4 (r : BitVec 32) : r = ((r >>> 4) <<< 4) ^^^ BitVec.ofNat 32 (r.toNat % 16) := by
  apply BitVec.eq_of_getLsbD_eq
  intro i hi
  have e : (BitVec.ofNat 32 (r.toNat % 16)).getLsbD i = (decide (i < 4) && r.getLsbD i) := by
    rw [BitVec.getLsbD_ofNat]
    have : r.toNat % 16 = r.toNat % 2 ^ 4 := rfl
    rw [this, Nat.testBit_mod_two_pow]
    simp [hi, BitVec.getLsbD]
  rw [BitVec.getLsbD_xor, e]
  simp only [BitVec.getLsbD_ushiftRight, BitVec.getLsbD_shiftLeft]
  by_cases h : i < 4
  · simp [h]
  · have : 4 + (i - 4) = i := by omega
    simp [h, hi, this]
theorem nib_eq (r : BitVec 32) : (r >>> 4) ^^^ tab (r.toNat % 16) = hn 4 r := by
  have h := congrArg (hn 4) (split4 r)
  rw [hn_xor, hn4_high, tab_hn _ (Nat.mod_lt _ (by omega))] at h
  exact h.symm

/-- a byte as a word -/
def wide (c : UInt8) : BitVec 32 := BitVec.ofNat 32 c.toNat
def step (r : BitVec 32) (c : UInt8) : BitVec 32 := hn 8 (r ^^^ wide c)
def reg (r : BitVec 32) (l : List UInt8) : BitVec 32 := l.foldl step r
def ones : BitVec 32 := 0xffffffff#32
def more (x : BitVec 32) (l : List UInt8) : BitVec 32 := reg (x ^^^ ones) l ^^^ ones

theorem wide_xor (a b : UInt8) : wide (a ^^^ b) = wide a ^^^ wide b := by
  unfold wide
  apply BitVec.eq_of_toNat_eq
  have ha : a.toNat < 256 := a.toNat_lt
  have hb : b.toNat < 256 := b.toNat_lt
  have hx : a.toNat ^^^ b.toNat < 2 ^ 8 := Nat.xor_lt_two_pow (by omega) (by omega)
  rw [BitVec.toNat_xor, BitVec.toNat_ofNat, BitVec.toNat_ofNat, BitVec.toNat_ofNat, UInt8.toNat_xor, Nat.mod_eq_of_lt (by omega), Nat.mod_eq_of_lt (by omega), Nat.mod_eq_of_lt (by omega)]
theorem reg_append (r : BitVec 32) (l m : List UInt8) : reg r (l ++ m) = reg (reg r l) m := by simp [reg]
theorem reg_xor (a d : BitVec 32) (l : List UInt8) : reg (a ^^^ d) l = reg a l ^^^ hn (8 * l.length) d := by
  induction l generalizing a d with
  | nil => rfl
  | cons c l ih =>
    have e : step (a ^^^ d) c = step a c ^^^ hn 8 d := by
      unfold step
      rw [← hn_xor]
      congr 1
      rw [BitVec.xor_assoc, BitVec.xor_comm d, ← BitVec.xor_assoc]
    show reg (step (a ^^^ d) c) l = reg (step a c) l ^^^ _
    rw [e, ih, ← hn_add]
    simp [Nat.mul_add]
theorem reg_inj {a b : BitVec 32} {l : List UInt8} (h : reg a l = reg b l) : a = b := by
  have e : reg (b ^^^ (b ^^^ a)) l = reg b l ^^^ hn (8 * l.length) (b ^^^ a) := reg_xor _ _ _
  rw [← BitVec.xor_assoc, BitVec.xor_self, BitVec.zero_xor, h] at e
  have : hn (8 * l.length) (b ^^^ a) = 0#32 := by
    have := congrArg (reg b l ^^^ ·) e
    simp [← BitVec.xor_assoc] at this
    exact this.symm
  exact (xor_eq_zero (hn_eq_zero this)).symm
theorem more_append (x : BitVec 32) (l m : List UInt8) : more (more x l) m = more x (l ++ m) := by
  unfold more
  rw [BitVec.xor_assoc _ ones ones, BitVec.xor_self, BitVec.xor_zero, reg_append]
theorem more_nil (x : BitVec 32) : more x [] = x := by
  unfold more
  show (x ^^^ ones) ^^^ ones = x
  rw [BitVec.xor_assoc, BitVec.xor_self, BitVec.xor_zero]
theorem xor_right {a b c : BitVec 32} : a ^^^ c = b ^^^ c ↔ a = b := by
  constructor
  · intro h
    have := congrArg (· ^^^ c) h
    simpa [BitVec.xor_assoc] using this
  · intro h; rw [h]
theorem more_inj {x y : BitVec 32} {l : List UInt8} : more x l = more y l ↔ x = y := by
  constructor
  · intro h
    exact xor_right.1 (reg_inj (xor_right.1 h))
  · intro h; rw [h]

/-- three texts made one -/
theorem step_three (a b c : BitVec 32) (x y z : UInt8) : step (a ^^^ b ^^^ c) (x ^^^ y ^^^ z) = step a x ^^^ step b y ^^^ step c z := by
  unfold step
  rw [← hn_xor, ← hn_xor, wide_xor, wide_xor]
  congr 1
  ac_rfl
theorem reg_three (a b c : BitVec 32) : ∀ (l m n o : List UInt8), l.length = m.length → m.length = n.length → n.length = o.length → (∀ i (h : i < o.length) (h1 : i < l.length) (h2 : i < m.length) (h3 : i < n.length), o[i] = l[i] ^^^ m[i] ^^^ n[i]) →
    reg (a ^^^ b ^^^ c) o = reg a l ^^^ reg b m ^^^ reg c n := by
  intro l
  induction l generalizing a b c with
  | nil =>
    intro m n o h1 h2 h3 _
    simp at h1
    have hm : m = [] := List.eq_nil_of_length_eq_zero h1.symm
    subst hm
    have hn : n = [] := List.eq_nil_of_length_eq_zero h2.symm
    subst hn
    have ho : o = [] := List.eq_nil_of_length_eq_zero h3.symm
    subst ho
    rfl
  | cons x l ih =>
    intro m n o h1 h2 h3 h
    obtain ⟨y, m, rfl⟩ : ∃ y m', m = y :: m' := by cases m with | nil => simp at h1 | cons y m => exact ⟨y, m, rfl⟩
    obtain ⟨z, n, rfl⟩ : ∃ y m', n = y :: m' := by cases n with | nil => simp at h2 | cons y m => exact ⟨y, m, rfl⟩
    obtain ⟨u, o, rfl⟩ : ∃ y m', o = y :: m' := by cases o with | nil => simp at h3 | cons y m => exact ⟨y, m, rfl⟩
    have h0 := h 0 (by simp) (by simp) (by simp) (by simp)
    simp only [List.getElem_cons_zero] at h0
    show reg (step (a ^^^ b ^^^ c) u) o = reg (step a x) l ^^^ reg (step b y) m ^^^ reg (step c z) n
    rw [h0, step_three]
    simp at h1 h2 h3
    refine ih _ _ _ m n o h1 h2 h3 fun i q q1 q2 q3 => ?_
    have := h (i + 1) (by simpa using q) (by simpa using q1) (by simpa using q2) (by simpa using q3)
    simpa using this
theorem more_three (l m n o : List UInt8) (h1 : l.length = m.length) (h2 : m.length = n.length) (h3 : n.length = o.length) (h : ∀ i (h : i < o.length) (h1 : i < l.length) (h2 : i < m.length) (h3 : i < n.length), o[i] = l[i] ^^^ m[i] ^^^ n[i]) :
    more 0#32 l ^^^ more 0#32 m ^^^ more 0#32 n = more 0#32 o := by
  unfold more
  have e := reg_three (0#32 ^^^ ones) (0#32 ^^^ ones) (0#32 ^^^ ones) l m n o h1 h2 h3 h
  rw [BitVec.xor_self, BitVec.zero_xor] at e
  rw [e]
  have e2 : ∀ p q r : BitVec 32, (p ^^^ ones) ^^^ (q ^^^ ones) ^^^ (r ^^^ ones) = p ^^^ q ^^^ r ^^^ (ones ^^^ ones ^^^ ones) := by intro p q r; ac_rfl
  rw [e2, BitVec.xor_self, BitVec.zero_xor]

/-- one bit turned -/
theorem wide_bit (p : Nat) (hp : p < 8) : wide (1 <<< UInt8.ofNat p) = 1#32 <<< p := by
  have : ∀ p : Fin 8, wide (1 <<< UInt8.ofNat p.val) = 1#32 <<< p.val := by decide +kernel
  exact this ⟨p, hp⟩
theorem reg_turn (r : BitVec 32) (l m : List UInt8) (c : UInt8) (p : Nat) (hp : p < 8) :
    reg r (l ++ (c ^^^ (1 <<< UInt8.ofNat p)) :: m) = reg r (l ++ c :: m) ^^^ hn (8 * m.length + (8 - p)) 1#32 := by
  rw [reg_append, reg_append]
  show reg (step _ _) m = reg (step _ _) m ^^^ _
  have e : step (reg r l) (c ^^^ (1 <<< UInt8.ofNat p)) = step (reg r l) c ^^^ hn (8 - p) 1#32 := by
    unfold step
    rw [wide_xor, ← BitVec.xor_assoc, hn_xor _ _ (wide (1 <<< UInt8.ofNat p)), wide_bit p hp]
    congr 1
    have : 8 = (8 - p) + p := by omega
    rw [this, hn_add, hn_bit p (by omega)]
    congr 1
    omega
  rw [e, reg_xor, ← hn_add]
end Crc
end Go.Proofs.YtaolkmlgdhnhaaaDoor
