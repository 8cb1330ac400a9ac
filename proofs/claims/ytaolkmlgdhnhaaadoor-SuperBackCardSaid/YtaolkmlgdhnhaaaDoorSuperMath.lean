/-
  The plain mathematics of superblocks: which one is right, its bytes, there and back, in a sector, and which of two counts; sectors that a crash leaves alone. It imports nothing of the program. Conditions: none beyond the premises of each theorem.
-/
import Derived.Test.YtaolkmlgdhnhaaaDoorFrameMath
import Derived.Test.YtaolkmlgdhnhaaaDoorBitsMath
namespace Go.Proofs.YtaolkmlgdhnhaaaDoor

/-- a superblock -/
structure Sb where
  gen : Nat
  root : Int
  used : List Nat
def Sb.zero : Sb := ⟨0, 0, List.replicate 30 0⟩
structure Sb.Ok (x : Sb) : Prop where
  gen : x.gen < 4294967296
  used : Bits.Ok x.used
theorem Sb.Ok.zero : Sb.zero.Ok := ⟨by decide, by simp [Sb.zero], fun b hb => by rw [(List.mem_replicate.1 hb).2]; decide⟩
/-- is a number in a set? (of any number) -/
def hasI (s : List Nat) (n : Int) : Bool := decide (0 ≤ n ∧ n < 240) && Bits.has s n.toNat
theorem hasI_nat {s : List Nat} {n : Nat} (h : n < 240) : hasI s (n : Int) = Bits.has s n := by
  unfold hasI
  rw [decide_eq_true (by omega), Bool.true_and, Int.toNat_natCast]
/-- is it right? -/
def rightB (x : Sb) : Bool := decide (x.gen ≠ 0) && !Bits.has x.used 0 && !Bits.has x.used 1 && (decide (x.root = 0) || (decide (2 ≤ x.root) && hasI x.used x.root))
theorem rightB_root {x : Sb} (h : rightB x = true) : ∃ r : Nat, x.root = (r : Int) ∧ r < 240 := by
  unfold rightB at h
  simp only [Bool.and_eq_true, Bool.or_eq_true, decide_eq_true_eq] at h
  rcases h.2 with h | ⟨h1, h2⟩
  · exact ⟨0, by omega, by decide⟩
  · unfold hasI at h2
    simp only [Bool.and_eq_true, decide_eq_true_eq] at h2
    exact ⟨x.root.toNat, by omega, by omega⟩
theorem rightB_gen {x : Sb} (h : rightB x = true) : x.gen ≠ 0 := by
  unfold rightB at h
  simp only [Bool.and_eq_true, decide_eq_true_eq] at h
  exact h.1.1.1
/-- its bytes -/
def setB (s : List Nat) : List UInt8 := s.map UInt8.ofNat
def layS (x : Sb) : List UInt8 := be 4 x.gen ++ UInt8.ofNat x.root.toNat :: setB x.used
theorem setB_length (s : List Nat) : (setB s).length = s.length := by simp [setB]
theorem layS_length {x : Sb} (h : x.Ok) : (layS x).length = 35 := by
  have := h.used.len
  simp [layS, be_length, setB_length, this]
theorem be_of_num (l : List UInt8) : be l.length (num l) = l := by
  have key : ∀ k (l : List UInt8), l.length = k → be k (num l) = l := by
    intro k
    induction k with
    | zero => intro l hl; obtain rfl := List.eq_nil_of_length_eq_zero hl; rfl
    | succ k ih =>
      intro l hl
      have hne : l ≠ [] := by rintro rfl; simp at hl
      have e := List.dropLast_concat_getLast hne
      have h1 := ih l.dropLast (by simp [hl])
      have h2 := (l.getLast hne).toNat_lt
      rw [← e, num_snoc, be]
      rw [show (256 * num l.dropLast + (l.getLast hne).toNat) / 256 = num l.dropLast by omega, h1]
      congr 2
      rw [← UInt8.toNat_inj, UInt8.toNat_ofNat']
      omega
  exact key _ l rfl
/-- the superblock of 35 bytes -/
def ofS (d : List UInt8) : Sb := ⟨num (d.take 4), ((d.getD 4 0).toNat : Int), (d.drop 5).map UInt8.toNat⟩
theorem ofS_ok {d : List UInt8} (h : d.length = 35) : (ofS d).Ok := by
  refine ⟨?_, ?_, ?_⟩
  · have := num_take_lt d 4
    exact this
  · show ((d.drop 5).map UInt8.toNat).length = 30
    rw [List.length_map, List.length_drop]
    omega
  · intro b hb
    obtain ⟨c, _, rfl⟩ := List.mem_map.1 hb
    exact UInt8.toNat_lt c
theorem setB_back {s : List Nat} (h : ∀ b ∈ s, b < 256) : (setB s).map UInt8.toNat = s := by
  unfold setB
  rw [List.map_map]
  conv => rhs; rw [← List.map_id s]
  refine List.map_congr_left fun b hb => ?_
  have := h b hb
  show (UInt8.ofNat b).toNat = b
  rw [UInt8.toNat_ofNat']
  omega
theorem setB_ofS (l : List UInt8) : setB (l.map UInt8.toNat) = l := by
  unfold setB
  rw [List.map_map]
  conv => rhs; rw [← List.map_id l]
  exact List.map_congr_left fun b _ => by simp
theorem layS_take (x : Sb) : (layS x).take 4 = be 4 x.gen := by
  unfold layS
  rw [List.take_append_of_le_length (by rw [be_length]; exact Nat.le_refl _), be_full]
theorem layS_at (x : Sb) : (layS x).getD 4 0 = UInt8.ofNat x.root.toNat := by
  unfold layS
  rw [List.getD_eq_getElem?_getD, List.getElem?_append_right (by rw [be_length]; exact Nat.le_refl _), be_length]
  rfl
theorem layS_drop (x : Sb) : (layS x).drop 5 = setB x.used := by
  unfold layS
  have e : be 4 x.gen ++ UInt8.ofNat x.root.toNat :: setB x.used = (be 4 x.gen ++ [UInt8.ofNat x.root.toNat]) ++ setB x.used := by simp
  rw [e, List.drop_left' (by simp [be_length])]
/-- what is laid is read as it was -/
theorem ofS_lay {x : Sb} (h : x.Ok) {r : Nat} (hr : x.root = (r : Int)) (hlt : r < 256) : ofS (layS x) = x := by
  unfold ofS
  rw [layS_take, layS_at, layS_drop, num_be (by have := h.gen; exact this), setB_back h.used.small]
  have e : ((UInt8.ofNat x.root.toNat).toNat : Int) = x.root := by
    rw [hr, Int.toNat_natCast, UInt8.toNat_ofNat']
    omega
  rw [e]
theorem layS_ofS {d : List UInt8} (h : d.length = 35) : layS (ofS d) = d := by
  unfold layS ofS
  have h4 : (d.take 4).length = 4 := by rw [List.length_take]; omega
  have e1 : be 4 (num (d.take 4)) = d.take 4 := by
    have := be_of_num (d.take 4)
    rwa [h4] at this
  have e2 : (UInt8.ofNat ((((d.getD 4 0).toNat : Nat) : Int)).toNat) = d.getD 4 0 := by
    rw [Int.toNat_natCast]
    simp
  show be 4 (num (d.take 4)) ++ UInt8.ofNat ((((d.getD 4 0).toNat : Nat) : Int)).toNat :: setB ((d.drop 5).map UInt8.toNat) = d
  rw [e1, e2, setB_ofS]
  have e3 : d.getD 4 0 :: d.drop 5 = d.drop 4 := by
    rw [List.drop_eq_getElem_cons (by omega : 4 < d.length), List.getD_eq_getElem?_getD, List.getElem?_eq_getElem (by omega)]
    rfl
  rw [e3, List.take_append_drop]
/-- reads a superblock -/
def readS (d : List UInt8) : Option Sb := if d.length = 35 ∧ rightB (ofS d) = true then some (ofS d) else none
theorem readS_lay {x : Sb} (h : x.Ok) (hr : rightB x = true) : readS (layS x) = some x := by
  obtain ⟨r, e, hlt⟩ := rightB_root hr
  have e2 := ofS_lay h e (by omega)
  unfold readS
  rw [if_pos ⟨layS_length h, by rw [e2]; exact hr⟩, e2]
theorem readS_some {d : List UInt8} {x : Sb} (h : readS d = some x) : x.Ok ∧ rightB x = true ∧ layS x = d := by
  unfold readS at h
  split at h
  · rename_i hh
    obtain rfl := Option.some.inj h
    exact ⟨ofS_ok hh.1, hh.2, layS_ofS hh.1⟩
  · cases h
theorem layS_inj {x y : Sb} (hx : x.Ok) (hy : y.Ok) (hrx : rightB x = true) (hry : rightB y = true) (h : layS x = layS y) : x = y := by
  have h1 := readS_lay hx hrx
  rw [h, readS_lay hy hry] at h1
  exact (Option.some.inj h1).symm
/-- a superblock's sector -/
def sbP (x : Sb) : List UInt8 := layB 1 (layS x)
theorem sbP_length {x : Sb} (h : x.Ok) : (sbP x).length = 128 := layB_length (by rw [layS_length h]; decide)
/-- the superblock of a sector -/
def sbOf (p : List UInt8) : Option Sb := if codeB p = 0 ∧ kB p = 1 then readS (dB p) else none
theorem sbOf_sbP {x : Sb} (h : x.Ok) (hr : rightB x = true) : sbOf (sbP x) = some x := by
  have hl : (layS x).length ≤ 120 := by rw [layS_length h]; decide
  unfold sbOf sbP
  rw [if_pos ⟨codeB_lay (by decide) hl, kB_lay _ _⟩, dB_lay hl, readS_lay h hr]
theorem sbOf_turn {x : Sb} (h : x.Ok) {i : Nat} {c : UInt8} (hi : i < (sbP x).length) (hc : (sbP x)[i] ≠ c) : sbOf ((sbP x).set i c) = none := by
  unfold sbOf
  rw [if_neg]
  rintro ⟨h1, _⟩
  rw [codeB_turn (sbP_length h) (sumOk_lay _ _) hi hc] at h1
  cases h1
theorem sbOf_zero : sbOf (List.replicate 128 0) = none := by
  unfold sbOf
  rw [if_neg]
  rintro ⟨h1, _⟩
  rw [codeB_zeros] at h1
  cases h1
theorem sbOf_some {p : List UInt8} {x : Sb} (h : sbOf p = some x) : x.Ok ∧ rightB x = true := by
  unfold sbOf at h
  split at h
  · exact ⟨(readS_some h).1, (readS_some h).2.1⟩
  · cases h
/-- of two the one that counts -/
def best : Option Sb → Option Sb → Option Sb
  | some x, some y => if y.gen ≤ x.gen then some x else some y
  | some x, none => some x
  | none, y => y
theorem best_some {a b : Option Sb} {x : Sb} (h : best a b = some x) : a = some x ∨ b = some x := by
  cases a with
  | none => exact .inr h
  | some y =>
    cases b with
    | none => exact .inl h
    | some z =>
      by_cases hg : z.gen ≤ y.gen
      · left
        simpa [best, hg] using h
      · right
        simpa [best, hg] using h

/-- a crash leaves alone what no waiting write goes to -/
theorem readK_far {firm : List Pg} {s : Soft} {i : Nat} (h : ∀ x ∈ s, x.1 ≠ i) : ∀ k, k ≤ s.length → readK firm s i k = firm.getD i []
  | 0, _ => rfl
  | k + 1, hk => by
    have hlt : k < s.length := by omega
    have e : s.getD k (0, []) = s[k] := by rw [List.getD_eq_getElem?_getD, List.getElem?_eq_getElem hlt]; rfl
    rw [readK, e, if_neg (h _ (List.getElem_mem hlt))]
    exact readK_far h k (by omega)
theorem crash_other {d : Dk} {n : Nat} (hok : d.Ok n) (hs : d.Sync) {i : Nat} (hi : i < n) (h : ∀ x ∈ d.soft, x.1 ≠ i) (m : Nat) (t : Int) : pgAt (d.crash m t).seen i = pgAt d.seen i := by
  rw [hs i (by rw [hok.firm]; exact hi)]
  unfold readZ
  rw [readK_far h _ (Nat.le_refl _)]
  exact crashZ_other h
end Go.Proofs.YtaolkmlgdhnhaaaDoor
