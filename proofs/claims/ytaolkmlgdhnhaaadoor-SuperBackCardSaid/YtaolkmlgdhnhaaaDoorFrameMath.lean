/-
  The plain mathematics of a frame: a sector with the sum of its bytes, a kind, data; laid and read. It imports nothing of the program. Conditions: none beyond the premises of each theorem.
-/
import Derived.Test.YtaolkmlgdhnhaaaDoorCrcMath
import Derived.Test.YtaolkmlgdhnhaaaDoorPackMath
import Derived.Test.YtaolkmlgdhnhaaaDoorDiskMath
namespace Go.Proofs.YtaolkmlgdhnhaaaDoor

/-- a sector out of bytes -/
def pgB (l : List UInt8) : Pg := l.map fun c => (c.toNat : Int)
theorem pgB_length (l : List UInt8) : (pgB l).length = l.length := by simp [pgB]
theorem pgB_inj {a b : List UInt8} (h : pgB a = pgB b) : a = b := by
  refine List.map_inj_right (f := fun c : UInt8 => (c.toNat : Int)) (fun x y e => ?_) |>.1 h
  exact UInt8.toNat_inj.1 (by omega)
theorem pgB_of {p : Pg} (h : ∀ z ∈ p, 0 ≤ z ∧ z < 256) : ∃ l : List UInt8, p = pgB l ∧ l.length = p.length := by
  refine ⟨p.map fun z => UInt8.ofNat z.toNat, ?_, by simp⟩
  unfold pgB
  rw [List.map_map]
  conv => lhs; rw [← List.map_id p]
  refine List.map_congr_left fun z hz => ?_
  have := h z hz
  simp only [id, Function.comp, UInt8.toNat_ofNat']
  omega
theorem pgB_at {l : List UInt8} {j : Nat} (h : j < l.length) : (pgB l)[j]? = some (l[j].toNat : Int) := by simp [pgB, h]
theorem pgB_over (k : Nat) (a b : List UInt8) : over k (pgB a) (pgB b) = pgB (a.take k ++ b.drop k) := by simp [over, pgB, List.map_take, List.map_drop]
theorem pgB_zero : pgB (List.replicate 128 0) = zeroPg := by simp [pgB, zeroPg]

/-- the four bytes of a sum -/
def sumB (l : List UInt8) : List UInt8 := be 4 (Crc.more 0#32 l).toNat
theorem sumB_length (l : List UInt8) : (sumB l).length = 4 := be_length _ _
theorem sumB_inj {a b : List UInt8} : sumB a = sumB b ↔ Crc.more 0#32 a = Crc.more 0#32 b := by
  constructor
  · intro h
    have h1 := (Crc.more 0#32 a).isLt
    have h2 := (Crc.more 0#32 b).isLt
    exact BitVec.eq_of_toNat_eq (be_inj (w := 4) (by omega) (by omega) h)
  · intro h; unfold sumB; rw [h]
/-- a frame's bytes behind its sum -/
def bodyB (k : UInt8) (d : List UInt8) : List UInt8 := k :: UInt8.ofNat d.length :: (d ++ List.replicate (122 - d.length) 0)
theorem bodyB_length {k : UInt8} {d : List UInt8} (h : d.length ≤ 120) : (bodyB k d).length = 124 := by simp [bodyB]; omega
def layB (k : UInt8) (d : List UInt8) : List UInt8 := sumB (bodyB k d) ++ bodyB k d
theorem layB_length {k : UInt8} {d : List UInt8} (h : d.length ≤ 120) : (layB k d).length = 128 := by
  unfold layB; rw [List.length_append, sumB_length, bodyB_length h]
theorem layB_take (k : UInt8) (d : List UInt8) : (layB k d).take 4 = sumB (bodyB k d) := by
  unfold layB
  rw [List.take_left' (sumB_length _)]
theorem layB_drop (k : UInt8) (d : List UInt8) : (layB k d).drop 4 = bodyB k d := by
  unfold layB
  rw [List.drop_left' (sumB_length _)]

def kB (p : List UInt8) : UInt8 := p.getD 4 0
def nB (p : List UInt8) : Nat := (p.getD 5 0).toNat
def dB (p : List UInt8) : List UInt8 := (p.drop 6).take (nB p)
theorem nB_lt (p : List UInt8) : nB p < 256 := UInt8.toNat_lt _
theorem dB_length {p : List UInt8} (hp : p.length = 128) (h : nB p ≤ 120) : (dB p).length = nB p := by
  unfold dB; rw [List.length_take, List.length_drop]; omega
/-- is its sum right? -/
def sumOk (p : List UInt8) : Bool := decide (p.take 4 = sumB (p.drop 4))
/-- which error Read answers -/
def codeB (p : List UInt8) : Int := if sumOk p = true then (if 120 < nB p then 2 else if kB p = 0 then 2 else if layB (kB p) (dB p) = p then 0 else 2) else 3
theorem sumOk_lay (k : UInt8) (d : List UInt8) : sumOk (layB k d) = true := by
  unfold sumOk
  rw [layB_take, layB_drop]
  simp
theorem getD_drop (p : List UInt8) (i j : Nat) : (p.drop i).getD j 0 = p.getD (i + j) 0 := by simp [List.getD_eq_getElem?_getD]
theorem kB_drop (p : List UInt8) : kB p = (p.drop 4).getD 0 0 := by rw [getD_drop]; rfl
theorem nB_drop (p : List UInt8) : nB p = ((p.drop 4).getD 1 0).toNat := by rw [getD_drop]; rfl
theorem dB_drop (p : List UInt8) : dB p = ((p.drop 4).drop 2).take (nB p) := by rw [List.drop_drop]; rfl
theorem kB_lay (k : UInt8) (d : List UInt8) : kB (layB k d) = k := by rw [kB_drop, layB_drop]; rfl
theorem nB_lay {k : UInt8} {d : List UInt8} (h : d.length ≤ 120) : nB (layB k d) = d.length := by
  rw [nB_drop, layB_drop]
  show (UInt8.ofNat d.length).toNat = d.length
  rw [UInt8.toNat_ofNat']
  omega
theorem dB_lay {k : UInt8} {d : List UInt8} (h : d.length ≤ 120) : dB (layB k d) = d := by
  rw [dB_drop, layB_drop, nB_lay h]
  show (d ++ List.replicate (122 - d.length) 0).take d.length = d
  rw [List.take_left' rfl]
theorem codeB_lay {k : UInt8} {d : List UInt8} (hk : k ≠ 0) (h : d.length ≤ 120) : codeB (layB k d) = 0 := by
  unfold codeB
  rw [if_pos (sumOk_lay k d), nB_lay h, if_neg (by omega), kB_lay, if_neg hk, dB_lay h, if_pos rfl]
theorem layB_inj {k l : UInt8} {d e : List UInt8} (h1 : d.length ≤ 120) (h2 : e.length ≤ 120) (h : layB k d = layB l e) : k = l ∧ d = e := by
  have a := congrArg kB h
  have b := congrArg dB h
  rw [kB_lay, kB_lay] at a
  rw [dB_lay h1, dB_lay h2] at b
  exact ⟨a, b⟩

/-- one byte turned turns the sum -/
theorem more_turn {l m : List UInt8} {c c' : UInt8} (h : c ≠ c') : Crc.more 0#32 (l ++ c :: m) ≠ Crc.more 0#32 (l ++ c' :: m) := by
  intro e
  unfold Crc.more at e
  have e1 := Crc.xor_right.1 e
  rw [Crc.reg_append, Crc.reg_append] at e1
  have e2 : Crc.step (Crc.reg (0#32 ^^^ Crc.ones) l) c = Crc.step (Crc.reg (0#32 ^^^ Crc.ones) l) c' := Crc.reg_inj e1
  unfold Crc.step at e2
  have e3 := Crc.hn_inj e2
  rw [BitVec.xor_comm _ (Crc.wide c), BitVec.xor_comm _ (Crc.wide c')] at e3
  have e4 := Crc.xor_right.1 e3
  unfold Crc.wide at e4
  have e5 := congrArg BitVec.toNat e4
  rw [BitVec.toNat_ofNat, BitVec.toNat_ofNat] at e5
  have h1 := c.toNat_lt
  have h2 := c'.toNat_lt
  exact h (UInt8.toNat_inj.1 (by omega))
theorem more_set {l : List UInt8} {i : Nat} {c : UInt8} (hi : i < l.length) (h : l[i] ≠ c) : Crc.more 0#32 (l.set i c) ≠ Crc.more 0#32 l := by
  have e1 : l.set i c = l.take i ++ c :: l.drop (i + 1) := by rw [List.set_eq_take_append_cons_drop, if_pos hi]
  have e2 : l = l.take i ++ l[i] :: l.drop (i + 1) := by
    rw [← List.drop_eq_getElem_cons hi, List.take_append_drop]
  rw [e1]
  conv => rhs; rw [e2]
  exact fun e => more_turn h e.symm
theorem sumOk_turn {p : List UInt8} {i : Nat} {c : UInt8} (hp : p.length = 128) (ho : sumOk p = true) (hi : i < p.length) (h : p[i] ≠ c) : sumOk (p.set i c) = false := by
  unfold sumOk at *
  simp only [decide_eq_true_eq, decide_eq_false_iff_not] at *
  by_cases h4 : i < 4
  · rw [List.drop_set_of_lt h4, ← ho, List.take_set]
    intro e
    have := congrArg (fun l => l[i]?) e
    simp only [List.getElem?_set, List.getElem?_take, h4, hi, if_true, List.length_take, List.getElem?_eq_getElem] at this
    rw [if_pos (by omega)] at this
    exact h (Option.some.inj this).symm
  · have e1 : (p.set i c).take 4 = p.take 4 := by rw [List.take_set, List.set_eq_of_length_le (by rw [List.length_take]; omega)]
    rw [e1, ho, List.drop_set, if_neg h4, sumB_inj]
    intro e
    refine more_set (l := p.drop 4) (i := i - 4) (c := c) (by rw [List.length_drop]; omega) ?_ e.symm
    rw [List.getElem_drop]
    have : 4 + (i - 4) = i := by omega
    simp only [this]
    exact h
theorem codeB_turn {p : List UInt8} {i : Nat} {c : UInt8} (hp : p.length = 128) (ho : sumOk p = true) (hi : i < p.length) (h : p[i] ≠ c) : codeB (p.set i c) = 3 := by
  unfold codeB
  rw [sumOk_turn hp ho hi h, if_neg (by decide)]

/-- no byte behind the data -/
def restZ (p : List UInt8) : Bool := (p.drop (6 + nB p)).all (· == 0)
theorem lay_iff {p : List UInt8} (hp : p.length = 128) (ho : sumOk p = true) (hn : nB p ≤ 120) : layB (kB p) (dB p) = p ↔ restZ p = true := by
  have hd : p.drop 4 = kB p :: UInt8.ofNat (nB p) :: (dB p ++ p.drop (6 + nB p)) := by
    have e5 : UInt8.ofNat (nB p) = p.getD 5 0 := by unfold nB; exact UInt8.toNat_inj.1 (by rw [UInt8.toNat_ofNat']; have := (p.getD 5 0).toNat_lt; omega)
    have e6 : p.drop 6 = dB p ++ p.drop (6 + nB p) := by
      unfold dB
      rw [← List.drop_drop, List.take_append_drop]
    rw [e5, ← e6, List.drop_eq_getElem_cons (by omega), List.drop_eq_getElem_cons (by omega)]
    unfold kB
    simp [List.getD_eq_getElem?_getD, hp]
  have hsum : p.take 4 = sumB (p.drop 4) := by simpa [sumOk] using ho
  have hlen := dB_length hp hn
  have hrl : (p.drop (6 + nB p)).length = 122 - nB p := by rw [List.length_drop]; omega
  have key : bodyB (kB p) (dB p) = p.drop 4 ↔ restZ p = true := by
    unfold bodyB restZ
    rw [hlen, hd]
    simp only [List.cons.injEq, true_and, List.append_cancel_left_eq]
    rw [List.all_eq_true]
    constructor
    · intro e x hx
      rw [← e] at hx
      have := (List.mem_replicate.1 hx).2
      simp [this]
    · intro h
      refine (List.eq_replicate_iff.2 ⟨hrl, fun x hx => ?_⟩).symm
      simpa using h x hx
  rw [← key]
  constructor
  · intro e
    rw [← layB_drop (kB p) (dB p), e]
  · intro e
    unfold layB
    rw [e, ← hsum, List.take_append_drop]
/-- what the document's own Read answers -/
theorem codeB_ref {p : List UInt8} (hp : p.length = 128) (ho : sumOk p = true) (hn : nB p ≤ 120) (hk : kB p ≠ 0) : codeB p = if restZ p = true then 0 else 2 := by
  unfold codeB
  rw [if_pos ho, if_neg (by omega), if_neg hk]
  by_cases h : restZ p = true
  · rw [if_pos h, if_pos ((lay_iff hp ho hn).2 h)]
  · rw [if_neg h, if_neg (fun e => h ((lay_iff hp ho hn).1 e))]
/-- a sector whose sum is made right -/
def mendB (p : List UInt8) : List UInt8 := sumB (p.drop 4) ++ p.drop 4
theorem mendB_length {p : List UInt8} (hp : p.length = 128) : (mendB p).length = 128 := by unfold mendB; rw [List.length_append, sumB_length, List.length_drop]; omega
/-- a sector torn within its sum -/
theorem dB_torn {a b : List UInt8} {k : Nat} (ha : a.length = 128) (hk : k ≤ 4) : (a.take k ++ b.drop k).drop 4 = b.drop 4 := by
  rw [List.drop_append, List.drop_eq_nil_of_le (by rw [List.length_take]; omega), List.nil_append, List.length_take, List.drop_drop]
  congr 1
  omega
theorem codeB_zero {p : List UInt8} (h : codeB p = 0) : sumOk p = true ∧ nB p ≤ 120 ∧ kB p ≠ 0 := by
  unfold codeB at h
  split at h
  · split at h
    · cases h
    · split at h
      · cases h
      · rename_i h1 h2 h3
        exact ⟨h1, by omega, h3⟩
  · cases h
/-- the sum of zero bytes, by parts -/
theorem z0 : Crc.hn 62 0xffffffff#32 = 0x06e7889b#32 := by decide +kernel
theorem z1 : Crc.hn 62 0x06e7889b#32 = 0xef3a4ce1#32 := by decide +kernel
theorem z2 : Crc.hn 62 0xef3a4ce1#32 = 0xb833345e#32 := by decide +kernel
theorem z3 : Crc.hn 62 0xb833345e#32 = 0x96f6534f#32 := by decide +kernel
theorem z4 : Crc.hn 62 0x96f6534f#32 = 0x2745293d#32 := by decide +kernel
theorem z5 : Crc.hn 62 0x2745293d#32 = 0x79144ee1#32 := by decide +kernel
theorem z6 : Crc.hn 62 0x79144ee1#32 = 0xdf2fa7a0#32 := by decide +kernel
theorem z7 : Crc.hn 62 0xdf2fa7a0#32 = 0xe29b589e#32 := by decide +kernel
theorem z8 : Crc.hn 62 0xe29b589e#32 = 0x3e15ccb0#32 := by decide +kernel
theorem z9 : Crc.hn 62 0x3e15ccb0#32 = 0x2c95d09f#32 := by decide +kernel
theorem z10 : Crc.hn 62 0x2c95d09f#32 = 0x53e783b4#32 := by decide +kernel
theorem z11 : Crc.hn 62 0x53e783b4#32 = 0x1351d28f#32 := by decide +kernel
theorem z12 : Crc.hn 62 0x1351d28f#32 = 0x8027ca29#32 := by decide +kernel
theorem z13 : Crc.hn 62 0x8027ca29#32 = 0x946cf290#32 := by decide +kernel
theorem z14 : Crc.hn 62 0x946cf290#32 = 0x72d44d03#32 := by decide +kernel
theorem z15 : Crc.hn 62 0x72d44d03#32 = 0xea28f1f3#32 := by decide +kernel
theorem reg_zeros (r : BitVec 32) : ∀ n, Crc.reg r (List.replicate n 0) = Crc.hn (8 * n) r
  | 0 => rfl
  | n + 1 => by
    rw [List.replicate_succ]
    show Crc.reg (Crc.step r 0) (List.replicate n 0) = _
    rw [reg_zeros (Crc.step r 0) n, show 8 * (n + 1) = 8 * n + 8 by omega, Crc.hn_add]
    have : Crc.wide 0 = 0#32 := by decide
    unfold Crc.step
    rw [this, BitVec.xor_zero]
theorem zero_sum : Crc.more 0#32 (List.replicate 124 0) ≠ 0#32 := by
  unfold Crc.more
  rw [reg_zeros, BitVec.zero_xor, show Crc.ones = 0xffffffff#32 from rfl]
  simp only [show 8 * 124 = 62 + (62 + (62 + (62 + (62 + (62 + (62 + (62 + (62 + (62 + (62 + (62 + (62 + (62 + (62 + 62)))))))))))))) by decide, Crc.hn_add, z0, z1, z2, z3, z4, z5, z6, z7, z8, z9, z10, z11, z12, z13, z14, z15]
  decide
theorem zero_bad : sumOk (List.replicate 128 0) = false := by
  unfold sumOk
  rw [decide_eq_false_iff_not]
  intro h
  have h2 := congrArg num h
  unfold sumB at h2
  rw [num_be (BitVec.isLt _)] at h2
  exact zero_sum (BitVec.eq_of_toNat_eq (by rw [show List.replicate 124 (0 : UInt8) = List.drop 4 (List.replicate 128 0) from rfl, ← h2]; decide))
theorem codeB_zeros : codeB (List.replicate 128 0) = 3 := by
  unfold codeB
  rw [zero_bad, if_neg (by decide)]
end Go.Proofs.YtaolkmlgdhnhaaaDoor
