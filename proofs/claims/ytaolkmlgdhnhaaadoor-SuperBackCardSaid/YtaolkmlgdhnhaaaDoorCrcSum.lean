/-
  The contracts of crc.More and crc.Sum: the register of the plain mathematics. Condition: the package variable crc.halved holds its sixteen words.
-/
import Derived.Test.YtaolkmlgdhnhaaaDoorRows
import Derived.Test.YtaolkmlgdhnhaaaDoorCrcMath
import Derived.WalkKit
import Derived.WalkSpells
import Derived.WalkLawsBesides
import Derived.Deep.LoopGhost
import Derived.Laws.BitsAllLaws
import Derived.Lib.Hide
import Derived.IntWalk
import Derived.Deep.Cut
import Derived.Deep.QuietTactic
namespace Go.Proofs.YtaolkmlgdhnhaaaDoor
open Go.RowKit Crc

/-- a word as the model has it -/
def val (r : BitVec 32) : Int := (r.toNat : Int)
theorem val_lo (r : BitVec 32) : 0 ≤ val r := Int.natCast_nonneg _
theorem val_hi (r : BitVec 32) : val r < 4294967296 := by unfold val; have := r.isLt; omega
theorem val_inj {a b : BitVec 32} : val a = val b ↔ a = b := by
  unfold val
  constructor
  · intro h; exact BitVec.eq_of_toNat_eq (by omega)
  · intro h; rw [h]
theorem val_xor (a b : BitVec 32) : bits .xor .u32 (val a) (val b) = val (a ^^^ b) := by
  unfold val
  rw [u32_xor_nat _ _ a.isLt b.isLt, BitVec.toNat_xor]
theorem val_shr4 (a : BitVec 32) : val a / (16 : Int) = val (a >>> 4) := by
  unfold val
  rw [BitVec.toNat_ushiftRight, Nat.shiftRight_eq_div_pow]
  omega

/-- the package variable crc.halved, as it is laid -/
def LaidCrc (w : World) : Prop := 1 < w.heap.size ∧ ∀ k, k < 16 → w.cell? ⟨1, k, none⟩ = some (.int .u32 (val (tab k)))
theorem LaidCrc.cell {w : World} (h : LaidCrc w) (k : Nat) (hk : k < 16) : w.cell? ⟨1, k, none⟩ = some (.int .u32 (val (tab k))) := h.2 k hk
theorem LaidCrc.carry {w w' : World} (h : LaidCrc w) (hb : Below w.heap.size w w') : LaidCrc w' :=
  ⟨Nat.lt_of_lt_of_le h.1 hb.size, fun k hk => by rw [hb.cell (p := ⟨1, k, none⟩) h.1]; exact h.2 k hk⟩

theorem val_ones (x : BitVec 32) : bits .xor .u32 (val x) 4294967295 = val (x ^^^ ones) := val_xor x ones
theorem val_wide (x : BitVec 32) (c : UInt8) : bits .xor .u32 (val x) (c.toNat : Int) = val (x ^^^ wide c) := by
  have e : (c.toNat : Int) = val (wide c) := by
    unfold val wide
    have : c.toNat < 256 := c.toNat_lt
    rw [BitVec.toNat_ofNat, Nat.mod_eq_of_lt (by omega)]
  rw [e, val_xor]
theorem val_wide' (x : BitVec 32) (c : UInt8) : bits .xor .u32 (val x) ((c.toNat : Int) % 4294967296) = val (x ^^^ wide c) := by
  have : c.toNat < 256 := c.toNat_lt
  rw [Int.emod_eq_of_lt (by omega) (by omega), val_wide]
theorem val_and15 (a : BitVec 32) : bits .and .u32 (val a) 15 = ((a.toNat % 16 : Nat) : Int) := by
  unfold val
  have := u32_and_nat a.toNat 15 a.isLt (by omega)
  rw [show ((15 : Nat) : Int) = 15 from rfl] at this
  rw [this]
  have : a.toNat &&& 15 = a.toNat % 16 := Nat.and_two_pow_sub_one_eq_mod _ 4
  rw [this]
theorem val_nib (a : BitVec 32) : bits .xor .u32 (val a / 16) (val (tab (a.toNat % 16))) = val (hn 4 a) := by
  rw [val_shr4, val_xor, nib_eq]
theorem take_snoc (s : ByteArray) (k : Nat) (h : k < s.size) : s.data.toList.take (k + 1) = s.data.toList.take k ++ [s[k]] := by
  rw [List.take_succ_eq_append_getElem (by simpa using h)]; rfl
theorem lenS (s : ByteArray) : s.data.toList.length = s.size := by rw [Array.length_toList]; rfl

set_option maxHeartbeats 1000000 in
set_option maxRecDepth 100000 in
theorem more_any (x : BitVec 32) (s : ByteArray) (w : World) (hs : s.size ≤ maxLen) (hg : LaidCrc w) :
    Calls Tryd.prog 68 #[.int .u32 (val x), .string s] w fun e w' => e = .returned (.int .u32 (val (more x s.data.toList))) ∧ w = w' := by
  unfold maxLen at hs
  have HG := Lib.hid hg
  clear hg
  have hx0 := val_lo x
  have hx1 := val_hi x
  go_enter Tryd.func68, Tryd.ntmps68
  go_wp2
  go_loop [5, 11] (fun r i => ∃ k : Nat, k ≤ s.size ∧ i = .int .i64 k ∧ r = .int .u32 (val (reg (x ^^^ ones) (s.data.toList.take k)))) (fun _ i => s.size - (intOf i).toNat)
  case atStart => exact ⟨0, Nat.zero_le _, rfl, by rw [val_ones]; rfl⟩
  case round =>
    obtain ⟨k, hk, rfl, rfl⟩ := hrel
    by_cases hlt : k < s.size
    · have HT : Hid (reg (x ^^^ ones) (s.data.toList.take (k + 1)) = hn 4 (hn 4 (reg (x ^^^ ones) (s.data.toList.take k) ^^^ wide s[k]))) :=
        Lib.hid (by rw [take_snoc s k hlt, reg_append, ← hn_add]; rfl)
      generalize reg (x ^^^ ones) (s.data.toList.take k) = R at HT ⊢
      have b0 := val_lo R
      have b1 := val_hi R
      have e1 := val_wide' R s[k]
      generalize hR1 : R ^^^ wide s[k] = R1 at e1 HT
      have E1 := Lib.hid e1
      clear hR1 e1
      go_upto_region 6 with (fail)
      rw [E1.out]
      clear E1
      have b2 := val_lo R1
      have b3 := val_hi R1
      have e3 := val_and15 R1
      have e4 := val_nib R1
      have c1 := HG.out.cell (R1.toNat % 16) (Nat.mod_lt _ (by omega))
      have m1 : R1.toNat % 16 < 16 := Nat.mod_lt _ (by omega)
      generalize hm1 : R1.toNat % 16 = n1 at e3 e4 c1 m1
      generalize hR2 : hn 4 R1 = R2 at e4 HT
      have E4 := Lib.hid e4
      clear hm1 hR2 e4
      go_upto_region 7 with (fail)
      rw [E4.out]
      clear E4 e3 c1
      have b4 := val_lo R2
      have b5 := val_hi R2
      have e6 := val_and15 R2
      have e7 := val_nib R2
      have c2 := HG.out.cell (R2.toNat % 16) (Nat.mod_lt _ (by omega))
      have m2 : R2.toNat % 16 < 16 := Nat.mod_lt _ (by omega)
      generalize hm2 : R2.toNat % 16 = n2 at e6 e7 c2 m2
      have E7 := Lib.hid e7
      clear hm2 e7
      go_wp2
      go_round
      case rel => exact ⟨k + 1, by omega, by go_num, by rw [HT.out, E7.out]⟩
      case measure => simp [intOf]; omega
    · go_wp2
      go_ret
      refine ⟨?_, rfl⟩
      rw [List.take_of_length_le (by rw [lenS]; omega), val_ones]
      rfl
/-- a text's sum -/
def sum (s : ByteArray) : BitVec 32 := more 0#32 s.data.toList

theorem more_zero (s : ByteArray) (w : World) (hs : s.size ≤ maxLen) (hg : LaidCrc w) :
    Calls Tryd.prog 68 #[.int .u32 0, .string s] w fun e w' => e = .returned (.int .u32 (val (sum s))) ∧ w = w' := by
  have h := more_any 0#32 s w hs hg
  rw [show val 0#32 = 0 from rfl] at h
  exact h

theorem sum_any (s : ByteArray) (w : World) (hs : s.size ≤ maxLen) (hg : LaidCrc w) :
    Calls Tryd.prog 67 #[.string s] w fun e w' => e = .returned (.int .u32 (val (sum s))) ∧ w = w' := by
  have HG := Lib.hid hg
  clear hg
  go_enter Tryd.func67, Tryd.ntmps67
  go_wp2_with fail
  refine (more_zero s w hs HG.out).mono ?_
  rintro e w' ⟨rfl, rfl⟩
  go_wp2_with fail
  go_ret
  exact ⟨rfl, rfl⟩

theorem LaidCrc.drewN {w : World} (h : LaidCrc w) (n : Nat) : LaidCrc (w.drewN n) := ⟨by simpa using h.1, fun k hk => by simpa using h.2 k hk⟩
theorem sum_q (s : ByteArray) (w : World) (hs : s.size ≤ maxLen) (hg : LaidCrc w) :
    Calls Tryd.prog 67 #[.string s] w fun e w' => e = .returned (.int .u32 (val (sum s))) ∧ w' = w := (sum_any s w hs hg).mono fun _ _ ⟨a, b⟩ => ⟨a, b.symm⟩
theorem more_q (x : BitVec 32) (s : ByteArray) (w : World) (hs : s.size ≤ maxLen) (hg : LaidCrc w) :
    Calls Tryd.prog 68 #[.int .u32 (val x), .string s] w fun e w' => e = .returned (.int .u32 (val (more x s.data.toList))) ∧ w' = w := (more_any x s w hs hg).mono fun _ _ ⟨a, b⟩ => ⟨a, b.symm⟩

end Go.Proofs.YtaolkmlgdhnhaaaDoor
