/-
  The contracts of crc.Sum, of the statements' own 'awake' and of the document's Sum, bit by bit. Condition: the package variable crc.halved holds its sixteen words.
-/
import Derived.Test.YtogabocbjojnoaaDoorMore
namespace Go.Proofs.YtogabocbjojnoaaDoor
open Go.RowKit Crc

/-- a text's sum -/
def sum (s : ByteArray) : BitVec 32 := more 0#32 s.data.toList

theorem more_zero (s : ByteArray) (w : World) (hs : s.size ≤ maxLen) (hg : Laid w) :
    Calls Tryd.prog 12 #[.int .u32 0, .string s] w fun e w' => e = .returned (.int .u32 (val (sum s))) ∧ w = w' := by
  have h := more_any 0#32 s w hs hg
  rw [show val 0#32 = 0 from rfl] at h
  exact h

theorem sum_any (s : ByteArray) (w : World) (hs : s.size ≤ maxLen) (hg : Laid w) :
    Calls Tryd.prog 10 #[.string s] w fun e w' => e = .returned (.int .u32 (val (sum s))) ∧ w = w' := by
  have HG := Lib.hid hg
  clear hg
  go_enter Tryd.func10, Tryd.ntmps10
  go_wp2_with fail
  refine (more_zero s w hs HG.out).mono ?_
  rintro e w' ⟨rfl, rfl⟩
  go_wp2_with fail
  go_ret
  exact ⟨rfl, rfl⟩

theorem sum_nine : val (sum ⟨#[49, 50, 51, 52, 53, 54, 55, 56, 57]⟩) = 3421780262 := by decide +kernel

theorem awake_any (w : World) (hg : Laid w) : Calls Tryd.prog 9 #[] w fun e w' => e = .returned (.bool true) ∧ w = w' := by
  have HG := Lib.hid hg
  clear hg
  go_enter Tryd.func9, Tryd.ntmps9
  go_wp2_with fail
  refine (sum_any _ w (by decide) HG.out).mono ?_
  rintro e w' ⟨rfl, rfl⟩
  rw [sum_nine]
  go_wp2_with fail
  go_ret
  exact ⟨rfl, rfl⟩

/-! the document's sum, bit by bit -/
theorem val_odd (r : BitVec 32) : val r % (2 : Int) = if r.getLsbD 0 then 1 else 0 := by
  unfold val
  have e : r.getLsbD 0 = decide (r.toNat % 2 = 1) := by
    rw [BitVec.getLsbD, Nat.testBit_zero]
  rw [e]
  by_cases h : r.toNat % 2 = 1
  · simp [h]; omega
  · simp [h]; omega
theorem val_half (r : BitVec 32) : val r / (2 : Int) = val (r >>> 1) := by
  unfold val
  rw [BitVec.toNat_ushiftRight, Nat.shiftRight_eq_div_pow]
  omega
theorem val_poly (r : BitVec 32) : bits .xor .u32 (val r) 3988292384 = val (r ^^^ poly) := val_xor r poly
theorem val_not (r : BitVec 32) : 4294967295 - val r = val (r ^^^ ones) := by
  have e : r ^^^ ones = ~~~r := by
    have : ones = BitVec.allOnes 32 := by decide
    rw [this, BitVec.xor_allOnes]
  rw [e]
  unfold val
  rw [BitVec.toNat_not]
  have := r.isLt
  omega

theorem val_tdiv (r : BitVec 32) : (val r).tdiv 2 % (4294967296 : Int) = val (r >>> 1) := by
  have h0 := val_lo r
  have h1 := val_hi r
  rw [Int.tdiv_eq_ediv_of_nonneg h0, Int.emod_eq_of_lt (by omega) (by omega), val_half]
theorem val_tmod (r : BitVec 32) : (val r).tmod 2 = if r.getLsbD 0 then 1 else 0 := by
  rw [Int.tmod_eq_emod_of_nonneg (val_lo r), val_odd]
theorem val_half_odd (r : BitVec 32) (h : r.getLsbD 0 = true) : bits .xor .u32 ((val r).tdiv 2 % (4294967296 : Int)) 3988292384 = val (half r) := by
  rw [val_tdiv, val_poly, half, if_pos h]
theorem val_half_even (r : BitVec 32) (h : ¬ r.getLsbD 0 = true) : (val r).tdiv 2 % (4294967296 : Int) = val (half r) := by
  rw [val_tdiv, half, if_neg h]

set_option maxHeartbeats 1000000 in
set_option maxRecDepth 100000 in
theorem ref_any (s : ByteArray) (w : World) (hs : s.size ≤ maxLen) :
    Calls Tryd.prog 11 #[.string s] w fun e w' => e = .returned (.int .u32 (val (sum s))) ∧ w = w' := by
  unfold maxLen at hs
  go_enter Tryd.func11, Tryd.ntmps11
  go_wp2
  go_loop [3, 4, 5, 6] (fun r i _ _ => ∃ k : Nat, k ≤ s.size ∧ i = .int .i64 k ∧ r = .int .u32 (val (reg ones (s.data.toList.take k)))) (fun _ i _ _ => s.size - (intOf i).toNat)
  case atStart => exact ⟨0, Nat.zero_le _, rfl, rfl⟩
  case round =>
    obtain ⟨k, hk, rfl, rfl⟩ := hrel
    by_cases hlt : k < s.size
    · have HT : Hid (reg ones (s.data.toList.take (k + 1)) = hn 8 (reg ones (s.data.toList.take k) ^^^ wide s[k])) :=
        Lib.hid (by rw [take_snoc s k hlt, reg_append]; rfl)
      generalize reg ones (s.data.toList.take k) = R at HT ⊢
      have b0 := val_lo R
      have b1 := val_hi R
      have e1 := val_wide' R s[k]
      generalize hR1 : R ^^^ wide s[k] = R1 at e1 HT
      have E1 := Lib.hid e1
      clear hR1 e1
      go_upto_region 6 with (fail)
      rw [E1.out]
      clear E1
      clear b0 b1
      go_wp2
      go_loop [3, 5, 6] (fun r i _ => ∃ m : Nat, m ≤ 8 ∧ i = .int .i64 m ∧ r = .int .u32 (val (hn m R1))) (fun _ i _ => 8 - (intOf i).toNat)
      case atStart => exact ⟨0, Nat.zero_le _, rfl, rfl⟩
      case round =>
        obtain ⟨m, hm, rfl, rfl⟩ := hrel
        by_cases hm8 : m < 8
        · have HM : Hid (hn (m + 1) R1 = half (hn m R1)) := Lib.hid rfl
          generalize hn m R1 = P at HM ⊢
          by_cases hp : P.getLsbD 0 = true
          · have ho : (val P).tmod 2 = 1 := by rw [val_tmod, if_pos hp]
            have E := Lib.hid (val_half_odd P hp)
            clear hp
            go_wp2
            go_round
            case rel => exact ⟨m + 1, by omega, by go_num, by rw [HM.out, E.out]⟩
            case measure => simp [intOf]; omega
          · have ho : (val P).tmod 2 = 0 := by rw [val_tmod, if_neg hp]
            have E := Lib.hid (val_half_even P hp)
            clear hp
            go_wp2
            go_round
            case rel => exact ⟨m + 1, by omega, by go_num, by rw [HM.out, E.out]⟩
            case measure => simp [intOf]; omega
        · obtain rfl : m = 8 := by omega
          go_wp2
          go_round
          case rel => exact ⟨k + 1, by omega, by go_num, by rw [HT.out]⟩
          case measure => simp [intOf]; omega
    · have b0 := val_lo (reg ones (List.take k s.data.toList))
      have b1 := val_hi (reg ones (List.take k s.data.toList))
      go_wp2
      go_ret
      refine ⟨?_, rfl⟩
      rw [List.take_of_length_le (by rw [lenS]; omega), val_not]
      rfl
end Go.Proofs.YtogabocbjojnoaaDoor
