/-
  The contract of the document's own sum, bit by bit. Conditions: none beyond the premises of each theorem.
-/
import Derived.Test.YtcpekkajcjgoiaaDoorCrcSum
namespace Go.Proofs.YtcpekkajcjgoiaaDoor
open Go.RowKit Crc

theorem val_odd (r : BitVec 32) : val r % (2 : Int) = if r.getLsbD 0 then 1 else 0 := by
  unfold val
  have e : r.getLsbD 0 = decide (r.toNat % 2 = 1) := by
    rw [BitVec.getLsbD, Nat.testBit_zero]
  rw [e]
  by_cases h : r.toNat % 2 = 1
  · simp [h]; omega
  · simp [h]; omega
theorem val_half (r : BitVec 32) : val r / (2 : Int) = val (r >>> 1) := by
  unfold val
  rw [BitVec.toNat_ushiftRight, Nat.shiftRight_eq_div_pow]
  omega
theorem val_poly (r : BitVec 32) : bits .xor .u32 (val r) 3988292384 = val (r ^^^ poly) := val_xor r poly
theorem val_not (r : BitVec 32) : 4294967295 - val r = val (r ^^^ ones) := by
  have e : r ^^^ ones = ~~~r := by
    have : ones = BitVec.allOnes 32 := by decide
    rw [this, BitVec.xor_allOnes]
  rw [e]
  unfold val
  rw [BitVec.toNat_not]
  have := r.isLt
  omega

theorem val_tdiv (r : BitVec 32) : (val r).tdiv 2 % (4294967296 : Int) = val (r >>> 1) := by
  have h0 := val_lo r
  have h1 := val_hi r
  rw [Int.tdiv_eq_ediv_of_nonneg h0, Int.emod_eq_of_lt (by omega) (by omega), val_half]
theorem val_tmod (r : BitVec 32) : (val r).tmod 2 = if r.getLsbD 0 then 1 else 0 := by
  rw [Int.tmod_eq_emod_of_nonneg (val_lo r), val_odd]
theorem val_half_odd (r : BitVec 32) (h : r.getLsbD 0 = true) : bits .xor .u32 ((val r).tdiv 2 % (4294967296 : Int)) 3988292384 = val (half r) := by
  rw [val_tdiv, val_poly, half, if_pos h]
theorem val_half_even (r : BitVec 32) (h : ¬ r.getLsbD 0 = true) : (val r).tdiv 2 % (4294967296 : Int) = val (half r) := by
  rw [val_tdiv, half, if_neg h]

set_option maxHeartbeats 1000000 in
set_option maxRecDepth 100000 in
theorem RefSum_any (s : ByteArray) (w : World) (hs : s.size ≤ maxLen) :
    Calls Tryd.prog 14 #[.string s] w fun e w' => e = .returned (.int .u32 (val (sum s))) ∧ w = w' := by
  unfold maxLen at hs
  go_enter Tryd.func14, Tryd.ntmps14
  go_wp2
  go_loop [3, 4, 5, 6] (fun r i _ _ => ∃ k : Nat, k ≤ s.size ∧ i = .int .i64 k ∧ r = .int .u32 (val (reg ones (s.data.toList.take k)))) (fun _ i _ _ => s.size - (intOf i).toNat)
  case atStart => exact ⟨0, Nat.zero_le _, rfl, rfl⟩
  case round =>
    obtain ⟨k, hk, rfl, rfl⟩ := hrel
    by_cases hlt : k < s.size
    · have HT : Hid (reg ones (s.data.toList.take (k + 1)) = hn 8 (reg ones (s.data.toList.take k) ^^^ wide s[k])) :=
        Lib.hid (by rw [take_snoc s k hlt, reg_append]; rfl)
      generalize reg ones (s.data.toList.take k) = R at HT ⊢
      have b0 := val_lo R
      have b1 := val_hi R
      have e1 := val_wide' R s[k]
      generalize hR1 : R ^^^ wide s[k] = R1 at e1 HT
      have E1 := Lib.hid e1
      clear hR1 e1
      go_upto_region 6 with (fail)
      rw [E1.out]
      clear E1
      clear b0 b1
      go_wp2
      go_loop [3, 5, 6] (fun r i _ => ∃ m : Nat, m ≤ 8 ∧ i = .int .i64 m ∧ r = .int .u32 (val (hn m R1))) (fun _ i _ => 8 - (intOf i).toNat)
      case atStart => exact ⟨0, Nat.zero_le _, rfl, rfl⟩
      case round =>
        obtain ⟨m, hm, rfl, rfl⟩ := hrel
        by_cases hm8 : m < 8
        · have HM : Hid (hn (m + 1) R1 = half (hn m R1)) := Lib.hid rfl
          generalize hn m R1 = P at HM ⊢
          by_cases hp : P.getLsbD 0 = true
          · have ho : (val P).tmod 2 = 1 := by rw [val_tmod, if_pos hp]
            have E := Lib.hid (val_half_odd P hp)
            clear hp
            go_wp2
            go_round
            case rel => exact ⟨m + 1, by omega, by go_num, by rw [HM.out, E.out]⟩
            case measure => simp [intOf]; omega
          · have ho : (val P).tmod 2 = 0 := by rw [val_tmod, if_neg hp]
            have E := Lib.hid (val_half_even P hp)
            clear hp
            go_wp2
            go_round
            case rel => exact ⟨m + 1, by omega, by go_num, by rw [HM.out, E.out]⟩
            case measure => simp [intOf]; omega
        · obtain rfl : m = 8 := by omega
          go_wp2
          go_round
          case rel => exact ⟨k + 1, by omega, by go_num, by rw [HT.out]⟩
          case measure => simp [intOf]; omega
    · have b0 := val_lo (reg ones (List.take k s.data.toList))
      have b1 := val_hi (reg ones (List.take k s.data.toList))
      go_wp2
      go_ret
      refine ⟨?_, rfl⟩
      rw [List.take_of_length_le (by rw [lenS]; omega), val_not]
      rfl
end Go.Proofs.YtcpekkajcjgoiaaDoor
