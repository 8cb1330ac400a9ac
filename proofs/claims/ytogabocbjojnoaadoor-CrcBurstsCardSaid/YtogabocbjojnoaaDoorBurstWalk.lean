/-
  The walk of the statement CrcBursts: it answers true, and no memory that was there has turned. Condition: the package variable crc.halved holds its sixteen words.
-/
import Derived.Test.YtogabocbjojnoaaDoorLineWalk
namespace Go.Proofs.YtogabocbjojnoaaDoor
open Go.RowKit Crc

set_option maxHeartbeats 1000000 in
theorem bursts_long (s : ByteArray) (a c : Int) (w : World) (hs : s.size ≤ maxLen) (hl : 800 < s.size) (hg : Laid w) :
    Calls Tryd.prog 4 #[.string s, .int .u16 a, .int .u32 c] w fun e w' => e = .returned (.bool true) ∧ Below w.heap.size w w' := by
  unfold maxLen at hs
  have HG := Lib.hid hg
  clear hg
  have hl1 : decide ((s.size : Int) > 800) = true := by simp; omega
  go_enter Tryd.func4, Tryd.ntmps4
  go_wp2_with fail
  refine (awake_any _ HG.out).mono ?_
  rintro e w' ⟨rfl, rfl⟩
  go_wp2_with fail
  refine (awake_any _ HG.out).mono ?_
  rintro e w' ⟨rfl, rfl⟩
  go_wp2_with fail
  go_ret
  exact ⟨rfl, Below.refl _ _⟩
set_option maxHeartbeats 1000000 in
theorem bursts_none (s : ByteArray) (a c : Int) (w : World) (hl : s.size = 0) (hg : Laid w) :
    Calls Tryd.prog 4 #[.string s, .int .u16 a, .int .u32 c] w fun e w' => e = .returned (.bool true) ∧ Below w.heap.size w w' := by
  have HG := Lib.hid hg
  clear hg
  have hl1 : decide ((s.size : Int) > 800) = false := by simp; omega
  have hl2 : ((s.size : Int) == 0) = true := beq_iff_eq.2 (by omega)
  go_enter Tryd.func4, Tryd.ntmps4
  go_wp2_with fail
  refine (awake_any _ HG.out).mono ?_
  rintro e w' ⟨rfl, rfl⟩
  go_wp2_with fail
  refine (awake_any _ HG.out).mono ?_
  rintro e w' ⟨rfl, rfl⟩
  go_wp2_with fail
  go_ret
  exact ⟨rfl, Below.refl _ _⟩

/-- the bytes of a text, as a row of the call's own -/
theorem bytes_of (s : ByteArray) (w : World) : ∃ (w1 : World) (cap : Nat), (convert 9 27 (.string s)).run Tryd.prog w = .ok (.slice (some ⟨w.heap.size, 0, none⟩) s.size cap) w1 ∧ Row w1 w.heap.size s.data.toList ∧ Below w.heap.size w w1 := by
  refine ⟨_, _, run_bytes_of_string w 9 27 5 s Tryd.underlying9 Tryd.underlying27 Tryd.underlying5, ?_, (Below.refl _ _).drew.alloc (Nat.le_refl _) _⟩
  intro i hi
  have hi' : i < s.data.size := by simpa using hi
  have hh : (w.drew.alloc (.cells (bytesRow s (grownCap w s.size 0 5)) 5 ((bytesRow s (grownCap w s.size 0 5)).size, (bytesRow s (grownCap w s.size 0 5)).size + 1))).heap[w.heap.size]?
      = some (.cells (bytesRow s (grownCap w s.size 0 5)) 5 ((bytesRow s (grownCap w s.size 0 5)).size, (bytesRow s (grownCap w s.size 0 5)).size + 1)) := by
    show (w.heap.push _)[w.heap.size]? = _
    simp
  refine ⟨?_, ?_⟩
  · rw [cell_of_row _ w.heap.size i _ 5 _ hh, bytesRow_at s _ i hi']
    simp
  · have hsz : s.data.size ≤ (bytesRow s (grownCap w s.size 0 5)).size := by simp [bytesRow]
    simp only [World.frozen?, hh]
    have : ¬ ((bytesRow s (grownCap w s.size 0 5)).size ≤ i) := by omega
    simp [this]

/-- what the first k rounds have made of a text: so many bits behind F are turned, as q says -/
def Burst (s : ByteArray) (F k : Nat) (xs : List UInt8) : Prop :=
  ∃ q : BitVec 32, (∀ j, k ≤ j → q.getLsbD j = false) ∧ (∀ r, reg r xs = reg r s.data.toList ^^^ hn (8 * s.size - F) q) ∧ (q = 0#32 → xs = s.data.toList)
theorem Burst.start (s : ByteArray) (F : Nat) : Burst s F 0 s.data.toList :=
  ⟨0#32, fun j _ => by simp, fun r => by rw [hn_zero, BitVec.xor_zero], fun _ => rfl⟩
theorem Burst.keep {s : ByteArray} {F k : Nat} {xs : List UInt8} (h : Burst s F k xs) : Burst s F (k + 1) xs := by
  obtain ⟨q, h1, h2, h3⟩ := h
  exact ⟨q, fun j hj => h1 j (by omega), h2, h3⟩
theorem Burst.turn {s : ByteArray} {F k p b : Nat} {xs : List UInt8} (h : Burst s F k xs) (hk : k < 32) (hF : F + k < 8 * s.size) (hx : xs.length = s.size) (hp : p = (F + k) / 8) (hb : b = (F + k) % 8) (hlt : p < xs.length) :
    Burst s F (k + 1) (xs.set p (xs[p] ^^^ (1 <<< UInt8.ofNat b))) := by
  obtain ⟨q, h1, h2, h3⟩ := h
  refine ⟨q ^^^ (1#32 <<< k), fun j hj => ?_, fun r => ?_, fun hq => ?_⟩
  · rw [BitVec.getLsbD_xor, h1 j (by omega), BitVec.getLsbD_shiftLeft]
    have : ¬ (j - k = 0) := by omega
    simp [this]
  · rw [List.set_eq_take_append_cons_drop, if_pos hlt, reg_turn _ _ _ _ _ (by omega)]
    have e : xs.take p ++ xs[p] :: xs.drop (p + 1) = xs := by
      rw [List.getElem_cons_drop, List.take_append_drop]
    rw [e, h2 r, BitVec.xor_assoc, hn_xor]
    congr 2
    have e1 : 8 * s.size - F = (8 * s.size - F - k) + k := by omega
    rw [e1, hn_add (8 * s.size - F - k) k, hn_bit k hk, List.length_drop]
    congr 1
    omega
  · exfalso
    have := congrArg (fun z : BitVec 32 => z.getLsbD k) hq
    simp only [BitVec.getLsbD_xor, h1 k (Nat.le_refl _), BitVec.getLsbD_shiftLeft] at this
    simp [hk] at this
theorem Burst.same {s : ByteArray} {F k : Nat} {xs : List UInt8} (h : Burst s F k xs) : (val (sum ⟨xs.toArray⟩) == val (sum s)) = (xs == s.data.toList) := by
  obtain ⟨q, h1, h2, h3⟩ := h
  rw [val_beq]
  by_cases e : xs = s.data.toList
  · rw [beq_iff_eq.2 e]
    unfold sum
    rw [List.toList_toArray, e]
    simp
  · rw [beq_eq_false_iff_ne.2 e]
    refine beq_eq_false_iff_ne.2 fun hs => e (h3 ?_)
    unfold sum more at hs
    have hs2 := xor_right.1 hs
    rw [List.toList_toArray, h2] at hs2
    apply hn_eq_zero (n := 8 * s.size - F)
    have := congrArg (reg (0#32 ^^^ ones) s.data.toList ^^^ ·) hs2
    simpa [← BitVec.xor_assoc] using this

theorem val_bit (c : BitVec 32) (k : Nat) : bits .and .u32 (val c / (2 : Int) ^ k) 1 = if c.getLsbD k then 1 else 0 := by
  have e : val c / (2 : Int) ^ k = ((c.toNat / 2 ^ k : Nat) : Int) := by
    unfold val
    rw [Int.natCast_ediv]
    simp
  have h := u32_and_nat (c.toNat / 2 ^ k) 1 (Nat.lt_of_le_of_lt (Nat.div_le_self _ _) c.isLt) (by omega)
  rw [e]
  refine h.trans ?_
  rw [Nat.and_one_is_mod, BitVec.getLsbD, Nat.testBit_eq_decide_div_mod_eq]
  by_cases hb : c.toNat / 2 ^ k % 2 = 1
  · simp [hb]
  · have : c.toNat / 2 ^ k % 2 = 0 := by omega
    simp [this]

theorem turn_u8 (x : UInt8) (b : Nat) (hb : b < 8) : bits .xor .u8 (x.toNat : Int) ((2 : Int) ^ b % 256) = ((x ^^^ (1 <<< UInt8.ofNat b)).toNat : Int) := by
  have e : ∀ b : Fin 8, (2 : Int) ^ b.val % 256 = (((1 : UInt8) <<< UInt8.ofNat b.val).toNat : Int) := by decide +kernel
  rw [e ⟨b, hb⟩, xor_u8]

set_option maxHeartbeats 2000000 in
theorem bursts_short (s : ByteArray) (a : Nat) (c : BitVec 32) (w : World) (ha : a < 65536) (hl : s.size ≤ 800) (h0 : 0 < s.size) (hg : Laid w) :
    Calls Tryd.prog 4 #[.string s, .int .u16 (a : Int), .int .u32 (val c)] w fun e w' => e = .returned (.bool true) ∧ Below w.heap.size w w' := by
  have HG := Lib.hid hg
  clear hg
  have hl1 : decide ((s.size : Int) > 800) = false := by simp; omega
  have hl2 : ((s.size : Int) == 0) = false := beq_eq_false_iff_ne.2 (by omega)
  have HK : Hid ((a : Int) % (8 * (s.size : Int)) = ((a % (8 * s.size) : Nat) : Int)) := Lib.hid (by simp)
  have hF : a % (8 * s.size) < 8 * s.size := Nat.mod_lt _ (by omega)
  obtain ⟨w1, cap, hrun, hr, hb⟩ := bytes_of s w
  have HR := Lib.hid hr
  have HB := Lib.hid hb
  clear hr hb
  go_enter Tryd.func4, Tryd.ntmps4
  go_wp2_with fail
  refine (awake_any _ HG.out).mono ?_
  rintro e w' ⟨rfl, rfl⟩
  go_wp2_with fail
  rw [HK.out]
  clear HK hrun
  generalize a % (8 * s.size) = F at hF
  obtain ⟨B, HBd⟩ : ∃ B, Hid (B = w.heap.size) := ⟨_, Lib.hid rfl⟩
  rw [← HBd.out] at HR ⊢
  go_loopw [9, 10] (fun i _ wr => ∃ (k : Nat) (xs : List UInt8), k ≤ 32 ∧ i = .int .i64 k ∧ Hid (xs.length = s.size) ∧ Hid (Burst s F k xs) ∧ Hid (Row wr B xs) ∧ Hid (Below w.heap.size w wr)) (fun i _ _ => 32 - (intOf i).toNat)
  case atStart => exact ⟨0, s.data.toList, Nat.zero_le _, rfl, Lib.hid (lenS s), Lib.hid (Burst.start s F), HR, HB⟩
  case round =>
    obtain ⟨k, xs, hk, rfl, HL, HX, HR', HB'⟩ := hrel
    clear HR HB
    by_cases hlt : k < 32
    · by_cases hb : c.getLsbD k = true
      · have hb1 : bits .and .u32 (val c / (2 : Int) ^ k) 1 = 1 := by rw [val_bit, if_pos hb]
        clear hb
        by_cases hin : F + k < 8 * s.size
        · have hd : decide ((F : Int) + (k : Int) < 8 * (s.size : Int)) = true := decide_eq_true (by omega)
          have hp : (F + k) / 8 < s.size := by omega
          have hc := (HR'.out ((F + k) / 8) (by rw [HL.out]; omega)).1
          have hf := (HR'.out ((F + k) / 8) (by rw [HL.out]; omega)).2
          go_wp2_with fail
          go_region
          go_wp2_with fail
          go_roundw
          case rel =>
            have hpx : (F + k) / 8 < xs.length := by rw [HL.out]; omega
            refine ⟨k + 1, xs.set ((F + k) / 8) (xs[(F + k) / 8] ^^^ (1 <<< UInt8.ofNat ((F + k) % 8))), by omega, by go_num, Lib.hid (by rw [List.length_set]; exact HL.out), Lib.hid (HX.out.turn hlt hin HL.out rfl rfl hpx), Lib.hid ?_, Lib.hid ?_⟩
            · rw [turn_u8 _ _ (Nat.mod_lt _ (by omega))]; exact (HR'.out.store _ _).drew
            · exact (HB'.out.setCell (Nat.le_of_eq HBd.out.symm) _).drew
          case measure => simp [intOf]; omega
        · have hd : decide ((F : Int) + (k : Int) < 8 * (s.size : Int)) = false := decide_eq_false (by omega)
          go_wp2_with fail
          go_roundw
          case rel => exact ⟨k + 1, xs, by omega, by go_num, HL, Lib.hid HX.out.keep, HR', HB'⟩
          case measure => simp [intOf]; omega
      · have hb1 : bits .and .u32 (val c / (2 : Int) ^ k) 1 = 0 := by rw [val_bit, if_neg hb]
        clear hb
        go_wp2_with fail
        go_roundw
        case rel => exact ⟨k + 1, xs, by omega, by go_num, HL, Lib.hid HX.out.keep, HR', HB'⟩
        case measure => simp [intOf]; omega
    · have hcv : ∀ m, (convert 27 9 (.slice (some ⟨B, 0, none⟩) s.size cap)).run Tryd.prog (wr.drewN m) = .ok (.string ⟨xs.toArray⟩) (wr.drewN m) := fun m => (HR'.out.drewN m).text cap s.size HL.out
      have HG' := Lib.hid (HG.out.carry HB'.out)
      have hx9 : Hid ((⟨xs.toArray⟩ : ByteArray).size ≤ maxLen) := Lib.hid (by
        have e : (⟨xs.toArray⟩ : ByteArray).size = xs.length := rfl
        rw [e, HL.out]; unfold maxLen; omega)
      go_wp2_with fail
      go_quiet (first | (go_at_call 10; exact Calls.quiet_of_same (sum_q _ _ (by first | exact hx9.out | (unfold maxLen; omega)) (HG'.out.drewN _))))
      go_wp2_with fail
      go_ret
      refine ⟨ret_true ?_, below_drewN_of HB'.out _⟩
      rw [ByteArray.toList_eq, HX.out.same]
      simp
theorem bursts_walk (s : ByteArray) (a : Int) (c : BitVec 32) (w : World) (hs : s.size ≤ maxLen) (ha : 0 ≤ a ∧ a < 65536) (hg : Laid w) :
    Calls Tryd.prog 4 #[.string s, .int .u16 a, .int .u32 (val c)] w fun e w' => e = .returned (.bool true) ∧ Below w.heap.size w w' := by
  obtain ⟨n, rfl⟩ := Int.eq_ofNat_of_zero_le ha.1
  by_cases h : 800 < s.size
  · exact bursts_long s n (val c) w hs h hg
  · by_cases h0 : s.size = 0
    · exact bursts_none s n (val c) w h0 hg
    · exact bursts_short s n c w (by omega) (by omega) (by omega) hg
end Go.Proofs.YtogabocbjojnoaaDoor
