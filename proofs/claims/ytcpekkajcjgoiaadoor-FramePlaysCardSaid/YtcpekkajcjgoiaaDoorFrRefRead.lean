/-
  The contract of the document's own Read for layer 5. Conditions: none beyond the premises of each theorem.
-/
import Derived.Test.YtcpekkajcjgoiaaDoorFrRef
namespace Go.Proofs.YtcpekkajcjgoiaaDoor
open Go.RowKit

/-- what the document's own Read answers -/
def RefReadAns (l : List UInt8) (w : World) (e : Ending) (w' : World) : Prop :=
  e = .returned (.tuple #[.int .i64 (if codeB l = 0 then ((kB l).toNat : Int) else 0), .string (if codeB l = 0 then ⟨(dB l).toArray⟩ else ⟨#[]⟩), .int .i64 (codeB l)]) ∧ Below w.heap.size w w'
theorem RefGet_q (s : ByteArray) (k : Nat) (w : World) (h4 : k ≤ 4) (hs : k ≤ s.size) : Calls Tryd.prog 27 #[.string s, .int .i64 k] w fun e w' => e = .returned (.int .i64 (num (s.data.toList.take k) : Int)) ∧ w' = w := (RefGet_nat s k w h4 hs).mono fun _ _ ⟨a, b⟩ => ⟨a, b.symm⟩
theorem RefSum_q (s : ByteArray) (w : World) (hs : s.size ≤ maxLen) : Calls Tryd.prog 14 #[.string s] w fun e w' => e = .returned (.int .u32 (val (sum s))) ∧ w' = w := (RefSum_any s w hs).mono fun _ _ ⟨a, b⟩ => ⟨a, b.symm⟩
theorem sumOk_num {l : List UInt8} (hl : l.length = 128) : sumOk l = true ↔ num (l.take 4) = (Crc.more 0#32 (l.drop 4)).toNat := by
  have h4 : (l.take 4).length = 4 := by rw [List.length_take]; omega
  unfold sumOk sumB
  rw [decide_eq_true_eq]
  constructor
  · intro h
    rw [h, num_be (BitVec.isLt _)]
  · intro h
    rw [← h]
    have := be_num (l.take 4)
    rw [h4] at this
    exact this.symm
set_option maxRecDepth 100000 in
set_option maxHeartbeats 4000000 in
theorem RefRead_sum (l : List UInt8) (hl : l.length = 128) (hc : sumOk l = false) (w : World) : Calls Tryd.prog 15 #[pgV (pgB l)] w (RefReadAns l w) := by
  have HL := Lib.hid hl
  have HC := Lib.hid hc
  obtain ⟨b, HB⟩ : ∃ b, Hid (b = w.heap.size) := ⟨_, Lib.hid rfl⟩
  obtain ⟨z, HZ⟩ : ∃ z : ByteArray, Hid (z = ⟨l.toArray⟩) := ⟨_, Lib.hid rfl⟩
  have HZL : Hid (z.data.toList = l) := Lib.hid (by rw [HZ.out])
  have HZS : Hid (z.size = 128) := Lib.hid (by rw [HZ.out, toArr_size]; exact hl)
  have hcv := range_text (n := 128) (cap := 128) (Own.new (w := w) (x := l) 23).at_ hl
  rw [← HZ.out] at hcv
  clear hl hc
  have hz4 : 4 ≤ z.size := by rw [HZS.out]; decide
  have hz5 : (4 : Int) ≤ (z.size : Int) := by omega
  obtain ⟨x, HX⟩ : ∃ x, Hid (x = num (l.take 4)) := ⟨_, Lib.hid rfl⟩
  obtain ⟨y, HY⟩ : ∃ y, Hid (y = (Crc.more 0#32 (l.drop 4)).toNat) := ⟨_, Lib.hid rfl⟩
  obtain ⟨u, HU⟩ : ∃ u : ByteArray, Hid (u = z.extract 4 z.size) := ⟨_, Lib.hid rfl⟩
  have hy : y < 4294967296 := by rw [HY.out]; exact BitVec.isLt _
  have HXY : Hid (x ≠ y) := Lib.hid (by
    intro e
    rw [HX.out, HY.out] at e
    have := (sumOk_num HL.out).2 e
    rw [HC.out] at this
    cases this)
  have G1 : Hid (∀ w', Calls Tryd.prog 27 #[.string z, .int .i64 4] w' fun e w'' => e = .returned (.int .i64 (x : Int)) ∧ w'' = w') := Lib.hid (fun w' => by
    have := RefGet_q z 4 w' (by decide) hz4
    rw [HZL.out, ← HX.out] at this
    exact this)
  have G2 : Hid (∀ w', Calls Tryd.prog 14 #[.string u] w' fun e w'' => e = .returned (.int .u32 (y : Int)) ∧ w'' = w') := Lib.hid (fun w' => by
    have hul : u.data.toList = l.drop 4 := by
      have e : (z.extract 4 z.size).data.toList = (z.data.toList.drop 4).take (z.size - 4) := by simp
      rw [HU.out, e, HZL.out, HZS.out, List.take_of_length_le (by rw [List.length_drop, HL.out]; decide)]
    have hus : u.size ≤ maxLen := by
      have : u.size = (l.drop 4).length := by rw [← hul, Array.length_toList]; rfl
      rw [this, List.length_drop, HL.out]
      decide
    have := RefSum_q u w' hus
    rw [show val (sum u) = (y : Int) by rw [HY.out, ← hul]; rfl] at this
    exact this)
  go_enter Tryd.func15, Tryd.ntmps15
  go_wp2_with fail
  clear hcv
  obtain ⟨w0, HW0⟩ : ∃ w0, Hid (w0 = w.alloc (.cells (pgArr (pgB l)) 23)) := ⟨_, Lib.hid rfl⟩
  rw [← HW0.out, ← HB.out]
  have HB0 : Hid (Below w.heap.size w w0) := Lib.hid (by rw [HW0.out]; exact (Below.refl _ _).alloc (Nat.le_refl _) _)
  have HO0 : Hid (Own w0 b l) := Lib.hid (by rw [HW0.out, HB.out]; exact Own.new _)
  have hu : z.extract 4 z.size = u := HU.out.symm
  clear HW0
  have hne1 : (x == y) = false := by simpa using HXY.out
  have hne2 : ((x : Int) == (y : Int)) = false := by simp; have := HXY.out; omega
  have hne3 : ((x : Int) != (y : Int)) = true := by simp [bne, hne2]
  go_quiet (first | (go_at_call 27; exact Calls.quiet_of_same (G1.out _)) | (go_at_call 14; exact Calls.quiet_of_same (G2.out _)))
  go_wp2_with fail
  go_ret3
  have hc3 : codeB l = 3 := by unfold codeB; rw [HC.out]; rfl
  exact ⟨by rw [hc3]; rfl, below_drewN_of HB0.out nq⟩
/-- the bytes behind the data, looked at up to j -/
def ZeroRel (l : List UInt8) (w0 : World) (i : Value) (wr : World) : Prop := ∃ j : Nat, 6 + nB l ≤ j ∧ j ≤ 128 ∧ i = .int .i64 (j : Int) ∧ (∀ q, 6 + nB l ≤ q → q < j → l.getD q 0 = 0) ∧ w0 = wr
theorem restZ_iff {l : List UInt8} (hl : l.length = 128) (hn : nB l ≤ 120) : restZ l = true ↔ ∀ q, 6 + nB l ≤ q → q < 128 → l.getD q 0 = 0 := by
  unfold restZ
  rw [List.all_eq_true]
  constructor
  · intro h q h1 h2
    have hm : l.getD q 0 ∈ l.drop (6 + nB l) := by
      rw [List.getD_eq_getElem?_getD, List.getElem?_eq_getElem (by omega)]
      refine List.mem_iff_getElem.2 ⟨q - (6 + nB l), by rw [List.length_drop]; omega, ?_⟩
      rw [List.getElem_drop]
      simp only [Option.getD_some]
      congr 1
      omega
    simpa using h _ hm
  · intro h x hx
    obtain ⟨q, hq, rfl⟩ := List.mem_iff_getElem.1 hx
    rw [List.length_drop] at hq
    have := h (6 + nB l + q) (by omega) (by omega)
    rw [List.getD_eq_getElem?_getD, List.getElem?_eq_getElem (by omega)] at this
    rw [List.getElem_drop]
    simpa using this
set_option maxRecDepth 100000 in
set_option maxHeartbeats 4000000 in
theorem RefRead_ok (l : List UInt8) (hl : l.length = 128) (hc : sumOk l = true) (w : World) : Calls Tryd.prog 15 #[pgV (pgB l)] w (RefReadAns l w) := by
  have HL := Lib.hid hl
  have HC := Lib.hid hc
  obtain ⟨b, HB⟩ : ∃ b, Hid (b = w.heap.size) := ⟨_, Lib.hid rfl⟩
  obtain ⟨z, HZ⟩ : ∃ z : ByteArray, Hid (z = ⟨l.toArray⟩) := ⟨_, Lib.hid rfl⟩
  have HZL : Hid (z.data.toList = l) := Lib.hid (by rw [HZ.out])
  have HZS : Hid (z.size = 128) := Lib.hid (by rw [HZ.out, toArr_size]; exact hl)
  have hcv := range_text (n := 128) (cap := 128) (Own.new (w := w) (x := l) 23).at_ hl
  rw [← HZ.out] at hcv
  clear hl hc
  have hz4 : 4 ≤ z.size := by rw [HZS.out]; decide
  have hz5 : (4 : Int) ≤ (z.size : Int) := by omega
  obtain ⟨y, HY⟩ : ∃ y, Hid (y = (Crc.more 0#32 (l.drop 4)).toNat) := ⟨_, Lib.hid rfl⟩
  obtain ⟨u, HU⟩ : ∃ u : ByteArray, Hid (u = z.extract 4 z.size) := ⟨_, Lib.hid rfl⟩
  have hy : y < 4294967296 := by rw [HY.out]; exact BitVec.isLt _
  have HXY : Hid (num (l.take 4) = y) := Lib.hid (by rw [HY.out]; exact (sumOk_num HL.out).1 HC.out)
  have G1 : Hid (∀ w', Calls Tryd.prog 27 #[.string z, .int .i64 4] w' fun e w'' => e = .returned (.int .i64 (y : Int)) ∧ w'' = w') := Lib.hid (fun w' => by
    have := RefGet_q z 4 w' (by decide) hz4
    rw [HZL.out, HXY.out] at this
    exact this)
  have G2 : Hid (∀ w', Calls Tryd.prog 14 #[.string u] w' fun e w'' => e = .returned (.int .u32 (y : Int)) ∧ w'' = w') := Lib.hid (fun w' => by
    have hul : u.data.toList = l.drop 4 := by
      have e : (z.extract 4 z.size).data.toList = (z.data.toList.drop 4).take (z.size - 4) := by simp
      rw [HU.out, e, HZL.out, HZS.out, List.take_of_length_le (by rw [List.length_drop, HL.out]; decide)]
    have hus : u.size ≤ maxLen := by
      have : u.size = (l.drop 4).length := by rw [← hul, Array.length_toList]; rfl
      rw [this, List.length_drop, HL.out]
      decide
    have := RefSum_q u w' hus
    rw [show val (sum u) = (y : Int) by rw [HY.out, ← hul]; rfl] at this
    exact this)
  go_enter Tryd.func15, Tryd.ntmps15
  go_wp2_with fail
  clear hcv
  obtain ⟨w0, HW0⟩ : ∃ w0, Hid (w0 = w.alloc (.cells (pgArr (pgB l)) 23)) := ⟨_, Lib.hid rfl⟩
  rw [← HW0.out, ← HB.out]
  have HB0 : Hid (Below w.heap.size w w0) := Lib.hid (by rw [HW0.out]; exact (Below.refl _ _).alloc (Nat.le_refl _) _)
  have HO0 : Hid (Own w0 b l) := Lib.hid (by rw [HW0.out, HB.out]; exact Own.new _)
  have hu : z.extract 4 z.size = u := HU.out.symm
  clear HW0
  go_quiet (first | (go_at_call 27; exact Calls.quiet_of_same (G1.out _)) | (go_at_call 14; exact Calls.quiet_of_same (G2.out _)))
  obtain ⟨w2, HW2⟩ : ∃ w2, Hid (w2 = w0.drewN nq) := ⟨_, Lib.hid rfl⟩
  rw [← HW2.out]
  have HB2 : Hid (Below w.heap.size w w2) := Lib.hid (by rw [HW2.out]; exact below_drewN_of HB0.out nq)
  have HO2 : Hid (Own w2 b l) := Lib.hid (by rw [HW2.out]; exact ⟨HO0.out.at_, HO0.out.free⟩)
  clear HW2 HO0 HB0
  have hk := kB_lt l
  have hn := nB_lt l
  obtain ⟨k, HK⟩ : ∃ k, Hid (k = (kB l).toNat) := ⟨_, Lib.hid rfl⟩
  obtain ⟨n, HN⟩ : ∃ n, Hid (n = nB l) := ⟨_, Lib.hid rfl⟩
  have c4 : w2.cell? ⟨b, 4, none⟩ = some (.int .u8 (k : Int)) := by
    have := HO2.out.at_ 4 (.int .u8 ((kB l).toNat : Int)) (by simp [pgCells, pgB, kB, HL.out])
    rw [HK.out]; simpa using this
  have c5 : w2.cell? ⟨b, 5, none⟩ = some (.int .u8 (n : Int)) := by
    have := HO2.out.at_ 5 (.int .u8 (nB l : Int)) (by simp [pgCells, pgB, nB, HL.out])
    rw [HN.out]; simpa using this
  rw [← HK.out] at hk
  rw [← HN.out] at hn
  by_cases hk0 : k = 0
  · have hc2 : codeB l = 2 := by
      unfold codeB
      have : kB l = 0 := UInt8.toNat_inj.1 (by rw [← HK.out, hk0]; rfl)
      rw [if_pos HC.out, this]
      simp
    have HC2 := Lib.hid hc2
    subst hk0
    clear hc2
    go_wp2_with fail
    go_ret3
    exact ⟨by rw [HC2.out]; rfl, HB2.out⟩
  · have hk1 : ((k : Int) == 0) = false := by simp; omega
    by_cases hlong : 120 < n
    · have hc2 : codeB l = 2 := by
        unfold codeB
        rw [if_pos HC.out, if_pos (by rw [← HN.out]; exact hlong)]
      have HC2 := Lib.hid hc2
      have hd : decide ((120 : Int) < (n : Int)) = true := by simp; omega
      clear hc2
      go_wp2_with fail
      go_ret3
      exact ⟨by rw [HC2.out]; rfl, HB2.out⟩
    · have hc0 : codeB l = if restZ l = true then 0 else 2 := by
        refine codeB_ref HL.out HC.out (by rw [← HN.out]; omega) (fun e => hk0 ?_)
        rw [HK.out, e]
        rfl
      have HC0 := Lib.hid hc0
      have hd : decide ((120 : Int) < (n : Int)) = false := by simp; omega
      clear hc0 hk0
      go_wp2_with fail
      go_loopw [7] (fun i wr => ZeroRel l w2 i wr) (fun i _ => 128 - (intOf i).toNat)
      case atStart => exact ⟨6 + n, by rw [← HN.out]; exact Nat.le_refl _, by omega, by go_num, fun q h1 h2 => absurd h2 (by rw [← HN.out] at h1; omega), rfl⟩
      case round =>
        obtain ⟨j, hj0, hj, rfl, hq, rfl⟩ := hrel
        have HQ := Lib.hid hq
        have HJ0 := Lib.hid hj0
        clear hq hj0
        by_cases hlt : j < 128
        · have hjl : j < l.length := by rw [HL.out]; exact hlt
          have c1 := HO2.out.cell hjl
          by_cases hx : l[j] = 0
          · rw [hx] at c1
            have c1' : w2.cell? ⟨b, j, none⟩ = some (.int .u8 0) := c1
            clear c1
            go_wp2_with fail
            go_roundw
            case rel =>
              refine ⟨j + 1, by have := HJ0.out; omega, hlt, by go_num, fun q h1 h2 => ?_, rfl⟩
              by_cases e : q < j
              · exact HQ.out q h1 e
              · obtain rfl : q = j := by omega
                rw [List.getD_eq_getElem?_getD, List.getElem?_eq_getElem hjl]
                exact hx
            case measure => simp [intOf]; omega
          · have hc2 : codeB l = 2 := by
              rw [HC0.out, if_neg]
              intro h
              have := (restZ_iff HL.out (by rw [← HN.out]; omega)).1 h j HJ0.out hlt
              rw [List.getD_eq_getElem?_getD, List.getElem?_eq_getElem hjl] at this
              exact hx this
            have HC2 := Lib.hid hc2
            obtain ⟨x, HX⟩ : ∃ x, Hid (x = l[j].toNat) := ⟨_, Lib.hid rfl⟩
            rw [← HX.out] at c1
            have hx0 : x ≠ 0 := fun e => hx (UInt8.toNat_inj.1 (by rw [← HX.out, e]; rfl))
            have e1 : ((x : Int) == 0) = false := by simp; omega
            have e2 : ((x : Int) != 0) = true := by simp [bne, e1]
            clear hc2 hx hx0
            go_wp2_with fail
            go_ret3
            exact ⟨by rw [HC2.out]; rfl, HB2.out⟩
        · obtain rfl : j = 128 := by omega
          have hc1 : codeB l = 0 := by
            rw [HC0.out, if_pos ((restZ_iff HL.out (by rw [← HN.out]; omega)).2 fun q h1 h2 => HQ.out q h1 h2)]
          have HC1 := Lib.hid hc1
          clear hc1
          obtain ⟨v, HV⟩ : ∃ v : ByteArray, Hid (v = ⟨(dB l).toArray⟩) := ⟨_, Lib.hid rfl⟩
          have hn0 : n ≤ 120 := by omega
          have hsl : z.extract 6 (6 + n) = v := by
            apply ByteArray.ext
            apply Array.toList_inj.1
            rw [HV.out]
            have e : (z.extract 6 (6 + n)).data.toList = (z.data.toList.drop 6).take (6 + n - 6) := by simp
            rw [e, HZL.out, show 6 + n - 6 = n by omega, HN.out]
            rfl
          have hz6 : (6 : Int) + (n : Int) ≤ (z.size : Int) := by rw [HZS.out]; omega
          have HSL := Lib.hid hsl
          clear hsl
          go_wp2_with fail
          refine wp_region_reads (by kernel_rfl) (by kernel_rfl) (fun w3 HW => ?_)
          have HB3 : Hid (Below w.heap.size w w3) := Lib.hid (by rw [HW.out]; exact HB2.out.drew)
          have c4' : w3.cell? ⟨b, 4, none⟩ = some (.int .u8 (k : Int)) := by rw [HW.out]; exact c4
          have ek : IntKind.i64.wrap (k : Int) = (k : Int) := IntWalk.i64_in _ (by omega)
          have en : IntKind.i64.wrap (6 + (n : Int)) = 6 + (n : Int) := IntWalk.i64_in _ (by omega)
          have et : (6 + (n : Int)).toNat = 6 + n := by omega
          have q1 : (0 : Int) ≤ 6 + (n : Int) := by omega
          have q2 : (6 : Int) ≤ 6 + (n : Int) := by omega
          have hsl := HSL.out
          clear HW c4 c5
          iterate 10 still_step
          refine wpStill_nil ?_
          clear ek en et hsl q1 q2
          go_wp2_with fail
          go_ret3
          refine ⟨?_, HB3.out⟩
          rw [HC1.out, if_pos rfl, if_pos rfl, ← HV.out, ← HK.out]
          rfl
theorem RefRead_any (l : List UInt8) (hl : l.length = 128) (w : World) : Calls Tryd.prog 15 #[pgV (pgB l)] w (RefReadAns l w) := by
  cases hs : sumOk l
  · exact RefRead_sum l hl hs w
  · exact RefRead_ok l hl hs w
end Go.Proofs.YtcpekkajcjgoiaaDoor
