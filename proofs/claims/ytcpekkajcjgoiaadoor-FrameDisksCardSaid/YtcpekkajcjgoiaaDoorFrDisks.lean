/-
  The walk of the statement FrameDisks: it answers true, and no memory that was there has turned. Conditions: errors.errorType and crc.halved are laid.
-/
import Derived.Test.YtcpekkajcjgoiaaDoorFrAwake
namespace Go.Proofs.YtcpekkajcjgoiaaDoor
open Go.RowKit

set_option maxRecDepth 100000 in
set_option maxHeartbeats 4000000 in
theorem disks_long (a o : Int) (s : ByteArray) (i : Int) (w : World) (hl : 500 < s.size) (hg : Laid2 w) :
    Calls Tryd.prog 5 #[.int .i64 a, .int .i64 o, .string s, .int .i64 i] w fun e w' => e = .returned (.bool true) ∧ Below w.heap.size w w' := by
  have HG := Lib.hid hg
  clear hg
  have hd : decide ((500 : Int) < (s.size : Int)) = true := by simp; omega
  go_enter Tryd.func5, Tryd.ntmps5
  go_wp2_with fail
  refine (awake_any _ HG.out).mono ?_
  rintro e w1 ⟨rfl, hb⟩
  have HB := Lib.hid hb
  have HG1 := Lib.hid (HG.out.carry hb)
  clear hb
  go_wp2_with fail
  refine (awake_any _ HG1.out).mono ?_
  rintro e w2 ⟨rfl, hb⟩
  have HB2 := Lib.hid (HB.out.trans (hb.mono HB.out.size))
  clear hb
  go_wp2_with fail
  go_ret
  exact ⟨rfl, HB2.out⟩

set_option maxRecDepth 100000 in
set_option maxHeartbeats 4000000 in
theorem disks_no (a o : Int) (s : ByteArray) (i : Int) (w : World) (hl : s.size ≤ 500) (hc : codeSt (codeZ false 5 i) a s ≠ 0) (hg : Laid2 w)
    (hcase : decide (a < 1) = true ∨ (decide (a < 1) = false ∧ decide (255 < a) = true) ∨ (decide (a < 1) = false ∧ decide (255 < a) = false ∧ decide ((120 : Int) < (s.size : Int)) = true) ∨
      (decide (a < 1) = false ∧ decide (255 < a) = false ∧ decide ((120 : Int) < (s.size : Int)) = false ∧ decide (i < 0) = true) ∨ (decide (a < 1) = false ∧ decide (255 < a) = false ∧ decide ((120 : Int) < (s.size : Int)) = false ∧ decide (i < 0) = false ∧ decide (4 < i) = true)) :
    Calls Tryd.prog 5 #[.int .i64 a, .int .i64 o, .string s, .int .i64 i] w fun e w' => e = .returned (.bool true) ∧ Below w.heap.size w w' := by
  have HG := Lib.hid hg
  have HC := Lib.hid hc
  clear hg hc
  have hd : decide ((500 : Int) < (s.size : Int)) = false := by simp; omega
  obtain ⟨c, HCC⟩ : ∃ c, Hid (c = codeSt (codeZ false 5 i) a s) := ⟨_, Lib.hid rfl⟩
  have h1' : (c == 0) = false := by have := HC.out; rw [← HCC.out] at this; simp [this]
  have h2' : (c != 0) = true := by simp [bne, h1']
  rcases hcase with d1 | ⟨d1, d2⟩ | ⟨d1, d2, d3⟩ | ⟨d1, d2, d3, d4⟩ | ⟨d1, d2, d3, d4, d5⟩
  all_goals
    go_enter Tryd.func5, Tryd.ntmps5
    go_wp2_with fail
    refine (awake_any _ HG.out).mono ?_
    rintro e w2 ⟨rfl, hb⟩
    have HB2 := Lib.hid hb
    have HG2 := Lib.hid (HG.out.carry hb)
    clear hb
    go_wp2_with fail
    refine (New_yes 5 (by decide) (by decide) _).mono ?_
    rintro e w3 ⟨D, rfl, hdk, hb⟩
    have HD3 := Lib.hid hdk
    have HB3 := Lib.hid (HB2.out.trans (hb.mono HB2.out.size))
    have HG3 := Lib.hid (HG2.out.carry hb)
    clear hb hdk
    go_wp2_with fail
    refine (FrStore_no HD3.out i a s HC.out HG3.out.crc).mono ?_
    rw [show codeSt (codeZ (Dk.new 5).down 5 i) a s = c from HCC.out.symm]
    rintro e w4 ⟨v, rfl, he, hb⟩
    have HE4 := Lib.hid he.is
    have HD4 := Lib.hid (HD3.out.carry hb)
    have HB4 := Lib.hid (HB3.out.trans (hb.mono HB3.out.size))
    have HG4 := Lib.hid (HG3.out.carry hb)
    clear hb he
    go_wp2_with fail
    refine (Num_nil _).mono ?_
    rintro e w' ⟨rfl, rfl⟩
    go_wp2_with fail
    refine (Num_any c v w4 HE4.out HG4.out.err).mono ?_
    rintro e w5 ⟨rfl, hb⟩
    have HD5 := Lib.hid (HD4.out.carry hb)
    have HB5 := Lib.hid (HB4.out.trans (hb.mono HB4.out.size))
    clear hb
    go_wp2_with fail
    refine (Soft_any HD5.out).mono ?_
    rw [show (Dk.new 5).soft.length = 0 from rfl]
    rintro e w' ⟨rfl, rfl⟩
    go_wp2_with fail
    go_ret
    exact ⟨rfl, HB5.out⟩
theorem codeLd_zero (kind : Int) : codeLd 0 kind (List.replicate 128 0) = 3 := by
  unfold codeLd
  rw [codeB_zeros, if_neg (by decide), if_pos (by decide)]
theorem codeLd_lay {k : Nat} {d : List UInt8} (h1 : 1 ≤ k) (h2 : k ≤ 255) (hd : d.length ≤ 120) (o : Int) : codeLd 0 o (layB (UInt8.ofNat k) d) = if (k : Int) = o then 0 else 2 := by
  have hk0 : UInt8.ofNat k ≠ 0 := fun e => by
    have := congrArg UInt8.toNat e
    rw [UInt8.toNat_ofNat', UInt8.toNat_zero] at this
    omega
  have hk : ((UInt8.ofNat k).toNat : Int) = (k : Int) := by rw [UInt8.toNat_ofNat']; omega
  unfold codeLd
  rw [codeB_lay hk0 hd, if_neg (by decide), if_neg (by decide), kB_lay, hk]
set_option maxRecDepth 100000 in
set_option maxHeartbeats 8000000 in
theorem disks_yes (k : Nat) (o : Int) (s : ByteArray) (i : Nat) (w : World) (h1 : 1 ≤ k) (h2 : k ≤ 255) (hs : s.size ≤ 120) (hi : i < 5) (hg : Laid2 w) :
    Calls Tryd.prog 5 #[.int .i64 k, .int .i64 o, .string s, .int .i64 i] w fun e w' => e = .returned (.bool true) ∧ Below w.heap.size w w' := by
  have HG := Lib.hid hg
  clear hg
  have hsl : s.data.toList.length ≤ 120 := by rw [lenS]; exact hs
  obtain ⟨p, HP⟩ : ∃ p, Hid (p = layB (UInt8.ofNat k) s.data.toList) := ⟨_, Lib.hid rfl⟩
  have HPL : Hid (p.length = 128) := Lib.hid (by rw [HP.out]; exact layB_length hsl)
  have HPD : Hid ((⟨(dB p).toArray⟩ : ByteArray) = s) := Lib.hid (by rw [HP.out, dB_lay hsl])
  have HCL : Hid (codeL k s = 0 ∧ pageL k s = pgB p) := Lib.hid (by
    have h := codeL_yes h1 h2 hs
    refine ⟨h, ?_⟩
    unfold pageL
    rw [if_pos h, HP.out]
    rfl)
  have HLK : Hid (∀ o : Int, codeLd 0 o p = if (k : Int) = o then 0 else 2) := Lib.hid (by rw [HP.out]; exact codeLd_lay h1 h2 hsl)
  have hd : decide ((500 : Int) < (s.size : Int)) = false := by simp; omega
  have d1 : decide ((k : Int) < 1) = false := by simp; omega
  have d2 : decide (255 < (k : Int)) = false := by simp; omega
  have d3 : decide ((120 : Int) < (s.size : Int)) = false := by simp; omega
  have d4 : decide ((i : Int) < 0) = false := by simp
  have d5 : decide (4 < (i : Int)) = false := by simp; omega
  obtain ⟨dk, HDK⟩ : ∃ dk, Hid (dk = (Dk.new 5).write i (pgB p)) := ⟨_, Lib.hid rfl⟩
  have HDN : Hid (dk.down = false) := Lib.hid (by rw [HDK.out]; rfl)
  have HDI : Hid (pgAt dk.seen i = pgB p) := Lib.hid (by
    rw [HDK.out]
    show pgAt ((Dk.new 5).seen.set i (pgB p)) i = _
    rw [pgAt_set (by simp [Dk.new]; exact hi), if_pos rfl])
  have HDJ : Hid (pgAt dk.seen ((i + 1) % 5) = pgB (List.replicate 128 0)) := Lib.hid (by
    rw [HDK.out]
    show pgAt ((Dk.new 5).seen.set i (pgB p)) ((i + 1) % 5) = _
    rw [pgAt_set (by simp [Dk.new]; exact hi), if_neg (by omega), pgB_zero]
    show (List.replicate 5 zeroPg).getD ((i + 1) % 5) [] = zeroPg
    rw [List.getD_eq_getElem?_getD, List.getElem?_replicate, if_pos (by omega)]
    rfl)
  clear hsl
  go_enter Tryd.func5, Tryd.ntmps5
  go_wp2_with fail
  refine (awake_any _ HG.out).mono ?_
  rintro e w2 ⟨rfl, hb⟩
  have HB2 := Lib.hid hb
  have HG2 := Lib.hid (HG.out.carry hb)
  clear hb
  go_wp2_with fail
  refine (New_yes 5 (by decide) (by decide) _).mono ?_
  obtain ⟨N, HNN⟩ : ∃ N, Hid (N = w2.heap.size) := ⟨_, Lib.hid rfl⟩
  rw [show NewPost 5 w2 = fun e w' => ∃ D, e = .returned (.tuple #[.pointer (some ⟨D, 0, none⟩), .nilIface]) ∧ DiskAt (· < N) w' D 5 (Dk.new 5) ∧ Below N w2 w' by rw [HNN.out]; rfl]
  rintro e w3 ⟨D, rfl, hdk, hb⟩
  have HD := Lib.hid hdk
  have HK : Hid (Kept (· < N) w2 w3) := Lib.hid (Kept.of_below hb (fun _ h => h))
  have HT : Hid (There (· < N) w2) := Lib.hid (fun k hk => by rw [← HNN.out]; exact hk)
  have HGK : Hid (∀ w', Kept (· < N) w2 w' → Laid2 w' ∧ Below w.heap.size w w') := Lib.hid (fun w' h => by
    have hb : Below w2.heap.size w2 w' := by rw [← HNN.out]; exact h.below fun _ h => h
    exact ⟨HG2.out.carry hb, HB2.out.trans (hb.mono HB2.out.size)⟩)
  clear hdk hb
  go_wp2_with fail
  refine (FrStore_yes (i := i) HD.out (HT.out.kept HK.out) rfl hi (by decide) k s HCL.out.1 (HGK.out _ HK.out).1.crc).mono ?_
  rw [HCL.out.2, ← HDK.out]
  rintro e w4 ⟨rfl, hdk, hk⟩
  have HD4 := Lib.hid hdk
  have HG4 := Lib.hid (HGK.out _ (HK.out.trans hk))
  clear hdk hk HD HK
  go_wp2_with fail
  refine (Num_nil _).mono ?_
  rintro e w' ⟨rfl, rfl⟩
  go_wp2_with fail
  refine (FrLoad_any HD4.out i k p HPL.out (fun _ => by rw [Int.toNat_natCast]; exact HDI.out) HG4.out.1.crc).mono ?_
  rw [HDN.out, codeZ_in hi, HLK.out, if_pos rfl]
  rintro e w5 ⟨v, rfl, he, hb⟩
  obtain rfl := he.zero
  rw [if_pos rfl, HPD.out]
  have HD5 := Lib.hid (HD4.out.carry hb)
  have HB5 := Lib.hid (HG4.out.2.trans (hb.mono HG4.out.2.size))
  have HG5 := Lib.hid (HG4.out.1.carry hb)
  clear he hb HD4 HG4
  obtain ⟨c, HC⟩ : ∃ c, Hid (c = codeLd 0 o p) := ⟨_, Lib.hid rfl⟩
  obtain ⟨z, HZ⟩ : ∃ z : ByteArray, Hid (z = if c = 0 then ⟨(dB p).toArray⟩ else ⟨#[]⟩) := ⟨_, Lib.hid rfl⟩
  go_wp2_with fail
  refine (FrLoad_any HD5.out i o p HPL.out (fun _ => by rw [Int.toNat_natCast]; exact HDI.out) HG5.out.crc).mono ?_
  rw [HDN.out, codeZ_in hi, ← HC.out]
  rintro e w6 ⟨v2, rfl, he, hb⟩
  rw [← HZ.out]
  have HD6 := Lib.hid (HD5.out.carry hb)
  have HB6 := Lib.hid (HB5.out.trans (hb.mono HB5.out.size))
  have HG6 := Lib.hid (HG5.out.carry hb)
  have HE6 := Lib.hid he.is
  clear he hb HD5 HB5 HG5
  have HJ : Hid ((((i : Int) + 1) % 5) = (((i + 1) % 5 : Nat) : Int)) := Lib.hid (by omega)
  go_wp2_with fail
  refine (FrLoad_any HD6.out (((i : Int) + 1) % 5) k (List.replicate 128 0) (by simp) (fun _ => by rw [HJ.out, Int.toNat_natCast]; exact HDJ.out) HG6.out.crc).mono ?_
  rw [HDN.out, HJ.out, codeZ_in (by omega), codeLd_zero]
  rintro e w7 ⟨v3, rfl, he, hb⟩
  rw [if_neg (by decide)]
  have HB7 := Lib.hid (HB6.out.trans (hb.mono HB6.out.size))
  have HG7 := Lib.hid (HG6.out.carry hb)
  have HE7 := Lib.hid (HE6.out.carry hb)
  have HF7 := Lib.hid he.is
  clear he hb HD6 HB6 HG6 HE6
  go_wp2_with fail
  refine (FrLoad_nil 0 k [] w7).mono ?_
  rintro e w8 ⟨v4, rfl, he, hb⟩
  rw [if_neg (by decide)]
  have HB8 := Lib.hid (HB7.out.trans (hb.mono HB7.out.size))
  have HG8 := Lib.hid (HG7.out.carry hb)
  have HE8 := Lib.hid (HE7.out.carry hb)
  have HF8 := Lib.hid (HF7.out.carry hb)
  have HI8 := Lib.hid he.is
  clear he hb HB7 HG7 HE7 HF7
  have hrefl : (s.toList == s.toList) = true := by simp
  by_cases hko : (k : Int) = o
  · subst hko
    have HZS : Hid (z = s) := Lib.hid (by rw [HZ.out, HC.out, HLK.out, if_pos rfl, if_pos rfl, HPD.out])
    have HC0 : Hid (c = 0) := Lib.hid (by rw [HC.out, HLK.out, if_pos rfl])
    rw [HC0.out] at HE8
    rw [HZS.out]
    clear HZ HC
    go_wp2_with fail
    refine (Num_nil _).mono ?_
    rintro e w' ⟨rfl, rfl⟩
    go_wp2_with fail
    refine (Num_nil _).mono ?_
    rintro e w' ⟨rfl, rfl⟩
    go_wp2_with fail
    refine (Num_any 0 v2 w8 HE8.out HG8.out.err).mono ?_
    rintro e w9 ⟨rfl, hb⟩
    have HB9 := Lib.hid (HB8.out.trans (hb.mono HB8.out.size))
    have HG9 := Lib.hid (HG8.out.carry hb)
    have HF9 := Lib.hid (HF8.out.carry hb)
    have HI9 := Lib.hid (HI8.out.carry hb)
    clear hb
    go_wp2_with fail
    refine (Num_any 3 v3 w9 HF9.out HG9.out.err).mono ?_
    rintro e wa ⟨rfl, hb⟩
    have HBA := Lib.hid (HB9.out.trans (hb.mono HB9.out.size))
    have HGA := Lib.hid (HG9.out.carry hb)
    have HIA := Lib.hid (HI9.out.carry hb)
    clear hb
    go_wp2_with fail
    refine (Num_any 1 v4 wa HIA.out HGA.out.err).mono ?_
    rintro e wb ⟨rfl, hb⟩
    have HBB := Lib.hid (HBA.out.trans (hb.mono HBA.out.size))
    clear hb
    go_wp2_with fail
    go_ret
    exact ⟨rfl, HBB.out⟩
  · have HC2 : Hid (c = 2) := Lib.hid (by rw [HC.out, HLK.out, if_neg hko])
    have HZS : Hid (z = ⟨#[]⟩) := Lib.hid (by rw [HZ.out, HC2.out, if_neg (by decide)])
    rw [HC2.out] at HE8
    rw [HZS.out]
    have e1 : (o == (k : Int)) = false := by simp; omega
    have e2 : (o != (k : Int)) = true := by simp [bne, e1]
    clear HZ HC hko
    go_wp2_with fail
    refine (Num_nil _).mono ?_
    rintro e w' ⟨rfl, rfl⟩
    go_wp2_with fail
    refine (Num_nil _).mono ?_
    rintro e w' ⟨rfl, rfl⟩
    go_wp2_with fail
    refine (Num_any 2 v2 w8 HE8.out HG8.out.err).mono ?_
    rintro e w9 ⟨rfl, hb⟩
    have HB9 := Lib.hid (HB8.out.trans (hb.mono HB8.out.size))
    have HG9 := Lib.hid (HG8.out.carry hb)
    have HF9 := Lib.hid (HF8.out.carry hb)
    have HI9 := Lib.hid (HI8.out.carry hb)
    clear hb
    go_wp2_with fail
    refine (Num_any 3 v3 w9 HF9.out HG9.out.err).mono ?_
    rintro e wa ⟨rfl, hb⟩
    have HBA := Lib.hid (HB9.out.trans (hb.mono HB9.out.size))
    have HGA := Lib.hid (HG9.out.carry hb)
    have HIA := Lib.hid (HI9.out.carry hb)
    clear hb
    go_wp2_with fail
    refine (Num_any 1 v4 wa HIA.out HGA.out.err).mono ?_
    rintro e wb ⟨rfl, hb⟩
    have HBB := Lib.hid (HBA.out.trans (hb.mono HBA.out.size))
    clear hb
    go_wp2_with fail
    go_ret
    exact ⟨rfl, HBB.out⟩
theorem disks_walk (a o : Int) (s : ByteArray) (i : Int) (w : World) (hg : Laid2 w) :
    Calls Tryd.prog 5 #[.int .i64 a, .int .i64 o, .string s, .int .i64 i] w fun e w' => e = .returned (.bool true) ∧ Below w.heap.size w w' := by
  by_cases hl : s.size ≤ 500
  · by_cases hc : codeSt (codeZ false 5 i) a s = 0
    · have h0 : codeL a s = 0 := by
        unfold codeSt at hc
        by_cases h : codeL a s = 0
        · exact h
        · rw [if_pos h] at hc; exact hc
      have hz : codeZ false 5 i = 0 := by
        unfold codeSt at hc
        rw [if_neg (by rw [h0]; decide)] at hc
        exact hc
      obtain ⟨k, rfl, h1, h2, hs⟩ := codeL_zero h0
      obtain ⟨_, j, rfl, hj⟩ := codeZ_zero hz
      exact disks_yes k o s j w h1 h2 hs hj hg
    · refine disks_no a o s i w hl hc hg ?_
      simp only [decide_eq_true_eq, decide_eq_false_iff_not]
      by_cases h1 : a < 1
      · exact .inl h1
      · by_cases h2 : 255 < a
        · exact .inr (.inl ⟨h1, h2⟩)
        · by_cases h3 : (120 : Int) < (s.size : Int)
          · exact .inr (.inr (.inl ⟨h1, h2, h3⟩))
          · have h0 : codeL a s = 0 := by unfold codeL; rw [if_neg (by omega), if_neg (by omega)]
            have hz : codeZ false 5 i ≠ 0 := by
              unfold codeSt at hc
              rw [if_neg (by rw [h0]; decide)] at hc
              exact hc
            unfold codeZ at hz
            rw [if_neg (by decide)] at hz
            by_cases h4 : i < 0
            · exact .inr (.inr (.inr (.inl ⟨h1, h2, h3, h4⟩)))
            · refine .inr (.inr (.inr (.inr ⟨h1, h2, h3, h4, ?_⟩)))
              by_cases h5 : 0 ≤ i ∧ i < (5 : Nat)
              · rw [if_pos h5] at hz; exact absurd rfl hz
              · omega
  · exact disks_long a o s i w (by omega) hg
end Go.Proofs.YtcpekkajcjgoiaaDoor
