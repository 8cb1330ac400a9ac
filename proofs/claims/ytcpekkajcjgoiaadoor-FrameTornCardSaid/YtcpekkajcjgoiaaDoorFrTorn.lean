/-
  The walk of the statement FrameTorn: it answers true, and no memory that was there has turned. Conditions: errors.errorType and crc.halved are laid.
-/
import Derived.Test.YtcpekkajcjgoiaaDoorFrAwake
namespace Go.Proofs.YtcpekkajcjgoiaaDoor
open Go.RowKit

set_option maxRecDepth 100000 in
set_option maxHeartbeats 4000000 in
theorem ftorn_long (s t : ByteArray) (k : Int) (w : World) (hl : 120 < s.size ∨ (s.size ≤ 120 ∧ 120 < t.size)) (hg : Laid2 w) :
    Calls Tryd.prog 7 #[.string s, .string t, .int .u8 k] w fun e w' => e = .returned (.bool true) ∧ Below w.heap.size w w' := by
  have HG := Lib.hid hg
  clear hg
  rcases hl with hl | ⟨hl, hl2⟩
  · have hd : decide ((120 : Int) < (s.size : Int)) = true := by simp; omega
    go_enter Tryd.func7, Tryd.ntmps7
    go_wp2_with fail
    refine (awake_any _ HG.out).mono ?_
    rintro e w1 ⟨rfl, hb⟩
    have HB := Lib.hid hb
    have HG1 := Lib.hid (HG.out.carry hb)
    clear hb
    go_wp2_with fail
    refine (awake_any _ HG1.out).mono ?_
    rintro e w2 ⟨rfl, hb⟩
    have HB2 := Lib.hid (HB.out.trans (hb.mono HB.out.size))
    clear hb
    go_wp2_with fail
    go_ret
    exact ⟨rfl, HB2.out⟩
  · have hd : decide ((120 : Int) < (s.size : Int)) = false := by simp; omega
    have hd2 : decide ((120 : Int) < (t.size : Int)) = true := by simp; omega
    go_enter Tryd.func7, Tryd.ntmps7
    go_wp2_with fail
    refine (awake_any _ HG.out).mono ?_
    rintro e w1 ⟨rfl, hb⟩
    have HB := Lib.hid hb
    have HG1 := Lib.hid (HG.out.carry hb)
    clear hb
    go_wp2_with fail
    refine (awake_any _ HG1.out).mono ?_
    rintro e w2 ⟨rfl, hb⟩
    have HB2 := Lib.hid (HB.out.trans (hb.mono HB.out.size))
    clear hb
    go_wp2_with fail
    go_ret
    exact ⟨rfl, HB2.out⟩

/-- what FrameTorn reads at last, as data -/
theorem ftorn_data (t : Int) (was now : List UInt8) : pgAt ((((((Dk.new 2).write 1 (pgB was)).flush).write 1 (pgB now)).crash 0 t).up).seen 1 = pgB (now.take (leftZ t) ++ was.drop (leftZ t)) := by
  show pgAt (crashK 0 [(1, pgB now)] ([zeroPg, pgB was], leftZ t) 1).1 1 = _
  rw [crashK, crashK, crashStep, if_neg (by decide), ← pgB_over]
  rfl
theorem pageL7 {s : ByteArray} (hs : s.size ≤ 120) : codeL 7 s = 0 ∧ pageL 7 s = pgB (layB 7 s.data.toList) := by
  have h : codeL 7 s = 0 := codeL_yes (n := 7) (by decide) (by decide) hs
  exact ⟨h, by unfold pageL; rw [if_pos h]; rfl⟩
/-- which error is answered of the torn frame -/
theorem ftorn_code {was now : ByteArray} {k : Nat} (hw : was.size ≤ 120) (hn : now.size ≤ 120) (l : List UInt8) (hl : l = (layB 7 now.data.toList).take k ++ (layB 7 was.data.toList).drop k) (hk : k ≤ 128) :
    l.length = 128 ∧ (codeLd 0 7 l = 0 ∨ codeLd 0 7 l = 2 ∨ codeLd 0 7 l = 3) ∧ (k ≤ 4 → codeLd 0 7 l = 0 → (⟨(dB l).toArray⟩ : ByteArray) = was) := by
  have h1 : (layB 7 now.data.toList).length = 128 := layB_length (by rw [lenS]; exact hn)
  have h2 : (layB 7 was.data.toList).length = 128 := layB_length (by rw [lenS]; exact hw)
  refine ⟨by rw [hl, List.length_append, List.length_take, List.length_drop]; omega, ?_, fun h4 _ => ?_⟩
  · unfold codeLd codeB
    rw [if_neg (by decide)]
    have key : ∀ (a b : Int), (a = 0 ∨ a = 2 ∨ a = 3) → (if a ≠ 0 then a else if b = 7 then (0 : Int) else 2) = 0 ∨ (if a ≠ 0 then a else if b = 7 then (0 : Int) else 2) = 2 ∨ (if a ≠ 0 then a else if b = 7 then (0 : Int) else 2) = 3 := by
      intro a b h
      rcases h with rfl | rfl | rfl
      · rw [if_neg (by decide)]; split
        · exact .inl rfl
        · exact .inr (.inl rfl)
      · exact .inr (.inl rfl)
      · exact .inr (.inr rfl)
    refine key _ _ ?_
    split
    · split
      · exact .inr (.inl rfl)
      · split
        · exact .inr (.inl rfl)
        · split
          · exact .inl rfl
          · exact .inr (.inl rfl)
    · exact .inr (.inr rfl)
  · have e : l.drop 4 = bodyB 7 was.data.toList := by rw [hl, dB_torn h1 h4, layB_drop]
    have e2 : nB l = was.data.toList.length := by
      have := nB_drop l
      rw [e, ← layB_drop, ← nB_drop, nB_lay (by rw [lenS]; exact hw)] at this
      exact this
    have e3 : dB l = was.data.toList := by
      rw [dB_drop, e, e2]
      show (was.data.toList ++ List.replicate (122 - was.data.toList.length) 0).take was.data.toList.length = was.data.toList
      rw [List.take_left' rfl]
    rw [e3]
set_option maxRecDepth 100000 in
set_option maxHeartbeats 4000000 in
theorem ftorn_short (s t : ByteArray) (k : Nat) (w : World) (hl : s.size ≤ 120) (hl2 : t.size ≤ 120) (hk : k < 256) (hg : Laid2 w) :
    Calls Tryd.prog 7 #[.string s, .string t, .int .u8 k] w fun e w' => e = .returned (.bool true) ∧ Below w.heap.size w w' := by
  have HG := Lib.hid hg
  clear hg
  have hd : decide ((120 : Int) < (s.size : Int)) = false := by simp; omega
  have hd2 : decide ((120 : Int) < (t.size : Int)) = false := by simp; omega
  have HP := Lib.hid (pageL7 hl)
  have HQ := Lib.hid (pageL7 hl2)
  obtain ⟨l, HLL⟩ : ∃ l, Hid (l = (layB 7 t.data.toList).take (leftZ k) ++ (layB 7 s.data.toList).drop (leftZ k)) := ⟨_, Lib.hid rfl⟩
  have HF := Lib.hid (ftorn_code hl hl2 l HLL.out (Nat.le_of_lt (leftZ_le _)))
  go_enter Tryd.func7, Tryd.ntmps7
  go_wp2_with fail
  refine (awake_any _ HG.out).mono ?_
  rintro e w2 ⟨rfl, hb⟩
  have HB2 := Lib.hid hb
  have HG2 := Lib.hid (HG.out.carry hb)
  clear hb
  go_wp2_with fail
  refine (New_yes 2 (by decide) (by decide) _).mono ?_
  obtain ⟨N, HNN⟩ : ∃ N, Hid (N = w2.heap.size) := ⟨_, Lib.hid rfl⟩
  rw [show NewPost 2 w2 = fun e w' => ∃ D, e = .returned (.tuple #[.pointer (some ⟨D, 0, none⟩), .nilIface]) ∧ DiskAt (· < N) w' D 2 (Dk.new 2) ∧ Below N w2 w' by rw [HNN.out]; rfl]
  rintro e w3 ⟨D, rfl, hd, hb⟩
  have HD := Lib.hid hd
  have HK : Hid (Kept (· < N) w2 w3) := Lib.hid (Kept.of_below hb (fun _ h => h))
  have HT : Hid (There (· < N) w2) := Lib.hid (fun k hk => by rw [← HNN.out]; exact hk)
  have HGK : Hid (∀ w', Kept (· < N) w2 w' → Laid2 w') := Lib.hid (fun w' h => HG2.out.carry (by rw [← HNN.out]; exact h.below fun _ h => h))
  clear hd hb
  go_wp2_with fail
  refine (FrStore_yes (i := 1) HD.out (HT.out.kept HK.out) rfl (by decide) (by decide) 7 s HP.out.1 (HGK.out _ HK.out).crc).mono ?_
  rw [HP.out.2]
  rintro e w4 ⟨rfl, hd, hk⟩
  have HD4 := Lib.hid hd
  have HK4 := Lib.hid (HK.out.trans hk)
  clear hd hk HD HK
  go_wp2_with fail
  refine (Flush_yes HD4.out rfl).mono ?_
  rintro e w5 ⟨rfl, hd, hk⟩
  have HD5 := Lib.hid hd
  have HK5 := Lib.hid (HK4.out.trans hk)
  clear hd hk HD4 HK4
  go_wp2_with fail
  refine (FrStore_yes (i := 1) HD5.out (HT.out.kept HK5.out) rfl (by decide) (by show 0 ≤ 1000000; decide) 7 t HQ.out.1 (HGK.out _ HK5.out).crc).mono ?_
  rw [HQ.out.2]
  rintro e w6 ⟨rfl, hd, hk⟩
  have HD6 := Lib.hid hd
  have HK6 := Lib.hid (HK5.out.trans hk)
  clear hd hk HD5 HK5
  go_wp2_with fail
  refine (Crash_yes (m := 0) (t := (k : Int)) (by decide) HD6.out (HT.out.kept HK6.out) (by show 1 ≤ 1000000; decide) (by omega)).mono ?_
  rintro e w7 ⟨rfl, hd, hk⟩
  have HD7 := Lib.hid hd
  have HK7 := Lib.hid (HK6.out.trans hk)
  clear hd hk HD6 HK6
  go_wp2_with fail
  refine (Up_any HD7.out).mono ?_
  rintro e w8 ⟨rfl, hd, hk⟩
  have HD8 := Lib.hid hd
  have HK8 := Lib.hid (HK7.out.trans hk)
  clear hd hk HD7 HK7
  go_wp2_with fail
  refine (FrLoad_any HD8.out 1 7 l HF.out.1 (fun _ => by rw [HLL.out]; exact ftorn_data _ _ _) (HGK.out _ HK8.out).crc).mono ?_
  rw [show codeZ ((((((Dk.new 2).write 1 (pgB (layB 7 s.data.toList))).flush).write 1 (pgB (layB 7 t.data.toList))).crash 0 k).up).down 2 1 = 0 from rfl]
  obtain ⟨c, HC⟩ : ∃ c, Hid (c = codeLd 0 7 l) := ⟨_, Lib.hid rfl⟩
  rw [← HC.out]
  rintro e w9 ⟨v, rfl, he, hb⟩
  obtain ⟨z, HZ⟩ : ∃ z : ByteArray, Hid (z = if c = 0 then ⟨(dB l).toArray⟩ else ⟨#[]⟩) := ⟨_, Lib.hid rfl⟩
  rw [← HZ.out]
  have HE9 := Lib.hid he.is
  have HK9 : Hid (Kept (· < N) w2 w9) := Lib.hid (HK8.out.trans (Kept.of_below hb (fun k hk => HT.out.kept HK8.out k hk)))
  have HG9 := Lib.hid (HGK.out _ HK9.out)
  clear he hb HK8 HD8
  go_wp2_with fail
  refine (Num_nil _).mono ?_
  rintro e w' ⟨rfl, rfl⟩
  go_wp2_with fail
  refine (Num_nil _).mono ?_
  rintro e w' ⟨rfl, rfl⟩
  go_wp2_with fail
  refine (Num_nil _).mono ?_
  rintro e w' ⟨rfl, rfl⟩
  go_wp2_with fail
  refine (Num_nil _).mono ?_
  rintro e w' ⟨rfl, rfl⟩
  have fin : ∀ w', Below w9.heap.size w9 w' → Below w.heap.size w w' := fun w' h => HB2.out.trans (((HK9.out.trans (Kept.of_below h (fun k hk => HT.out.kept HK9.out k hk))).below (fun k hk => by have := HB2.out.size; rw [HNN.out]; omega)))
  have FIN := Lib.hid fin
  clear fin
  rcases HF.out.2.1 with h | h | h
  · have hc0 : c = 0 := HC.out.trans h
    have HZ0 : Hid (z = ⟨(dB l).toArray⟩) := Lib.hid (by rw [HZ.out, if_pos hc0])
    subst hc0
    clear HZ
    have hlz : leftZ (k : Int) = k % 128 := by unfold leftZ; rw [if_neg (by omega)]; omega
    have HZS : Hid (k % 128 ≤ 4 → z = s) := Lib.hid (fun h4 => HZ0.out.trans (HF.out.2.2 (by rw [hlz]; exact h4) h))
    clear h hlz
    go_wp2_with fail
    refine (Num_any 0 v w9 HE9.out HG9.out.err).mono ?_
    rintro e wa ⟨rfl, hb⟩
    have HBA := Lib.hid hb
    have HEA := Lib.hid (HE9.out.carry hb)
    have HGA := Lib.hid (HG9.out.carry hb)
    clear hb
    go_wp2_with fail
    refine (Num_any 0 v wa HEA.out HGA.out.err).mono ?_
    rintro e wb ⟨rfl, hb⟩
    have HBB := Lib.hid (HBA.out.trans (hb.mono HBA.out.size))
    have HEB := Lib.hid (HEA.out.carry hb)
    have HGB := Lib.hid (HGA.out.carry hb)
    clear hb
    go_wp2_with fail
    refine (Num_any 0 v wb HEB.out HGB.out.err).mono ?_
    rintro e wc ⟨rfl, hb⟩
    have HBC := Lib.hid (HBB.out.trans (hb.mono HBB.out.size))
    clear hb
    by_cases h4 : k % 128 ≤ 4
    · obtain rfl := HZS.out h4
      have hd3 : decide ((4 : Int) < (k : Int) % 128) = false := by simp; omega
      clear h4
      go_wp2_with fail
      go_ret
      exact ⟨by simp, FIN.out _ HBC.out⟩
    · have hd3 : decide ((4 : Int) < (k : Int) % 128) = true := by simp; omega
      clear h4
      go_wp2_with fail
      go_ret
      exact ⟨by simp, FIN.out _ HBC.out⟩
  · have hc0 : c = 2 := HC.out.trans h
    subst hc0
    go_wp2_with fail
    refine (Num_any 2 v w9 HE9.out HG9.out.err).mono ?_
    rintro e wa ⟨rfl, hb⟩
    have HBA := Lib.hid hb
    have HEA := Lib.hid (HE9.out.carry hb)
    have HGA := Lib.hid (HG9.out.carry hb)
    clear hb
    go_wp2_with fail
    refine (Num_any 2 v wa HEA.out HGA.out.err).mono ?_
    rintro e wb ⟨rfl, hb⟩
    have HBB := Lib.hid (HBA.out.trans (hb.mono HBA.out.size))
    clear hb
    go_wp2_with fail
    go_ret
    exact ⟨rfl, FIN.out _ HBB.out⟩
  · have hc0 : c = 3 := HC.out.trans h
    subst hc0
    go_wp2_with fail
    refine (Num_any 3 v w9 HE9.out HG9.out.err).mono ?_
    rintro e wa ⟨rfl, hb⟩
    have HBA := Lib.hid hb
    clear hb
    go_wp2_with fail
    go_ret
    exact ⟨rfl, FIN.out _ HBA.out⟩
end Go.Proofs.YtcpekkajcjgoiaaDoor
