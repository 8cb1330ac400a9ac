/-
  The walk of FieldDowns: the neighbours that are nearer, of any list of costs, are the document's, and a way takes the first of them. Conditions: none beyond the premises of each theorem.
-/
import Derived.Test.YtiffgmgefpoblaaDoorFieldRefDown
namespace Go.Proofs.YtiffgmgefpoblaaDoor
open Go.RowKit Hp Fld

theorem ints_inj {a b : List Nat} (h : ints a = ints b) : a = b := by
  have h2 := congrArg (List.map Int.toNat) h
  simpa [ints, Function.comp_def] using h2
/-- what is left of a way, and what its first cell is -/
theorem wayM_head {dn : Int → List Nat} {k j : Nat} {r : List Nat} {c : Int} (h : wayM dn k c = j :: r) : (∃ t, dn c = j :: t) ∧ r = wayM dn (k - 1) (j : Int) := by
  cases k with
  | zero => cases h
  | succ k =>
    unfold wayM at h
    cases hd : dn c with
    | nil => rw [hd] at h; cases h
    | cons a t =>
      rw [hd] at h
      simp only [List.cons.injEq] at h
      obtain ⟨rfl, rfl⟩ := h
      exact ⟨⟨t, rfl⟩, rfl⟩
theorem way_empty {W H : Int} {s : ByteArray} {F : List Int} {c : Int} : (wayZ W H s F c).length = 0 ↔ (downZ W H s F c).length = 0 := by
  unfold wayZ wayM
  cases h : downZ W H s F c with
  | nil => simp
  | cons a t => simp
theorem down_wrong {W H : Int} {s : ByteArray} {F : List Int} {c : Int} (hr : rightM W H s = false) : downZ W H s F c = [] := by
  unfold downZ nearM openM
  rw [hr]
  split
  · simp [lows, sortF]
  · rfl
theorem down_le {W H : Int} {s : ByteArray} {F : List Int} {c : Int} : (downZ W H s F c).length ≤ 4 := by
  have h1 : (nearM W H s c).length ≤ 4 := by
    by_cases h0 : 0 < (nearM W H s c).length
    · exact (nearM_facts h0).2.1
    · omega
  unfold downZ
  split
  · rw [(sortF_spec F _ (lows_rising (nearM_rising W H s c))).1.length_eq]
    exact Nat.le_trans (List.length_filter_le _ _) h1
  · exact Nat.zero_le _
set_option maxRecDepth 100000 in
set_option maxHeartbeats 2000000 in
theorem downs_walk (W H : Int) (s : ByteArray) {A : Option Addr} {F : List Int} {cap : Nat} (c : Int) {w : World} (hz : Nums w .i64 A F) : Calls Tryd.prog 5 #[.agg #[.int .i64 W, .int .i64 H, .string s], .slice A F.length cap, .int .i64 c] w fun e w' => e = .returned (.bool true) ∧ Below w.heap.size w w' := by
  have HZ := Lib.hid hz
  clear hz
  obtain ⟨w1, HW1⟩ : ∃ w1, Hid (w1 = w.alloc (.cells #[.int .i64 W, .int .i64 H, .string s] 23)) := ⟨_, Lib.hid rfl⟩
  obtain ⟨p, HP⟩ : ∃ p, Hid (p = w.heap.size) := ⟨_, Lib.hid rfl⟩
  have HR1 : Hid (RefAt w1 p W H s) := Lib.hid (by rw [HW1.out, HP.out]; exact heap_alloc_new w _)
  have HB1 : Hid (Below w.heap.size w w1) := Lib.hid (by rw [HW1.out]; exact (Below.refl _ _).alloc (Nat.le_refl _) _)
  go_enter Tryd.func5, Tryd.ntmps5
  go_upto_region 1 with (fail)
  rw [← HP.out, ← HW1.out]
  clear HP HW1
  go_wp2_with fail
  refine (awake_any w1).mono ?_
  rintro e w2 ⟨rfl, hbw⟩
  have HR2 := Lib.hid (HR1.out.carry hbw)
  have HB2 := Lib.hid (HB1.out.trans (hbw.mono HB1.out.size))
  clear hbw HR1 HB1
  dsimp only
  have c0 := HR2.out.w_
  have c1 := HR2.out.h_
  have c2 := HR2.out.s_
  by_cases hbig : (200 : Int) < (s.size : Int) ∨ (200 : Int) < (F.length : Int)
  · rcases Classical.em ((200 : Int) < (s.size : Int)) with h1 | h1
    · go_wp2_with fail
      refine (awake_any w2).mono ?_
      rintro e w4 ⟨rfl, hbw⟩
      have HB4 := Lib.hid (HB2.out.trans (hbw.mono HB2.out.size))
      clear hbw
      dsimp only
      go_wp2_with fail
      go_ret
      exact ⟨rfl, HB4.out⟩
    · have h2 : (200 : Int) < (F.length : Int) := hbig.resolve_left h1
      go_wp2_with fail
      refine (awake_any w2).mono ?_
      rintro e w4 ⟨rfl, hbw⟩
      have HB4 := Lib.hid (HB2.out.trans (hbw.mono HB2.out.size))
      clear hbw
      dsimp only
      go_wp2_with fail
      go_ret
      exact ⟨rfl, HB4.out⟩
  · have h1 : ¬ (200 : Int) < (s.size : Int) := fun h => hbig (.inl h)
    have h2 : ¬ (200 : Int) < (F.length : Int) := fun h => hbig (.inr h)
    have hsm : s.size ≤ maxLen := by unfold maxLen; omega
    have hfm : F.length ≤ maxLen := by unfold maxLen; omega
    have HFL : Hid (F.length ≤ 1000) := Lib.hid (by omega)
    clear hbig
    obtain ⟨dn, HDN⟩ : ∃ dn : Int → List Nat, Hid (dn = fun c => downZ W H s F c) := ⟨_, Lib.hid rfl⟩
    obtain ⟨wy, HWY⟩ : ∃ wy : List Nat, Hid (wy = wayM dn 64 c) := ⟨_, Lib.hid rfl⟩
    have HDO : Hid (∀ w9, Nums w9 .i64 A F → Calls Tryd.prog 18 #[.agg #[.int .i64 W, .int .i64 H, .string s], .slice A F.length cap, .int .i64 c] w9 (NearPost (dn c) w9)) := Lib.hid (fun w9 h9 => by rw [HDN.out]; exact Down_any W H s c hsm hfm h9)
    have HWO : Hid (∀ w9, Nums w9 .i64 A F → Calls Tryd.prog 16 #[.agg #[.int .i64 W, .int .i64 H, .string s], .slice A F.length cap, .int .i64 c] w9 (NearPost wy w9)) := Lib.hid (fun w9 h9 => by rw [HWY.out, HDN.out]; exact Way_any W H s c hsm hfm h9)
    have HEM : Hid (wy.length = 0 ↔ (dn c).length = 0) := Lib.hid (by rw [HWY.out, HDN.out]; exact way_empty)
    have HLE : Hid (wy.length ≤ 64) := Lib.hid (by rw [HWY.out]; exact wayM_length dn 64 c)
    have HWR : Hid (rightM W H s = false → dn c = []) := Lib.hid (fun h => by rw [HDN.out]; exact down_wrong h)
    have HRD : Hid (rightM W H s = true → ∀ (c9 : Int) w9, Nums w9 .i64 A F → Calls Tryd.prog 19 #[.agg #[.int .i64 W, .int .i64 H, .string s], .slice A F.length cap, .int .i64 c9] w9 (ListPost (dn c9) w9)) := Lib.hid (fun hr c9 w9 h9 => by rw [HDN.out]; exact RefDown_any W H s c9 hr h9 HFL.out)
    have HD4 : Hid ((dn c).length ≤ 4) := Lib.hid (by rw [HDN.out]; exact down_le)
    clear HDN hsm hfm
    obtain ⟨dc, HDC⟩ : ∃ dc, Hid (dc = dn c) := ⟨_, Lib.hid rfl⟩
    rw [← HDC.out] at HDO HEM HWR
    go_wp2_with fail
    refine (Of_any W H s w2).mono ?_
    rintro e w3 ⟨rfl, hbw⟩
    have HR3 := Lib.hid (HR2.out.carry hbw)
    have HB3 := Lib.hid (HB2.out.trans (hbw.mono HB2.out.size))
    clear hbw HR2 HB2 c0 c1 c2
    have hdo := Lib.hid (HDO.out w3 (HZ.out.carry HB3.out))
    go_wp2_with fail
    refine hdo.out.mono ?_
    rintro e w4 ⟨A4, cap4, rfl, hn4, hb4, _⟩
    have HR4 := Lib.hid (HR3.out.carry hb4)
    have HB4 := Lib.hid (HB3.out.trans (hb4.mono HB3.out.size))
    have HN4 := Lib.hid hn4
    clear hdo hn4 hb4 HR3 HB3 HDO
    have c0 := HR4.out.w_
    have c1 := HR4.out.h_
    have c2 := HR4.out.s_
    go_wp2_with fail
    refine (Of_any W H s w4).mono ?_
    rintro e w5 ⟨rfl, hb5⟩
    have HR5 := Lib.hid (HR4.out.carry hb5)
    have HB5 := Lib.hid (HB4.out.trans (hb5.mono HB4.out.size))
    have HN5 := Lib.hid (HN4.out.carry hb5)
    clear hb5 HR4 HB4 HN4 c0 c1 c2
    have hwo := Lib.hid (HWO.out w5 (HZ.out.carry HB5.out))
    go_wp2_with fail
    refine hwo.out.mono ?_
    rintro e w6 ⟨A6, cap6, rfl, hn6, hb6, _⟩
    have HR6 := Lib.hid (HR5.out.carry hb6)
    have HB6 := Lib.hid (HB5.out.trans (hb6.mono HB5.out.size))
    have HN6 := Lib.hid (HN5.out.carry hb6)
    have HY6 := Lib.hid hn6
    clear hwo hn6 hb6 HR5 HB5 HN5 HWO
    have c0 := HR6.out.w_
    have c1 := HR6.out.h_
    have c2 := HR6.out.s_
    obtain ⟨z, HZ2⟩ : ∃ z, Hid (z = rightM W H s) := ⟨_, Lib.hid rfl⟩
    have hrr := Lib.hid (RefRight_any W H s w6)
    rw [← HZ2.out] at hrr HWR HRD
    go_wp2_with fail
    refine hrr.out.mono ?_
    rintro e w7 ⟨rfl, hb7⟩
    have HR7 := Lib.hid (HR6.out.carry hb7)
    have HB7 := Lib.hid (HB6.out.trans (hb7.mono HB6.out.size))
    have HN7 := Lib.hid (HN6.out.carry hb7)
    have HY7 := Lib.hid (HY6.out.carry hb7)
    clear hrr hb7 HR6 HB6 HN6 HY6 c0 c1 c2
    cases z with
    | false =>
      have hd0 := HWR.out rfl
      subst hd0
      have hw0 : wy.length = 0 := HEM.out.2 rfl
      have hw1 := List.length_eq_zero_iff.1 hw0
      subst hw1
      clear hw0
      go_wp2_with fail
      go_ret
      exact ⟨rfl, HB7.out⟩
    | true =>
      have HRD2 := Lib.hid (HRD.out rfl)
      clear HWR HRD
      have c0 := HR7.out.w_
      have c1 := HR7.out.h_
      have c2 := HR7.out.s_
      have hre := Lib.hid (HRD2.out c w7 (HZ.out.carry HB7.out))
      rw [← HDC.out] at hre
      go_wp2_with fail
      refine hre.out.mono ?_
      rintro e w8 ⟨A8, cap8, rfl, hn8, hb8⟩
      have HR8 := Lib.hid (HR7.out.carry hb8)
      have HB8 := Lib.hid (HB7.out.trans (hb8.mono HB7.out.size))
      have HY8 := Lib.hid (HY7.out.carry hb8)
      have hdl : dc.length ≤ 1000 := by have := HD4.out; rw [← HDC.out] at this; omega
      have hin := Lib.hid (Ints_any (c1 := cap4) (c2 := cap8) (HN7.out.carry hb8) hn8 (by rw [ints_length]; exact hdl))
      rw [if_pos rfl, ints_length] at hin
      clear hre hn8 hb8 HR7 HB7 HN7 HY7 hdl c0 c1 c2
      go_wp2_with fail
      refine hin.out.mono ?_
      rintro e w9 ⟨rfl, hb9⟩
      have HR9 := Lib.hid (HR8.out.carry hb9)
      have HB9 := Lib.hid (HB8.out.trans (hb9.mono HB8.out.size))
      have HY9 := Lib.hid (HY8.out.carry hb9)
      clear hin hb9 HR8 HB8 HY8
      have d1 : ¬ (64 : Int) < (wy.length : Int) := by have := HLE.out; omega
      have hee : ((wy.length : Int) == 0) = ((dc.length : Int) == 0) := by
        have := HEM.out
        rw [Bool.eq_iff_iff]
        simp only [beq_iff_eq]
        omega
      obtain ⟨be, HBE⟩ : ∃ be, Hid (be = ((dc.length : Int) == 0)) := ⟨_, Lib.hid rfl⟩
      have hee1 : ((dc.length : Int) == 0) = be := HBE.out.symm
      rw [hee1] at hee
      go_wp2_with fail
      clear hee hee1 d1
      go_loopw [2, 9] (fun u2 u wr => ∃ (i : Nat) (c9 : Int), u2 = .int .i64 c9 ∧ u = .int .i64 (i : Int) ∧ i ≤ wy.length ∧ wy.drop i = wayM dn (64 - i) c9 ∧ Below w9.heap.size w9 wr) (fun _ u _ => wy.length - (intOf u).toNat)
      case atStart => exact ⟨0, c, rfl, rfl, Nat.zero_le _, HWY.out, Below.refl _ _⟩
      case round =>
        clear HWY
        obtain ⟨i, c9, rfl, rfl, hi, hdr, hbl⟩ := hrel
        have HI := Lib.hid hi
        have HDR := Lib.hid hdr
        have HBL := Lib.hid hbl
        have HRr := Lib.hid (HR9.out.carry hbl)
        have HBr := Lib.hid (HB9.out.trans (hbl.mono HB9.out.size))
        have HYr := Lib.hid (HY9.out.carry hbl)
        clear hi hdr hbl
        by_cases hil : i < wy.length
        · obtain ⟨n, HN⟩ : ∃ n, Hid (n = wy[i]) := ⟨_, Lib.hid rfl⟩
          have HCO : Hid (wy.drop i = n :: wy.drop (i + 1)) := Lib.hid (by rw [HN.out]; exact List.drop_eq_getElem_cons hil)
          obtain ⟨⟨t, ht⟩, hr9⟩ := wayM_head (HDR.out.symm.trans HCO.out)
          have HT := Lib.hid ht
          have HR0 := Lib.hid hr9
          have hre := Lib.hid (HRD2.out c9 wr (HZ.out.carry HBr.out))
          rw [HT.out] at hre
          clear ht hr9
          have c0 := HRr.out.w_
          have c1 := HRr.out.h_
          have c2 := HRr.out.s_
          go_wp2_with fail
          refine hre.out.mono ?_
          rintro e wa ⟨Aa, capa, rfl, hna, hba⟩
          obtain ⟨ad, hA, r0⟩ := hna.at_ (i := 0) (z := (n : Int)) rfl
          subst hA
          have r0' : wa.cell? ad = some (.int .i64 (n : Int)) := by simpa [Addr.add] using r0
          obtain ⟨aw, hA, r1⟩ := (HYr.out.carry hba).at_ (ints_at hil)
          subst hA
          rw [← HN.out] at r1
          have HBa : Hid (Below w9.heap.size w9 wa) := Lib.hid (HBL.out.trans (hba.mono HBL.out.size))
          have hl0 : 0 < (n :: t).length := by simp
          have hl1 : ¬ (((n :: t).length : Nat) : Int) = 0 := by simp; omega
          have hl2 : ((((n :: t).length : Nat) : Int) == 0) = false := by simpa using hl1
          have hl64 := HLE.out
          obtain ⟨dl, HDL⟩ : ∃ dl, Hid (dl = (n :: t).length) := ⟨_, Lib.hid rfl⟩
          rw [← HDL.out] at hl0 hl1 hl2 ⊢
          clear hre hna hba r0 c0 c1 c2 HRr HBr HYr
          go_wp2_with fail
          go_quiet (fail)
          go_wp2_with fail
          go_roundw
          case rel => exact ⟨i + 1, (n : Int), rfl, by go_num, hil, by rw [HR0.out]; rfl, below_drewN HBa.out nq⟩
          case measure => simp [intOf]; omega
        · go_wp2_with fail
          go_ret
          exact ⟨rfl, HBr.out⟩
end Go.Proofs.YtiffgmgefpoblaaDoor
