/-
  The contracts of the program's own Lay of layer 9. Conditions: none beyond the premises of each theorem.
-/
import Derived.Test.YtakpjphgkpaipaaDoorNdRight
import Derived.Test.YtakpjphgkpaipaaDoorNodeRefLay
namespace Go.Proofs.YtakpjphgkpaipaaDoor
open Go.RowKit

theorem be_one (n : Nat) : be 1 n = [UInt8.ofNat n] := by simp [be]
theorem Lay_no {w : World} {l : Lay3} {x : Nd} (h : NdIs w l x) (hr : rightN x = false) : Calls Tryd.prog 10 #[ndV l x] w fun e w' => ∃ v, e = .returned (.tuple #[.string ⟨#[]⟩, v]) ∧ ErrFrom w' w.heap.size 1 v ∧ Below w.heap.size w w' := by
  obtain ⟨A, B, C, ca, cb, cc⟩ := l
  obtain ⟨p, HP⟩ : ∃ p, Hid (p = w.heap.size) := ⟨_, Lib.hid rfl⟩
  obtain ⟨w1, HW⟩ : ∃ w1, Hid (w1 = w.alloc (.cells #[.slice A x.keys.length ca, .slice B x.vals.length cb, .slice C x.kids.length cc] 32)) := ⟨_, Lib.hid rfl⟩
  have HS : Hid (BoxS w p ⟨A, B, C, ca, cb, cc⟩ x w1) := Lib.hid (by
    rw [HW.out, HP.out]
    exact ⟨NdBox.new (l := ⟨A, B, C, ca, cb, cc⟩) (x := x) _, (Below.refl _ _).alloc (Nat.le_refl _) _⟩)
  have HN := Lib.hid (h.carry HS.out.below)
  have HR := Lib.hid hr
  clear h hr
  go_enter Tryd.func10, Tryd.ntmps10
  go_upto_region 1 with (fail)
  rw [← HW.out, ← HP.out]
  go_wp2_with (with_reducible refine stop_at (o := ⟨some 12, _, _, _, _, _⟩) ?_)
  refine wpList_load_nd Tryd.ndProg (by rfl) _ rfl p rfl ⟨A, B, C, ca, cb, cc⟩ x HS.out.a ?_
  go_wp2_with fail
  refine (Right_any HN.out).mono ?_
  rw [HR.out]
  rintro e w2 ⟨rfl, hb⟩
  have HB2 := Lib.hid (HS.out.below.trans (hb.mono HS.out.below.size))
  clear hb
  go_wp2_with fail
  refine (fault_any 1 (by decide) _).mono ?_
  rintro e w' ⟨v, rfl, he, hb⟩
  have HE := Lib.hid (he.mono HB2.out.size)
  have HB := Lib.hid (HB2.out.trans (hb.mono HB2.out.size))
  clear he hb
  go_wp2_with fail
  go_ret2
  exact ⟨_, rfl, HE.out, HB.out⟩
set_option maxRecDepth 100000 in
set_option maxHeartbeats 4000000 in
theorem Lay_yes {w : World} {l : Lay3} {x : Nd} (h : NdIs w l x) (hr : rightN x = true) : Calls Tryd.prog 10 #[ndV l x] w fun e w' => e = .returned (.tuple #[.string ⟨(layN x).toArray⟩, .nilIface]) ∧ Below w.heap.size w w' := by
  obtain ⟨A, B, C, ca, cb, cc⟩ := l
  obtain ⟨T, HTT⟩ : ∃ T : List UInt8, Hid (T = layN x) := ⟨_, Lib.hid rfl⟩
  rw [← HTT.out]
  obtain ⟨p, HP⟩ : ∃ p, Hid (p = w.heap.size) := ⟨_, Lib.hid rfl⟩
  obtain ⟨w1, HW⟩ : ∃ w1, Hid (w1 = w.alloc (.cells #[.slice A x.keys.length ca, .slice B x.vals.length cb, .slice C x.kids.length cc] 32)) := ⟨_, Lib.hid rfl⟩
  have HS : Hid (BoxS w p ⟨A, B, C, ca, cb, cc⟩ x w1) := Lib.hid (by
    rw [HW.out, HP.out]
    exact ⟨NdBox.new (l := ⟨A, B, C, ca, cb, cc⟩) (x := x) _, (Below.refl _ _).alloc (Nat.le_refl _) _⟩)
  have HN := Lib.hid h
  have HFW := Lib.hid (right_few hr)
  have HRT := Lib.hid hr
  obtain ⟨n, HNN⟩ : ∃ n, Hid (n = x.keys.length) := ⟨_, Lib.hid rfl⟩
  obtain ⟨m, HMM⟩ : ∃ m, Hid (m = x.vals.length) := ⟨_, Lib.hid rfl⟩
  obtain ⟨n2, HN2⟩ : ∃ n2, Hid (n2 = x.kids.length) := ⟨_, Lib.hid rfl⟩
  have hn7 : n ≤ 7 := by rw [HNN.out]; exact HFW.out.keys
  have hm7 : m ≤ 7 := by rw [HMM.out]; exact HFW.out.vals
  have hk8 : n2 ≤ 8 := by rw [HN2.out]; exact HFW.out.kids
  clear h hr
  go_enter Tryd.func10, Tryd.ntmps10
  go_upto_region 1 with (fail)
  rw [← HW.out, ← HP.out]
  clear HW HP
  go_wp2_with (with_reducible refine stop_at (o := ⟨some 12, _, _, _, _, _⟩) ?_)
  refine wpList_load_nd Tryd.ndProg (by rfl) _ rfl p rfl ⟨A, B, C, ca, cb, cc⟩ x HS.out.a ?_
  go_wp2_with fail
  refine (Right_any (HN.out.carry HS.out.below)).mono ?_
  rw [HRT.out]
  rintro e w2 ⟨rfl, hb⟩
  have HS2 := Lib.hid (HS.out.carry hb)
  clear hb HS
  go_upto_region 4 with (fail)
  go_wp2_with (with_reducible refine stop_at (o := ⟨some 16, _, _, _, _, _⟩) ?_)
  refine wpList_load_nd Tryd.ndProg (by rfl) _ rfl p rfl ⟨A, B, C, ca, cb, cc⟩ x HS2.out.a ?_
  go_wp2_with fail
  refine (Leaf_any (l := ⟨A, B, C, ca, cb, cc⟩) x).mono ?_
  rw [← HN2.out]
  obtain ⟨kd, HKD⟩ : ∃ kd : Nat, Hid (kd = if n2 = 0 then 0 else 1) := ⟨_, Lib.hid rfl⟩
  have HT0 : Hid (layN x = be 1 kd ++ be 1 n ++ (keysD x.keys ++ valsD x.vals ++ kidsD x.kids)) := Lib.hid (by
    rw [HKD.out, HNN.out, be_one, be_one]
    unfold layN
    rw [← HN2.out]
    by_cases h0 : n2 = 0
    · simp [h0]
    · simp [h0])
  have hkd : kd < 256 ^ 1 := by rw [HKD.out]; split <;> omega
  have hn256 : n < 256 ^ 1 := by omega
  obtain ⟨lb, HLB⟩ : ∃ lb, Hid (lb = decide (n2 = 0)) := ⟨_, Lib.hid rfl⟩
  rw [← HLB.out]
  rintro e w3 ⟨rfl, hb⟩
  have HS3 := Lib.hid (HS2.out.carry hb)
  clear hb
  go_upto_if 18 with (fail)
  go_cut [4] (fun s4 wx => s4 = .int .i64 (kd : Int) ∧ w3 = wx)
  case first =>
    cases lb with
    | true =>
      have HK0 : Hid (kd = 0) := Lib.hid (by rw [HKD.out, if_pos (of_decide_eq_true HLB.out.symm)])
      go_wp2_with fail
      go_meet
      exact ⟨by rw [HK0.out]; rfl, rfl⟩
    | false =>
      have HK0 : Hid (kd = 1) := Lib.hid (by rw [HKD.out, if_neg (of_decide_eq_false HLB.out.symm)])
      go_wp2_with fail
      go_meet
      exact ⟨by rw [HK0.out]; rfl, rfl⟩
  case rest =>
    obtain ⟨rfl, rfl⟩ := hcut
    clear HLB HKD
    go_upto_region 6 with (fail)
    obtain ⟨hd, HHD⟩ : ∃ hd : List UInt8, Hid (hd = be 1 kd ++ be 1 n) := ⟨_, Lib.hid rfl⟩
    obtain ⟨t1, HT1⟩ : ∃ t1 : ByteArray, Hid (t1 = ⟨(be 1 kd).toArray⟩) := ⟨_, Lib.hid rfl⟩
    obtain ⟨t2, HT2⟩ : ∃ t2 : ByteArray, Hid (t2 = ⟨(be 1 n).toArray⟩) := ⟨_, Lib.hid rfl⟩
    obtain ⟨sh, HSH⟩ : ∃ sh : ByteArray, Hid (sh = ⟨hd.toArray⟩) := ⟨_, Lib.hid rfl⟩
    have hcat0 : ∀ w, (Op.stringOp .add t1 t2).run Tryd.prog w = .ok (.string sh) w := fun w => by
      have e1 : t1.size = 1 := by rw [HT1.out]; exact be_length 1 kd
      have e2 : t2.size = 1 := by rw [HT2.out]; exact be_length 1 n
      have := run_string_add_sum (P := Tryd.prog) w t1 t2 (by omega)
      rw [this, HSH.out, HT1.out, HT2.out, cat_arr, ← HHD.out]
    have HT : Hid (T = hd ++ (keysD x.keys ++ valsD x.vals ++ kidsD x.kids)) := Lib.hid (by rw [HTT.out, HT0.out, HHD.out])
    have HDL : Hid (hd.length = 2) := Lib.hid (by rw [HHD.out, List.length_append, be_length, be_length])
    go_cut [5] (fun s5 wx => s5 = .string sh ∧ Hid (BoxS w p ⟨A, B, C, ca, cb, cc⟩ x wx))
    case first =>
      refine wp_region_held (S := BoxS w p ⟨A, B, C, ca, cb, cc⟩ x) (by kernel_rfl) ?_
      change wpAnyH _ _ _ _ _ _ _ _ w3.drew
      obtain ⟨wa, HWA⟩ : ∃ wa, Hid (wa = w3.drew) := ⟨_, Lib.hid rfl⟩
      rw [← HWA.out]
      have hS : BoxS w p ⟨A, B, C, ca, cb, cc⟩ x wa := by rw [HWA.out]; exact HS3.out.carry (Below.refl _ _).drew
      clear HWA HS3
      refine takeH (i := 0) 19 (v := .int .i64 (kd : Int)) rfl (by kernel_rfl) (by kernel_rfl) (by kernel_rfl) rfl (fun _ _ _ h => h) (.inl ⟨by rfl, fun _ _ => by go_simp⟩) hS ?_
      simp only [Act.put, List.setIfInBounds_toArray, List.set_cons_zero, List.set_cons_succ]
      refine takeH (i := 2) 21 (v := .pointer (some ⟨p, 0, none⟩)) rfl (by kernel_rfl) (by kernel_rfl) (by kernel_rfl) rfl (fun _ _ _ h => h) (.inl ⟨by rfl, fun _ _ => by go_simp⟩) hS ?_
      simp only [Act.put, List.setIfInBounds_toArray, List.set_cons_zero, List.set_cons_succ]
      refine takeH (i := 3) 22 (v := .slice A n ca) rfl (by kernel_rfl) (by kernel_rfl) (by kernel_rfl) rfl (fun _ _ _ h => h) (.inl ⟨by rfl, fun _ h => by have c0 := h.a.c0; rw [← HNN.out] at c0; go_simp⟩) hS ?_
      simp only [Act.put, List.setIfInBounds_toArray, List.set_cons_zero, List.set_cons_succ]
      refine takeH (i := 4) 23 (v := .int .i64 (n : Int)) rfl (by kernel_rfl) (by kernel_rfl) (by kernel_rfl) rfl (fun _ _ _ h => h) (.inl ⟨by rfl, fun _ _ => by go_simp⟩) hS ?_
      simp only [Act.put, List.setIfInBounds_toArray, List.set_cons_zero, List.set_cons_succ]
      refine oneH (i := 1) (oi := ⟨some 20, _, _, _, _, _⟩) rfl (by kernel_rfl) (fun K hK => ?_)
      go_simp
      refine (Put_yes 1 kd _ (by decide) (by decide) hkd).mono ?_
      rw [← HT1.out]
      rintro e wn ⟨rfl, hb⟩
      have hS2 := hS.carry hb
      clear hb hS
      refine hK.out _ _ hS2 ?_
      clear hK K
      have hS := hS2
      clear hS2
      try simp only [Act.put, List.setIfInBounds_toArray, List.set_cons_zero, List.set_cons_succ]
      refine oneH (i := 5) (oi := ⟨some 24, _, _, _, _, _⟩) rfl (by kernel_rfl) (fun K hK => ?_)
      go_simp
      refine (Put_yes 1 n _ (by decide) (by decide) hn256).mono ?_
      rw [← HT2.out]
      rintro e wn ⟨rfl, hb⟩
      have hS2 := hS.carry hb
      clear hb hS
      refine hK.out _ _ hS2 ?_
      clear hK K
      have hS := hS2
      clear hS2
      try simp only [Act.put, List.setIfInBounds_toArray, List.set_cons_zero, List.set_cons_succ]
      refine takeH (i := 6) 25 (v := .string sh) rfl (by kernel_rfl) (by kernel_rfl) (by kernel_rfl) rfl (fun _ _ _ h => h) (.inl ⟨by rfl, fun _ _ => by go_simp⟩) hS ?_
      simp only [Act.put, List.setIfInBounds_toArray, List.set_cons_zero, List.set_cons_succ]
      refine takeH (i := 7) 5 (v := .string sh) rfl (by kernel_rfl) (by kernel_rfl) (by kernel_rfl) rfl (fun _ _ _ h => h) (.inl ⟨by rfl, fun _ _ => by go_simp⟩) hS ?_
      simp only [Act.put, List.setIfInBounds_toArray, List.set_cons_zero, List.set_cons_succ]
      refine wpAnyH_done (by kernel_rfl) ?_ _
      go_wp2_with fail
      go_meet
      exact ⟨rfl, Lib.hid hS⟩
    case rest =>
      obtain ⟨rfl, HSA⟩ := hcut
      clear HS3 HT1 HT2 hcat0 HTT HT0 HS2 hkd hn256
      have p0 : wc.cell? ⟨p, 0, none⟩ = some (.slice A x.keys.length ca) := HSA.out.a.c0
      rw [← HNN.out] at p0
      have HKT0 := HSH
      go_wp2_with fail
      go_loopw [5, 29] (fun s i wr => KeyTxt w p ⟨A, B, C, ca, cb, cc⟩ x hd s i wr) (fun _ i _ => n - (intOf i).toNat)
      case atStart => exact ⟨0, Nat.zero_le _, rfl, by rw [HSH.out]; simp [keysD], HSA.out⟩
      case round =>
        obtain ⟨k, hk, rfl, rfl, hs⟩ := hrel
        have HSR := Lib.hid hs
        rw [← HNN.out] at hk
        clear hs HSA
        have p0 : wr.cell? ⟨p, 0, none⟩ = some (.slice A x.keys.length ca) := HSR.out.a.c0
        rw [← HNN.out] at p0
        obtain ⟨s, HST⟩ : ∃ s : ByteArray, Hid (s = ⟨(hd ++ keysD (x.keys.take k)).toArray⟩) := ⟨_, Lib.hid rfl⟩
        have hsz : s.size ≤ 30 := by
          rw [HST.out]
          show (hd ++ keysD (x.keys.take k)).length ≤ 30
          rw [List.length_append, HDL.out, keysD_length, List.length_take]
          omega
        rw [← HST.out]
        by_cases hlt : k < n
        · have hk1 : k < x.keys.length := by have := HNN.out; omega
          obtain ⟨a, rfl, hc⟩ := nums_cell (HN.out.carry HSR.out.below).keys hk1
          obtain ⟨z, HZ, hz⟩ := HFW.out.key _ (List.getElem_mem hk1)
          have HZZ := Lib.hid HZ
          rw [HZ] at hc
          clear HZ
          go_wp2_with fail
          refine (Put_yes 4 z _ (by decide) (by decide) hz).mono ?_
          rintro e w5 ⟨rfl, hb⟩
          have HS5 := Lib.hid (HSR.out.carry hb)
          obtain ⟨t, HTX⟩ : ∃ t : ByteArray, Hid (t = ⟨(be 4 z).toArray⟩) := ⟨_, Lib.hid rfl⟩
          have htz : t.size = 4 := by rw [HTX.out]; exact be_length 4 z
          have hcat : ∀ w, (Op.stringOp .add s t).run Tryd.prog w = .ok (.string (s ++ t)) w := fun w => run_string_add_sum w _ _ (by omega)
          rw [← HTX.out]
          clear hb HSR p0 hc
          go_wp2_with fail
          go_roundw
          case rel =>
            refine ⟨k + 1, hk1, by go_num, ?_, HS5.out⟩
            rw [HST.out, HTX.out, cat_arr, keysD_take hk1, HZZ.out, Int.toNat_natCast, List.append_assoc]
          case measure => simp [intOf]; omega
        · obtain rfl : k = n := by omega
          have HKT : Hid (s = ⟨(hd ++ keysD x.keys).toArray⟩) := Lib.hid (by rw [HST.out, HNN.out, List.take_length])
          obtain ⟨h2, HH2⟩ : ∃ h2 : List UInt8, Hid (h2 = hd ++ keysD x.keys) := ⟨_, Lib.hid rfl⟩
          have HL2 : Hid (h2.length ≤ 30) := Lib.hid (by rw [HH2.out, List.length_append, HDL.out, keysD_length, ← HNN.out]; omega)
          rw [← HH2.out] at HKT
          have HTK : Hid (T = h2 ++ (valsD x.vals ++ kidsD x.kids)) := Lib.hid (by simp only [HT.out, HH2.out, List.append_assoc])
          clear HST HT
          have p1 : wr.cell? ⟨p, 1, none⟩ = some (.slice B x.vals.length cb) := HSR.out.a.c1
          rw [← HMM.out] at p1
          go_wp2_with fail
          clear p0
          go_loopw [5, 41] (fun s i wr => ValTxt w p ⟨A, B, C, ca, cb, cc⟩ x h2 s i wr) (fun _ i _ => m - (intOf i).toNat)
          case atStart => exact ⟨0, Nat.zero_le _, rfl, by rw [HKT.out]; simp [valsD], HSR.out⟩
          case round =>
            obtain ⟨k, hk, rfl, rfl, hs⟩ := hrel
            have HSV := Lib.hid hs
            rw [← HMM.out] at hk
            clear hs HSR HKT hsz
            have p1 : wr.cell? ⟨p, 1, none⟩ = some (.slice B x.vals.length cb) := HSV.out.a.c1
            rw [← HMM.out] at p1
            obtain ⟨s, HST⟩ : ∃ s : ByteArray, Hid (s = ⟨(h2 ++ valsD (x.vals.take k)).toArray⟩) := ⟨_, Lib.hid rfl⟩
            have hsz : s.size ≤ 114 := by
              rw [HST.out]
              show (h2 ++ valsD (x.vals.take k)).length ≤ 114
              have := HL2.out
              have := HFW.out.val_len k
              rw [List.length_append]
              omega
            rw [← HST.out]
            by_cases hlt2 : k < m
            · have hk1 : k < x.vals.length := by have := HMM.out; omega
              obtain ⟨a, rfl, hc⟩ := strs_cell (HN.out.carry HSV.out.below).vals hk1
              have hv12 := HFW.out.val _ (List.getElem_mem hk1)
              obtain ⟨v, HV⟩ : ∃ v, Hid (v = x.vals[k]) := ⟨_, Lib.hid rfl⟩
              rw [← HV.out] at hc hv12
              have hcat : ∀ w, (Op.stringOp .add s v).run Tryd.prog w = .ok (.string (s ++ v)) w := fun w => run_string_add_sum w _ _ (by omega)
              go_wp2_with fail
              go_roundw
              case rel =>
                refine ⟨k + 1, hk1, by go_num, ?_, HSV.out⟩
                rw [HST.out, cat_bytes, valsD_take hk1, ← HV.out, List.append_assoc]
              case measure => simp [intOf]; omega
            · obtain rfl : k = m := by omega
              have HKT : Hid (s = ⟨(h2 ++ valsD x.vals).toArray⟩) := Lib.hid (by rw [HST.out, HMM.out, List.take_length])
              obtain ⟨h3, HH3⟩ : ∃ h3 : List UInt8, Hid (h3 = h2 ++ valsD x.vals) := ⟨_, Lib.hid rfl⟩
              have HL3 : Hid (h3.length ≤ 114) := Lib.hid (by
                have := HL2.out
                have := HFW.out.val_len x.vals.length
                rw [List.take_length] at this
                rw [HH3.out, List.length_append]
                omega)
              rw [← HH3.out] at HKT
              have HTV : Hid (T = h3 ++ kidsD x.kids) := Lib.hid (by rw [HTK.out, HH3.out, List.append_assoc])
              clear HST HTK
              have p2 : wr.cell? ⟨p, 2, none⟩ = some (.slice C x.kids.length cc) := HSV.out.a.c2
              rw [← HN2.out] at p2
              go_wp2_with fail
              clear p1
              go_loopw [5, 52] (fun s i wr => KidTxt w p ⟨A, B, C, ca, cb, cc⟩ x h3 s i wr) (fun _ i _ => n2 - (intOf i).toNat)
              case atStart => exact ⟨0, Nat.zero_le _, rfl, by rw [HKT.out]; simp [kidsD], HSV.out⟩
              case round =>
                obtain ⟨k, hk, rfl, rfl, hs⟩ := hrel
                have HSC := Lib.hid hs
                rw [← HN2.out] at hk
                clear hs HSV HKT hsz
                have p2 : wr.cell? ⟨p, 2, none⟩ = some (.slice C x.kids.length cc) := HSC.out.a.c2
                rw [← HN2.out] at p2
                obtain ⟨s, HST⟩ : ∃ s : ByteArray, Hid (s = ⟨(h3 ++ kidsD (x.kids.take k)).toArray⟩) := ⟨_, Lib.hid rfl⟩
                have hsz : s.size ≤ 122 := by
                  rw [HST.out]
                  show (h3 ++ kidsD (x.kids.take k)).length ≤ 122
                  have := HL3.out
                  rw [List.length_append, kidsD_length, List.length_take]
                  omega
                rw [← HST.out]
                by_cases hlt3 : k < n2
                · have hk1 : k < x.kids.length := by have := HN2.out; omega
                  obtain ⟨a, rfl, hc⟩ := nums_cell (HN.out.carry HSC.out.below).kids hk1
                  obtain ⟨z, HZ, hz2, hz⟩ := HFW.out.kid _ (List.getElem_mem hk1)
                  have HZZ := Lib.hid HZ
                  rw [HZ] at hc
                  clear HZ hz2
                  have hz1 : z < 256 ^ 1 := by omega
                  go_wp2_with fail
                  refine (Put_yes 1 z _ (by decide) (by decide) hz1).mono ?_
                  rintro e w5 ⟨rfl, hb⟩
                  have HS5 := Lib.hid (HSC.out.carry hb)
                  obtain ⟨t, HTX⟩ : ∃ t : ByteArray, Hid (t = ⟨(be 1 z).toArray⟩) := ⟨_, Lib.hid rfl⟩
                  have htz : t.size = 1 := by rw [HTX.out]; exact be_length 1 z
                  have hcat : ∀ w, (Op.stringOp .add s t).run Tryd.prog w = .ok (.string (s ++ t)) w := fun w => run_string_add_sum w _ _ (by omega)
                  rw [← HTX.out]
                  clear hb HSC hc
                  go_wp2_with fail
                  go_roundw
                  case rel =>
                    refine ⟨k + 1, hk1, by go_num, ?_, HS5.out⟩
                    rw [HST.out, HTX.out, cat_arr, kidsD_take hk1, HZZ.out, Int.toNat_natCast, List.append_assoc, be_one]
                  case measure => simp [intOf]; omega
                · obtain rfl : k = n2 := by omega
                  have HKT : Hid (s = ⟨T.toArray⟩) := Lib.hid (by rw [HST.out, HTV.out, HN2.out, List.take_length])
                  go_wp2_with fail
                  go_ret2
                  exact ⟨by rw [← HKT.out]; rfl, HSC.out.below⟩
end Go.Proofs.YtakpjphgkpaipaaDoor
