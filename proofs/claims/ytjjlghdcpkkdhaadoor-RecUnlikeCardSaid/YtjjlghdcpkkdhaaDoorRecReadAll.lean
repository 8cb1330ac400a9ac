/-
  The contracts of rec's reading of a All. Conditions: none beyond the premises of each theorem.
-/
import Derived.Test.YtjjlghdcpkkdhaaDoorRecReadRobot
namespace Go.Proofs.YtjjlghdcpkkdhaaDoor
open Go.RowKit

theorem readA_ok (s : List UInt8) : ((readA s).getD Als.zero).Ok := by
  cases h : readA s with
  | none => exact Als.Ok.zero
  | some a => exact (of_readA h).2.2
/-- what stands in memory while a All is read: the result's variable, the zero value's -/
structure RAS (w : World) (b : Nat) (wr : World) : Prop where
  res : ∃ cs : List Value, cs.length = 9 ∧ (∃ z, cs[0]? = some (.int .i64 z)) ∧ COwn wr b cs
  none : COwn wr (b + 1) (alsCells Als.zero)
  below : Below w.heap.size w wr
  base : b = w.heap.size
  above : b < wr.heap.size
theorem RAS.carry {w wr w' : World} {b : Nat} (h : RAS w b wr) (hb : Below wr.heap.size wr w') : RAS w b w' := by
  obtain ⟨cs, hl, hz, hc⟩ := h.res
  exact ⟨⟨cs, hl, hz, hc.carry hb (by omega)⟩, h.none.carry hb (by decide), h.below.trans (hb.mono h.below.size), h.base, Nat.lt_of_lt_of_le h.above hb.size⟩
theorem RAS.drew {w wr : World} {b : Nat} (h : RAS w b wr) : RAS w b wr.drew := h.carry (Below.refl _ _).drew
theorem RAS.store {w wr w2 : World} {b : Nat} {ds : List Value} (h : RAS w b wr) (hw : w2 = wr.setCells b 0 ds) (hc : COwn w2 b ds) (hl : ds.length = 9) (hz : ∃ z, ds[0]? = some (.int .i64 z)) : RAS w b w2 :=
  ⟨⟨ds, hl, hz, hc⟩, by rw [hw]; exact h.none.other (by omega) _ _, below_cells9 h.below hw (by rw [h.base]; exact Nat.le_refl _), h.base, by
    have := (below_cells9 (Below.refl wr.heap.size wr) (rfl : wr.setCells wr.heap.size 0 ds = _) (Nat.le_refl _)).size
    have e : w2.heap.size = wr.heap.size := by rw [hw]; exact setCells_size9 b ds 0 wr
    rw [e]
    exact h.above⟩
set_option maxRecDepth 100000 in
set_option maxHeartbeats 1000000 in
theorem readAll_at (s : ByteArray) (B : Nat) (w : World) (y : Als) (k : Int) (hy : y = (readA s.data.toList).getD Als.zero) (hk : k = if (readA s.data.toList).isSome then 0 else 2) (hn : Nums w .i64 (some ⟨B, 0, none⟩) (ints wsA)) :
    Calls Tryd.prog 35 #[.string s, .slice (some ⟨B, 0, none⟩) wsA.length wsA.length, .func (.func 16) #[] #[], .func (.func 36) #[] #[]] w (RecReadPost (alsCells y) k w) := by
  have HN := Lib.hid hn
  have HY := Lib.hid hy
  have HK := Lib.hid hk
  clear hn hy hk
  obtain ⟨b, HB⟩ : ∃ b, Hid (b = w.heap.size) := ⟨_, Lib.hid rfl⟩
  go_enter Tryd.func35, Tryd.ntmps35
  go_upto_region 2 with (fail)
  obtain ⟨w1, HW⟩ : ∃ w1, Hid (w1 = (w.alloc (.cells #[.int .i64 0, .int .u8 0, .int .u8 0, .int .u8 0, .int .u8 0, .int .u8 0, .int .u8 0, .int .u8 0, .int .u8 0] 44)).alloc (.cells #[.int .i64 0, .int .u8 0, .int .u8 0, .int .u8 0, .int .u8 0, .int .u8 0, .int .u8 0, .int .u8 0, .int .u8 0] 44)) := ⟨_, Lib.hid rfl⟩
  rw [← HW.out, ← HB.out]
  have HSS : Hid (RAS w b w1) := Lib.hid (by
    rw [HW.out, HB.out]
    have h1 := COwn.new (w := w) (alsCells Als.zero) 44
    have h2 := COwn.new (w := w.alloc (.cells (alsCells Als.zero).toArray 44)) (alsCells Als.zero) 44
    have hb : Below (w.alloc (.cells (alsCells Als.zero).toArray 44)).heap.size (w.alloc (.cells (alsCells Als.zero).toArray 44)) ((w.alloc (.cells (alsCells Als.zero).toArray 44)).alloc (.cells (alsCells Als.zero).toArray 44)) := (Below.refl _ _).alloc (Nat.le_refl _) _
    have e : (w.alloc (.cells (alsCells Als.zero).toArray 44)).heap.size = w.heap.size + 1 := by simp
    rw [e] at h2
    exact ⟨⟨_, rfl, ⟨_, rfl⟩, h1.carry hb (by decide)⟩, h2, ((Below.refl _ _).alloc (Nat.le_refl _) _).alloc (by simp) _, rfl, by simp; omega⟩)
  have hb1 : Below w.heap.size w w1 := HSS.out.below
  have HN1 := Lib.hid (HN.out.carry hb1)
  clear HW hb1 HN
  by_cases h12 : s.size = 12
  · have HT := Lib.hid h12
    have HLEN : Hid (s.data.toList.length = 12) := Lib.hid (by rw [Array.length_toList]; exact h12)
    clear h12
    go_wp2_with fail
    refine (Parse_own wsA s _ _ w1 widthsA HN1.out HT.out).mono ?_
    obtain ⟨ns, HNS⟩ : ∃ ns, Hid (ns = splits wsA s.data.toList) := ⟨_, Lib.hid rfl⟩
    unfold ParseOwn
    rw [← HNS.out]
    rintro e w2 ⟨g, cap, hg, rfl, hnn, hb⟩
    have HSS2 := Lib.hid (HSS.out.carry hb)
    have HNN := Lib.hid hnn
    clear hnn hb HSS HN1 hg
    have HTL := Lib.hid (tellA_of s.data.toList)
    rw [← HNS.out] at HTL
    have HNL : Hid (ns.length = 9) := Lib.hid (by rw [HNS.out, splits_length]; rfl)
    obtain ⟨x, HX⟩ : ∃ x, Hid (x = tellA ns) := ⟨_, Lib.hid rfl⟩
    have HXO : Hid (x.Ok) := Lib.hid (by rw [HX.out, HNS.out]; exact tellA_ok _)
    have HCL9 : Hid ((alsCells x).length = 9) := Lib.hid (alsCells_len HXO.out)
    rw [HNL.out]
    go_wp2_with fail
    refine (HTL.out g cap w2 HNN.out).mono ?_
    rw [← HX.out]
    rintro e w3 ⟨rfl, hb⟩
    have HSS3 := Lib.hid (HSS2.out.carry hb)
    clear hb HSS2 HTL HNN
    go_wp2_with (with_reducible refine stop_at (o := ⟨none, _, _, _, _, _⟩) ?_)
    obtain ⟨w4, HW4⟩ : ∃ w4, Hid (w4 = w3.alloc (.cells #[.int .i64 0, .int .u8 0, .int .u8 0, .int .u8 0, .int .u8 0, .int .u8 0, .int .u8 0, .int .u8 0, .int .u8 0] 44)) := ⟨_, Lib.hid rfl⟩
    obtain ⟨c, HCB⟩ : ∃ c, Hid (c = w3.heap.size) := ⟨_, Lib.hid rfl⟩
    have HO4 : Hid (COwn w4 c (alsCells Als.zero)) := Lib.hid (by rw [HW4.out, HCB.out]; exact COwn.new (alsCells Als.zero) _)
    have HSS4 : Hid (RAS w b w4) := Lib.hid (HSS3.out.carry (by rw [HW4.out]; exact (Below.refl _ _).alloc (Nat.le_refl _) _))
    rw [← HW4.out, ← HCB.out]
    have hbc : Hid (b + 1 < c) := Lib.hid (by rw [HCB.out]; exact HSS3.out.none.lt (by decide))
    clear HW4 HSS3 HCB
    refine wpList_store_c Tryd.alsTy rfl _ _ rfl c (alsCells Als.zero) (alsCells x) (alsCells_len HXO.out) rfl (alsCells_one x) rfl rfl HO4.out ?_
    intro w5 HW5 HO5
    have HSS5 : Hid (RAS w b w5) := Lib.hid (by
      have h := HSS4.out
      have hc := hbc.out
      obtain ⟨cs, hl, hz, hcs⟩ := h.res
      refine ⟨⟨cs, hl, hz, by rw [HW5.out]; exact hcs.other (by omega) _ _⟩, by rw [HW5.out]; exact h.none.other (by omega) _ _, below_cells9 h.below HW5.out (by rw [← h.base]; omega), h.base, by rw [HW5.out, setCells_size9]; exact h.above⟩)
    clear HW5 HSS4 HO4
    go_wp2_with (with_reducible refine stop_at (o := ⟨some 31, _, _, _, _, _⟩) ?_)
    refine wpList_load_c Tryd.alsTy rfl _ rfl c 0 rfl (alsCells x) (alsCells_len HXO.out) HO5.out.at_ ?_
    go_wp2_with fail
    refine (LayAll_any x HXO.out w5).mono ?_
    cases hr : rightA x with
    | false =>
      have HNo : Hid (∀ v w', ErrIs w' 2 v → Below w.heap.size w w' → RecReadPost (alsCells y) k w (.returned (.tuple #[.agg (alsCells Als.zero).toArray, v])) w') := Lib.hid fun v w' h1 h2 => by
        have e : readA s.data.toList = none := by
          unfold readA
          rw [← HNS.out, ← HX.out, hr, if_neg (fun h => by cases h.2.1)]
        rw [HY.out, HK.out, e]
        exact ⟨v, rfl, h1, h2⟩
      clear hr
      rintro e w6 ⟨v6, rfl, he, hb⟩
      obtain ⟨t6, x6, rfl⟩ := ErrFrom.some he (by decide)
      have HSS := Lib.hid (HSS5.out.carry hb)
      clear he hb HSS5 HO5
      go_wp2_with fail
      refine wp_region_held (S := RAS w b) (by kernel_rfl) ?_
      change wpAnyH _ _ _ _ _ _ _ _ w6.drew
      obtain ⟨wa, HWA⟩ : ∃ wa, Hid (wa = w6.drew) := ⟨_, Lib.hid rfl⟩
      rw [← HWA.out]
      have hS : RAS w b wa := by rw [HWA.out]; exact HSS.out.drew
      clear HWA HSS
      refine takeH (i := 0) 42 (v := .agg (alsCells Als.zero).toArray) rfl (by kernel_rfl) (by kernel_rfl) (by kernel_rfl) rfl (fun _ _ _ h => h) (yieldsIf_c Tryd.alsTy rfl _ rfl (b + 1) 0 rfl (alsCells Als.zero) rfl (fun _ h => h.none.at_)) hS ?_
      simp only [Act.put, List.setIfInBounds_toArray, List.set_cons_zero, List.set_cons_succ]
      refine oneH (i := 1) (oi := ⟨some 43, _, _, _, _, _⟩) rfl (by kernel_rfl) (fun K0 hK => ?_)
      go_simp
      refine (RecFault_any 2 (by decide) _).mono ?_
      rintro e wn ⟨v, rfl, he, hb⟩
      have HE := Lib.hid he.is
      have hS2 := hS.carry hb
      clear he hb hS
      refine hK.out _ _ hS2 ?_
      clear hK K0
      have hS := hS2
      clear hS2
      try simp only [Act.put, List.setIfInBounds_toArray, List.set_cons_zero, List.set_cons_succ]
      refine oneH (i := 2) (oi := ⟨none, _, _, _, _, _⟩) rfl (by kernel_rfl) (fun K0 hK => ?_)
      rw [if_pos (by rfl)]
      obtain ⟨cs, hcl, ⟨z0, hz0⟩, hcs⟩ := hS.res
      refine wp_store_c Tryd.alsTy _ _ rfl b cs (alsCells Als.zero) rfl hcl (alsCells_one _) rfl rfl hcs ?_
      intro wz HWZ HCZ
      have hS2 : RAS w b wz := hS.store HWZ.out HCZ.out rfl ⟨_, rfl⟩
      have HEZ := Lib.hid (errIs_cells HE.out HWZ.out (hcs.cell hz0))
      clear hS hcs HE
      refine hK.out _ _ hS2 ?_
      clear hK K0
      have hS := hS2
      clear hS2
      try simp only [Act.put]
      refine takeH (i := 3) 9 (v := v) rfl (by kernel_rfl) (by kernel_rfl) (by kernel_rfl) rfl (fun _ _ _ h => h) (.inl ⟨by rfl, fun _ _ => by go_simp⟩) hS ?_
      simp only [Act.put, List.setIfInBounds_toArray, List.set_cons_zero, List.set_cons_succ]
      refine wpAnyH_done (by kernel_rfl) ?_ _
      go_wp2_with fail
      exact bodyPost_ret (results_c2 Tryd.alsTy rfl _ _ b (alsCells Als.zero) v rfl rfl HCZ.out.at_ rfl) rfl (HNo.out _ _ HEZ.out hS.below)
    | true =>
      obtain ⟨u, HU⟩ : ∃ u : ByteArray, Hid (u = ⟨(layA x).toArray⟩) := ⟨_, Lib.hid rfl⟩
      rintro e w6 ⟨v6, rfl, he, hb⟩
      obtain rfl := ErrFrom.zero he
      rw [if_pos rfl, ← HU.out]
      have HSS := Lib.hid (HSS5.out.carry hb)
      have HO6 := Lib.hid (HO5.out.carry hb (Nat.lt_of_lt_of_eq (by decide : 0 < 9) HCL9.out.symm))
      have hc6 : Hid (c < w6.heap.size) := Lib.hid (HO6.out.lt (Nat.lt_of_lt_of_eq (by decide : 0 < 9) HCL9.out.symm))
      clear he hb HSS5 HO5
      by_cases hu : u = s
      · have HYes : Hid (∀ w', Below w.heap.size w w' → RecReadPost (alsCells y) k w (.returned (.tuple #[.agg (alsCells x).toArray, .nilIface])) w') := Lib.hid fun w' h2 => by
          have e : readA s.data.toList = some x := by
            unfold readA
            rw [← HNS.out, ← HX.out, if_pos ⟨HLEN.out, hr, by rw [← hu, HU.out]⟩]
          rw [HY.out, HK.out, e]
          exact ⟨_, rfl, .nil _, h2⟩
        have hne : (!(u.toList == s.toList)) = false := by rw [hu]; simp
        clear hr hu
        go_wp2_with (with_reducible refine stop_at (o := ⟨some 44, _, _, _, _, _⟩) ?_)
        refine wpList_load_c Tryd.alsTy rfl _ rfl c 0 rfl (alsCells x) (alsCells_len HXO.out) HO6.out.at_ ?_
        obtain ⟨cs, hcl, _, hcs⟩ := HSS.out.res
        have HCS := Lib.hid hcs
        have HCL := Lib.hid hcl
        clear hcs hcl
        refine wpList_store_c Tryd.alsTy rfl _ _ rfl b cs (alsCells x) (alsCells_len HXO.out) HCL.out (alsCells_one x) rfl rfl HCS.out ?_
        intro w9 HW9 HC9
        have HB9 : Hid (Below w.heap.size w w9) := Lib.hid (below_cells9 HSS.out.below HW9.out (by rw [← HSS.out.base]; exact Nat.le_refl _))
        go_wp2_with fail
        exact bodyPost_ret (results_c2 Tryd.alsTy rfl _ _ b (alsCells x) .nilIface rfl rfl HC9.out.at_ (alsCells_len HXO.out)) rfl (HYes.out _ HB9.out)
      · have HNo : Hid (∀ v w', ErrIs w' 2 v → Below w.heap.size w w' → RecReadPost (alsCells y) k w (.returned (.tuple #[.agg (alsCells Als.zero).toArray, v])) w') := Lib.hid fun v w' h1 h2 => by
          have e : readA s.data.toList = none := by
            unfold readA
            rw [← HNS.out, ← HX.out, if_neg]
            rintro ⟨_, _, h3⟩
            apply hu
            rw [HU.out, h3]
          rw [HY.out, HK.out, e]
          exact ⟨v, rfl, h1, h2⟩
        have hne : (!(u.toList == s.toList)) = true := by
          rw [ByteArray.toList_eq, ByteArray.toList_eq, Bool.not_eq_true', beq_eq_false_iff_ne]
          intro h
          exact hu (ByteArray.ext (Array.toList_inj.1 h))
        clear hr hu
        go_wp2_with fail
        refine wp_region_held (S := RAS w b) (by kernel_rfl) ?_
        change wpAnyH _ _ _ _ _ _ _ _ w6.drew
        obtain ⟨wa, HWA⟩ : ∃ wa, Hid (wa = w6.drew) := ⟨_, Lib.hid rfl⟩
        rw [← HWA.out]
        have hS : RAS w b wa := by rw [HWA.out]; exact HSS.out.drew
        clear HWA HSS
        refine takeH (i := 0) 42 (v := .agg (alsCells Als.zero).toArray) rfl (by kernel_rfl) (by kernel_rfl) (by kernel_rfl) rfl (fun _ _ _ h => h) (yieldsIf_c Tryd.alsTy rfl _ rfl (b + 1) 0 rfl (alsCells Als.zero) rfl (fun _ h => h.none.at_)) hS ?_
        simp only [Act.put, List.setIfInBounds_toArray, List.set_cons_zero, List.set_cons_succ]
        refine oneH (i := 1) (oi := ⟨some 43, _, _, _, _, _⟩) rfl (by kernel_rfl) (fun K0 hK => ?_)
        go_simp
        refine (RecFault_any 2 (by decide) _).mono ?_
        rintro e wn ⟨v, rfl, he, hb⟩
        have HE := Lib.hid he.is
        have hS2 := hS.carry hb
        clear he hb hS
        refine hK.out _ _ hS2 ?_
        clear hK K0
        have hS := hS2
        clear hS2
        try simp only [Act.put, List.setIfInBounds_toArray, List.set_cons_zero, List.set_cons_succ]
        refine oneH (i := 2) (oi := ⟨none, _, _, _, _, _⟩) rfl (by kernel_rfl) (fun K0 hK => ?_)
        rw [if_pos (by rfl)]
        obtain ⟨cs, hcl, ⟨z0, hz0⟩, hcs⟩ := hS.res
        refine wp_store_c Tryd.alsTy _ _ rfl b cs (alsCells Als.zero) rfl hcl (alsCells_one _) rfl rfl hcs ?_
        intro wz HWZ HCZ
        have hS2 : RAS w b wz := hS.store HWZ.out HCZ.out rfl ⟨_, rfl⟩
        have HEZ := Lib.hid (errIs_cells HE.out HWZ.out (hcs.cell hz0))
        clear hS hcs HE
        refine hK.out _ _ hS2 ?_
        clear hK K0
        have hS := hS2
        clear hS2
        try simp only [Act.put]
        refine takeH (i := 3) 9 (v := v) rfl (by kernel_rfl) (by kernel_rfl) (by kernel_rfl) rfl (fun _ _ _ h => h) (.inl ⟨by rfl, fun _ _ => by go_simp⟩) hS ?_
        simp only [Act.put, List.setIfInBounds_toArray, List.set_cons_zero, List.set_cons_succ]
        refine wpAnyH_done (by kernel_rfl) ?_ _
        go_wp2_with fail
        exact bodyPost_ret (results_c2 Tryd.alsTy rfl _ _ b (alsCells Als.zero) v rfl rfl HCZ.out.at_ rfl) rfl (HNo.out _ _ HEZ.out hS.below)
  · have HT := Lib.hid h12
    have HNo : Hid (∀ v w', ErrIs w' 2 v → Below w.heap.size w w' → RecReadPost (alsCells y) k w (.returned (.tuple #[.agg (alsCells Als.zero).toArray, v])) w') := Lib.hid fun v w' h1 h2 => by
      rw [HY.out, HK.out, readA_len (by rw [Array.length_toList]; exact h12)]
      exact ⟨v, rfl, h1, h2⟩
    clear h12
    go_wp2_with fail
    refine (Parse_form wsA s _ _ w1 widthsA HN1.out HT.out).mono ?_
    rintro e w2 ⟨v2, lt, rfl, hc, hb⟩
    obtain ⟨t, x, rfl⟩ := hc.form
    have HCA := Lib.hid hc
    replace HSS := Lib.hid (HSS.out.carry hb)
    clear hc hb HN1
    go_wp2_with fail
    refine wp_region_held (S := RAS w b) (by kernel_rfl) ?_
    change wpAnyH _ _ _ _ _ _ _ _ w2.drew
    obtain ⟨wa, HWA⟩ : ∃ wa, Hid (wa = w2.drew) := ⟨_, Lib.hid rfl⟩
    rw [← HWA.out]
    have hS : RAS w b wa := by rw [HWA.out]; exact HSS.out.drew
    have HCH := Lib.hid (show Chain wa 2 (.iface t x) lt by rw [HWA.out]; exact HCA.out.carry rfl ((Below.refl _ _).drew))
    clear HWA HSS
    refine takeH (i := 0) 23 (v := .agg (alsCells Als.zero).toArray) rfl (by kernel_rfl) (by kernel_rfl) (by kernel_rfl) rfl (fun _ _ _ h => h) (yieldsIf_c Tryd.alsTy rfl _ rfl (b + 1) 0 rfl (alsCells Als.zero) rfl (fun _ h => h.none.at_)) hS ?_
    simp only [Act.put, List.setIfInBounds_toArray, List.set_cons_zero, List.set_cons_succ]
    refine takeH (i := 1) 24 (v := .iface t x) rfl (by kernel_rfl) (by kernel_rfl) (by kernel_rfl) rfl (fun _ _ _ h => h) (.inl ⟨by rfl, fun _ _ => by go_simp⟩) hS ?_
    simp only [Act.put, List.setIfInBounds_toArray, List.set_cons_zero, List.set_cons_succ]
    refine oneH (i := 2) (oi := ⟨some 25, _, _, _, _, _⟩) rfl (by kernel_rfl) (fun K0 hK => ?_)
    go_simp
    refine (Tag_chain _ 2 _ lt _ HCH.out).mono ?_
    rintro e wn ⟨rfl, he, hb⟩
    obtain ⟨v, HV⟩ : ∃ v, Hid (v = Value.iface 80 (.pointer (some ⟨wa.heap.size, 0, none⟩))) := ⟨_, Lib.hid rfl⟩
    rw [← HV.out] at he ⊢
    have HE := Lib.hid (show ErrIs wn 2 v from .inr ⟨_, he⟩)
    have hS2 := hS.carry hb
    clear he hb hS
    refine hK.out _ _ hS2 ?_
    clear hK K0
    have hS := hS2
    clear hS2
    try simp only [Act.put, List.setIfInBounds_toArray, List.set_cons_zero, List.set_cons_succ]
    refine oneH (i := 3) (oi := ⟨none, _, _, _, _, _⟩) rfl (by kernel_rfl) (fun K0 hK => ?_)
    rw [if_pos (by rfl)]
    obtain ⟨cs, hcl, ⟨z0, hz0⟩, hcs⟩ := hS.res
    refine wp_store_c Tryd.alsTy _ _ rfl b cs (alsCells Als.zero) rfl hcl (alsCells_one _) rfl rfl hcs ?_
    intro wz HWZ HCZ
    have hS2 : RAS w b wz := hS.store HWZ.out HCZ.out rfl ⟨_, rfl⟩
    have HEZ := Lib.hid (errIs_cells HE.out HWZ.out (hcs.cell hz0))
    clear hS hcs HE
    refine hK.out _ _ hS2 ?_
    clear hK K0
    have hS := hS2
    clear hS2
    try simp only [Act.put]
    refine takeH (i := 4) 9 (v := v) rfl (by kernel_rfl) (by kernel_rfl) (by kernel_rfl) rfl (fun _ _ _ h => h) (.inl ⟨by rfl, fun _ _ => by go_simp⟩) hS ?_
    simp only [Act.put, List.setIfInBounds_toArray, List.set_cons_zero, List.set_cons_succ]
    refine wpAnyH_done (by kernel_rfl) ?_ _
    go_wp2_with fail
    exact bodyPost_ret (results_c2 Tryd.alsTy rfl _ _ b (alsCells Als.zero) v rfl rfl HCZ.out.at_ rfl) rfl (HNo.out _ _ HEZ.out hS.below)
set_option maxRecDepth 100000 in
theorem ReadAll_at (s : ByteArray) (w : World) (y : Als) (k : Int) (hy : y = (readA s.data.toList).getD Als.zero) (hk : k = if (readA s.data.toList).isSome then 0 else 2) : Calls Tryd.prog 18 #[.string s] w (RecReadPost (alsCells y) k w) := by
  have HY := Lib.hid hy
  have HK := Lib.hid hk
  clear hy hk
  obtain ⟨b, HB⟩ : ∃ b, Hid (b = w.heap.size) := ⟨_, Lib.hid rfl⟩
  go_enter Tryd.func18, Tryd.ntmps18
  go_upto_region 1 with (fail)
  obtain ⟨w1, HW⟩ : ∃ w1, Hid (w1 = w.alloc (.cells #[.int .i64 0, .int .u8 0, .int .u8 0, .int .u8 0, .int .u8 0, .int .u8 0, .int .u8 0, .int .u8 0, .int .u8 0] 44)) := ⟨_, Lib.hid rfl⟩
  rw [← HW.out, ← HB.out]
  have HC1 : Hid (COwn w1 b (alsCells Als.zero)) := Lib.hid (by rw [HW.out, HB.out]; exact COwn.new (alsCells Als.zero) _)
  have HB1 : Hid (Below w.heap.size w w1) := Lib.hid (by rw [HW.out]; exact (Below.refl _ _).alloc (Nat.le_refl _) _)
  clear HW
  go_wp2_with fail
  refine (allWidths_any _).mono ?_
  rintro e w2 ⟨B2, rfl, hn, hb⟩
  have HN2 := Lib.hid hn
  have HC2 := Lib.hid (HC1.out.carry hb (by decide))
  have HB2 := Lib.hid (HB1.out.trans (hb.mono HB1.out.size))
  clear hn hb HC1 HB1
  go_wp2_with fail
  have HYL : Hid ((alsCells y).length = 9) := Lib.hid (by rw [HY.out]; exact alsCells_len (readA_ok s.data.toList))
  refine (readAll_at s B2 w2 y k HY.out HK.out HN2.out).mono ?_
  rintro e w3 ⟨v, rfl, he, hb⟩
  have HE3 := Lib.hid he
  have HC3 := Lib.hid (HC2.out.carry hb (by decide))
  have HB3 := Lib.hid (HB2.out.trans (hb.mono HB2.out.size))
  have hb3 : Hid (b < w3.heap.size) := Lib.hid (HC3.out.lt (by decide))
  clear he hb HC2 HB2 HN2
  go_wp2_with (with_reducible refine stop_at (o := ⟨none, _, _, _, _, _⟩) ?_)
  refine wpList_store_c Tryd.alsTy rfl _ _ rfl b (alsCells Als.zero) (alsCells y) HYL.out rfl (alsCells_one y) rfl rfl HC3.out ?_
  intro w4 HW4 HC4
  have HB4 : Hid (Below w.heap.size w w4) := Lib.hid (below_cells9 HB3.out HW4.out (by rw [HB.out]; exact Nat.le_refl _))
  have HE4 := Lib.hid (errIs_cells HE3.out HW4.out (HC3.out.cell (j := 0) rfl))
  clear HW4 HC3 HB3 HE3
  go_wp2_with fail
  exact bodyPost_ret (results_c2 Tryd.alsTy rfl _ _ b (alsCells y) v rfl rfl HC4.out.at_ HYL.out) rfl ⟨v, rfl, HE4.out, HB4.out⟩
theorem ReadAll_any (s : ByteArray) (w : World) : Calls Tryd.prog 18 #[.string s] w (RecReadPost (alsCells ((readA s.data.toList).getD Als.zero)) (if (readA s.data.toList).isSome then 0 else 2) w) := ReadAll_at s w _ _ rfl rfl
end Go.Proofs.YtjjlghdcpkkdhaaDoor
