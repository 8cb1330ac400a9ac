/-
  The contracts of rec's reading of a Robot. Conditions: none beyond the premises of each theorem.
-/
import Derived.Test.YtjjlghdcpkkdhaaDoorRecReadTask
namespace Go.Proofs.YtjjlghdcpkkdhaaDoor
open Go.RowKit

/-- what stands in memory while a Robot is read: the result's variable, the zero value's -/
structure RRS (w : World) (b : Nat) (wr : World) : Prop where
  res : ∃ cs : List Value, cs.length = 7 ∧ (∃ z, cs[0]? = some (.int .i64 z)) ∧ COwn wr b cs
  none : COwn wr (b + 1) (robCells Rob.zero)
  below : Below w.heap.size w wr
  base : b = w.heap.size
  above : b < wr.heap.size
theorem RRS.carry {w wr w' : World} {b : Nat} (h : RRS w b wr) (hb : Below wr.heap.size wr w') : RRS w b w' := by
  obtain ⟨cs, hl, hz, hc⟩ := h.res
  exact ⟨⟨cs, hl, hz, hc.carry hb (by omega)⟩, h.none.carry hb (by decide), h.below.trans (hb.mono h.below.size), h.base, Nat.lt_of_lt_of_le h.above hb.size⟩
theorem RRS.drew {w wr : World} {b : Nat} (h : RRS w b wr) : RRS w b wr.drew := h.carry (Below.refl _ _).drew
theorem RRS.store {w wr w2 : World} {b : Nat} {ds : List Value} (h : RRS w b wr) (hw : w2 = wr.setCells b 0 ds) (hc : COwn w2 b ds) (hl : ds.length = 7) (hz : ∃ z, ds[0]? = some (.int .i64 z)) : RRS w b w2 :=
  ⟨⟨ds, hl, hz, hc⟩, by rw [hw]; exact h.none.other (by omega) _ _, below_cells9 h.below hw (by rw [h.base]; exact Nat.le_refl _), h.base, by
    have := (below_cells9 (Below.refl wr.heap.size wr) (rfl : wr.setCells wr.heap.size 0 ds = _) (Nat.le_refl _)).size
    have e : w2.heap.size = wr.heap.size := by rw [hw]; exact setCells_size9 b ds 0 wr
    rw [e]
    exact h.above⟩
set_option maxRecDepth 100000 in
set_option maxHeartbeats 1000000 in
theorem readRobot_at (s : ByteArray) (B : Nat) (w : World) (y : Rob) (k : Int) (hy : y = (readR s.data.toList).getD Rob.zero) (hk : k = if (readR s.data.toList).isSome then 0 else 2) (hn : Nums w .i64 (some ⟨B, 0, none⟩) (ints wsR)) :
    Calls Tryd.prog 28 #[.string s, .slice (some ⟨B, 0, none⟩) wsR.length wsR.length, .func (.func 9) #[] #[], .func (.func 29) #[] #[]] w (RecReadPost (robCells y) k w) := by
  have HN := Lib.hid hn
  have HY := Lib.hid hy
  have HK := Lib.hid hk
  clear hn hy hk
  obtain ⟨b, HB⟩ : ∃ b, Hid (b = w.heap.size) := ⟨_, Lib.hid rfl⟩
  go_enter Tryd.func28, Tryd.ntmps28
  go_upto_region 2 with (fail)
  obtain ⟨w1, HW⟩ : ∃ w1, Hid (w1 = (w.alloc (.cells #[.int .i64 0, .int .i64 0, .int .i64 0, .int .i64 0, .int .i64 0, .int .i64 0, .int .i64 0] 29)).alloc (.cells #[.int .i64 0, .int .i64 0, .int .i64 0, .int .i64 0, .int .i64 0, .int .i64 0, .int .i64 0] 29)) := ⟨_, Lib.hid rfl⟩
  rw [← HW.out, ← HB.out]
  have HSS : Hid (RRS w b w1) := Lib.hid (by
    rw [HW.out, HB.out]
    have h1 := COwn.new (w := w) (robCells Rob.zero) 29
    have h2 := COwn.new (w := w.alloc (.cells (robCells Rob.zero).toArray 29)) (robCells Rob.zero) 29
    have hb : Below (w.alloc (.cells (robCells Rob.zero).toArray 29)).heap.size (w.alloc (.cells (robCells Rob.zero).toArray 29)) ((w.alloc (.cells (robCells Rob.zero).toArray 29)).alloc (.cells (robCells Rob.zero).toArray 29)) := (Below.refl _ _).alloc (Nat.le_refl _) _
    have e : (w.alloc (.cells (robCells Rob.zero).toArray 29)).heap.size = w.heap.size + 1 := by simp
    rw [e] at h2
    exact ⟨⟨_, rfl, ⟨_, rfl⟩, h1.carry hb (by decide)⟩, h2, ((Below.refl _ _).alloc (Nat.le_refl _) _).alloc (by simp) _, rfl, by simp; omega⟩)
  have hb1 : Below w.heap.size w w1 := HSS.out.below
  have HN1 := Lib.hid (HN.out.carry hb1)
  clear HW hb1 HN
  by_cases h12 : s.size = 12
  · have HT := Lib.hid h12
    have HLEN : Hid (s.data.toList.length = 12) := Lib.hid (by rw [Array.length_toList]; exact h12)
    clear h12
    go_wp2_with fail
    refine (Parse_own wsR s _ _ w1 widthsR HN1.out HT.out).mono ?_
    obtain ⟨ns, HNS⟩ : ∃ ns, Hid (ns = splits wsR s.data.toList) := ⟨_, Lib.hid rfl⟩
    unfold ParseOwn
    rw [← HNS.out]
    rintro e w2 ⟨g, cap, hg, rfl, hnn, hb⟩
    have HSS2 := Lib.hid (HSS.out.carry hb)
    have HNN := Lib.hid hnn
    clear hnn hb HSS HN1 hg
    have HTL := Lib.hid (tellR_of s.data.toList)
    rw [← HNS.out] at HTL
    have HNL : Hid (ns.length = 7) := Lib.hid (by rw [HNS.out, splits_length]; rfl)
    obtain ⟨x, HX⟩ : ∃ x, Hid (x = tellR ns) := ⟨_, Lib.hid rfl⟩
    have HXO : Hid (True) := Lib.hid (trivial)
    have HCL9 : Hid ((robCells x).length = 7) := Lib.hid rfl
    rw [HNL.out]
    go_wp2_with fail
    refine (HTL.out g cap w2 HNN.out).mono ?_
    rw [← HX.out]
    rintro e w3 ⟨rfl, hb⟩
    have HSS3 := Lib.hid (HSS2.out.carry hb)
    clear hb HSS2 HTL HNN
    go_wp2_with (with_reducible refine stop_at (o := ⟨none, _, _, _, _, _⟩) ?_)
    obtain ⟨w4, HW4⟩ : ∃ w4, Hid (w4 = w3.alloc (.cells #[.int .i64 0, .int .i64 0, .int .i64 0, .int .i64 0, .int .i64 0, .int .i64 0, .int .i64 0] 29)) := ⟨_, Lib.hid rfl⟩
    obtain ⟨c, HCB⟩ : ∃ c, Hid (c = w3.heap.size) := ⟨_, Lib.hid rfl⟩
    have HO4 : Hid (COwn w4 c (robCells Rob.zero)) := Lib.hid (by rw [HW4.out, HCB.out]; exact COwn.new (robCells Rob.zero) _)
    have HSS4 : Hid (RRS w b w4) := Lib.hid (HSS3.out.carry (by rw [HW4.out]; exact (Below.refl _ _).alloc (Nat.le_refl _) _))
    rw [← HW4.out, ← HCB.out]
    have hbc : Hid (b + 1 < c) := Lib.hid (by rw [HCB.out]; exact HSS3.out.none.lt (by decide))
    clear HW4 HSS3 HCB
    refine wpList_store_c Tryd.robTy rfl _ _ rfl c (robCells Rob.zero) (robCells x) rfl rfl (robCells_one x) rfl rfl HO4.out ?_
    intro w5 HW5 HO5
    have HSS5 : Hid (RRS w b w5) := Lib.hid (by
      have h := HSS4.out
      have hc := hbc.out
      obtain ⟨cs, hl, hz, hcs⟩ := h.res
      refine ⟨⟨cs, hl, hz, by rw [HW5.out]; exact hcs.other (by omega) _ _⟩, by rw [HW5.out]; exact h.none.other (by omega) _ _, below_cells9 h.below HW5.out (by rw [← h.base]; omega), h.base, by rw [HW5.out, setCells_size9]; exact h.above⟩)
    clear HW5 HSS4 HO4
    go_wp2_with (with_reducible refine stop_at (o := ⟨some 31, _, _, _, _, _⟩) ?_)
    refine wpList_load_c Tryd.robTy rfl _ rfl c 0 rfl (robCells x) rfl HO5.out.at_ ?_
    go_wp2_with fail
    refine (LayRobot_any x w5).mono ?_
    cases hr : rightR x with
    | false =>
      have HNo : Hid (∀ v w', ErrIs w' 2 v → Below w.heap.size w w' → RecReadPost (robCells y) k w (.returned (.tuple #[.agg (robCells Rob.zero).toArray, v])) w') := Lib.hid fun v w' h1 h2 => by
        have e : readR s.data.toList = none := by
          unfold readR
          rw [← HNS.out, ← HX.out, hr, if_neg (fun h => by cases h.2.1)]
        rw [HY.out, HK.out, e]
        exact ⟨v, rfl, h1, h2⟩
      clear hr
      rintro e w6 ⟨v6, rfl, he, hb⟩
      obtain ⟨t6, x6, rfl⟩ := ErrFrom.some he (by decide)
      have HSS := Lib.hid (HSS5.out.carry hb)
      clear he hb HSS5 HO5
      go_wp2_with fail
      refine wp_region_held (S := RRS w b) (by kernel_rfl) ?_
      change wpAnyH _ _ _ _ _ _ _ _ w6.drew
      obtain ⟨wa, HWA⟩ : ∃ wa, Hid (wa = w6.drew) := ⟨_, Lib.hid rfl⟩
      rw [← HWA.out]
      have hS : RRS w b wa := by rw [HWA.out]; exact HSS.out.drew
      clear HWA HSS
      refine takeH (i := 0) 42 (v := .agg (robCells Rob.zero).toArray) rfl (by kernel_rfl) (by kernel_rfl) (by kernel_rfl) rfl (fun _ _ _ h => h) (yieldsIf_c Tryd.robTy rfl _ rfl (b + 1) 0 rfl (robCells Rob.zero) rfl (fun _ h => h.none.at_)) hS ?_
      simp only [Act.put, List.setIfInBounds_toArray, List.set_cons_zero, List.set_cons_succ]
      refine oneH (i := 1) (oi := ⟨some 43, _, _, _, _, _⟩) rfl (by kernel_rfl) (fun K0 hK => ?_)
      go_simp
      refine (RecFault_any 2 (by decide) _).mono ?_
      rintro e wn ⟨v, rfl, he, hb⟩
      have HE := Lib.hid he.is
      have hS2 := hS.carry hb
      clear he hb hS
      refine hK.out _ _ hS2 ?_
      clear hK K0
      have hS := hS2
      clear hS2
      try simp only [Act.put, List.setIfInBounds_toArray, List.set_cons_zero, List.set_cons_succ]
      refine oneH (i := 2) (oi := ⟨none, _, _, _, _, _⟩) rfl (by kernel_rfl) (fun K0 hK => ?_)
      rw [if_pos (by rfl)]
      obtain ⟨cs, hcl, ⟨z0, hz0⟩, hcs⟩ := hS.res
      refine wp_store_c Tryd.robTy _ _ rfl b cs (robCells Rob.zero) rfl hcl (robCells_one _) rfl rfl hcs ?_
      intro wz HWZ HCZ
      have hS2 : RRS w b wz := hS.store HWZ.out HCZ.out rfl ⟨_, rfl⟩
      have HEZ := Lib.hid (errIs_cells HE.out HWZ.out (hcs.cell hz0))
      clear hS hcs HE
      refine hK.out _ _ hS2 ?_
      clear hK K0
      have hS := hS2
      clear hS2
      try simp only [Act.put]
      refine takeH (i := 3) 9 (v := v) rfl (by kernel_rfl) (by kernel_rfl) (by kernel_rfl) rfl (fun _ _ _ h => h) (.inl ⟨by rfl, fun _ _ => by go_simp⟩) hS ?_
      simp only [Act.put, List.setIfInBounds_toArray, List.set_cons_zero, List.set_cons_succ]
      refine wpAnyH_done (by kernel_rfl) ?_ _
      go_wp2_with fail
      exact bodyPost_ret (results_c2 Tryd.robTy rfl _ _ b (robCells Rob.zero) v rfl rfl HCZ.out.at_ rfl) rfl (HNo.out _ _ HEZ.out hS.below)
    | true =>
      obtain ⟨u, HU⟩ : ∃ u : ByteArray, Hid (u = ⟨(layR x).toArray⟩) := ⟨_, Lib.hid rfl⟩
      rintro e w6 ⟨v6, rfl, he, hb⟩
      obtain rfl := ErrFrom.zero he
      rw [if_pos rfl, ← HU.out]
      have HSS := Lib.hid (HSS5.out.carry hb)
      have HO6 := Lib.hid (HO5.out.carry hb (Nat.lt_of_lt_of_eq (by decide : 0 < 7) HCL9.out.symm))
      have hc6 : Hid (c < w6.heap.size) := Lib.hid (HO6.out.lt (Nat.lt_of_lt_of_eq (by decide : 0 < 7) HCL9.out.symm))
      clear he hb HSS5 HO5
      by_cases hu : u = s
      · have HYes : Hid (∀ w', Below w.heap.size w w' → RecReadPost (robCells y) k w (.returned (.tuple #[.agg (robCells x).toArray, .nilIface])) w') := Lib.hid fun w' h2 => by
          have e : readR s.data.toList = some x := by
            unfold readR
            rw [← HNS.out, ← HX.out, if_pos ⟨HLEN.out, hr, by rw [← hu, HU.out]⟩]
          rw [HY.out, HK.out, e]
          exact ⟨_, rfl, .nil _, h2⟩
        have hne : (!(u.toList == s.toList)) = false := by rw [hu]; simp
        clear hr hu
        go_wp2_with (with_reducible refine stop_at (o := ⟨some 44, _, _, _, _, _⟩) ?_)
        refine wpList_load_c Tryd.robTy rfl _ rfl c 0 rfl (robCells x) rfl HO6.out.at_ ?_
        obtain ⟨cs, hcl, _, hcs⟩ := HSS.out.res
        have HCS := Lib.hid hcs
        have HCL := Lib.hid hcl
        clear hcs hcl
        refine wpList_store_c Tryd.robTy rfl _ _ rfl b cs (robCells x) rfl HCL.out (robCells_one x) rfl rfl HCS.out ?_
        intro w9 HW9 HC9
        have HB9 : Hid (Below w.heap.size w w9) := Lib.hid (below_cells9 HSS.out.below HW9.out (by rw [← HSS.out.base]; exact Nat.le_refl _))
        go_wp2_with fail
        exact bodyPost_ret (results_c2 Tryd.robTy rfl _ _ b (robCells x) .nilIface rfl rfl HC9.out.at_ rfl) rfl (HYes.out _ HB9.out)
      · have HNo : Hid (∀ v w', ErrIs w' 2 v → Below w.heap.size w w' → RecReadPost (robCells y) k w (.returned (.tuple #[.agg (robCells Rob.zero).toArray, v])) w') := Lib.hid fun v w' h1 h2 => by
          have e : readR s.data.toList = none := by
            unfold readR
            rw [← HNS.out, ← HX.out, if_neg]
            rintro ⟨_, _, h3⟩
            apply hu
            rw [HU.out, h3]
          rw [HY.out, HK.out, e]
          exact ⟨v, rfl, h1, h2⟩
        have hne : (!(u.toList == s.toList)) = true := by
          rw [ByteArray.toList_eq, ByteArray.toList_eq, Bool.not_eq_true', beq_eq_false_iff_ne]
          intro h
          exact hu (ByteArray.ext (Array.toList_inj.1 h))
        clear hr hu
        go_wp2_with fail
        refine wp_region_held (S := RRS w b) (by kernel_rfl) ?_
        change wpAnyH _ _ _ _ _ _ _ _ w6.drew
        obtain ⟨wa, HWA⟩ : ∃ wa, Hid (wa = w6.drew) := ⟨_, Lib.hid rfl⟩
        rw [← HWA.out]
        have hS : RRS w b wa := by rw [HWA.out]; exact HSS.out.drew
        clear HWA HSS
        refine takeH (i := 0) 42 (v := .agg (robCells Rob.zero).toArray) rfl (by kernel_rfl) (by kernel_rfl) (by kernel_rfl) rfl (fun _ _ _ h => h) (yieldsIf_c Tryd.robTy rfl _ rfl (b + 1) 0 rfl (robCells Rob.zero) rfl (fun _ h => h.none.at_)) hS ?_
        simp only [Act.put, List.setIfInBounds_toArray, List.set_cons_zero, List.set_cons_succ]
        refine oneH (i := 1) (oi := ⟨some 43, _, _, _, _, _⟩) rfl (by kernel_rfl) (fun K0 hK => ?_)
        go_simp
        refine (RecFault_any 2 (by decide) _).mono ?_
        rintro e wn ⟨v, rfl, he, hb⟩
        have HE := Lib.hid he.is
        have hS2 := hS.carry hb
        clear he hb hS
        refine hK.out _ _ hS2 ?_
        clear hK K0
        have hS := hS2
        clear hS2
        try simp only [Act.put, List.setIfInBounds_toArray, List.set_cons_zero, List.set_cons_succ]
        refine oneH (i := 2) (oi := ⟨none, _, _, _, _, _⟩) rfl (by kernel_rfl) (fun K0 hK => ?_)
        rw [if_pos (by rfl)]
        obtain ⟨cs, hcl, ⟨z0, hz0⟩, hcs⟩ := hS.res
        refine wp_store_c Tryd.robTy _ _ rfl b cs (robCells Rob.zero) rfl hcl (robCells_one _) rfl rfl hcs ?_
        intro wz HWZ HCZ
        have hS2 : RRS w b wz := hS.store HWZ.out HCZ.out rfl ⟨_, rfl⟩
        have HEZ := Lib.hid (errIs_cells HE.out HWZ.out (hcs.cell hz0))
        clear hS hcs HE
        refine hK.out _ _ hS2 ?_
        clear hK K0
        have hS := hS2
        clear hS2
        try simp only [Act.put]
        refine takeH (i := 3) 9 (v := v) rfl (by kernel_rfl) (by kernel_rfl) (by kernel_rfl) rfl (fun _ _ _ h => h) (.inl ⟨by rfl, fun _ _ => by go_simp⟩) hS ?_
        simp only [Act.put, List.setIfInBounds_toArray, List.set_cons_zero, List.set_cons_succ]
        refine wpAnyH_done (by kernel_rfl) ?_ _
        go_wp2_with fail
        exact bodyPost_ret (results_c2 Tryd.robTy rfl _ _ b (robCells Rob.zero) v rfl rfl HCZ.out.at_ rfl) rfl (HNo.out _ _ HEZ.out hS.below)
  · have HT := Lib.hid h12
    have HNo : Hid (∀ v w', ErrIs w' 2 v → Below w.heap.size w w' → RecReadPost (robCells y) k w (.returned (.tuple #[.agg (robCells Rob.zero).toArray, v])) w') := Lib.hid fun v w' h1 h2 => by
      rw [HY.out, HK.out, readR_len (by rw [Array.length_toList]; exact h12)]
      exact ⟨v, rfl, h1, h2⟩
    clear h12
    go_wp2_with fail
    refine (Parse_form wsR s _ _ w1 widthsR HN1.out HT.out).mono ?_
    rintro e w2 ⟨v2, lt, rfl, hc, hb⟩
    obtain ⟨t, x, rfl⟩ := hc.form
    have HCA := Lib.hid hc
    replace HSS := Lib.hid (HSS.out.carry hb)
    clear hc hb HN1
    go_wp2_with fail
    refine wp_region_held (S := RRS w b) (by kernel_rfl) ?_
    change wpAnyH _ _ _ _ _ _ _ _ w2.drew
    obtain ⟨wa, HWA⟩ : ∃ wa, Hid (wa = w2.drew) := ⟨_, Lib.hid rfl⟩
    rw [← HWA.out]
    have hS : RRS w b wa := by rw [HWA.out]; exact HSS.out.drew
    have HCH := Lib.hid (show Chain wa 2 (.iface t x) lt by rw [HWA.out]; exact HCA.out.carry rfl ((Below.refl _ _).drew))
    clear HWA HSS
    refine takeH (i := 0) 23 (v := .agg (robCells Rob.zero).toArray) rfl (by kernel_rfl) (by kernel_rfl) (by kernel_rfl) rfl (fun _ _ _ h => h) (yieldsIf_c Tryd.robTy rfl _ rfl (b + 1) 0 rfl (robCells Rob.zero) rfl (fun _ h => h.none.at_)) hS ?_
    simp only [Act.put, List.setIfInBounds_toArray, List.set_cons_zero, List.set_cons_succ]
    refine takeH (i := 1) 24 (v := .iface t x) rfl (by kernel_rfl) (by kernel_rfl) (by kernel_rfl) rfl (fun _ _ _ h => h) (.inl ⟨by rfl, fun _ _ => by go_simp⟩) hS ?_
    simp only [Act.put, List.setIfInBounds_toArray, List.set_cons_zero, List.set_cons_succ]
    refine oneH (i := 2) (oi := ⟨some 25, _, _, _, _, _⟩) rfl (by kernel_rfl) (fun K0 hK => ?_)
    go_simp
    refine (Tag_chain _ 2 _ lt _ HCH.out).mono ?_
    rintro e wn ⟨rfl, he, hb⟩
    obtain ⟨v, HV⟩ : ∃ v, Hid (v = Value.iface 80 (.pointer (some ⟨wa.heap.size, 0, none⟩))) := ⟨_, Lib.hid rfl⟩
    rw [← HV.out] at he ⊢
    have HE := Lib.hid (show ErrIs wn 2 v from .inr ⟨_, he⟩)
    have hS2 := hS.carry hb
    clear he hb hS
    refine hK.out _ _ hS2 ?_
    clear hK K0
    have hS := hS2
    clear hS2
    try simp only [Act.put, List.setIfInBounds_toArray, List.set_cons_zero, List.set_cons_succ]
    refine oneH (i := 3) (oi := ⟨none, _, _, _, _, _⟩) rfl (by kernel_rfl) (fun K0 hK => ?_)
    rw [if_pos (by rfl)]
    obtain ⟨cs, hcl, ⟨z0, hz0⟩, hcs⟩ := hS.res
    refine wp_store_c Tryd.robTy _ _ rfl b cs (robCells Rob.zero) rfl hcl (robCells_one _) rfl rfl hcs ?_
    intro wz HWZ HCZ
    have hS2 : RRS w b wz := hS.store HWZ.out HCZ.out rfl ⟨_, rfl⟩
    have HEZ := Lib.hid (errIs_cells HE.out HWZ.out (hcs.cell hz0))
    clear hS hcs HE
    refine hK.out _ _ hS2 ?_
    clear hK K0
    have hS := hS2
    clear hS2
    try simp only [Act.put]
    refine takeH (i := 4) 9 (v := v) rfl (by kernel_rfl) (by kernel_rfl) (by kernel_rfl) rfl (fun _ _ _ h => h) (.inl ⟨by rfl, fun _ _ => by go_simp⟩) hS ?_
    simp only [Act.put, List.setIfInBounds_toArray, List.set_cons_zero, List.set_cons_succ]
    refine wpAnyH_done (by kernel_rfl) ?_ _
    go_wp2_with fail
    exact bodyPost_ret (results_c2 Tryd.robTy rfl _ _ b (robCells Rob.zero) v rfl rfl HCZ.out.at_ rfl) rfl (HNo.out _ _ HEZ.out hS.below)
set_option maxRecDepth 100000 in
theorem ReadRobot_at (s : ByteArray) (w : World) (y : Rob) (k : Int) (hy : y = (readR s.data.toList).getD Rob.zero) (hk : k = if (readR s.data.toList).isSome then 0 else 2) : Calls Tryd.prog 13 #[.string s] w (RecReadPost (robCells y) k w) := by
  have HY := Lib.hid hy
  have HK := Lib.hid hk
  clear hy hk
  obtain ⟨b, HB⟩ : ∃ b, Hid (b = w.heap.size) := ⟨_, Lib.hid rfl⟩
  go_enter Tryd.func13, Tryd.ntmps13
  go_upto_region 1 with (fail)
  obtain ⟨w1, HW⟩ : ∃ w1, Hid (w1 = w.alloc (.cells #[.int .i64 0, .int .i64 0, .int .i64 0, .int .i64 0, .int .i64 0, .int .i64 0, .int .i64 0] 29)) := ⟨_, Lib.hid rfl⟩
  rw [← HW.out, ← HB.out]
  have HC1 : Hid (COwn w1 b (robCells Rob.zero)) := Lib.hid (by rw [HW.out, HB.out]; exact COwn.new (robCells Rob.zero) _)
  have HB1 : Hid (Below w.heap.size w w1) := Lib.hid (by rw [HW.out]; exact (Below.refl _ _).alloc (Nat.le_refl _) _)
  clear HW
  go_wp2_with fail
  refine (robotWidths_any _).mono ?_
  rintro e w2 ⟨B2, rfl, hn, hb⟩
  have HN2 := Lib.hid hn
  have HC2 := Lib.hid (HC1.out.carry hb (by decide))
  have HB2 := Lib.hid (HB1.out.trans (hb.mono HB1.out.size))
  clear hn hb HC1 HB1
  go_wp2_with fail
  have HYL : Hid ((robCells y).length = 7) := Lib.hid (by rw [HY.out]; exact rfl)
  refine (readRobot_at s B2 w2 y k HY.out HK.out HN2.out).mono ?_
  rintro e w3 ⟨v, rfl, he, hb⟩
  have HE3 := Lib.hid he
  have HC3 := Lib.hid (HC2.out.carry hb (by decide))
  have HB3 := Lib.hid (HB2.out.trans (hb.mono HB2.out.size))
  have hb3 : Hid (b < w3.heap.size) := Lib.hid (HC3.out.lt (by decide))
  clear he hb HC2 HB2 HN2
  go_wp2_with (with_reducible refine stop_at (o := ⟨none, _, _, _, _, _⟩) ?_)
  refine wpList_store_c Tryd.robTy rfl _ _ rfl b (robCells Rob.zero) (robCells y) HYL.out rfl (robCells_one y) rfl rfl HC3.out ?_
  intro w4 HW4 HC4
  have HB4 : Hid (Below w.heap.size w w4) := Lib.hid (below_cells9 HB3.out HW4.out (by rw [HB.out]; exact Nat.le_refl _))
  have HE4 := Lib.hid (errIs_cells HE3.out HW4.out (HC3.out.cell (j := 0) rfl))
  clear HW4 HC3 HB3 HE3
  go_wp2_with fail
  exact bodyPost_ret (results_c2 Tryd.robTy rfl _ _ b (robCells y) v rfl rfl HC4.out.at_ HYL.out) rfl ⟨v, rfl, HE4.out, HB4.out⟩
theorem ReadRobot_any (s : ByteArray) (w : World) : Calls Tryd.prog 13 #[.string s] w (RecReadPost (robCells ((readR s.data.toList).getD Rob.zero)) (if (readR s.data.toList).isSome then 0 else 2) w) := ReadRobot_at s w _ _ rfl rfl
end Go.Proofs.YtjjlghdcpkkdhaaDoor
