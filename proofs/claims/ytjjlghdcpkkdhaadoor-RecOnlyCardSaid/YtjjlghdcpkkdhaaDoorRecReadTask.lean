/-
  The contracts of rec's reading of a Task. Conditions: none beyond the premises of each theorem.
-/
import Derived.Test.YtjjlghdcpkkdhaaDoorRecTellA
namespace Go.Proofs.YtjjlghdcpkkdhaaDoor
open Go.RowKit

/-- what a call of Read answers -/
def RecReadPost (cs : List Value) (c : Int) (w : World) (e : Ending) (w' : World) : Prop := ∃ v, e = .returned (.tuple #[.agg cs.toArray, v]) ∧ ErrIs w' c v ∧ Below w.heap.size w w'
theorem setCells_size9 (b : Nat) : ∀ (vs : List Value) (o : Nat) (w : World), (w.setCells b o vs).heap.size = w.heap.size
  | [], _, _ => rfl
  | v :: r, o, w => by rw [World.setCells, setCells_size9 b r (o + 1)]; simp
/-- a variable that is laid anew is no tag of an error, if it was made as a variable -/
theorem chain_cells {w w2 : World} {c : Int} {v : Value} {l : List ByteArray} {b : Nat} {vs : List Value} {k : IntKind} {z : Int} (h : Chain w c v l) (hw : w2 = w.setCells b 0 vs) (hz : w.cell? ⟨b, 0, none⟩ = some (.int k z)) : Chain w2 c v l := by
  induction h with
  | base => exact .base
  | tag b2 s t x l h2 h3 h1 _ ih =>
    have hne : b2 ≠ b := by
      rintro rfl
      rw [h2] at hz
      cases hz
    have e : w2.heap[b2]? = w.heap[b2]? := by rw [hw]; exact setCells_far9 b hne vs 0 w
    exact .tag b2 s t x l ((World.cell?_of_block (w := w) (a := ⟨b2, 0, none⟩) e).trans h2) ((World.cell?_of_block (w := w) (a := ⟨b2, 1, none⟩) e).trans h3) (by rw [hw, setCells_size9]; exact h1) ih
theorem errIs_cells {w w2 : World} {c : Int} {v : Value} {b : Nat} {vs : List Value} {k : IntKind} {z : Int} (h : ErrIs w c v) (hw : w2 = w.setCells b 0 vs) (hz : w.cell? ⟨b, 0, none⟩ = some (.int k z)) : ErrIs w2 c v := by
  rcases h with h | ⟨l, h⟩
  · exact .inl h
  · exact .inr ⟨l, chain_cells h hw hz⟩
theorem tellR_of (s : List UInt8) : ∀ g cap w, Nums w .i64 (some ⟨g, 0, none⟩) (ints (splits wsR s)) → Calls Tryd.prog 29 #[.slice (some ⟨g, 0, none⟩) 7 cap] w fun e w' => e = .returned (.agg (robCells (tellR (splits wsR s))).toArray) ∧ Below w.heap.size w w' := by
  intro g cap w h
  have hf := splits_fit (ws := wsR) (s := s)
  exact tellRobot_any _ _ _ _ _ _ _ g cap w (Nat.lt_of_lt_of_le (hf 3 (by decide) (by rw [splits_length]; decide)) (by decide)) (Nat.lt_of_lt_of_le (hf 6 (by decide) (by rw [splits_length]; decide)) (by decide)) h
theorem tellT_of (s : List UInt8) : ∀ g cap w, Nums w .i64 (some ⟨g, 0, none⟩) (ints (splits wsT s)) → Calls Tryd.prog 34 #[.slice (some ⟨g, 0, none⟩) 6 cap] w fun e w' => e = .returned (.agg (tasCells (tellT (splits wsT s))).toArray) ∧ Below w.heap.size w w' :=
  fun g cap w h => tellTask_any _ _ _ _ _ _ g cap w h
theorem tellA_of (s : List UInt8) : ∀ g cap w, Nums w .i64 (some ⟨g, 0, none⟩) (ints (splits wsA s)) → Calls Tryd.prog 36 #[.slice (some ⟨g, 0, none⟩) 9 cap] w fun e w' => e = .returned (.agg (alsCells (tellA (splits wsA s))).toArray) ∧ Below w.heap.size w w' :=
  fun g cap w h => tellAll_any _ _ g cap w (tellA_ok s).len (tellA_ok s).small h
/-- what stands in memory while a Task is read: the result's variable, the zero value's -/
structure RTS (w : World) (b : Nat) (wr : World) : Prop where
  res : ∃ cs : List Value, cs.length = 3 ∧ (∃ z, cs[0]? = some (.int .i64 z)) ∧ COwn wr b cs
  none : COwn wr (b + 1) (tasCells Tas.zero)
  below : Below w.heap.size w wr
  base : b = w.heap.size
  above : b < wr.heap.size
theorem RTS.carry {w wr w' : World} {b : Nat} (h : RTS w b wr) (hb : Below wr.heap.size wr w') : RTS w b w' := by
  obtain ⟨cs, hl, hz, hc⟩ := h.res
  exact ⟨⟨cs, hl, hz, hc.carry hb (by omega)⟩, h.none.carry hb (by decide), h.below.trans (hb.mono h.below.size), h.base, Nat.lt_of_lt_of_le h.above hb.size⟩
theorem RTS.drew {w wr : World} {b : Nat} (h : RTS w b wr) : RTS w b wr.drew := h.carry (Below.refl _ _).drew
theorem RTS.store {w wr w2 : World} {b : Nat} {ds : List Value} (h : RTS w b wr) (hw : w2 = wr.setCells b 0 ds) (hc : COwn w2 b ds) (hl : ds.length = 3) (hz : ∃ z, ds[0]? = some (.int .i64 z)) : RTS w b w2 :=
  ⟨⟨ds, hl, hz, hc⟩, by rw [hw]; exact h.none.other (by omega) _ _, below_cells9 h.below hw (by rw [h.base]; exact Nat.le_refl _), h.base, by
    have := (below_cells9 (Below.refl wr.heap.size wr) (rfl : wr.setCells wr.heap.size 0 ds = _) (Nat.le_refl _)).size
    have e : w2.heap.size = wr.heap.size := by rw [hw]; exact setCells_size9 b ds 0 wr
    rw [e]
    exact h.above⟩
set_option maxRecDepth 100000 in
set_option maxHeartbeats 1000000 in
theorem readTask_at (s : ByteArray) (B : Nat) (w : World) (y : Tas) (k : Int) (hy : y = (readT s.data.toList).getD Tas.zero) (hk : k = if (readT s.data.toList).isSome then 0 else 2) (hn : Nums w .i64 (some ⟨B, 0, none⟩) (ints wsT)) :
    Calls Tryd.prog 33 #[.string s, .slice (some ⟨B, 0, none⟩) wsT.length wsT.length, .func (.func 15) #[] #[], .func (.func 34) #[] #[]] w (RecReadPost (tasCells y) k w) := by
  have HN := Lib.hid hn
  have HY := Lib.hid hy
  have HK := Lib.hid hk
  clear hn hy hk
  obtain ⟨b, HB⟩ : ∃ b, Hid (b = w.heap.size) := ⟨_, Lib.hid rfl⟩
  go_enter Tryd.func33, Tryd.ntmps33
  go_upto_region 2 with (fail)
  obtain ⟨w1, HW⟩ : ∃ w1, Hid (w1 = (w.alloc (.cells #[.int .i64 0, .int .i64 0, .int .i64 0] 42)).alloc (.cells #[.int .i64 0, .int .i64 0, .int .i64 0] 42)) := ⟨_, Lib.hid rfl⟩
  rw [← HW.out, ← HB.out]
  have HSS : Hid (RTS w b w1) := Lib.hid (by
    rw [HW.out, HB.out]
    have h1 := COwn.new (w := w) (tasCells Tas.zero) 42
    have h2 := COwn.new (w := w.alloc (.cells (tasCells Tas.zero).toArray 42)) (tasCells Tas.zero) 42
    have hb : Below (w.alloc (.cells (tasCells Tas.zero).toArray 42)).heap.size (w.alloc (.cells (tasCells Tas.zero).toArray 42)) ((w.alloc (.cells (tasCells Tas.zero).toArray 42)).alloc (.cells (tasCells Tas.zero).toArray 42)) := (Below.refl _ _).alloc (Nat.le_refl _) _
    have e : (w.alloc (.cells (tasCells Tas.zero).toArray 42)).heap.size = w.heap.size + 1 := by simp
    rw [e] at h2
    exact ⟨⟨_, rfl, ⟨_, rfl⟩, h1.carry hb (by decide)⟩, h2, ((Below.refl _ _).alloc (Nat.le_refl _) _).alloc (by simp) _, rfl, by simp; omega⟩)
  have hb1 : Below w.heap.size w w1 := HSS.out.below
  have HN1 := Lib.hid (HN.out.carry hb1)
  clear HW hb1 HN
  by_cases h12 : s.size = 12
  · have HT := Lib.hid h12
    have HLEN : Hid (s.data.toList.length = 12) := Lib.hid (by rw [Array.length_toList]; exact h12)
    clear h12
    go_wp2_with fail
    refine (Parse_own wsT s _ _ w1 widthsT HN1.out HT.out).mono ?_
    obtain ⟨ns, HNS⟩ : ∃ ns, Hid (ns = splits wsT s.data.toList) := ⟨_, Lib.hid rfl⟩
    unfold ParseOwn
    rw [← HNS.out]
    rintro e w2 ⟨g, cap, hg, rfl, hnn, hb⟩
    have HSS2 := Lib.hid (HSS.out.carry hb)
    have HNN := Lib.hid hnn
    clear hnn hb HSS HN1 hg
    have HTL := Lib.hid (tellT_of s.data.toList)
    rw [← HNS.out] at HTL
    have HNL : Hid (ns.length = 6) := Lib.hid (by rw [HNS.out, splits_length]; rfl)
    obtain ⟨x, HX⟩ : ∃ x, Hid (x = tellT ns) := ⟨_, Lib.hid rfl⟩
    have HXO : Hid (True) := Lib.hid (trivial)
    have HCL9 : Hid ((tasCells x).length = 3) := Lib.hid rfl
    rw [HNL.out]
    go_wp2_with fail
    refine (HTL.out g cap w2 HNN.out).mono ?_
    rw [← HX.out]
    rintro e w3 ⟨rfl, hb⟩
    have HSS3 := Lib.hid (HSS2.out.carry hb)
    clear hb HSS2 HTL HNN
    go_wp2_with (with_reducible refine stop_at (o := ⟨none, _, _, _, _, _⟩) ?_)
    obtain ⟨w4, HW4⟩ : ∃ w4, Hid (w4 = w3.alloc (.cells #[.int .i64 0, .int .i64 0, .int .i64 0] 42)) := ⟨_, Lib.hid rfl⟩
    obtain ⟨c, HCB⟩ : ∃ c, Hid (c = w3.heap.size) := ⟨_, Lib.hid rfl⟩
    have HO4 : Hid (COwn w4 c (tasCells Tas.zero)) := Lib.hid (by rw [HW4.out, HCB.out]; exact COwn.new (tasCells Tas.zero) _)
    have HSS4 : Hid (RTS w b w4) := Lib.hid (HSS3.out.carry (by rw [HW4.out]; exact (Below.refl _ _).alloc (Nat.le_refl _) _))
    rw [← HW4.out, ← HCB.out]
    have hbc : Hid (b + 1 < c) := Lib.hid (by rw [HCB.out]; exact HSS3.out.none.lt (by decide))
    clear HW4 HSS3 HCB
    refine wpList_store_c Tryd.tasTy rfl _ _ rfl c (tasCells Tas.zero) (tasCells x) rfl rfl (tasCells_one x) rfl rfl HO4.out ?_
    intro w5 HW5 HO5
    have HSS5 : Hid (RTS w b w5) := Lib.hid (by
      have h := HSS4.out
      have hc := hbc.out
      obtain ⟨cs, hl, hz, hcs⟩ := h.res
      refine ⟨⟨cs, hl, hz, by rw [HW5.out]; exact hcs.other (by omega) _ _⟩, by rw [HW5.out]; exact h.none.other (by omega) _ _, below_cells9 h.below HW5.out (by rw [← h.base]; omega), h.base, by rw [HW5.out, setCells_size9]; exact h.above⟩)
    clear HW5 HSS4 HO4
    go_wp2_with (with_reducible refine stop_at (o := ⟨some 31, _, _, _, _, _⟩) ?_)
    refine wpList_load_c Tryd.tasTy rfl _ rfl c 0 rfl (tasCells x) rfl HO5.out.at_ ?_
    go_wp2_with fail
    refine (LayTask_any x w5).mono ?_
    cases hr : rightT x with
    | false =>
      have HNo : Hid (∀ v w', ErrIs w' 2 v → Below w.heap.size w w' → RecReadPost (tasCells y) k w (.returned (.tuple #[.agg (tasCells Tas.zero).toArray, v])) w') := Lib.hid fun v w' h1 h2 => by
        have e : readT s.data.toList = none := by
          unfold readT
          rw [← HNS.out, ← HX.out, hr, if_neg (fun h => by cases h.2.1)]
        rw [HY.out, HK.out, e]
        exact ⟨v, rfl, h1, h2⟩
      clear hr
      rintro e w6 ⟨v6, rfl, he, hb⟩
      obtain ⟨t6, x6, rfl⟩ := ErrFrom.some he (by decide)
      have HSS := Lib.hid (HSS5.out.carry hb)
      clear he hb HSS5 HO5
      go_wp2_with fail
      refine wp_region_held (S := RTS w b) (by kernel_rfl) ?_
      change wpAnyH _ _ _ _ _ _ _ _ w6.drew
      obtain ⟨wa, HWA⟩ : ∃ wa, Hid (wa = w6.drew) := ⟨_, Lib.hid rfl⟩
      rw [← HWA.out]
      have hS : RTS w b wa := by rw [HWA.out]; exact HSS.out.drew
      clear HWA HSS
      refine takeH (i := 0) 42 (v := .agg (tasCells Tas.zero).toArray) rfl (by kernel_rfl) (by kernel_rfl) (by kernel_rfl) rfl (fun _ _ _ h => h) (yieldsIf_c Tryd.tasTy rfl _ rfl (b + 1) 0 rfl (tasCells Tas.zero) rfl (fun _ h => h.none.at_)) hS ?_
      simp only [Act.put, List.setIfInBounds_toArray, List.set_cons_zero, List.set_cons_succ]
      refine oneH (i := 1) (oi := ⟨some 43, _, _, _, _, _⟩) rfl (by kernel_rfl) (fun K0 hK => ?_)
      go_simp
      refine (RecFault_any 2 (by decide) _).mono ?_
      rintro e wn ⟨v, rfl, he, hb⟩
      have HE := Lib.hid he.is
      have hS2 := hS.carry hb
      clear he hb hS
      refine hK.out _ _ hS2 ?_
      clear hK K0
      have hS := hS2
      clear hS2
      try simp only [Act.put, List.setIfInBounds_toArray, List.set_cons_zero, List.set_cons_succ]
      refine oneH (i := 2) (oi := ⟨none, _, _, _, _, _⟩) rfl (by kernel_rfl) (fun K0 hK => ?_)
      rw [if_pos (by rfl)]
      obtain ⟨cs, hcl, ⟨z0, hz0⟩, hcs⟩ := hS.res
      refine wp_store_c Tryd.tasTy _ _ rfl b cs (tasCells Tas.zero) rfl hcl (tasCells_one _) rfl rfl hcs ?_
      intro wz HWZ HCZ
      have hS2 : RTS w b wz := hS.store HWZ.out HCZ.out rfl ⟨_, rfl⟩
      have HEZ := Lib.hid (errIs_cells HE.out HWZ.out (hcs.cell hz0))
      clear hS hcs HE
      refine hK.out _ _ hS2 ?_
      clear hK K0
      have hS := hS2
      clear hS2
      try simp only [Act.put]
      refine takeH (i := 3) 9 (v := v) rfl (by kernel_rfl) (by kernel_rfl) (by kernel_rfl) rfl (fun _ _ _ h => h) (.inl ⟨by rfl, fun _ _ => by go_simp⟩) hS ?_
      simp only [Act.put, List.setIfInBounds_toArray, List.set_cons_zero, List.set_cons_succ]
      refine wpAnyH_done (by kernel_rfl) ?_ _
      go_wp2_with fail
      exact bodyPost_ret (results_c2 Tryd.tasTy rfl _ _ b (tasCells Tas.zero) v rfl rfl HCZ.out.at_ rfl) rfl (HNo.out _ _ HEZ.out hS.below)
    | true =>
      obtain ⟨u, HU⟩ : ∃ u : ByteArray, Hid (u = ⟨(layT x).toArray⟩) := ⟨_, Lib.hid rfl⟩
      rintro e w6 ⟨v6, rfl, he, hb⟩
      obtain rfl := ErrFrom.zero he
      rw [if_pos rfl, ← HU.out]
      have HSS := Lib.hid (HSS5.out.carry hb)
      have HO6 := Lib.hid (HO5.out.carry hb (Nat.lt_of_lt_of_eq (by decide : 0 < 3) HCL9.out.symm))
      have hc6 : Hid (c < w6.heap.size) := Lib.hid (HO6.out.lt (Nat.lt_of_lt_of_eq (by decide : 0 < 3) HCL9.out.symm))
      clear he hb HSS5 HO5
      by_cases hu : u = s
      · have HYes : Hid (∀ w', Below w.heap.size w w' → RecReadPost (tasCells y) k w (.returned (.tuple #[.agg (tasCells x).toArray, .nilIface])) w') := Lib.hid fun w' h2 => by
          have e : readT s.data.toList = some x := by
            unfold readT
            rw [← HNS.out, ← HX.out, if_pos ⟨HLEN.out, hr, by rw [← hu, HU.out]⟩]
          rw [HY.out, HK.out, e]
          exact ⟨_, rfl, .nil _, h2⟩
        have hne : (!(u.toList == s.toList)) = false := by rw [hu]; simp
        clear hr hu
        go_wp2_with (with_reducible refine stop_at (o := ⟨some 44, _, _, _, _, _⟩) ?_)
        refine wpList_load_c Tryd.tasTy rfl _ rfl c 0 rfl (tasCells x) rfl HO6.out.at_ ?_
        obtain ⟨cs, hcl, _, hcs⟩ := HSS.out.res
        have HCS := Lib.hid hcs
        have HCL := Lib.hid hcl
        clear hcs hcl
        refine wpList_store_c Tryd.tasTy rfl _ _ rfl b cs (tasCells x) rfl HCL.out (tasCells_one x) rfl rfl HCS.out ?_
        intro w9 HW9 HC9
        have HB9 : Hid (Below w.heap.size w w9) := Lib.hid (below_cells9 HSS.out.below HW9.out (by rw [← HSS.out.base]; exact Nat.le_refl _))
        go_wp2_with fail
        exact bodyPost_ret (results_c2 Tryd.tasTy rfl _ _ b (tasCells x) .nilIface rfl rfl HC9.out.at_ rfl) rfl (HYes.out _ HB9.out)
      · have HNo : Hid (∀ v w', ErrIs w' 2 v → Below w.heap.size w w' → RecReadPost (tasCells y) k w (.returned (.tuple #[.agg (tasCells Tas.zero).toArray, v])) w') := Lib.hid fun v w' h1 h2 => by
          have e : readT s.data.toList = none := by
            unfold readT
            rw [← HNS.out, ← HX.out, if_neg]
            rintro ⟨_, _, h3⟩
            apply hu
            rw [HU.out, h3]
          rw [HY.out, HK.out, e]
          exact ⟨v, rfl, h1, h2⟩
        have hne : (!(u.toList == s.toList)) = true := by
          rw [ByteArray.toList_eq, ByteArray.toList_eq, Bool.not_eq_true', beq_eq_false_iff_ne]
          intro h
          exact hu (ByteArray.ext (Array.toList_inj.1 h))
        clear hr hu
        go_wp2_with fail
        refine wp_region_held (S := RTS w b) (by kernel_rfl) ?_
        change wpAnyH _ _ _ _ _ _ _ _ w6.drew
        obtain ⟨wa, HWA⟩ : ∃ wa, Hid (wa = w6.drew) := ⟨_, Lib.hid rfl⟩
        rw [← HWA.out]
        have hS : RTS w b wa := by rw [HWA.out]; exact HSS.out.drew
        clear HWA HSS
        refine takeH (i := 0) 42 (v := .agg (tasCells Tas.zero).toArray) rfl (by kernel_rfl) (by kernel_rfl) (by kernel_rfl) rfl (fun _ _ _ h => h) (yieldsIf_c Tryd.tasTy rfl _ rfl (b + 1) 0 rfl (tasCells Tas.zero) rfl (fun _ h => h.none.at_)) hS ?_
        simp only [Act.put, List.setIfInBounds_toArray, List.set_cons_zero, List.set_cons_succ]
        refine oneH (i := 1) (oi := ⟨some 43, _, _, _, _, _⟩) rfl (by kernel_rfl) (fun K0 hK => ?_)
        go_simp
        refine (RecFault_any 2 (by decide) _).mono ?_
        rintro e wn ⟨v, rfl, he, hb⟩
        have HE := Lib.hid he.is
        have hS2 := hS.carry hb
        clear he hb hS
        refine hK.out _ _ hS2 ?_
        clear hK K0
        have hS := hS2
        clear hS2
        try simp only [Act.put, List.setIfInBounds_toArray, List.set_cons_zero, List.set_cons_succ]
        refine oneH (i := 2) (oi := ⟨none, _, _, _, _, _⟩) rfl (by kernel_rfl) (fun K0 hK => ?_)
        rw [if_pos (by rfl)]
        obtain ⟨cs, hcl, ⟨z0, hz0⟩, hcs⟩ := hS.res
        refine wp_store_c Tryd.tasTy _ _ rfl b cs (tasCells Tas.zero) rfl hcl (tasCells_one _) rfl rfl hcs ?_
        intro wz HWZ HCZ
        have hS2 : RTS w b wz := hS.store HWZ.out HCZ.out rfl ⟨_, rfl⟩
        have HEZ := Lib.hid (errIs_cells HE.out HWZ.out (hcs.cell hz0))
        clear hS hcs HE
        refine hK.out _ _ hS2 ?_
        clear hK K0
        have hS := hS2
        clear hS2
        try simp only [Act.put]
        refine takeH (i := 3) 9 (v := v) rfl (by kernel_rfl) (by kernel_rfl) (by kernel_rfl) rfl (fun _ _ _ h => h) (.inl ⟨by rfl, fun _ _ => by go_simp⟩) hS ?_
        simp only [Act.put, List.setIfInBounds_toArray, List.set_cons_zero, List.set_cons_succ]
        refine wpAnyH_done (by kernel_rfl) ?_ _
        go_wp2_with fail
        exact bodyPost_ret (results_c2 Tryd.tasTy rfl _ _ b (tasCells Tas.zero) v rfl rfl HCZ.out.at_ rfl) rfl (HNo.out _ _ HEZ.out hS.below)
  · have HT := Lib.hid h12
    have HNo : Hid (∀ v w', ErrIs w' 2 v → Below w.heap.size w w' → RecReadPost (tasCells y) k w (.returned (.tuple #[.agg (tasCells Tas.zero).toArray, v])) w') := Lib.hid fun v w' h1 h2 => by
      rw [HY.out, HK.out, readT_len (by rw [Array.length_toList]; exact h12)]
      exact ⟨v, rfl, h1, h2⟩
    clear h12
    go_wp2_with fail
    refine (Parse_form wsT s _ _ w1 widthsT HN1.out HT.out).mono ?_
    rintro e w2 ⟨v2, lt, rfl, hc, hb⟩
    obtain ⟨t, x, rfl⟩ := hc.form
    have HCA := Lib.hid hc
    replace HSS := Lib.hid (HSS.out.carry hb)
    clear hc hb HN1
    go_wp2_with fail
    refine wp_region_held (S := RTS w b) (by kernel_rfl) ?_
    change wpAnyH _ _ _ _ _ _ _ _ w2.drew
    obtain ⟨wa, HWA⟩ : ∃ wa, Hid (wa = w2.drew) := ⟨_, Lib.hid rfl⟩
    rw [← HWA.out]
    have hS : RTS w b wa := by rw [HWA.out]; exact HSS.out.drew
    have HCH := Lib.hid (show Chain wa 2 (.iface t x) lt by rw [HWA.out]; exact HCA.out.carry rfl ((Below.refl _ _).drew))
    clear HWA HSS
    refine takeH (i := 0) 23 (v := .agg (tasCells Tas.zero).toArray) rfl (by kernel_rfl) (by kernel_rfl) (by kernel_rfl) rfl (fun _ _ _ h => h) (yieldsIf_c Tryd.tasTy rfl _ rfl (b + 1) 0 rfl (tasCells Tas.zero) rfl (fun _ h => h.none.at_)) hS ?_
    simp only [Act.put, List.setIfInBounds_toArray, List.set_cons_zero, List.set_cons_succ]
    refine takeH (i := 1) 24 (v := .iface t x) rfl (by kernel_rfl) (by kernel_rfl) (by kernel_rfl) rfl (fun _ _ _ h => h) (.inl ⟨by rfl, fun _ _ => by go_simp⟩) hS ?_
    simp only [Act.put, List.setIfInBounds_toArray, List.set_cons_zero, List.set_cons_succ]
    refine oneH (i := 2) (oi := ⟨some 25, _, _, _, _, _⟩) rfl (by kernel_rfl) (fun K0 hK => ?_)
    go_simp
    refine (Tag_chain _ 2 _ lt _ HCH.out).mono ?_
    rintro e wn ⟨rfl, he, hb⟩
    obtain ⟨v, HV⟩ : ∃ v, Hid (v = Value.iface 80 (.pointer (some ⟨wa.heap.size, 0, none⟩))) := ⟨_, Lib.hid rfl⟩
    rw [← HV.out] at he ⊢
    have HE := Lib.hid (show ErrIs wn 2 v from .inr ⟨_, he⟩)
    have hS2 := hS.carry hb
    clear he hb hS
    refine hK.out _ _ hS2 ?_
    clear hK K0
    have hS := hS2
    clear hS2
    try simp only [Act.put, List.setIfInBounds_toArray, List.set_cons_zero, List.set_cons_succ]
    refine oneH (i := 3) (oi := ⟨none, _, _, _, _, _⟩) rfl (by kernel_rfl) (fun K0 hK => ?_)
    rw [if_pos (by rfl)]
    obtain ⟨cs, hcl, ⟨z0, hz0⟩, hcs⟩ := hS.res
    refine wp_store_c Tryd.tasTy _ _ rfl b cs (tasCells Tas.zero) rfl hcl (tasCells_one _) rfl rfl hcs ?_
    intro wz HWZ HCZ
    have hS2 : RTS w b wz := hS.store HWZ.out HCZ.out rfl ⟨_, rfl⟩
    have HEZ := Lib.hid (errIs_cells HE.out HWZ.out (hcs.cell hz0))
    clear hS hcs HE
    refine hK.out _ _ hS2 ?_
    clear hK K0
    have hS := hS2
    clear hS2
    try simp only [Act.put]
    refine takeH (i := 4) 9 (v := v) rfl (by kernel_rfl) (by kernel_rfl) (by kernel_rfl) rfl (fun _ _ _ h => h) (.inl ⟨by rfl, fun _ _ => by go_simp⟩) hS ?_
    simp only [Act.put, List.setIfInBounds_toArray, List.set_cons_zero, List.set_cons_succ]
    refine wpAnyH_done (by kernel_rfl) ?_ _
    go_wp2_with fail
    exact bodyPost_ret (results_c2 Tryd.tasTy rfl _ _ b (tasCells Tas.zero) v rfl rfl HCZ.out.at_ rfl) rfl (HNo.out _ _ HEZ.out hS.below)
set_option maxRecDepth 100000 in
theorem ReadTask_at (s : ByteArray) (w : World) (y : Tas) (k : Int) (hy : y = (readT s.data.toList).getD Tas.zero) (hk : k = if (readT s.data.toList).isSome then 0 else 2) : Calls Tryd.prog 17 #[.string s] w (RecReadPost (tasCells y) k w) := by
  have HY := Lib.hid hy
  have HK := Lib.hid hk
  clear hy hk
  obtain ⟨b, HB⟩ : ∃ b, Hid (b = w.heap.size) := ⟨_, Lib.hid rfl⟩
  go_enter Tryd.func17, Tryd.ntmps17
  go_upto_region 1 with (fail)
  obtain ⟨w1, HW⟩ : ∃ w1, Hid (w1 = w.alloc (.cells #[.int .i64 0, .int .i64 0, .int .i64 0] 42)) := ⟨_, Lib.hid rfl⟩
  rw [← HW.out, ← HB.out]
  have HC1 : Hid (COwn w1 b (tasCells Tas.zero)) := Lib.hid (by rw [HW.out, HB.out]; exact COwn.new (tasCells Tas.zero) _)
  have HB1 : Hid (Below w.heap.size w w1) := Lib.hid (by rw [HW.out]; exact (Below.refl _ _).alloc (Nat.le_refl _) _)
  clear HW
  go_wp2_with fail
  refine (taskWidths_any _).mono ?_
  rintro e w2 ⟨B2, rfl, hn, hb⟩
  have HN2 := Lib.hid hn
  have HC2 := Lib.hid (HC1.out.carry hb (by decide))
  have HB2 := Lib.hid (HB1.out.trans (hb.mono HB1.out.size))
  clear hn hb HC1 HB1
  go_wp2_with fail
  have HYL : Hid ((tasCells y).length = 3) := Lib.hid (by rw [HY.out]; exact rfl)
  refine (readTask_at s B2 w2 y k HY.out HK.out HN2.out).mono ?_
  rintro e w3 ⟨v, rfl, he, hb⟩
  have HE3 := Lib.hid he
  have HC3 := Lib.hid (HC2.out.carry hb (by decide))
  have HB3 := Lib.hid (HB2.out.trans (hb.mono HB2.out.size))
  have hb3 : Hid (b < w3.heap.size) := Lib.hid (HC3.out.lt (by decide))
  clear he hb HC2 HB2 HN2
  go_wp2_with (with_reducible refine stop_at (o := ⟨none, _, _, _, _, _⟩) ?_)
  refine wpList_store_c Tryd.tasTy rfl _ _ rfl b (tasCells Tas.zero) (tasCells y) HYL.out rfl (tasCells_one y) rfl rfl HC3.out ?_
  intro w4 HW4 HC4
  have HB4 : Hid (Below w.heap.size w w4) := Lib.hid (below_cells9 HB3.out HW4.out (by rw [HB.out]; exact Nat.le_refl _))
  have HE4 := Lib.hid (errIs_cells HE3.out HW4.out (HC3.out.cell (j := 0) rfl))
  clear HW4 HC3 HB3 HE3
  go_wp2_with fail
  exact bodyPost_ret (results_c2 Tryd.tasTy rfl _ _ b (tasCells y) v rfl rfl HC4.out.at_ HYL.out) rfl ⟨v, rfl, HE4.out, HB4.out⟩
theorem ReadTask_any (s : ByteArray) (w : World) : Calls Tryd.prog 17 #[.string s] w (RecReadPost (tasCells ((readT s.data.toList).getD Tas.zero)) (if (readT s.data.toList).isSome then 0 else 2) w) := ReadTask_at s w _ _ rfl rfl
end Go.Proofs.YtjjlghdcpkkdhaaDoor
