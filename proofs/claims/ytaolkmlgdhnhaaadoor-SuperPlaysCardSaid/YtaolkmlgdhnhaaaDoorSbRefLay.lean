/-
  The contract of the document's own Lay for layer 7, of a superblock that is right. Conditions: none beyond the premises of each theorem.
-/
import Derived.Test.YtaolkmlgdhnhaaaDoorSb
import Derived.Test.YtaolkmlgdhnhaaaDoorRefs
import Derived.Deep.RegionHeld3
namespace Go.Proofs.YtaolkmlgdhnhaaaDoor
open Go.RowKit

structure RefLaySt (w : World) (b : Nat) (x : Sb) (wr : World) : Prop where
  own : BOwn wr b x
  below : Below w.heap.size w wr
theorem RefLaySt.carry {w wi wj : World} {b : Nat} {x : Sb} (h : RefLaySt w b x wi) (hb : Below wi.heap.size wi wj) : RefLaySt w b x wj :=
  ⟨h.own.below hb h.own.lt, h.below.trans (hb.mono h.below.size)⟩
theorem RefLaySt.drew {w wi : World} {b : Nat} {x : Sb} (h : RefLaySt w b x wi) : RefLaySt w b x wi.drew := ⟨h.own.drew, h.below.drew⟩
/-- a byte in a row of its own -/
def OneAt (w : World) (g : Nat) (c : UInt8) : Prop := w.cell? ⟨g, 0, none⟩ = some (.int .u8 (c.toNat : Int))
theorem OneAt.carry {w w' : World} {g : Nat} {c : UInt8} (h : OneAt w g c) (hb : Below w.heap.size w w') : OneAt w' g c := (hb.cell (below_block h)).trans h
theorem OneAt.text {w : World} {g : Nat} {c : UInt8} (h : OneAt w g c) : (convert 65 9 (.slice (some ⟨g, 0, none⟩) 1 1)).run Tryd.prog w = .ok (.string ⟨#[c]⟩) w := by
  have hr : w.rangeAt g 0 (pgCells (pgB [c])) := fun j v hv => by
    match j, hv with
    | 0, hv =>
      obtain rfl : v = .int .u8 (c.toNat : Int) := by simpa [pgCells, pgB] using hv.symm
      exact h
  exact range_text hr rfl
section
variable {P : Program} {ops : Array Oper} {md : Region.Mode} {Q : Exit → Act → World → Prop} {S : World → Prop}
/-- two operations come up -/
theorem twoH {i j : Nat} {oi oj : Oper} {fuel : Nat} {listed : Array Bool} {a : Act} {w : World} (hi : ops[i]? = some oi) (hj : ops[j]? = some oj) (hr : Region.ready md ops listed = [i, j])
    (h : ∀ K : Act → World → Prop, Hid (∀ a w, S w → wpAnyH P md ops Q S fuel (listed.setIfInBounds i true) a w → K a w) → if Region.wanted oi (yielded ops a.tmps) = true then Oper.wp P oi a w K Q else K (a.put oi.dst undef) w)
    (h' : ∀ K : Act → World → Prop, Hid (∀ a w, S w → wpAnyH P md ops Q S fuel (listed.setIfInBounds j true) a w → K a w) → if Region.wanted oj (yielded ops a.tmps) = true then Oper.wp P oj a w K Q else K (a.put oj.dst undef) w) : wpAnyH P md ops Q S (fuel + 1) listed a w :=
  wpAnyH_ready hr (by simp) (AllReadyH.cons hi (fun K hK => h K (fun a w h1 h2 => hK.out a w h1 fun _ => h2)) (AllReadyH.cons hj (fun K hK => h' K (fun a w h1 h2 => hK.out a w h1 fun _ => h2)) AllReadyH.nil))
end
set_option maxRecDepth 100000 in
set_option maxHeartbeats 4000000 in
theorem RefLaySb_any (x : Sb) (hx : x.Ok) (hr : rightB x = true) (w : World) : Calls Tryd.prog 16 #[sbV x] w fun e w' => e = .returned (.string ⟨(layS x).toArray⟩) ∧ Below w.heap.size w w' := by
  have HX := Lib.hid hx
  obtain ⟨r, hroot, hrlt⟩ := rightB_root hr
  have HRT := Lib.hid hroot
  obtain ⟨g, HG⟩ : ∃ g, Hid (g = x.gen) := ⟨_, Lib.hid rfl⟩
  have HGL : Hid (g < 4294967296) := Lib.hid (by rw [HG.out]; exact hx.gen)
  have hcv1 : IntKind.i64.wrap (g : Int) = (g : Int) := IntWalk.i64_in _ (by have := HGL.out; omega)
  obtain ⟨c, HC⟩ : ∃ c, Hid (c = UInt8.ofNat r) := ⟨_, Lib.hid rfl⟩
  have hcn : r = c.toNat := by rw [HC.out, UInt8.toNat_ofNat']; omega
  have HL : Hid (be 4 g ++ [c] ++ setB x.used = layS x) := Lib.hid (by unfold layS; rw [HC.out, HG.out, hroot, Int.toNat_natCast]; simp)
  clear HC
  subst hcn
  have hcl := c.toNat_lt
  have hcv2 : IntKind.u8.wrap (c.toNat : Int) = (c.toNat : Int) := by show (c.toNat : Int) % 256 = _; omega
  obtain ⟨t, HT⟩ : ∃ t : ByteArray, Hid (t = ⟨(be 4 g).toArray⟩) := ⟨_, Lib.hid rfl⟩
  obtain ⟨u, HU⟩ : ∃ u : ByteArray, Hid (u = ⟨(be 4 g ++ [c]).toArray⟩) := ⟨_, Lib.hid rfl⟩
  obtain ⟨y, HY⟩ : ∃ y : ByteArray, Hid (y = ⟨(layS x).toArray⟩) := ⟨_, Lib.hid rfl⟩
  obtain ⟨q, HQ⟩ : ∃ q : ByteArray, Hid (q = ⟨(setB x.used).toArray⟩) := ⟨_, Lib.hid rfl⟩
  have hcat1 : ∀ w, (Op.stringOp .add t ⟨#[c]⟩).run Tryd.prog w = .ok (.string u) w := fun w => by
    have := run_add_arr (be 4 g) [c] (by simp [be_length]) w
    rw [HT.out, HU.out]
    exact this
  have hcat2 : ∀ w, (Op.stringOp .add u q).run Tryd.prog w = .ok (.string y) w := fun w => by
    have := run_add_arr (be 4 g ++ [c]) (setB x.used) (by simp [setB_length, hx.used.len, be_length]) w
    rw [HL.out] at this
    rw [HU.out, HQ.out, HY.out]
    exact this
  rw [← HY.out]
  obtain ⟨b, HB⟩ : ∃ b, Hid (b = w.heap.size) := ⟨_, Lib.hid rfl⟩
  obtain ⟨w1, HW⟩ : ∃ w1, Hid (w1 = w.alloc (.cells (sbArr x) 25)) := ⟨_, Lib.hid rfl⟩
  have HS : Hid (RefLaySt w b x w1) := Lib.hid ⟨by rw [HW.out, HB.out]; exact BOwn.new _, by rw [HW.out]; exact (Below.refl _ _).alloc (Nat.le_refl _) _⟩
  clear hx hr hroot
  go_enter Tryd.func16, Tryd.ntmps16
  go_upto_region 1 with (fail)
  rw [← HW.out, ← HB.out]
  clear HW
  refine wp_region_held (S := RefLaySt w b x) (by kernel_rfl) ?_
  change wpAnyH _ _ _ _ _ _ _ _ w1.drew
  obtain ⟨wa, HWA⟩ : ∃ wa, Hid (wa = w1.drew) := ⟨_, Lib.hid rfl⟩
  rw [← HWA.out]
  have hS : RefLaySt w b x wa := by rw [HWA.out]; exact HS.out.drew
  clear HWA HS
  refine takeH (i := 0) 3 (v := .pointer (some ⟨b, 0, none⟩)) rfl (by kernel_rfl) (by kernel_rfl) (by kernel_rfl) rfl (fun _ _ _ h => h) (.inl ⟨by rfl, fun _ _ => by go_simp⟩) hS ?_
  simp only [Act.put, List.setIfInBounds_toArray, List.set_cons_zero, List.set_cons_succ]
  refine takeH (i := 1) 4 (v := .int .u32 (g : Int)) rfl (by kernel_rfl) (by kernel_rfl) (by kernel_rfl) rfl (fun _ _ _ h => h) (.inl ⟨by rfl, fun _ h => by have c0 := h.own.gen; rw [← HG.out] at c0; go_simp⟩) hS ?_
  simp only [Act.put, List.setIfInBounds_toArray, List.set_cons_zero, List.set_cons_succ]
  refine takeH (i := 2) 5 (v := .int .i64 (g : Int)) rfl (by kernel_rfl) (by kernel_rfl) (by kernel_rfl) rfl (fun _ _ _ h => h) (.inl ⟨by rfl, fun _ _ => by go_simp⟩) hS ?_
  simp only [Act.put, List.setIfInBounds_toArray, List.set_cons_zero, List.set_cons_succ]
  refine takeH (i := 4) 7 (v := .pointer (some ⟨b, 1, none⟩)) rfl (by kernel_rfl) (by kernel_rfl) (by kernel_rfl) rfl (fun _ _ _ h => h) (.inl ⟨by rfl, fun _ _ => by go_simp⟩) hS ?_
  simp only [Act.put, List.setIfInBounds_toArray, List.set_cons_zero, List.set_cons_succ]
  refine takeH (i := 5) 8 (v := .int .i64 (c.toNat : Int)) rfl (by kernel_rfl) (by kernel_rfl) (by kernel_rfl) rfl (fun _ _ _ h => h) (.inl ⟨by rfl, fun _ h => by have c1 := h.own.root; rw [HRT.out] at c1; go_simp⟩) hS ?_
  simp only [Act.put, List.setIfInBounds_toArray, List.set_cons_zero, List.set_cons_succ]
  refine takeH (i := 6) 9 (v := .int .u8 (c.toNat : Int)) rfl (by kernel_rfl) (by kernel_rfl) (by kernel_rfl) rfl (fun _ _ _ h => h) (.inl ⟨by rfl, fun _ _ => by go_simp⟩) hS ?_
  simp only [Act.put, List.setIfInBounds_toArray, List.set_cons_zero, List.set_cons_succ]
  refine takeH (i := 10) 13 (v := .pointer (some ⟨b, 2, none⟩)) rfl (by kernel_rfl) (by kernel_rfl) (by kernel_rfl) rfl (fun _ _ _ h => h) (.inl ⟨by rfl, fun _ _ => by go_simp⟩) hS ?_
  simp only [Act.put, List.setIfInBounds_toArray, List.set_cons_zero, List.set_cons_succ]
  refine takeH (i := 11) 14 (v := .slice (some ⟨b, 2, none⟩) 30 30) rfl (by kernel_rfl) (by kernel_rfl) (by kernel_rfl) rfl (fun _ _ _ h => h) (.inl ⟨by rfl, fun _ _ => by go_simp⟩) hS ?_
  simp only [Act.put, List.setIfInBounds_toArray, List.set_cons_zero, List.set_cons_succ]
  refine takeH (i := 12) 15 (v := .string q) rfl (by kernel_rfl) (by kernel_rfl) (by kernel_rfl) rfl (fun _ _ _ h => h) (.inl ⟨by rfl, fun _ h => by have ht := set_text (cap := 30) h.own.used HX.out.used.small HX.out.used.len; rw [← HQ.out] at ht; go_simp⟩) hS ?_
  simp only [Act.put, List.setIfInBounds_toArray, List.set_cons_zero, List.set_cons_succ]
  refine twoH (i := 3) (j := 7) (oi := ⟨some 6, _, _, _, _, _⟩) (oj := ⟨some 10, _, _, _, _, _⟩) rfl rfl (by kernel_rfl) (fun K hK => ?_) (fun K hK => ?_)
  · go_simp
    refine (RefPut_nat 4 g _ (by decide) HGL.out).mono ?_
    rw [← HT.out]
    rintro e wn ⟨rfl, hb⟩
    have hS2 := hS.carry hb
    clear hb hS
    refine hK.out _ _ hS2 ?_
    clear hK K
    have hS := hS2
    clear hS2
    try simp only [Act.put, List.setIfInBounds_toArray, List.set_cons_zero, List.set_cons_succ]
    refine oneH (i := 7) (oi := ⟨some 10, _, _, _, _, _⟩) rfl (by kernel_rfl) (fun K hK => ?_)
    go_simp
    obtain ⟨gz, HGZ⟩ : ∃ gz, Hid (gz = wn.heap.size) := ⟨_, Lib.hid rfl⟩
    obtain ⟨wz, HWZ⟩ : ∃ wz, Hid (wz = World.alloc wn (.cells #[.int .u8 (c.toNat : Int)] 5)) := ⟨_, Lib.hid rfl⟩
    rw [← HGZ.out, ← HWZ.out]
    have hS2 : RefLaySt w b x wz := hS.carry (by rw [HWZ.out]; exact (Below.refl _ _).alloc (Nat.le_refl _) _)
    have hO : OneAt wz gz c := by rw [HWZ.out, HGZ.out]; unfold OneAt; simp
    clear HWZ HGZ hS
    refine hK.out _ _ hS2 ?_
    clear hK K
    have hS := hS2
    clear hS2
    try simp only [Act.put, List.setIfInBounds_toArray, List.set_cons_zero, List.set_cons_succ]
    refine oneH (i := 8) (oi := ⟨some 11, _, _, _, _, _⟩) rfl (by kernel_rfl) (fun K hK => ?_)
    have hcv := hO.text
    go_simp
    refine hK.out _ _ hS ?_
    clear hK K hcv
    try simp only [Act.put, List.setIfInBounds_toArray, List.set_cons_zero, List.set_cons_succ]
    refine takeH (i := 9) 12 (v := .string u) rfl (by kernel_rfl) (by kernel_rfl) (by kernel_rfl) rfl (fun _ _ _ h => h) (.inl ⟨by rfl, fun _ _ => by go_simp⟩) hS ?_
    simp only [Act.put, List.setIfInBounds_toArray, List.set_cons_zero, List.set_cons_succ]
    refine takeH (i := 13) 16 (v := .string y) rfl (by kernel_rfl) (by kernel_rfl) (by kernel_rfl) rfl (fun _ _ _ h => h) (.inl ⟨by rfl, fun _ _ => by go_simp⟩) hS ?_
    simp only [Act.put, List.setIfInBounds_toArray, List.set_cons_zero, List.set_cons_succ]
    refine takeH (i := 14) 2 (v := .string y) rfl (by kernel_rfl) (by kernel_rfl) (by kernel_rfl) rfl (fun _ _ _ h => h) (.inl ⟨by rfl, fun _ _ => by go_simp⟩) hS ?_
    simp only [Act.put, List.setIfInBounds_toArray, List.set_cons_zero, List.set_cons_succ]
    refine wpAnyH_done (by kernel_rfl) ?_ _
    go_wp2_with fail
    go_ret
    exact ⟨rfl, hS.below⟩
  · go_simp
    obtain ⟨gz, HGZ⟩ : ∃ gz, Hid (gz = wa.heap.size) := ⟨_, Lib.hid rfl⟩
    obtain ⟨wz, HWZ⟩ : ∃ wz, Hid (wz = World.alloc wa (.cells #[.int .u8 (c.toNat : Int)] 5)) := ⟨_, Lib.hid rfl⟩
    rw [← HGZ.out, ← HWZ.out]
    have hS2 : RefLaySt w b x wz := hS.carry (by rw [HWZ.out]; exact (Below.refl _ _).alloc (Nat.le_refl _) _)
    have hO : OneAt wz gz c := by rw [HWZ.out, HGZ.out]; unfold OneAt; simp
    clear HWZ HGZ hS
    refine hK.out _ _ hS2 ?_
    clear hK K
    have hS := hS2
    clear hS2
    try simp only [Act.put, List.setIfInBounds_toArray, List.set_cons_zero, List.set_cons_succ]
    refine twoH (i := 3) (j := 8) (oi := ⟨some 6, _, _, _, _, _⟩) (oj := ⟨some 11, _, _, _, _, _⟩) rfl rfl (by kernel_rfl) (fun K hK => ?_) (fun K hK => ?_)
    · go_simp
      refine (RefPut_nat 4 g _ (by decide) HGL.out).mono ?_
      rw [← HT.out]
      rintro e wn ⟨rfl, hb⟩
      have hS2 := hS.carry hb
      have hO2 := hO.carry hb
      clear hb hS hO
      refine hK.out _ _ hS2 ?_
      clear hK K
      have hS := hS2
      clear hS2
      have hO := hO2
      clear hO2
      try simp only [Act.put, List.setIfInBounds_toArray, List.set_cons_zero, List.set_cons_succ]
      refine oneH (i := 8) (oi := ⟨some 11, _, _, _, _, _⟩) rfl (by kernel_rfl) (fun K hK => ?_)
      have hcv := hO.text
      go_simp
      refine hK.out _ _ hS ?_
      clear hK K hcv
      try simp only [Act.put, List.setIfInBounds_toArray, List.set_cons_zero, List.set_cons_succ]
      refine takeH (i := 9) 12 (v := .string u) rfl (by kernel_rfl) (by kernel_rfl) (by kernel_rfl) rfl (fun _ _ _ h => h) (.inl ⟨by rfl, fun _ _ => by go_simp⟩) hS ?_
      simp only [Act.put, List.setIfInBounds_toArray, List.set_cons_zero, List.set_cons_succ]
      refine takeH (i := 13) 16 (v := .string y) rfl (by kernel_rfl) (by kernel_rfl) (by kernel_rfl) rfl (fun _ _ _ h => h) (.inl ⟨by rfl, fun _ _ => by go_simp⟩) hS ?_
      simp only [Act.put, List.setIfInBounds_toArray, List.set_cons_zero, List.set_cons_succ]
      refine takeH (i := 14) 2 (v := .string y) rfl (by kernel_rfl) (by kernel_rfl) (by kernel_rfl) rfl (fun _ _ _ h => h) (.inl ⟨by rfl, fun _ _ => by go_simp⟩) hS ?_
      simp only [Act.put, List.setIfInBounds_toArray, List.set_cons_zero, List.set_cons_succ]
      refine wpAnyH_done (by kernel_rfl) ?_ _
      go_wp2_with fail
      go_ret
      exact ⟨rfl, hS.below⟩
    · have hcv := hO.text
      go_simp
      refine hK.out _ _ hS ?_
      clear hK K hcv
      try simp only [Act.put, List.setIfInBounds_toArray, List.set_cons_zero, List.set_cons_succ]
      refine oneH (i := 3) (oi := ⟨some 6, _, _, _, _, _⟩) rfl (by kernel_rfl) (fun K hK => ?_)
      go_simp
      refine (RefPut_nat 4 g _ (by decide) HGL.out).mono ?_
      rw [← HT.out]
      rintro e wn ⟨rfl, hb⟩
      have hS2 := hS.carry hb
      have hO2 := hO.carry hb
      clear hb hS hO
      refine hK.out _ _ hS2 ?_
      clear hK K
      have hS := hS2
      clear hS2
      have hO := hO2
      clear hO2
      try simp only [Act.put, List.setIfInBounds_toArray, List.set_cons_zero, List.set_cons_succ]
      refine takeH (i := 9) 12 (v := .string u) rfl (by kernel_rfl) (by kernel_rfl) (by kernel_rfl) rfl (fun _ _ _ h => h) (.inl ⟨by rfl, fun _ _ => by go_simp⟩) hS ?_
      simp only [Act.put, List.setIfInBounds_toArray, List.set_cons_zero, List.set_cons_succ]
      refine takeH (i := 13) 16 (v := .string y) rfl (by kernel_rfl) (by kernel_rfl) (by kernel_rfl) rfl (fun _ _ _ h => h) (.inl ⟨by rfl, fun _ _ => by go_simp⟩) hS ?_
      simp only [Act.put, List.setIfInBounds_toArray, List.set_cons_zero, List.set_cons_succ]
      refine takeH (i := 14) 2 (v := .string y) rfl (by kernel_rfl) (by kernel_rfl) (by kernel_rfl) rfl (fun _ _ _ h => h) (.inl ⟨by rfl, fun _ _ => by go_simp⟩) hS ?_
      simp only [Act.put, List.setIfInBounds_toArray, List.set_cons_zero, List.set_cons_succ]
      refine wpAnyH_done (by kernel_rfl) ?_ _
      go_wp2_with fail
      go_ret
      exact ⟨rfl, hS.below⟩
end Go.Proofs.YtaolkmlgdhnhaaaDoor
