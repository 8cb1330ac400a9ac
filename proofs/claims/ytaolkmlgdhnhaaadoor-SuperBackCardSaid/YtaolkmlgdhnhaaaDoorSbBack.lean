/-
  The walk of the statement SuperBack: it answers true, and no memory that was there has turned. Conditions: errors.errorType and crc.halved are laid.
-/
import Derived.Test.YtaolkmlgdhnhaaaDoorSbAwake
namespace Go.Proofs.YtaolkmlgdhnhaaaDoor
open Go.RowKit

set_option maxRecDepth 100000 in
set_option maxHeartbeats 4000000 in
theorem back_wrong (x : Sb) (hx : x.Ok) (hr : rightB x = false) (w : World) (hg : Laid2 w) :
    Calls Tryd.prog 3 #[sbV x] w fun e w' => e = .returned (.bool true) ∧ Below w.heap.size w w' := by
  have HX := Lib.hid hx
  have HR := Lib.hid hr
  obtain ⟨b, HB⟩ : ∃ b, Hid (b = w.heap.size) := ⟨_, Lib.hid rfl⟩
  obtain ⟨w1, HW⟩ : ∃ w1, Hid (w1 = w.alloc (.cells (sbArr x) 25)) := ⟨_, Lib.hid rfl⟩
  have HO : Hid (BOwn w1 b x) := Lib.hid (by rw [HW.out, HB.out]; exact BOwn.new _)
  have HBL : Hid (Below w.heap.size w w1) := Lib.hid (by rw [HW.out]; exact (Below.refl _ _).alloc (Nat.le_refl _) _)
  have HGK : Hid (∀ w', Below w.heap.size w w' → Laid2 w') := Lib.hid fun w' h => hg.carry h
  clear hg hx hr
  go_enter Tryd.func3, Tryd.ntmps3
  go_upto_region 1 with (fail)
  rw [← HW.out, ← HB.out]
  clear HW
  go_wp2_with fail
  refine (awake_any _ (HGK.out _ HBL.out)).mono ?_
  rintro e w2 ⟨rfl, hb⟩
  have HO2 := Lib.hid (HO.out.below hb HO.out.lt)
  have HB2 : Hid (Below w.heap.size w w2) := Lib.hid (HBL.out.trans (hb.mono HBL.out.size))
  clear hb HO HBL
  go_wp2_with (with_reducible refine stop_at (o := ⟨some 12, _, _, _, _, _⟩) ?_)
  refine wpList_load_sb Tryd.sbRef (by rfl) _ rfl b rfl x HX.out HO2.out.at_ ?_
  go_wp2_with fail
  refine (Of_any x HX.out _).mono ?_
  rintro e w3 ⟨rfl, hb⟩
  have HO3 := Lib.hid (HO2.out.below hb HO2.out.lt)
  have HB3 : Hid (Below w.heap.size w w3) := Lib.hid (HB2.out.trans (hb.mono HB2.out.size))
  clear hb HO2 HB2
  go_wp2_with fail
  refine (Lay_any x HX.out _).mono ?_
  rintro e w4 ⟨v, rfl, he, hb⟩
  rw [HR.out, if_neg (by decide)] at he
  rw [HR.out, if_neg (by decide)]
  obtain ⟨t, y, rfl⟩ := he.some (by decide)
  have HE4 := Lib.hid he.is
  have HO4 := Lib.hid (HO3.out.below hb HO3.out.lt)
  have HB4 : Hid (Below w.heap.size w w4) := Lib.hid (HB3.out.trans (hb.mono HB3.out.size))
  clear he hb HO3 HB3
  go_wp2_with fail
  refine (Num_any 1 (.iface t y) w4 HE4.out (HGK.out _ HB4.out).err).mono ?_
  rintro e w5 ⟨rfl, hb⟩
  have HE5 := Lib.hid (HE4.out.carry hb)
  have HO5 := Lib.hid (HO4.out.below hb HO4.out.lt)
  have HB5 : Hid (Below w.heap.size w w5) := Lib.hid (HB4.out.trans (hb.mono HB4.out.size))
  clear hb HO4 HB4 HE4
  go_wp2_with fail
  refine (Num_any 1 (.iface t y) w5 HE5.out (HGK.out _ HB5.out).err).mono ?_
  rintro e w6 ⟨rfl, hb⟩
  have HO6 := Lib.hid (HO5.out.below hb HO5.out.lt)
  have HB6 : Hid (Below w.heap.size w w6) := Lib.hid (HB5.out.trans (hb.mono HB5.out.size))
  clear hb HO5 HB5 HE5
  go_wp2_with (with_reducible refine stop_at (o := ⟨some 28, _, _, _, _, _⟩) ?_)
  refine wpList_load_sb Tryd.sbRef (by rfl) _ rfl b rfl x HX.out HO6.out.at_ ?_
  go_wp2_with fail
  refine (Of_any x HX.out _).mono ?_
  rintro e w7 ⟨rfl, hb⟩
  have HB7 : Hid (Below w.heap.size w w7) := Lib.hid (HB6.out.trans (hb.mono HB6.out.size))
  clear hb HB6
  go_wp2_with fail
  refine (Right_any x HX.out _).mono ?_
  rw [HR.out]
  rintro e w8 ⟨rfl, hb⟩
  have HB8 : Hid (Below w.heap.size w w8) := Lib.hid (HB7.out.trans (hb.mono HB7.out.size))
  clear hb HB7
  go_wp2_with fail
  go_ret
  exact ⟨rfl, HB8.out⟩
/-- what stands in memory: the argument, what was read -/
structure SbBackS (w : World) (b c : Nat) (x : Sb) (v : Value) (wr : World) : Prop where
  arg : BOwn wr b x
  got : BOwn wr c x
  err : ErrIs wr 2 v
  below : Below w.heap.size w wr
theorem SbBackS.carry {w : World} {b c : Nat} {x : Sb} {v : Value} {wr w' : World} (h : SbBackS w b c x v wr) (hb : Below wr.heap.size wr w') : SbBackS w b c x v w' :=
  ⟨h.arg.below hb h.arg.lt, h.got.below hb h.got.lt, h.err.carry hb, h.below.trans (hb.mono h.below.size)⟩
theorem SbBackS.drew {w : World} {b c : Nat} {x : Sb} {v : Value} {wr : World} (h : SbBackS w b c x v wr) : SbBackS w b c x v wr.drew :=
  h.carry (Below.refl _ _).drew
theorem size_x (p : ByteArray) : (p ++ ⟨#[120]⟩ : ByteArray).size = p.size + 1 := by rw [ByteArray.size_append]; rfl
set_option maxRecDepth 100000 in
set_option maxHeartbeats 4000000 in
theorem back_right (x : Sb) (hx : x.Ok) (hr : rightB x = true) (w : World) (hg : Laid2 w) :
    Calls Tryd.prog 3 #[sbV x] w fun e w' => e = .returned (.bool true) ∧ Below w.heap.size w w' := by
  have hz := Tryd.sbProg.zero
  have HX := Lib.hid hx
  have HR := Lib.hid hr
  have HRD := Lib.hid (readS_lay hx hr)
  obtain ⟨b, HB⟩ : ∃ b, Hid (b = w.heap.size) := ⟨_, Lib.hid rfl⟩
  obtain ⟨w1, HW⟩ : ∃ w1, Hid (w1 = w.alloc (.cells (sbArr x) 25)) := ⟨_, Lib.hid rfl⟩
  have HO : Hid (BOwn w1 b x) := Lib.hid (by rw [HW.out, HB.out]; exact BOwn.new _)
  have HBL : Hid (Below w.heap.size w w1) := Lib.hid (by rw [HW.out]; exact (Below.refl _ _).alloc (Nat.le_refl _) _)
  have HGK : Hid (∀ w', Below w.heap.size w w' → Laid2 w') := Lib.hid fun w' h => hg.carry h
  clear hg hx hr
  go_enter Tryd.func3, Tryd.ntmps3
  go_upto_region 1 with (fail)
  rw [← HW.out, ← HB.out]
  clear HW
  go_wp2_with fail
  refine (awake_any _ (HGK.out _ HBL.out)).mono ?_
  rintro e w2 ⟨rfl, hb⟩
  have HO2 := Lib.hid (HO.out.below hb HO.out.lt)
  have HB2 : Hid (Below w.heap.size w w2) := Lib.hid (HBL.out.trans (hb.mono HBL.out.size))
  clear hb HO HBL
  go_wp2_with (with_reducible refine stop_at (o := ⟨some 12, _, _, _, _, _⟩) ?_)
  refine wpList_load_sb Tryd.sbRef (by rfl) _ rfl b rfl x HX.out HO2.out.at_ ?_
  go_wp2_with fail
  refine (Of_any x HX.out _).mono ?_
  rintro e w3 ⟨rfl, hb⟩
  have HO3 := Lib.hid (HO2.out.below hb HO2.out.lt)
  have HB3 : Hid (Below w.heap.size w w3) := Lib.hid (HB2.out.trans (hb.mono HB2.out.size))
  clear hb HO2 HB2
  go_wp2_with fail
  refine (Lay_any x HX.out _).mono ?_
  rintro e w4 ⟨v, rfl, he, hb⟩
  rw [HR.out, if_pos rfl] at he
  rw [HR.out, if_pos rfl]
  obtain rfl := he.zero
  have HO4 := Lib.hid (HO3.out.below hb HO3.out.lt)
  have HB4 : Hid (Below w.heap.size w w4) := Lib.hid (HB3.out.trans (hb.mono HB3.out.size))
  obtain ⟨p, HP⟩ : ∃ p : ByteArray, Hid (p = ⟨(layS x).toArray⟩) := ⟨_, Lib.hid rfl⟩
  rw [← HP.out]
  have HPL : Hid (p.data.toList = layS x) := Lib.hid (by rw [HP.out])
  have HPS : Hid (p.size = 35) := Lib.hid (by rw [HP.out, toArr_size, layS_length HX.out])
  clear he hb HO3 HB3
  go_wp2_with fail
  refine (Num_nil _).mono ?_
  rintro e w' ⟨rfl, rfl⟩
  go_wp2_with fail
  refine (SbRead_any p w4).mono ?_
  rintro e w5 ⟨v, rfl, he, hb⟩
  rw [HPL.out, HRD.out] at he ⊢
  obtain rfl := he.zero
  have HO5 := Lib.hid (HO4.out.below hb HO4.out.lt)
  have HB5 : Hid (Below w.heap.size w w5) := Lib.hid (HB4.out.trans (hb.mono HB4.out.size))
  clear he hb HO4 HB4
  rw [show (some x).getD Sb.zero = x from rfl]
  go_wp2_with (with_reducible refine stop_at (o := ⟨none, _, _, _, _, _⟩) ?_)
  refine wpList_store_last rfl _ _ _ rfl (sbArr Sb.zero) (sbArr x) _ rfl rfl rfl (by rw [sbArr_size HX.out]; exact Tryd.sbProg.size) (by rw [sbArr_size HX.out, sbArr_size Sb.Ok.zero]) (sbArr_all _) ?_
  obtain ⟨c, HC⟩ : ∃ c, Hid (c = w5.heap.size) := ⟨_, Lib.hid rfl⟩
  obtain ⟨w6, HW⟩ : ∃ w6, Hid (w6 = w5.alloc (.cells (sbArr x) 33)) := ⟨_, Lib.hid rfl⟩
  rw [← HW.out, ← HC.out]
  have hb6 : Below w5.heap.size w5 w6 := by rw [HW.out]; exact (Below.refl _ _).alloc (Nat.le_refl _) _
  have HO6 := Lib.hid (HO5.out.below hb6 HO5.out.lt)
  have HX6 : Hid (BOwn w6 c x) := Lib.hid (by rw [HW.out, HC.out]; exact BOwn.new _)
  have HB6 : Hid (Below w.heap.size w w6) := Lib.hid (HB5.out.trans (hb6.mono HB5.out.size))
  clear hb6 HW HO5 HB5
  have hps := HPS.out
  have hsum : p.size + (⟨#[120]⟩ : ByteArray).size ≤ maxLen := by rw [hps]; decide
  have hcat : ∀ w, (Op.stringOp .add p ⟨#[120]⟩).run Tryd.prog w = .ok (.string (p ++ ⟨#[120]⟩)) w := fun w => run_string_add_sum w _ _ hsum
  go_wp2_with fail
  refine (SbRead_long _ (by rw [size_x, HPS.out]; decide) w6).mono ?_
  rintro e w7 ⟨v, rfl, he, hb⟩
  rw [readS_long (by rw [lenS, size_x, HPS.out]; decide)] at he ⊢
  obtain ⟨t, y, rfl⟩ := he.some (by decide)
  have HE7 : Hid (ErrFrom w7 w6.heap.size 2 (.iface t y)) := Lib.hid he
  have HO7 := Lib.hid (HO6.out.below hb HO6.out.lt)
  have HX7 := Lib.hid (HX6.out.below hb HX6.out.lt)
  have HB7 : Hid (Below w.heap.size w w7) := Lib.hid (HB6.out.trans (hb.mono HB6.out.size))
  clear he hb HO6 HX6 HB6 hcat hsum hps
  rw [show (none : Option Sb).getD Sb.zero = Sb.zero from rfl]
  go_wp2_with (with_reducible refine stop_at (o := ⟨none, _, _, _, _, _⟩) ?_)
  refine wpList_store_last rfl _ _ _ rfl (sbArr Sb.zero) (sbArr Sb.zero) _ rfl rfl rfl (by rw [sbArr_size Sb.Ok.zero]; exact Tryd.sbProg.size) rfl (sbArr_all _) ?_
  obtain ⟨g, HGG⟩ : ∃ g, Hid (g = w7.heap.size) := ⟨_, Lib.hid rfl⟩
  obtain ⟨w8, HW⟩ : ∃ w8, Hid (w8 = w7.alloc (.cells (sbArr Sb.zero) 33)) := ⟨_, Lib.hid rfl⟩
  rw [← HW.out, ← HGG.out]
  have hb8 : Below w7.heap.size w7 w8 := by rw [HW.out]; exact (Below.refl _ _).alloc (Nat.le_refl _) _
  have HS : Hid (SbBackS w b c x (.iface t y) w8) := Lib.hid ⟨HO7.out.below hb8 HO7.out.lt, HX7.out.below hb8 HX7.out.lt, (HE7.out.below hb8).is, HB7.out.trans (hb8.mono HB7.out.size)⟩
  clear hb8 HW HO7 HX7 HB7 HE7
  have heq := fun w => eql_sb HX.out HX.out w
  rw [decide_eq_true rfl] at heq
  have hgd := guardSb
  go_upto_region 8 with (fail)
  refine wp_region_held (S := SbBackS w b c x (.iface t y)) (by kernel_rfl) ?_
  change wpAnyH _ _ _ _ _ _ _ _ w8.drew
  obtain ⟨wa, HWA⟩ : ∃ wa, Hid (wa = w8.drew) := ⟨_, Lib.hid rfl⟩
  rw [← HWA.out]
  have hS : SbBackS w b c x (.iface t y) wa := by rw [HWA.out]; exact HS.out.drew
  clear HWA HS
  refine takeH (i := 0) 44 (v := .nilIface) rfl (by kernel_rfl) (by kernel_rfl) (by kernel_rfl) rfl (fun _ _ _ h => h) (.inl ⟨by rfl, fun _ _ => by go_simp⟩) hS ?_
  simp only [Act.put, List.setIfInBounds_toArray, List.set_cons_zero, List.set_cons_succ]
  refine oneH (i := 1) (oi := ⟨some 45, _, _, _, _, _⟩) rfl (by kernel_rfl) (fun K hK => ?_)
  go_simp
  refine (Num_nil _).mono ?_
  rintro e wn ⟨rfl, rfl⟩
  refine hK.out _ _ hS ?_
  clear hK K
  refine takeH (i := 2) 46 (v := .bool true) rfl (by kernel_rfl) (by kernel_rfl) (by kernel_rfl) rfl (fun _ _ _ h => h) (.inl ⟨by rfl, fun _ _ => by go_simp⟩) hS ?_
  simp only [Act.put, List.setIfInBounds_toArray, List.set_cons_zero, List.set_cons_succ]
  refine takeH (i := 3) 47 (v := .bool true) rfl (by kernel_rfl) (by kernel_rfl) (by kernel_rfl) rfl (fun _ _ _ h => h) (.inl ⟨by rfl, fun _ _ => by go_simp⟩) hS ?_
  simp only [Act.put, List.setIfInBounds_toArray, List.set_cons_zero, List.set_cons_succ]
  refine takeH (i := 4) 48 (v := sbV x) rfl (by kernel_rfl) (by kernel_rfl) (by kernel_rfl) rfl (fun _ _ _ h => h) (yieldsIf_sb Tryd.sbProg (by rfl) _ rfl c rfl x HX.out (fun _ h => h.got.at_)) hS ?_
  simp only [Act.put, List.setIfInBounds_toArray, List.set_cons_zero, List.set_cons_succ]
  refine takeH (i := 6) 50 (v := sbV x) rfl (by kernel_rfl) (by kernel_rfl) (by kernel_rfl) rfl (fun _ _ _ h => h) (yieldsIf_sb Tryd.sbRef (by rfl) _ rfl b rfl x HX.out (fun _ h => h.arg.at_)) hS ?_
  simp only [Act.put, List.setIfInBounds_toArray, List.set_cons_zero, List.set_cons_succ]
  refine oneH (i := 5) (oi := ⟨some 49, _, _, _, _, _⟩) rfl (by kernel_rfl) (fun K hK => ?_)
  rw [if_pos (by rfl)]
  go_simp
  refine (Plain_any x HX.out _).mono ?_
  rintro e wn ⟨rfl, hb⟩
  have hS2 := hS.carry hb
  clear hb hS
  refine hK.out _ _ hS2 ?_
  clear hK K
  have hS := hS2
  clear hS2
  refine takeH (i := 7) 51 (v := .bool true) rfl (by kernel_rfl) (by kernel_rfl) (by kernel_rfl) rfl (fun _ _ _ h => h) (.inl ⟨by rfl, fun _ _ => by go_simp⟩) hS ?_
  simp only [Act.put, List.setIfInBounds_toArray, List.set_cons_zero, List.set_cons_succ]
  refine takeH (i := 8) 52 (v := .bool true) rfl (by kernel_rfl) (by kernel_rfl) (by kernel_rfl) rfl (fun _ _ _ h => h) (.inl ⟨by rfl, fun _ _ => by go_simp⟩) hS ?_
  simp only [Act.put, List.setIfInBounds_toArray, List.set_cons_zero, List.set_cons_succ]
  refine takeH (i := 9) 53 (v := .bool true) rfl (by kernel_rfl) (by kernel_rfl) (by kernel_rfl) rfl (fun _ _ _ h => h) (.inl ⟨by rfl, fun _ _ => by go_simp⟩) hS ?_
  simp only [Act.put, List.setIfInBounds_toArray, List.set_cons_zero, List.set_cons_succ]
  refine takeH (i := 10) 54 (v := sbV x) rfl (by kernel_rfl) (by kernel_rfl) (by kernel_rfl) rfl (fun _ _ _ h => h) (yieldsIf_sb Tryd.sbProg (by rfl) _ rfl c rfl x HX.out (fun _ h => h.got.at_)) hS ?_
  simp only [Act.put, List.setIfInBounds_toArray, List.set_cons_zero, List.set_cons_succ]
  refine oneH (i := 11) (oi := ⟨some 55, _, _, _, _, _⟩) rfl (by kernel_rfl) (fun K hK => ?_)
  rw [if_pos (by rfl)]
  go_simp
  refine (Right_any x HX.out _).mono ?_
  rw [HR.out]
  rintro e wn ⟨rfl, hb⟩
  have hS2 := hS.carry hb
  clear hb hS
  refine hK.out _ _ hS2 ?_
  clear hK K
  have hS := hS2
  clear hS2
  refine takeH (i := 12) 56 (v := .bool true) rfl (by kernel_rfl) (by kernel_rfl) (by kernel_rfl) rfl (fun _ _ _ h => h) (.inl ⟨by rfl, fun _ _ => by go_simp⟩) hS ?_
  simp only [Act.put, List.setIfInBounds_toArray, List.set_cons_zero, List.set_cons_succ]
  refine takeH (i := 13) 57 (v := .bool true) rfl (by kernel_rfl) (by kernel_rfl) (by kernel_rfl) rfl (fun _ _ _ h => h) (.inl ⟨by rfl, fun _ _ => by go_simp⟩) hS ?_
  simp only [Act.put, List.setIfInBounds_toArray, List.set_cons_zero, List.set_cons_succ]
  refine takeH (i := 14) 58 (v := .iface t y) rfl (by kernel_rfl) (by kernel_rfl) (by kernel_rfl) rfl (fun _ _ _ h => h) (.inl ⟨by rfl, fun _ _ => by go_simp⟩) hS ?_
  simp only [Act.put, List.setIfInBounds_toArray, List.set_cons_zero, List.set_cons_succ]
  refine oneH (i := 15) (oi := ⟨some 59, _, _, _, _, _⟩) rfl (by kernel_rfl) (fun K hK => ?_)
  rw [if_pos (by rfl)]
  go_simp
  refine (Num_any 2 _ _ hS.err (HGK.out _ hS.below).err).mono ?_
  rintro e wn ⟨rfl, hb⟩
  have hS2 := hS.carry hb
  clear hb hS
  refine hK.out _ _ hS2 ?_
  clear hK K
  have hS := hS2
  clear hS2
  refine takeH (i := 16) 60 (v := .bool true) rfl (by kernel_rfl) (by kernel_rfl) (by kernel_rfl) rfl (fun _ _ _ h => h) (.inl ⟨by rfl, fun _ _ => by go_simp⟩) hS ?_
  simp only [Act.put, List.setIfInBounds_toArray, List.set_cons_zero, List.set_cons_succ]
  refine takeH (i := 17) 61 (v := .bool true) rfl (by kernel_rfl) (by kernel_rfl) (by kernel_rfl) rfl (fun _ _ _ h => h) (.inl ⟨by rfl, fun _ _ => by go_simp⟩) hS ?_
  simp only [Act.put, List.setIfInBounds_toArray, List.set_cons_zero, List.set_cons_succ]
  refine takeH (i := 18) 2 (v := .bool true) rfl (by kernel_rfl) (by kernel_rfl) (by kernel_rfl) rfl (fun _ _ _ h => h) (.inl ⟨by rfl, fun _ _ => by go_simp⟩) hS ?_
  simp only [Act.put, List.setIfInBounds_toArray, List.set_cons_zero, List.set_cons_succ]
  refine wpAnyH_done (by kernel_rfl) ?_ _
  go_wp2_with fail
  go_ret
  exact ⟨rfl, hS.below⟩
theorem back_walk (x : Sb) (hx : x.Ok) (w : World) (hg : Laid2 w) :
    Calls Tryd.prog 3 #[sbV x] w fun e w' => e = .returned (.bool true) ∧ Below w.heap.size w w' := by
  cases hr : rightB x with
  | false => exact back_wrong x hx hr w hg
  | true => exact back_right x hx hr w hg
end Go.Proofs.YtaolkmlgdhnhaaaDoor
