/-
  The walk of the statement SuperPlays: it answers true, and no memory that was there has turned. Conditions: errors.errorType and crc.halved are laid.
-/
import Derived.Test.YtaolkmlgdhnhaaaDoorSb
import Derived.Test.YtaolkmlgdhnhaaaDoorSbRefLay
namespace Go.Proofs.YtaolkmlgdhnhaaaDoor
open Go.RowKit

set_option maxRecDepth 100000 in
set_option maxHeartbeats 4000000 in
theorem plays_long (x : Sb) (s : ByteArray) (hl : 200 < s.size) (w : World) (hg : Laid2 w) :
    Calls Tryd.prog 4 #[sbV x, .string s] w fun e w' => e = .returned (.bool true) ∧ Below w.heap.size w w' := by
  obtain ⟨b, HB⟩ : ∃ b, Hid (b = w.heap.size) := ⟨_, Lib.hid rfl⟩
  obtain ⟨w1, HW⟩ : ∃ w1, Hid (w1 = w.alloc (.cells (sbArr x) 25)) := ⟨_, Lib.hid rfl⟩
  have HBL : Hid (Below w.heap.size w w1) := Lib.hid (by rw [HW.out]; exact (Below.refl _ _).alloc (Nat.le_refl _) _)
  have HGK : Hid (∀ w', Below w.heap.size w w' → Laid2 w') := Lib.hid fun w' h => hg.carry h
  have hd : decide ((200 : Int) < (s.size : Int)) = true := by simp; omega
  clear hg
  go_enter Tryd.func4, Tryd.ntmps4
  go_upto_region 1 with (fail)
  rw [← HW.out, ← HB.out]
  clear HW
  go_wp2_with fail
  refine (awake_any _ (HGK.out _ HBL.out)).mono ?_
  rintro e w2 ⟨rfl, hb⟩
  have HB2 : Hid (Below w.heap.size w w2) := Lib.hid (HBL.out.trans (hb.mono HBL.out.size))
  clear hb HBL
  go_wp2_with fail
  refine (awake_any _ (HGK.out _ HB2.out)).mono ?_
  rintro e w3 ⟨rfl, hb⟩
  have HB3 : Hid (Below w.heap.size w w3) := Lib.hid (HB2.out.trans (hb.mono HB2.out.size))
  clear hb HB2
  go_wp2_with fail
  go_ret
  exact ⟨rfl, HB3.out⟩
/-- what stands in memory: what the program read, what the document reads -/
structure SbPlaysS (w : World) (b c : Nat) (y : Sb) (k : Int) (v : Value) (wr : World) : Prop where
  got : BOwn wr b y
  doc : BOwn wr c y
  err : ErrIs wr k v
  below : Below w.heap.size w wr
theorem SbPlaysS.carry {w : World} {b c : Nat} {y : Sb} {k : Int} {v : Value} {wr w' : World} (h : SbPlaysS w b c y k v wr) (hb : Below wr.heap.size wr w') : SbPlaysS w b c y k v w' :=
  ⟨h.got.below hb h.got.lt, h.doc.below hb h.doc.lt, h.err.carry hb, h.below.trans (hb.mono h.below.size)⟩
theorem SbPlaysS.drew {w : World} {b c : Nat} {y : Sb} {k : Int} {v : Value} {wr : World} (h : SbPlaysS w b c y k v wr) : SbPlaysS w b c y k v wr.drew := h.carry (Below.refl _ _).drew
set_option maxRecDepth 100000 in
set_option maxHeartbeats 4000000 in
theorem plays_right_some (x : Sb) (s : ByteArray) (hx : x.Ok) (hr : rightB x = true) (hl : s.size ≤ 200) (y : Sb) (hread : readS s.data.toList = some y) (w : World) (hg : Laid2 w) :
    Calls Tryd.prog 4 #[sbV x, .string s] w fun e w' => e = .returned (.bool true) ∧ Below w.heap.size w w' := by
  have hz := Tryd.sbProg.zero
  have hz2 := Tryd.sbRef.zero
  have HX := Lib.hid hx
  have HR := Lib.hid hr
  have HRD := Lib.hid hread
  have HYO : Hid y.Ok := Lib.hid ((readS_some hread).1)
  have hd : decide ((200 : Int) < (s.size : Int)) = false := by simp; omega
  obtain ⟨b, HB⟩ : ∃ b, Hid (b = w.heap.size) := ⟨_, Lib.hid rfl⟩
  obtain ⟨w1, HW⟩ : ∃ w1, Hid (w1 = w.alloc (.cells (sbArr x) 25)) := ⟨_, Lib.hid rfl⟩
  have HS : Hid (RefLaySt w b x w1) := Lib.hid ⟨by rw [HW.out, HB.out]; exact BOwn.new _, by rw [HW.out]; exact (Below.refl _ _).alloc (Nat.le_refl _) _⟩
  have HGK : Hid (∀ w', Below w.heap.size w w' → Laid2 w') := Lib.hid fun w' h => hg.carry h
  clear hg hx hr hl hread 
  go_enter Tryd.func4, Tryd.ntmps4
  go_upto_region 1 with (fail)
  rw [← HW.out, ← HB.out]
  clear HW
  go_wp2_with fail
  refine (awake_any _ (HGK.out _ HS.out.below)).mono ?_
  rintro e w2 ⟨rfl, hb⟩
  have HS2 := Lib.hid (HS.out.carry hb)
  clear hb HS
  go_wp2_with (with_reducible refine stop_at (o := ⟨some 21, _, _, _, _, _⟩) ?_)
  refine wpList_load_sb Tryd.sbRef (by rfl) _ rfl b rfl x HX.out HS2.out.own.at_ ?_
  go_wp2_with fail
  refine (Of_any x HX.out _).mono ?_
  rintro e w3 ⟨rfl, hb⟩
  have HS3 := Lib.hid (HS2.out.carry hb)
  clear hb HS2
  go_wp2_with fail
  refine (Lay_any x HX.out _).mono ?_
  rintro e w4 ⟨v, rfl, he, hb⟩
  rw [HR.out, if_pos rfl] at he
  rw [HR.out, if_pos rfl]
  obtain rfl := he.zero
  obtain ⟨p, HP⟩ : ∃ p : ByteArray, Hid (p = ⟨(layS x).toArray⟩) := ⟨_, Lib.hid rfl⟩
  rw [← HP.out]
  have HS4 := Lib.hid (HS3.out.carry hb)
  clear he hb HS3
  go_wp2_with (with_reducible refine stop_at (o := ⟨some 26, _, _, _, _, _⟩) ?_)
  refine wpList_load_sb Tryd.sbRef (by rfl) _ rfl b rfl x HX.out HS4.out.own.at_ ?_
  go_wp2_with fail
  refine (RefRight_any x HX.out _).mono ?_
  rw [HR.out]
  rintro e w5 ⟨rfl, hb⟩
  have HS5 := Lib.hid (HS4.out.carry hb)
  clear hb HS4
  go_wp2_with (with_reducible refine stop_at (o := ⟨some 28, _, _, _, _, _⟩) ?_)
  refine wpList_load_sb Tryd.sbRef (by rfl) _ rfl b rfl x HX.out HS5.out.own.at_ ?_
  go_wp2_with fail
  refine (Of_any x HX.out _).mono ?_
  rintro e w6 ⟨rfl, hb⟩
  have HS6 := Lib.hid (HS5.out.carry hb)
  clear hb HS5
  go_wp2_with fail
  refine (Right_any x HX.out _).mono ?_
  rw [HR.out]
  rintro e w7 ⟨rfl, hb⟩
  have HS7 := Lib.hid (HS6.out.carry hb)
  clear hb HS6
  go_wp2_with fail
  refine (Num_nil _).mono ?_
  rintro e w' ⟨rfl, rfl⟩
  go_wp2_with (with_reducible refine stop_at (o := ⟨some 44, _, _, _, _, _⟩) ?_)
  refine wpList_load_sb Tryd.sbRef (by rfl) _ rfl b rfl x HX.out HS7.out.own.at_ ?_
  go_wp2_with fail
  refine (RefLaySb_any x HX.out HR.out _).mono ?_
  rw [← HP.out]
  rintro e w8 ⟨rfl, hb⟩
  have HS8 := Lib.hid (HS7.out.carry hb)
  clear hb HS7
  go_wp2_with fail
  refine (SbRead_any s w8).mono ?_
  rintro e w9 ⟨v, rfl, he, hb⟩
  rw [HRD.out] at he ⊢
  obtain rfl := he.zero
  rw [show (some y).getD Sb.zero = y from rfl]
  have HB9 : Hid (Below w.heap.size w w9) := Lib.hid (HS8.out.below.trans (hb.mono HS8.out.below.size))
  clear he hb HS8
  go_wp2_with (with_reducible refine stop_at (o := ⟨none, _, _, _, _, _⟩) ?_)
  refine wpList_store_last rfl _ _ _ rfl (sbArr Sb.zero) (sbArr y) _ rfl rfl rfl (by rw [sbArr_size HYO.out]; exact Tryd.sbProg.size) (by rw [sbArr_size HYO.out, sbArr_size Sb.Ok.zero]) (sbArr_all _) ?_
  obtain ⟨c, HC⟩ : ∃ c, Hid (c = w9.heap.size) := ⟨_, Lib.hid rfl⟩
  obtain ⟨w10, HW⟩ : ∃ w10, Hid (w10 = w9.alloc (.cells (sbArr y) 33)) := ⟨_, Lib.hid rfl⟩
  rw [← HW.out, ← HC.out]
  have hb10 : Below w9.heap.size w9 w10 := by rw [HW.out]; exact (Below.refl _ _).alloc (Nat.le_refl _) _
  have HO10 : Hid (BOwn w10 c y) := Lib.hid (by rw [HW.out, HC.out]; exact BOwn.new _)
  have HB10 : Hid (Below w.heap.size w w10) := Lib.hid (HB9.out.trans (hb10.mono HB9.out.size))
  clear hb10 HW HB9
  go_wp2_with fail
  refine (RefSb_any s w10).mono ?_
  rintro e w11 ⟨rfl, hb⟩
  rw [HRD.out]
  rw [show (some y).getD Sb.zero = y from rfl]
  have HO11 := Lib.hid (HO10.out.below hb HO10.out.lt)
  have HB11 : Hid (Below w.heap.size w w11) := Lib.hid (HB10.out.trans (hb.mono HB10.out.size))
  clear hb HO10 HB10
  go_wp2_with (with_reducible refine stop_at (o := ⟨none, _, _, _, _, _⟩) ?_)
  refine wpList_store_last rfl _ _ _ rfl (sbArr Sb.zero) (sbArr y) _ rfl rfl rfl (by rw [sbArr_size HYO.out]; exact Tryd.sbRef.size) (by rw [sbArr_size HYO.out, sbArr_size Sb.Ok.zero]) (sbArr_all _) ?_
  obtain ⟨d, HD⟩ : ∃ d, Hid (d = w11.heap.size) := ⟨_, Lib.hid rfl⟩
  obtain ⟨w12, HW⟩ : ∃ w12, Hid (w12 = w11.alloc (.cells (sbArr y) 25)) := ⟨_, Lib.hid rfl⟩
  rw [← HW.out, ← HD.out]
  have hb12 : Below w11.heap.size w11 w12 := by rw [HW.out]; exact (Below.refl _ _).alloc (Nat.le_refl _) _
  have HST : Hid (SbPlaysS w c d y 0 .nilIface w12) := Lib.hid ⟨HO11.out.below hb12 HO11.out.lt, by rw [HW.out, HD.out]; exact BOwn.new _, .nil _, HB11.out.trans (hb12.mono HB11.out.size)⟩
  clear hb12 HW HO11 HB11
  have heq := fun w => eql_sb HYO.out HYO.out w
  rw [decide_eq_true rfl] at heq
  have hgd := guardSb
  go_upto_region 9 with (fail)
  refine wp_region_held (S := SbPlaysS w c d y 0 .nilIface) (by kernel_rfl) ?_
  change wpAnyH _ _ _ _ _ _ _ _ w12.drew
  obtain ⟨wa, HWA⟩ : ∃ wa, Hid (wa = w12.drew) := ⟨_, Lib.hid rfl⟩
  rw [← HWA.out]
  have hS : SbPlaysS w c d y 0 .nilIface wa := by rw [HWA.out]; exact HST.out.drew
  clear HWA HST
  refine takeH (i := 0) 59 (v := sbV y) rfl (by kernel_rfl) (by kernel_rfl) (by kernel_rfl) rfl (fun _ _ _ h => h) (yieldsIf_sb Tryd.sbProg (by rfl) _ rfl c rfl y HYO.out (fun _ h => h.got.at_)) hS ?_
  simp only [Act.put, List.setIfInBounds_toArray, List.set_cons_zero, List.set_cons_succ]
  refine takeH (i := 2) 61 (v := sbV y) rfl (by kernel_rfl) (by kernel_rfl) (by kernel_rfl) rfl (fun _ _ _ h => h) (yieldsIf_sb Tryd.sbRef (by rfl) _ rfl d rfl y HYO.out (fun _ h => h.doc.at_)) hS ?_
  simp only [Act.put, List.setIfInBounds_toArray, List.set_cons_zero, List.set_cons_succ]
  refine oneH (i := 1) (oi := ⟨some 60, _, _, _, _, _⟩) rfl (by kernel_rfl) (fun K hK => ?_)
  go_simp
  refine (Plain_any y HYO.out _).mono ?_
  rintro e wn ⟨rfl, hb⟩
  have hS2 := hS.carry hb
  clear hb hS
  refine hK.out _ _ hS2 ?_
  clear hK K
  have hS := hS2
  clear hS2
  refine takeH (i := 3) 62 (v := .bool true) rfl (by kernel_rfl) (by kernel_rfl) (by kernel_rfl) rfl (fun _ _ _ h => h) (.inl ⟨by rfl, fun _ _ => by go_simp⟩) hS ?_
  simp only [Act.put, List.setIfInBounds_toArray, List.set_cons_zero, List.set_cons_succ]
  refine takeH (i := 4) 63 (v := .bool true) rfl (by kernel_rfl) (by kernel_rfl) (by kernel_rfl) rfl (fun _ _ _ h => h) (.inl ⟨by rfl, fun _ _ => by go_simp⟩) hS ?_
  simp only [Act.put, List.setIfInBounds_toArray, List.set_cons_zero, List.set_cons_succ]
  refine takeH (i := 5) 64 (v := .bool true) rfl (by kernel_rfl) (by kernel_rfl) (by kernel_rfl) rfl (fun _ _ _ h => h) (.inl ⟨by rfl, fun _ _ => by go_simp⟩) hS ?_
  simp only [Act.put, List.setIfInBounds_toArray, List.set_cons_zero, List.set_cons_succ]
  refine takeH (i := 6) 65 (v := .nilIface) rfl (by kernel_rfl) (by kernel_rfl) (by kernel_rfl) rfl (fun _ _ _ h => h) (.inl ⟨by rfl, fun _ _ => by go_simp⟩) hS ?_
  simp only [Act.put, List.setIfInBounds_toArray, List.set_cons_zero, List.set_cons_succ]
  refine oneH (i := 7) (oi := ⟨some 66, _, _, _, _, _⟩) rfl (by kernel_rfl) (fun K hK => ?_)
  rw [if_pos (by rfl)]
  go_simp
  refine (Num_nil _).mono ?_
  rintro e wn ⟨rfl, rfl⟩
  refine hK.out _ _ hS ?_
  clear hK K
  refine takeH (i := 8) 67 (v := .bool true) rfl (by kernel_rfl) (by kernel_rfl) (by kernel_rfl) rfl (fun _ _ _ h => h) (.inl ⟨by rfl, fun _ _ => by go_simp⟩) hS ?_
  simp only [Act.put, List.setIfInBounds_toArray, List.set_cons_zero, List.set_cons_succ]
  refine takeH (i := 9) 68 (v := .bool true) rfl (by kernel_rfl) (by kernel_rfl) (by kernel_rfl) rfl (fun _ _ _ h => h) (.inl ⟨by rfl, fun _ _ => by go_simp⟩) hS ?_
  simp only [Act.put, List.setIfInBounds_toArray, List.set_cons_zero, List.set_cons_succ]
  refine takeH (i := 10) 69 (v := .bool true) rfl (by kernel_rfl) (by kernel_rfl) (by kernel_rfl) rfl (fun _ _ _ h => h) (.inl ⟨by rfl, fun _ _ => by go_simp⟩) hS ?_
  simp only [Act.put, List.setIfInBounds_toArray, List.set_cons_zero, List.set_cons_succ]
  refine takeH (i := 11) 70 (v := .bool true) rfl (by kernel_rfl) (by kernel_rfl) (by kernel_rfl) rfl (fun _ _ _ h => h) (.inl ⟨by rfl, fun _ _ => by go_simp⟩) hS ?_
  simp only [Act.put, List.setIfInBounds_toArray, List.set_cons_zero, List.set_cons_succ]
  refine takeH (i := 12) 71 (v := .bool true) rfl (by kernel_rfl) (by kernel_rfl) (by kernel_rfl) rfl (fun _ _ _ h => h) (.inl ⟨by rfl, fun _ _ => by go_simp⟩) hS ?_
  simp only [Act.put, List.setIfInBounds_toArray, List.set_cons_zero, List.set_cons_succ]
  refine takeH (i := 13) 72 (v := .bool true) rfl (by kernel_rfl) (by kernel_rfl) (by kernel_rfl) rfl (fun _ _ _ h => h) (.inl ⟨by rfl, fun _ _ => by go_simp⟩) hS ?_
  simp only [Act.put, List.setIfInBounds_toArray, List.set_cons_zero, List.set_cons_succ]
  refine takeH (i := 14) 73 (v := undef) rfl (by kernel_rfl) (by kernel_rfl) (by kernel_rfl) rfl (fun _ _ _ h => h) (.inr ⟨by rfl, rfl⟩) hS ?_
  simp only [Act.put, List.setIfInBounds_toArray, List.set_cons_zero, List.set_cons_succ]
  refine takeH (i := 15) 74 (v := undef) rfl (by kernel_rfl) (by kernel_rfl) (by kernel_rfl) rfl (fun _ _ _ h => h) (.inr ⟨by rfl, rfl⟩) hS ?_
  simp only [Act.put, List.setIfInBounds_toArray, List.set_cons_zero, List.set_cons_succ]
  refine takeH (i := 16) 75 (v := undef) rfl (by kernel_rfl) (by kernel_rfl) (by kernel_rfl) rfl (fun _ _ _ h => h) (.inr ⟨by rfl, rfl⟩) hS ?_
  simp only [Act.put, List.setIfInBounds_toArray, List.set_cons_zero, List.set_cons_succ]
  refine takeH (i := 17) 76 (v := .bool true) rfl (by kernel_rfl) (by kernel_rfl) (by kernel_rfl) rfl (fun _ _ _ h => h) (.inl ⟨by rfl, fun _ _ => by go_simp⟩) hS ?_
  simp only [Act.put, List.setIfInBounds_toArray, List.set_cons_zero, List.set_cons_succ]
  refine takeH (i := 18) 77 (v := .bool true) rfl (by kernel_rfl) (by kernel_rfl) (by kernel_rfl) rfl (fun _ _ _ h => h) (.inl ⟨by rfl, fun _ _ => by go_simp⟩) hS ?_
  simp only [Act.put, List.setIfInBounds_toArray, List.set_cons_zero, List.set_cons_succ]
  refine takeH (i := 19) 4 (v := .bool true) rfl (by kernel_rfl) (by kernel_rfl) (by kernel_rfl) rfl (fun _ _ _ h => h) (.inl ⟨by rfl, fun _ _ => by go_simp⟩) hS ?_
  simp only [Act.put, List.setIfInBounds_toArray, List.set_cons_zero, List.set_cons_succ]
  refine wpAnyH_done (by kernel_rfl) ?_ _
  go_wp2_with fail
  go_ret
  exact ⟨rfl, hS.below⟩
set_option maxRecDepth 100000 in
set_option maxHeartbeats 4000000 in
theorem plays_right_none (x : Sb) (s : ByteArray) (hx : x.Ok) (hr : rightB x = true) (hl : s.size ≤ 200) (y : Sb) (hread : readS s.data.toList = none) (hy0 : y = Sb.zero) (w : World) (hg : Laid2 w) :
    Calls Tryd.prog 4 #[sbV x, .string s] w fun e w' => e = .returned (.bool true) ∧ Below w.heap.size w w' := by
  have hz := Tryd.sbProg.zero
  have hz2 := Tryd.sbRef.zero
  have HX := Lib.hid hx
  have HR := Lib.hid hr
  have HRD := Lib.hid hread
  have HYO : Hid y.Ok := Lib.hid (by rw [hy0]; exact Sb.Ok.zero)
  have HY0 := Lib.hid hy0
  have hd : decide ((200 : Int) < (s.size : Int)) = false := by simp; omega
  obtain ⟨b, HB⟩ : ∃ b, Hid (b = w.heap.size) := ⟨_, Lib.hid rfl⟩
  obtain ⟨w1, HW⟩ : ∃ w1, Hid (w1 = w.alloc (.cells (sbArr x) 25)) := ⟨_, Lib.hid rfl⟩
  have HS : Hid (RefLaySt w b x w1) := Lib.hid ⟨by rw [HW.out, HB.out]; exact BOwn.new _, by rw [HW.out]; exact (Below.refl _ _).alloc (Nat.le_refl _) _⟩
  have HGK : Hid (∀ w', Below w.heap.size w w' → Laid2 w') := Lib.hid fun w' h => hg.carry h
  clear hg hx hr hl hread hy0
  go_enter Tryd.func4, Tryd.ntmps4
  go_upto_region 1 with (fail)
  rw [← HW.out, ← HB.out]
  clear HW
  go_wp2_with fail
  refine (awake_any _ (HGK.out _ HS.out.below)).mono ?_
  rintro e w2 ⟨rfl, hb⟩
  have HS2 := Lib.hid (HS.out.carry hb)
  clear hb HS
  go_wp2_with (with_reducible refine stop_at (o := ⟨some 21, _, _, _, _, _⟩) ?_)
  refine wpList_load_sb Tryd.sbRef (by rfl) _ rfl b rfl x HX.out HS2.out.own.at_ ?_
  go_wp2_with fail
  refine (Of_any x HX.out _).mono ?_
  rintro e w3 ⟨rfl, hb⟩
  have HS3 := Lib.hid (HS2.out.carry hb)
  clear hb HS2
  go_wp2_with fail
  refine (Lay_any x HX.out _).mono ?_
  rintro e w4 ⟨v, rfl, he, hb⟩
  rw [HR.out, if_pos rfl] at he
  rw [HR.out, if_pos rfl]
  obtain rfl := he.zero
  obtain ⟨p, HP⟩ : ∃ p : ByteArray, Hid (p = ⟨(layS x).toArray⟩) := ⟨_, Lib.hid rfl⟩
  rw [← HP.out]
  have HS4 := Lib.hid (HS3.out.carry hb)
  clear he hb HS3
  go_wp2_with (with_reducible refine stop_at (o := ⟨some 26, _, _, _, _, _⟩) ?_)
  refine wpList_load_sb Tryd.sbRef (by rfl) _ rfl b rfl x HX.out HS4.out.own.at_ ?_
  go_wp2_with fail
  refine (RefRight_any x HX.out _).mono ?_
  rw [HR.out]
  rintro e w5 ⟨rfl, hb⟩
  have HS5 := Lib.hid (HS4.out.carry hb)
  clear hb HS4
  go_wp2_with (with_reducible refine stop_at (o := ⟨some 28, _, _, _, _, _⟩) ?_)
  refine wpList_load_sb Tryd.sbRef (by rfl) _ rfl b rfl x HX.out HS5.out.own.at_ ?_
  go_wp2_with fail
  refine (Of_any x HX.out _).mono ?_
  rintro e w6 ⟨rfl, hb⟩
  have HS6 := Lib.hid (HS5.out.carry hb)
  clear hb HS5
  go_wp2_with fail
  refine (Right_any x HX.out _).mono ?_
  rw [HR.out]
  rintro e w7 ⟨rfl, hb⟩
  have HS7 := Lib.hid (HS6.out.carry hb)
  clear hb HS6
  go_wp2_with fail
  refine (Num_nil _).mono ?_
  rintro e w' ⟨rfl, rfl⟩
  go_wp2_with (with_reducible refine stop_at (o := ⟨some 44, _, _, _, _, _⟩) ?_)
  refine wpList_load_sb Tryd.sbRef (by rfl) _ rfl b rfl x HX.out HS7.out.own.at_ ?_
  go_wp2_with fail
  refine (RefLaySb_any x HX.out HR.out _).mono ?_
  rw [← HP.out]
  rintro e w8 ⟨rfl, hb⟩
  have HS8 := Lib.hid (HS7.out.carry hb)
  clear hb HS7
  go_wp2_with fail
  refine (SbRead_any s w8).mono ?_
  rintro e w9 ⟨v, rfl, he, hb⟩
  rw [HRD.out] at he ⊢
  obtain ⟨q, z2, rfl⟩ := he.some (by decide)
  have HE9 : Hid (ErrFrom w9 w8.heap.size 2 (.iface q z2)) := Lib.hid he
  rw [show (none : Option Sb).getD Sb.zero = y from HY0.out.symm]
  have HB9 : Hid (Below w.heap.size w w9) := Lib.hid (HS8.out.below.trans (hb.mono HS8.out.below.size))
  clear he hb HS8
  go_wp2_with (with_reducible refine stop_at (o := ⟨none, _, _, _, _, _⟩) ?_)
  refine wpList_store_last rfl _ _ _ rfl (sbArr Sb.zero) (sbArr y) _ rfl rfl rfl (by rw [sbArr_size HYO.out]; exact Tryd.sbProg.size) (by rw [sbArr_size HYO.out, sbArr_size Sb.Ok.zero]) (sbArr_all _) ?_
  obtain ⟨c, HC⟩ : ∃ c, Hid (c = w9.heap.size) := ⟨_, Lib.hid rfl⟩
  obtain ⟨w10, HW⟩ : ∃ w10, Hid (w10 = w9.alloc (.cells (sbArr y) 33)) := ⟨_, Lib.hid rfl⟩
  rw [← HW.out, ← HC.out]
  have hb10 : Below w9.heap.size w9 w10 := by rw [HW.out]; exact (Below.refl _ _).alloc (Nat.le_refl _) _
  have HO10 : Hid (BOwn w10 c y) := Lib.hid (by rw [HW.out, HC.out]; exact BOwn.new _)
  have HB10 : Hid (Below w.heap.size w w10) := Lib.hid (HB9.out.trans (hb10.mono HB9.out.size))
  have HE10 := Lib.hid ((HE9.out.below hb10).is)
  clear hb10 HW HB9
  go_wp2_with fail
  refine (RefSb_any s w10).mono ?_
  rintro e w11 ⟨rfl, hb⟩
  rw [HRD.out]
  rw [show (none : Option Sb).getD Sb.zero = y from HY0.out.symm]
  have HO11 := Lib.hid (HO10.out.below hb HO10.out.lt)
  have HB11 : Hid (Below w.heap.size w w11) := Lib.hid (HB10.out.trans (hb.mono HB10.out.size))
  have HE11 := Lib.hid (HE10.out.carry hb)
  clear hb HO10 HB10
  go_wp2_with (with_reducible refine stop_at (o := ⟨none, _, _, _, _, _⟩) ?_)
  refine wpList_store_last rfl _ _ _ rfl (sbArr Sb.zero) (sbArr y) _ rfl rfl rfl (by rw [sbArr_size HYO.out]; exact Tryd.sbRef.size) (by rw [sbArr_size HYO.out, sbArr_size Sb.Ok.zero]) (sbArr_all _) ?_
  obtain ⟨d, HD⟩ : ∃ d, Hid (d = w11.heap.size) := ⟨_, Lib.hid rfl⟩
  obtain ⟨w12, HW⟩ : ∃ w12, Hid (w12 = w11.alloc (.cells (sbArr y) 25)) := ⟨_, Lib.hid rfl⟩
  rw [← HW.out, ← HD.out]
  have hb12 : Below w11.heap.size w11 w12 := by rw [HW.out]; exact (Below.refl _ _).alloc (Nat.le_refl _) _
  have HST : Hid (SbPlaysS w c d y 2 (.iface q z2) w12) := Lib.hid ⟨HO11.out.below hb12 HO11.out.lt, by rw [HW.out, HD.out]; exact BOwn.new _, HE11.out.carry hb12, HB11.out.trans (hb12.mono HB11.out.size)⟩
  clear hb12 HW HO11 HB11
  have heq := fun w => eql_sb HYO.out HYO.out w
  rw [decide_eq_true rfl] at heq
  have hgd := guardSb
  go_upto_region 9 with (fail)
  refine wp_region_held (S := SbPlaysS w c d y 2 (.iface q z2)) (by kernel_rfl) ?_
  change wpAnyH _ _ _ _ _ _ _ _ w12.drew
  obtain ⟨wa, HWA⟩ : ∃ wa, Hid (wa = w12.drew) := ⟨_, Lib.hid rfl⟩
  rw [← HWA.out]
  have hS : SbPlaysS w c d y 2 (.iface q z2) wa := by rw [HWA.out]; exact HST.out.drew
  clear HWA HST
  refine takeH (i := 0) 59 (v := sbV y) rfl (by kernel_rfl) (by kernel_rfl) (by kernel_rfl) rfl (fun _ _ _ h => h) (yieldsIf_sb Tryd.sbProg (by rfl) _ rfl c rfl y HYO.out (fun _ h => h.got.at_)) hS ?_
  simp only [Act.put, List.setIfInBounds_toArray, List.set_cons_zero, List.set_cons_succ]
  refine takeH (i := 2) 61 (v := sbV y) rfl (by kernel_rfl) (by kernel_rfl) (by kernel_rfl) rfl (fun _ _ _ h => h) (yieldsIf_sb Tryd.sbRef (by rfl) _ rfl d rfl y HYO.out (fun _ h => h.doc.at_)) hS ?_
  simp only [Act.put, List.setIfInBounds_toArray, List.set_cons_zero, List.set_cons_succ]
  refine oneH (i := 1) (oi := ⟨some 60, _, _, _, _, _⟩) rfl (by kernel_rfl) (fun K hK => ?_)
  go_simp
  refine (Plain_any y HYO.out _).mono ?_
  rintro e wn ⟨rfl, hb⟩
  have hS2 := hS.carry hb
  clear hb hS
  refine hK.out _ _ hS2 ?_
  clear hK K
  have hS := hS2
  clear hS2
  refine takeH (i := 3) 62 (v := .bool true) rfl (by kernel_rfl) (by kernel_rfl) (by kernel_rfl) rfl (fun _ _ _ h => h) (.inl ⟨by rfl, fun _ _ => by go_simp⟩) hS ?_
  simp only [Act.put, List.setIfInBounds_toArray, List.set_cons_zero, List.set_cons_succ]
  refine takeH (i := 4) 63 (v := .bool true) rfl (by kernel_rfl) (by kernel_rfl) (by kernel_rfl) rfl (fun _ _ _ h => h) (.inl ⟨by rfl, fun _ _ => by go_simp⟩) hS ?_
  simp only [Act.put, List.setIfInBounds_toArray, List.set_cons_zero, List.set_cons_succ]
  refine takeH (i := 5) 64 (v := .bool false) rfl (by kernel_rfl) (by kernel_rfl) (by kernel_rfl) rfl (fun _ _ _ h => h) (.inl ⟨by rfl, fun _ _ => by go_simp⟩) hS ?_
  simp only [Act.put, List.setIfInBounds_toArray, List.set_cons_zero, List.set_cons_succ]
  refine takeH (i := 6) 65 (v := .iface q z2) rfl (by kernel_rfl) (by kernel_rfl) (by kernel_rfl) rfl (fun _ _ _ h => h) (.inl ⟨by rfl, fun _ _ => by go_simp⟩) hS ?_
  simp only [Act.put, List.setIfInBounds_toArray, List.set_cons_zero, List.set_cons_succ]
  refine oneH (i := 7) (oi := ⟨some 66, _, _, _, _, _⟩) rfl (by kernel_rfl) (fun K hK => ?_)
  rw [if_pos (by rfl)]
  go_simp
  refine (Num_any 2 _ _ hS.err (HGK.out _ hS.below).err).mono ?_
  rintro e wn ⟨rfl, hb⟩
  have hS2 := hS.carry hb
  clear hb hS
  refine hK.out _ _ hS2 ?_
  clear hK K
  have hS := hS2
  clear hS2
  refine takeH (i := 8) 67 (v := .bool false) rfl (by kernel_rfl) (by kernel_rfl) (by kernel_rfl) rfl (fun _ _ _ h => h) (.inl ⟨by rfl, fun _ _ => by go_simp⟩) hS ?_
  simp only [Act.put, List.setIfInBounds_toArray, List.set_cons_zero, List.set_cons_succ]
  refine takeH (i := 9) 68 (v := .bool true) rfl (by kernel_rfl) (by kernel_rfl) (by kernel_rfl) rfl (fun _ _ _ h => h) (.inl ⟨by rfl, fun _ _ => by go_simp⟩) hS ?_
  simp only [Act.put, List.setIfInBounds_toArray, List.set_cons_zero, List.set_cons_succ]
  refine takeH (i := 10) 69 (v := .bool true) rfl (by kernel_rfl) (by kernel_rfl) (by kernel_rfl) rfl (fun _ _ _ h => h) (.inl ⟨by rfl, fun _ _ => by go_simp⟩) hS ?_
  simp only [Act.put, List.setIfInBounds_toArray, List.set_cons_zero, List.set_cons_succ]
  refine takeH (i := 11) 70 (v := .bool true) rfl (by kernel_rfl) (by kernel_rfl) (by kernel_rfl) rfl (fun _ _ _ h => h) (.inl ⟨by rfl, fun _ _ => by go_simp⟩) hS ?_
  simp only [Act.put, List.setIfInBounds_toArray, List.set_cons_zero, List.set_cons_succ]
  refine takeH (i := 12) 71 (v := .bool false) rfl (by kernel_rfl) (by kernel_rfl) (by kernel_rfl) rfl (fun _ _ _ h => h) (.inl ⟨by rfl, fun _ _ => by go_simp⟩) hS ?_
  simp only [Act.put, List.setIfInBounds_toArray, List.set_cons_zero, List.set_cons_succ]
  refine takeH (i := 13) 72 (v := .bool false) rfl (by kernel_rfl) (by kernel_rfl) (by kernel_rfl) rfl (fun _ _ _ h => h) (.inl ⟨by rfl, fun _ _ => by go_simp⟩) hS ?_
  simp only [Act.put, List.setIfInBounds_toArray, List.set_cons_zero, List.set_cons_succ]
  refine takeH (i := 14) 73 (v := .iface q z2) rfl (by kernel_rfl) (by kernel_rfl) (by kernel_rfl) rfl (fun _ _ _ h => h) (.inl ⟨by rfl, fun _ _ => by go_simp⟩) hS ?_
  simp only [Act.put, List.setIfInBounds_toArray, List.set_cons_zero, List.set_cons_succ]
  refine oneH (i := 15) (oi := ⟨some 74, _, _, _, _, _⟩) rfl (by kernel_rfl) (fun K hK => ?_)
  rw [if_pos (by rfl)]
  go_simp
  refine (Num_any 2 _ _ hS.err (HGK.out _ hS.below).err).mono ?_
  rintro e wn ⟨rfl, hb⟩
  have hS2 := hS.carry hb
  clear hb hS
  refine hK.out _ _ hS2 ?_
  clear hK K
  have hS := hS2
  clear hS2
  refine takeH (i := 16) 75 (v := .bool true) rfl (by kernel_rfl) (by kernel_rfl) (by kernel_rfl) rfl (fun _ _ _ h => h) (.inl ⟨by rfl, fun _ _ => by go_simp⟩) hS ?_
  simp only [Act.put, List.setIfInBounds_toArray, List.set_cons_zero, List.set_cons_succ]
  refine takeH (i := 17) 76 (v := .bool true) rfl (by kernel_rfl) (by kernel_rfl) (by kernel_rfl) rfl (fun _ _ _ h => h) (.inl ⟨by rfl, fun _ _ => by go_simp⟩) hS ?_
  simp only [Act.put, List.setIfInBounds_toArray, List.set_cons_zero, List.set_cons_succ]
  refine takeH (i := 18) 77 (v := .bool true) rfl (by kernel_rfl) (by kernel_rfl) (by kernel_rfl) rfl (fun _ _ _ h => h) (.inl ⟨by rfl, fun _ _ => by go_simp⟩) hS ?_
  simp only [Act.put, List.setIfInBounds_toArray, List.set_cons_zero, List.set_cons_succ]
  refine takeH (i := 19) 4 (v := .bool true) rfl (by kernel_rfl) (by kernel_rfl) (by kernel_rfl) rfl (fun _ _ _ h => h) (.inl ⟨by rfl, fun _ _ => by go_simp⟩) hS ?_
  simp only [Act.put, List.setIfInBounds_toArray, List.set_cons_zero, List.set_cons_succ]
  refine wpAnyH_done (by kernel_rfl) ?_ _
  go_wp2_with fail
  go_ret
  exact ⟨rfl, hS.below⟩
set_option maxRecDepth 100000 in
set_option maxHeartbeats 4000000 in
theorem plays_wrong_some (x : Sb) (s : ByteArray) (hx : x.Ok) (hr : rightB x = false) (hl : s.size ≤ 200) (y : Sb) (hread : readS s.data.toList = some y) (w : World) (hg : Laid2 w) :
    Calls Tryd.prog 4 #[sbV x, .string s] w fun e w' => e = .returned (.bool true) ∧ Below w.heap.size w w' := by
  have hz := Tryd.sbProg.zero
  have hz2 := Tryd.sbRef.zero
  have HX := Lib.hid hx
  have HR := Lib.hid hr
  have HRD := Lib.hid hread
  have HYO : Hid y.Ok := Lib.hid ((readS_some hread).1)
  have hd : decide ((200 : Int) < (s.size : Int)) = false := by simp; omega
  obtain ⟨b, HB⟩ : ∃ b, Hid (b = w.heap.size) := ⟨_, Lib.hid rfl⟩
  obtain ⟨w1, HW⟩ : ∃ w1, Hid (w1 = w.alloc (.cells (sbArr x) 25)) := ⟨_, Lib.hid rfl⟩
  have HS : Hid (RefLaySt w b x w1) := Lib.hid ⟨by rw [HW.out, HB.out]; exact BOwn.new _, by rw [HW.out]; exact (Below.refl _ _).alloc (Nat.le_refl _) _⟩
  have HGK : Hid (∀ w', Below w.heap.size w w' → Laid2 w') := Lib.hid fun w' h => hg.carry h
  clear hg hx hr hl hread 
  go_enter Tryd.func4, Tryd.ntmps4
  go_upto_region 1 with (fail)
  rw [← HW.out, ← HB.out]
  clear HW
  go_wp2_with fail
  refine (awake_any _ (HGK.out _ HS.out.below)).mono ?_
  rintro e w2 ⟨rfl, hb⟩
  have HS2 := Lib.hid (HS.out.carry hb)
  clear hb HS
  go_wp2_with (with_reducible refine stop_at (o := ⟨some 21, _, _, _, _, _⟩) ?_)
  refine wpList_load_sb Tryd.sbRef (by rfl) _ rfl b rfl x HX.out HS2.out.own.at_ ?_
  go_wp2_with fail
  refine (Of_any x HX.out _).mono ?_
  rintro e w3 ⟨rfl, hb⟩
  have HS3 := Lib.hid (HS2.out.carry hb)
  clear hb HS2
  go_wp2_with fail
  refine (Lay_any x HX.out _).mono ?_
  rintro e w4 ⟨v, rfl, he, hb⟩
  rw [HR.out, if_neg (by decide)] at he
  rw [HR.out, if_neg (by decide)]
  obtain ⟨t, z, rfl⟩ := he.some (by decide)
  have HE4 := Lib.hid he.is
  have HS4 := Lib.hid (HS3.out.carry hb)
  clear he hb HS3
  go_wp2_with (with_reducible refine stop_at (o := ⟨some 26, _, _, _, _, _⟩) ?_)
  refine wpList_load_sb Tryd.sbRef (by rfl) _ rfl b rfl x HX.out HS4.out.own.at_ ?_
  go_wp2_with fail
  refine (RefRight_any x HX.out _).mono ?_
  rw [HR.out]
  rintro e w5 ⟨rfl, hb⟩
  have HS5 := Lib.hid (HS4.out.carry hb)
  have HE5 := Lib.hid (HE4.out.carry hb)
  clear hb HS4
  go_wp2_with (with_reducible refine stop_at (o := ⟨some 28, _, _, _, _, _⟩) ?_)
  refine wpList_load_sb Tryd.sbRef (by rfl) _ rfl b rfl x HX.out HS5.out.own.at_ ?_
  go_wp2_with fail
  refine (Of_any x HX.out _).mono ?_
  rintro e w6 ⟨rfl, hb⟩
  have HS6 := Lib.hid (HS5.out.carry hb)
  have HE6 := Lib.hid (HE5.out.carry hb)
  clear hb HS5
  go_wp2_with fail
  refine (Right_any x HX.out _).mono ?_
  rw [HR.out]
  rintro e w7 ⟨rfl, hb⟩
  have HS7 := Lib.hid (HS6.out.carry hb)
  have HE7 := Lib.hid (HE6.out.carry hb)
  clear hb HS6
  go_wp2_with fail
  refine (Num_any 1 (.iface t z) w7 HE7.out (HGK.out _ HS7.out.below).err).mono ?_
  rintro e w8 ⟨rfl, hb⟩
  have HS8 := Lib.hid (HS7.out.carry hb)
  clear hb HS7 HE4 HE5 HE6 HE7
  go_wp2_with fail
  refine (SbRead_any s w8).mono ?_
  rintro e w9 ⟨v, rfl, he, hb⟩
  rw [HRD.out] at he ⊢
  obtain rfl := he.zero
  rw [show (some y).getD Sb.zero = y from rfl]
  have HB9 : Hid (Below w.heap.size w w9) := Lib.hid (HS8.out.below.trans (hb.mono HS8.out.below.size))
  clear he hb HS8
  go_wp2_with (with_reducible refine stop_at (o := ⟨none, _, _, _, _, _⟩) ?_)
  refine wpList_store_last rfl _ _ _ rfl (sbArr Sb.zero) (sbArr y) _ rfl rfl rfl (by rw [sbArr_size HYO.out]; exact Tryd.sbProg.size) (by rw [sbArr_size HYO.out, sbArr_size Sb.Ok.zero]) (sbArr_all _) ?_
  obtain ⟨c, HC⟩ : ∃ c, Hid (c = w9.heap.size) := ⟨_, Lib.hid rfl⟩
  obtain ⟨w10, HW⟩ : ∃ w10, Hid (w10 = w9.alloc (.cells (sbArr y) 33)) := ⟨_, Lib.hid rfl⟩
  rw [← HW.out, ← HC.out]
  have hb10 : Below w9.heap.size w9 w10 := by rw [HW.out]; exact (Below.refl _ _).alloc (Nat.le_refl _) _
  have HO10 : Hid (BOwn w10 c y) := Lib.hid (by rw [HW.out, HC.out]; exact BOwn.new _)
  have HB10 : Hid (Below w.heap.size w w10) := Lib.hid (HB9.out.trans (hb10.mono HB9.out.size))
  clear hb10 HW HB9
  go_wp2_with fail
  refine (RefSb_any s w10).mono ?_
  rintro e w11 ⟨rfl, hb⟩
  rw [HRD.out]
  rw [show (some y).getD Sb.zero = y from rfl]
  have HO11 := Lib.hid (HO10.out.below hb HO10.out.lt)
  have HB11 : Hid (Below w.heap.size w w11) := Lib.hid (HB10.out.trans (hb.mono HB10.out.size))
  clear hb HO10 HB10
  go_wp2_with (with_reducible refine stop_at (o := ⟨none, _, _, _, _, _⟩) ?_)
  refine wpList_store_last rfl _ _ _ rfl (sbArr Sb.zero) (sbArr y) _ rfl rfl rfl (by rw [sbArr_size HYO.out]; exact Tryd.sbRef.size) (by rw [sbArr_size HYO.out, sbArr_size Sb.Ok.zero]) (sbArr_all _) ?_
  obtain ⟨d, HD⟩ : ∃ d, Hid (d = w11.heap.size) := ⟨_, Lib.hid rfl⟩
  obtain ⟨w12, HW⟩ : ∃ w12, Hid (w12 = w11.alloc (.cells (sbArr y) 25)) := ⟨_, Lib.hid rfl⟩
  rw [← HW.out, ← HD.out]
  have hb12 : Below w11.heap.size w11 w12 := by rw [HW.out]; exact (Below.refl _ _).alloc (Nat.le_refl _) _
  have HST : Hid (SbPlaysS w c d y 0 .nilIface w12) := Lib.hid ⟨HO11.out.below hb12 HO11.out.lt, by rw [HW.out, HD.out]; exact BOwn.new _, .nil _, HB11.out.trans (hb12.mono HB11.out.size)⟩
  clear hb12 HW HO11 HB11
  have heq := fun w => eql_sb HYO.out HYO.out w
  rw [decide_eq_true rfl] at heq
  have hgd := guardSb
  go_upto_region 9 with (fail)
  refine wp_region_held (S := SbPlaysS w c d y 0 .nilIface) (by kernel_rfl) ?_
  change wpAnyH _ _ _ _ _ _ _ _ w12.drew
  obtain ⟨wa, HWA⟩ : ∃ wa, Hid (wa = w12.drew) := ⟨_, Lib.hid rfl⟩
  rw [← HWA.out]
  have hS : SbPlaysS w c d y 0 .nilIface wa := by rw [HWA.out]; exact HST.out.drew
  clear HWA HST
  refine takeH (i := 0) 59 (v := sbV y) rfl (by kernel_rfl) (by kernel_rfl) (by kernel_rfl) rfl (fun _ _ _ h => h) (yieldsIf_sb Tryd.sbProg (by rfl) _ rfl c rfl y HYO.out (fun _ h => h.got.at_)) hS ?_
  simp only [Act.put, List.setIfInBounds_toArray, List.set_cons_zero, List.set_cons_succ]
  refine takeH (i := 2) 61 (v := sbV y) rfl (by kernel_rfl) (by kernel_rfl) (by kernel_rfl) rfl (fun _ _ _ h => h) (yieldsIf_sb Tryd.sbRef (by rfl) _ rfl d rfl y HYO.out (fun _ h => h.doc.at_)) hS ?_
  simp only [Act.put, List.setIfInBounds_toArray, List.set_cons_zero, List.set_cons_succ]
  refine oneH (i := 1) (oi := ⟨some 60, _, _, _, _, _⟩) rfl (by kernel_rfl) (fun K hK => ?_)
  go_simp
  refine (Plain_any y HYO.out _).mono ?_
  rintro e wn ⟨rfl, hb⟩
  have hS2 := hS.carry hb
  clear hb hS
  refine hK.out _ _ hS2 ?_
  clear hK K
  have hS := hS2
  clear hS2
  refine takeH (i := 3) 62 (v := .bool true) rfl (by kernel_rfl) (by kernel_rfl) (by kernel_rfl) rfl (fun _ _ _ h => h) (.inl ⟨by rfl, fun _ _ => by go_simp⟩) hS ?_
  simp only [Act.put, List.setIfInBounds_toArray, List.set_cons_zero, List.set_cons_succ]
  refine takeH (i := 4) 63 (v := .bool true) rfl (by kernel_rfl) (by kernel_rfl) (by kernel_rfl) rfl (fun _ _ _ h => h) (.inl ⟨by rfl, fun _ _ => by go_simp⟩) hS ?_
  simp only [Act.put, List.setIfInBounds_toArray, List.set_cons_zero, List.set_cons_succ]
  refine takeH (i := 5) 64 (v := .bool true) rfl (by kernel_rfl) (by kernel_rfl) (by kernel_rfl) rfl (fun _ _ _ h => h) (.inl ⟨by rfl, fun _ _ => by go_simp⟩) hS ?_
  simp only [Act.put, List.setIfInBounds_toArray, List.set_cons_zero, List.set_cons_succ]
  refine takeH (i := 6) 65 (v := .nilIface) rfl (by kernel_rfl) (by kernel_rfl) (by kernel_rfl) rfl (fun _ _ _ h => h) (.inl ⟨by rfl, fun _ _ => by go_simp⟩) hS ?_
  simp only [Act.put, List.setIfInBounds_toArray, List.set_cons_zero, List.set_cons_succ]
  refine oneH (i := 7) (oi := ⟨some 66, _, _, _, _, _⟩) rfl (by kernel_rfl) (fun K hK => ?_)
  rw [if_pos (by rfl)]
  go_simp
  refine (Num_nil _).mono ?_
  rintro e wn ⟨rfl, rfl⟩
  refine hK.out _ _ hS ?_
  clear hK K
  refine takeH (i := 8) 67 (v := .bool true) rfl (by kernel_rfl) (by kernel_rfl) (by kernel_rfl) rfl (fun _ _ _ h => h) (.inl ⟨by rfl, fun _ _ => by go_simp⟩) hS ?_
  simp only [Act.put, List.setIfInBounds_toArray, List.set_cons_zero, List.set_cons_succ]
  refine takeH (i := 9) 68 (v := .bool true) rfl (by kernel_rfl) (by kernel_rfl) (by kernel_rfl) rfl (fun _ _ _ h => h) (.inl ⟨by rfl, fun _ _ => by go_simp⟩) hS ?_
  simp only [Act.put, List.setIfInBounds_toArray, List.set_cons_zero, List.set_cons_succ]
  refine takeH (i := 10) 69 (v := .bool true) rfl (by kernel_rfl) (by kernel_rfl) (by kernel_rfl) rfl (fun _ _ _ h => h) (.inl ⟨by rfl, fun _ _ => by go_simp⟩) hS ?_
  simp only [Act.put, List.setIfInBounds_toArray, List.set_cons_zero, List.set_cons_succ]
  refine takeH (i := 11) 70 (v := .bool true) rfl (by kernel_rfl) (by kernel_rfl) (by kernel_rfl) rfl (fun _ _ _ h => h) (.inl ⟨by rfl, fun _ _ => by go_simp⟩) hS ?_
  simp only [Act.put, List.setIfInBounds_toArray, List.set_cons_zero, List.set_cons_succ]
  refine takeH (i := 12) 71 (v := .bool true) rfl (by kernel_rfl) (by kernel_rfl) (by kernel_rfl) rfl (fun _ _ _ h => h) (.inl ⟨by rfl, fun _ _ => by go_simp⟩) hS ?_
  simp only [Act.put, List.setIfInBounds_toArray, List.set_cons_zero, List.set_cons_succ]
  refine takeH (i := 13) 72 (v := .bool true) rfl (by kernel_rfl) (by kernel_rfl) (by kernel_rfl) rfl (fun _ _ _ h => h) (.inl ⟨by rfl, fun _ _ => by go_simp⟩) hS ?_
  simp only [Act.put, List.setIfInBounds_toArray, List.set_cons_zero, List.set_cons_succ]
  refine takeH (i := 14) 73 (v := undef) rfl (by kernel_rfl) (by kernel_rfl) (by kernel_rfl) rfl (fun _ _ _ h => h) (.inr ⟨by rfl, rfl⟩) hS ?_
  simp only [Act.put, List.setIfInBounds_toArray, List.set_cons_zero, List.set_cons_succ]
  refine takeH (i := 15) 74 (v := undef) rfl (by kernel_rfl) (by kernel_rfl) (by kernel_rfl) rfl (fun _ _ _ h => h) (.inr ⟨by rfl, rfl⟩) hS ?_
  simp only [Act.put, List.setIfInBounds_toArray, List.set_cons_zero, List.set_cons_succ]
  refine takeH (i := 16) 75 (v := undef) rfl (by kernel_rfl) (by kernel_rfl) (by kernel_rfl) rfl (fun _ _ _ h => h) (.inr ⟨by rfl, rfl⟩) hS ?_
  simp only [Act.put, List.setIfInBounds_toArray, List.set_cons_zero, List.set_cons_succ]
  refine takeH (i := 17) 76 (v := .bool true) rfl (by kernel_rfl) (by kernel_rfl) (by kernel_rfl) rfl (fun _ _ _ h => h) (.inl ⟨by rfl, fun _ _ => by go_simp⟩) hS ?_
  simp only [Act.put, List.setIfInBounds_toArray, List.set_cons_zero, List.set_cons_succ]
  refine takeH (i := 18) 77 (v := .bool true) rfl (by kernel_rfl) (by kernel_rfl) (by kernel_rfl) rfl (fun _ _ _ h => h) (.inl ⟨by rfl, fun _ _ => by go_simp⟩) hS ?_
  simp only [Act.put, List.setIfInBounds_toArray, List.set_cons_zero, List.set_cons_succ]
  refine takeH (i := 19) 4 (v := .bool true) rfl (by kernel_rfl) (by kernel_rfl) (by kernel_rfl) rfl (fun _ _ _ h => h) (.inl ⟨by rfl, fun _ _ => by go_simp⟩) hS ?_
  simp only [Act.put, List.setIfInBounds_toArray, List.set_cons_zero, List.set_cons_succ]
  refine wpAnyH_done (by kernel_rfl) ?_ _
  go_wp2_with fail
  go_ret
  exact ⟨rfl, hS.below⟩
set_option maxRecDepth 100000 in
set_option maxHeartbeats 4000000 in
theorem plays_wrong_none (x : Sb) (s : ByteArray) (hx : x.Ok) (hr : rightB x = false) (hl : s.size ≤ 200) (y : Sb) (hread : readS s.data.toList = none) (hy0 : y = Sb.zero) (w : World) (hg : Laid2 w) :
    Calls Tryd.prog 4 #[sbV x, .string s] w fun e w' => e = .returned (.bool true) ∧ Below w.heap.size w w' := by
  have hz := Tryd.sbProg.zero
  have hz2 := Tryd.sbRef.zero
  have HX := Lib.hid hx
  have HR := Lib.hid hr
  have HRD := Lib.hid hread
  have HYO : Hid y.Ok := Lib.hid (by rw [hy0]; exact Sb.Ok.zero)
  have HY0 := Lib.hid hy0
  have hd : decide ((200 : Int) < (s.size : Int)) = false := by simp; omega
  obtain ⟨b, HB⟩ : ∃ b, Hid (b = w.heap.size) := ⟨_, Lib.hid rfl⟩
  obtain ⟨w1, HW⟩ : ∃ w1, Hid (w1 = w.alloc (.cells (sbArr x) 25)) := ⟨_, Lib.hid rfl⟩
  have HS : Hid (RefLaySt w b x w1) := Lib.hid ⟨by rw [HW.out, HB.out]; exact BOwn.new _, by rw [HW.out]; exact (Below.refl _ _).alloc (Nat.le_refl _) _⟩
  have HGK : Hid (∀ w', Below w.heap.size w w' → Laid2 w') := Lib.hid fun w' h => hg.carry h
  clear hg hx hr hl hread hy0
  go_enter Tryd.func4, Tryd.ntmps4
  go_upto_region 1 with (fail)
  rw [← HW.out, ← HB.out]
  clear HW
  go_wp2_with fail
  refine (awake_any _ (HGK.out _ HS.out.below)).mono ?_
  rintro e w2 ⟨rfl, hb⟩
  have HS2 := Lib.hid (HS.out.carry hb)
  clear hb HS
  go_wp2_with (with_reducible refine stop_at (o := ⟨some 21, _, _, _, _, _⟩) ?_)
  refine wpList_load_sb Tryd.sbRef (by rfl) _ rfl b rfl x HX.out HS2.out.own.at_ ?_
  go_wp2_with fail
  refine (Of_any x HX.out _).mono ?_
  rintro e w3 ⟨rfl, hb⟩
  have HS3 := Lib.hid (HS2.out.carry hb)
  clear hb HS2
  go_wp2_with fail
  refine (Lay_any x HX.out _).mono ?_
  rintro e w4 ⟨v, rfl, he, hb⟩
  rw [HR.out, if_neg (by decide)] at he
  rw [HR.out, if_neg (by decide)]
  obtain ⟨t, z, rfl⟩ := he.some (by decide)
  have HE4 := Lib.hid he.is
  have HS4 := Lib.hid (HS3.out.carry hb)
  clear he hb HS3
  go_wp2_with (with_reducible refine stop_at (o := ⟨some 26, _, _, _, _, _⟩) ?_)
  refine wpList_load_sb Tryd.sbRef (by rfl) _ rfl b rfl x HX.out HS4.out.own.at_ ?_
  go_wp2_with fail
  refine (RefRight_any x HX.out _).mono ?_
  rw [HR.out]
  rintro e w5 ⟨rfl, hb⟩
  have HS5 := Lib.hid (HS4.out.carry hb)
  have HE5 := Lib.hid (HE4.out.carry hb)
  clear hb HS4
  go_wp2_with (with_reducible refine stop_at (o := ⟨some 28, _, _, _, _, _⟩) ?_)
  refine wpList_load_sb Tryd.sbRef (by rfl) _ rfl b rfl x HX.out HS5.out.own.at_ ?_
  go_wp2_with fail
  refine (Of_any x HX.out _).mono ?_
  rintro e w6 ⟨rfl, hb⟩
  have HS6 := Lib.hid (HS5.out.carry hb)
  have HE6 := Lib.hid (HE5.out.carry hb)
  clear hb HS5
  go_wp2_with fail
  refine (Right_any x HX.out _).mono ?_
  rw [HR.out]
  rintro e w7 ⟨rfl, hb⟩
  have HS7 := Lib.hid (HS6.out.carry hb)
  have HE7 := Lib.hid (HE6.out.carry hb)
  clear hb HS6
  go_wp2_with fail
  refine (Num_any 1 (.iface t z) w7 HE7.out (HGK.out _ HS7.out.below).err).mono ?_
  rintro e w8 ⟨rfl, hb⟩
  have HS8 := Lib.hid (HS7.out.carry hb)
  clear hb HS7 HE4 HE5 HE6 HE7
  go_wp2_with fail
  refine (SbRead_any s w8).mono ?_
  rintro e w9 ⟨v, rfl, he, hb⟩
  rw [HRD.out] at he ⊢
  obtain ⟨q, z2, rfl⟩ := he.some (by decide)
  have HE9 : Hid (ErrFrom w9 w8.heap.size 2 (.iface q z2)) := Lib.hid he
  rw [show (none : Option Sb).getD Sb.zero = y from HY0.out.symm]
  have HB9 : Hid (Below w.heap.size w w9) := Lib.hid (HS8.out.below.trans (hb.mono HS8.out.below.size))
  clear he hb HS8
  go_wp2_with (with_reducible refine stop_at (o := ⟨none, _, _, _, _, _⟩) ?_)
  refine wpList_store_last rfl _ _ _ rfl (sbArr Sb.zero) (sbArr y) _ rfl rfl rfl (by rw [sbArr_size HYO.out]; exact Tryd.sbProg.size) (by rw [sbArr_size HYO.out, sbArr_size Sb.Ok.zero]) (sbArr_all _) ?_
  obtain ⟨c, HC⟩ : ∃ c, Hid (c = w9.heap.size) := ⟨_, Lib.hid rfl⟩
  obtain ⟨w10, HW⟩ : ∃ w10, Hid (w10 = w9.alloc (.cells (sbArr y) 33)) := ⟨_, Lib.hid rfl⟩
  rw [← HW.out, ← HC.out]
  have hb10 : Below w9.heap.size w9 w10 := by rw [HW.out]; exact (Below.refl _ _).alloc (Nat.le_refl _) _
  have HO10 : Hid (BOwn w10 c y) := Lib.hid (by rw [HW.out, HC.out]; exact BOwn.new _)
  have HB10 : Hid (Below w.heap.size w w10) := Lib.hid (HB9.out.trans (hb10.mono HB9.out.size))
  have HE10 := Lib.hid ((HE9.out.below hb10).is)
  clear hb10 HW HB9
  go_wp2_with fail
  refine (RefSb_any s w10).mono ?_
  rintro e w11 ⟨rfl, hb⟩
  rw [HRD.out]
  rw [show (none : Option Sb).getD Sb.zero = y from HY0.out.symm]
  have HO11 := Lib.hid (HO10.out.below hb HO10.out.lt)
  have HB11 : Hid (Below w.heap.size w w11) := Lib.hid (HB10.out.trans (hb.mono HB10.out.size))
  have HE11 := Lib.hid (HE10.out.carry hb)
  clear hb HO10 HB10
  go_wp2_with (with_reducible refine stop_at (o := ⟨none, _, _, _, _, _⟩) ?_)
  refine wpList_store_last rfl _ _ _ rfl (sbArr Sb.zero) (sbArr y) _ rfl rfl rfl (by rw [sbArr_size HYO.out]; exact Tryd.sbRef.size) (by rw [sbArr_size HYO.out, sbArr_size Sb.Ok.zero]) (sbArr_all _) ?_
  obtain ⟨d, HD⟩ : ∃ d, Hid (d = w11.heap.size) := ⟨_, Lib.hid rfl⟩
  obtain ⟨w12, HW⟩ : ∃ w12, Hid (w12 = w11.alloc (.cells (sbArr y) 25)) := ⟨_, Lib.hid rfl⟩
  rw [← HW.out, ← HD.out]
  have hb12 : Below w11.heap.size w11 w12 := by rw [HW.out]; exact (Below.refl _ _).alloc (Nat.le_refl _) _
  have HST : Hid (SbPlaysS w c d y 2 (.iface q z2) w12) := Lib.hid ⟨HO11.out.below hb12 HO11.out.lt, by rw [HW.out, HD.out]; exact BOwn.new _, HE11.out.carry hb12, HB11.out.trans (hb12.mono HB11.out.size)⟩
  clear hb12 HW HO11 HB11
  have heq := fun w => eql_sb HYO.out HYO.out w
  rw [decide_eq_true rfl] at heq
  have hgd := guardSb
  go_upto_region 9 with (fail)
  refine wp_region_held (S := SbPlaysS w c d y 2 (.iface q z2)) (by kernel_rfl) ?_
  change wpAnyH _ _ _ _ _ _ _ _ w12.drew
  obtain ⟨wa, HWA⟩ : ∃ wa, Hid (wa = w12.drew) := ⟨_, Lib.hid rfl⟩
  rw [← HWA.out]
  have hS : SbPlaysS w c d y 2 (.iface q z2) wa := by rw [HWA.out]; exact HST.out.drew
  clear HWA HST
  refine takeH (i := 0) 59 (v := sbV y) rfl (by kernel_rfl) (by kernel_rfl) (by kernel_rfl) rfl (fun _ _ _ h => h) (yieldsIf_sb Tryd.sbProg (by rfl) _ rfl c rfl y HYO.out (fun _ h => h.got.at_)) hS ?_
  simp only [Act.put, List.setIfInBounds_toArray, List.set_cons_zero, List.set_cons_succ]
  refine takeH (i := 2) 61 (v := sbV y) rfl (by kernel_rfl) (by kernel_rfl) (by kernel_rfl) rfl (fun _ _ _ h => h) (yieldsIf_sb Tryd.sbRef (by rfl) _ rfl d rfl y HYO.out (fun _ h => h.doc.at_)) hS ?_
  simp only [Act.put, List.setIfInBounds_toArray, List.set_cons_zero, List.set_cons_succ]
  refine oneH (i := 1) (oi := ⟨some 60, _, _, _, _, _⟩) rfl (by kernel_rfl) (fun K hK => ?_)
  go_simp
  refine (Plain_any y HYO.out _).mono ?_
  rintro e wn ⟨rfl, hb⟩
  have hS2 := hS.carry hb
  clear hb hS
  refine hK.out _ _ hS2 ?_
  clear hK K
  have hS := hS2
  clear hS2
  refine takeH (i := 3) 62 (v := .bool true) rfl (by kernel_rfl) (by kernel_rfl) (by kernel_rfl) rfl (fun _ _ _ h => h) (.inl ⟨by rfl, fun _ _ => by go_simp⟩) hS ?_
  simp only [Act.put, List.setIfInBounds_toArray, List.set_cons_zero, List.set_cons_succ]
  refine takeH (i := 4) 63 (v := .bool true) rfl (by kernel_rfl) (by kernel_rfl) (by kernel_rfl) rfl (fun _ _ _ h => h) (.inl ⟨by rfl, fun _ _ => by go_simp⟩) hS ?_
  simp only [Act.put, List.setIfInBounds_toArray, List.set_cons_zero, List.set_cons_succ]
  refine takeH (i := 5) 64 (v := .bool false) rfl (by kernel_rfl) (by kernel_rfl) (by kernel_rfl) rfl (fun _ _ _ h => h) (.inl ⟨by rfl, fun _ _ => by go_simp⟩) hS ?_
  simp only [Act.put, List.setIfInBounds_toArray, List.set_cons_zero, List.set_cons_succ]
  refine takeH (i := 6) 65 (v := .iface q z2) rfl (by kernel_rfl) (by kernel_rfl) (by kernel_rfl) rfl (fun _ _ _ h => h) (.inl ⟨by rfl, fun _ _ => by go_simp⟩) hS ?_
  simp only [Act.put, List.setIfInBounds_toArray, List.set_cons_zero, List.set_cons_succ]
  refine oneH (i := 7) (oi := ⟨some 66, _, _, _, _, _⟩) rfl (by kernel_rfl) (fun K hK => ?_)
  rw [if_pos (by rfl)]
  go_simp
  refine (Num_any 2 _ _ hS.err (HGK.out _ hS.below).err).mono ?_
  rintro e wn ⟨rfl, hb⟩
  have hS2 := hS.carry hb
  clear hb hS
  refine hK.out _ _ hS2 ?_
  clear hK K
  have hS := hS2
  clear hS2
  refine takeH (i := 8) 67 (v := .bool false) rfl (by kernel_rfl) (by kernel_rfl) (by kernel_rfl) rfl (fun _ _ _ h => h) (.inl ⟨by rfl, fun _ _ => by go_simp⟩) hS ?_
  simp only [Act.put, List.setIfInBounds_toArray, List.set_cons_zero, List.set_cons_succ]
  refine takeH (i := 9) 68 (v := .bool true) rfl (by kernel_rfl) (by kernel_rfl) (by kernel_rfl) rfl (fun _ _ _ h => h) (.inl ⟨by rfl, fun _ _ => by go_simp⟩) hS ?_
  simp only [Act.put, List.setIfInBounds_toArray, List.set_cons_zero, List.set_cons_succ]
  refine takeH (i := 10) 69 (v := .bool true) rfl (by kernel_rfl) (by kernel_rfl) (by kernel_rfl) rfl (fun _ _ _ h => h) (.inl ⟨by rfl, fun _ _ => by go_simp⟩) hS ?_
  simp only [Act.put, List.setIfInBounds_toArray, List.set_cons_zero, List.set_cons_succ]
  refine takeH (i := 11) 70 (v := .bool true) rfl (by kernel_rfl) (by kernel_rfl) (by kernel_rfl) rfl (fun _ _ _ h => h) (.inl ⟨by rfl, fun _ _ => by go_simp⟩) hS ?_
  simp only [Act.put, List.setIfInBounds_toArray, List.set_cons_zero, List.set_cons_succ]
  refine takeH (i := 12) 71 (v := .bool false) rfl (by kernel_rfl) (by kernel_rfl) (by kernel_rfl) rfl (fun _ _ _ h => h) (.inl ⟨by rfl, fun _ _ => by go_simp⟩) hS ?_
  simp only [Act.put, List.setIfInBounds_toArray, List.set_cons_zero, List.set_cons_succ]
  refine takeH (i := 13) 72 (v := .bool false) rfl (by kernel_rfl) (by kernel_rfl) (by kernel_rfl) rfl (fun _ _ _ h => h) (.inl ⟨by rfl, fun _ _ => by go_simp⟩) hS ?_
  simp only [Act.put, List.setIfInBounds_toArray, List.set_cons_zero, List.set_cons_succ]
  refine takeH (i := 14) 73 (v := .iface q z2) rfl (by kernel_rfl) (by kernel_rfl) (by kernel_rfl) rfl (fun _ _ _ h => h) (.inl ⟨by rfl, fun _ _ => by go_simp⟩) hS ?_
  simp only [Act.put, List.setIfInBounds_toArray, List.set_cons_zero, List.set_cons_succ]
  refine oneH (i := 15) (oi := ⟨some 74, _, _, _, _, _⟩) rfl (by kernel_rfl) (fun K hK => ?_)
  rw [if_pos (by rfl)]
  go_simp
  refine (Num_any 2 _ _ hS.err (HGK.out _ hS.below).err).mono ?_
  rintro e wn ⟨rfl, hb⟩
  have hS2 := hS.carry hb
  clear hb hS
  refine hK.out _ _ hS2 ?_
  clear hK K
  have hS := hS2
  clear hS2
  refine takeH (i := 16) 75 (v := .bool true) rfl (by kernel_rfl) (by kernel_rfl) (by kernel_rfl) rfl (fun _ _ _ h => h) (.inl ⟨by rfl, fun _ _ => by go_simp⟩) hS ?_
  simp only [Act.put, List.setIfInBounds_toArray, List.set_cons_zero, List.set_cons_succ]
  refine takeH (i := 17) 76 (v := .bool true) rfl (by kernel_rfl) (by kernel_rfl) (by kernel_rfl) rfl (fun _ _ _ h => h) (.inl ⟨by rfl, fun _ _ => by go_simp⟩) hS ?_
  simp only [Act.put, List.setIfInBounds_toArray, List.set_cons_zero, List.set_cons_succ]
  refine takeH (i := 18) 77 (v := .bool true) rfl (by kernel_rfl) (by kernel_rfl) (by kernel_rfl) rfl (fun _ _ _ h => h) (.inl ⟨by rfl, fun _ _ => by go_simp⟩) hS ?_
  simp only [Act.put, List.setIfInBounds_toArray, List.set_cons_zero, List.set_cons_succ]
  refine takeH (i := 19) 4 (v := .bool true) rfl (by kernel_rfl) (by kernel_rfl) (by kernel_rfl) rfl (fun _ _ _ h => h) (.inl ⟨by rfl, fun _ _ => by go_simp⟩) hS ?_
  simp only [Act.put, List.setIfInBounds_toArray, List.set_cons_zero, List.set_cons_succ]
  refine wpAnyH_done (by kernel_rfl) ?_ _
  go_wp2_with fail
  go_ret
  exact ⟨rfl, hS.below⟩
theorem plays_walk (x : Sb) (s : ByteArray) (hx : x.Ok) (_ : -9223372036854775808 ≤ x.root ∧ x.root ≤ 9223372036854775807) (w : World) (hg : Laid2 w) :
    Calls Tryd.prog 4 #[sbV x, .string s] w fun e w' => e = .returned (.bool true) ∧ Below w.heap.size w w' := by
  by_cases hl : s.size ≤ 200
  · cases hr : rightB x with
    | true =>
      cases hd : readS s.data.toList with
      | some y => exact plays_right_some x s hx hr hl y hd w hg
      | none => exact plays_right_none x s hx hr hl Sb.zero hd rfl w hg
    | false =>
      cases hd : readS s.data.toList with
      | some y => exact plays_wrong_some x s hx hr hl y hd w hg
      | none => exact plays_wrong_none x s hx hr hl Sb.zero hd rfl w hg
  · exact plays_long x s (by omega) w hg
end Go.Proofs.YtaolkmlgdhnhaaaDoor
