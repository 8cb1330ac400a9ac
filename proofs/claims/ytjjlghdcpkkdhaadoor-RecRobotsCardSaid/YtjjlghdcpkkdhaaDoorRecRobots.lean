/-
  The walk of the statement RecRobots: it answers true, and no memory that was there has turned. Conditions: errors.errorType is laid.
-/
import Derived.Test.YtjjlghdcpkkdhaaDoorRecOf
import Derived.BigQuiet
namespace Go.Proofs.YtjjlghdcpkkdhaaDoor
open Go.RowKit

set_option maxRecDepth 100000 in
set_option maxHeartbeats 4000000 in
theorem recRobots_walk (x : Rob) (w : World) (hg : Laid w) : Calls Tryd.prog 3 #[robV x] w fun e w' => e = .returned (.bool true) ∧ Below w.heap.size w w' := by
  have HGK : Hid (∀ w', Below w.heap.size w w' → Laid w') := Lib.hid fun w' h => hg.carry h
  clear hg
  obtain ⟨p, HP⟩ : ∃ p, Hid (p = w.heap.size) := ⟨_, Lib.hid rfl⟩
  unfold robV
  go_enter Tryd.func3, Tryd.ntmps3
  go_upto_region 1 with (fail)
  obtain ⟨w1, HW⟩ : ∃ w1, Hid (w1 = w.alloc (.cells #[.int .i64 x.cell, .int .i64 x.charge, .int .i64 x.phase, .int .i64 x.task, .int .i64 x.moved, .int .i64 x.gained, .int .i64 x.adj] 23)) := ⟨_, Lib.hid rfl⟩
  rw [← HW.out, ← HP.out]
  have HOx : Hid (RobAt w1 p x) := Lib.hid (by
    rw [HW.out, HP.out]
    exact RobAt.new _)
  have HB : Hid (Below w.heap.size w w1) := Lib.hid (by rw [HW.out]; exact (Below.refl _ _).alloc (Nat.le_refl _) _)
  clear HW HP
  go_wp2_with fail
  refine (awake_any _ (HGK.out _ HB.out)).mono ?_
  rintro e wn ⟨rfl, hb⟩
  dsimp only
  replace HOx := Lib.hid (HOx.out.carry hb)
  replace HB := Lib.hid (HB.out.trans (hb.mono HB.out.size))
  clear hb
  obtain ⟨c0, c1, c2, c3, c4, c5, c6⟩ := HOx.out
  go_wp2_with fail
  refine (OfRobot_any x _).mono ?_
  rintro e wn ⟨rfl, hb⟩
  dsimp only
  replace HOx := Lib.hid (HOx.out.carry hb)
  replace HB := Lib.hid (HB.out.trans (hb.mono HB.out.size))
  clear hb
  clear c0 c1 c2 c3 c4 c5 c6
  go_wp2_with fail
  refine (LayRobot_any x _).mono ?_
  cases hx : rightR x with
  | false =>
    have HX := Lib.hid hx
    clear hx
    rintro e wn ⟨z9, rfl, he, hb⟩
    dsimp only
    have HE9 : Hid (ErrIs wn 8 z9) := Lib.hid he.is
    rw [if_neg (by decide)]
    replace HOx := Lib.hid (HOx.out.carry hb)
    replace HB := Lib.hid (HB.out.trans (hb.mono HB.out.size))
    clear he hb
    obtain ⟨c0, c1, c2, c3, c4, c5, c6⟩ := HOx.out
    go_wp2_with fail
    refine (RightRobot_any x _).mono ?_
    rw [HX.out]
    rintro e wn ⟨rfl, hb⟩
    dsimp only
    replace HE9 := Lib.hid (HE9.out.carry hb)
    replace HOx := Lib.hid (HOx.out.carry hb)
    replace HB := Lib.hid (HB.out.trans (hb.mono HB.out.size))
    clear hb c0 c1 c2 c3 c4 c5 c6
    go_wp2_with fail
    refine (Num_any 8 z9 _ HE9.out (HGK.out _ HB.out)).mono ?_
    rintro e wn ⟨rfl, hb⟩
    dsimp only
    replace HOx := Lib.hid (HOx.out.carry hb)
    replace HB := Lib.hid (HB.out.trans (hb.mono HB.out.size))
    clear hb
    have hes : ((⟨#[]⟩ : ByteArray).toList == (⟨#[]⟩ : ByteArray).toList) = true := by simp
    go_wp2_with fail
    go_ret
    exact ⟨rfl, HB.out⟩
  | true =>
    have HX := Lib.hid hx
    obtain ⟨u, HU⟩ : ∃ u : ByteArray, Hid (u = ⟨(layR x).toArray⟩) := ⟨_, Lib.hid rfl⟩
    have HRL := Lib.hid (read_layR hx)
    have husz : u.size = 12 := by rw [HU.out]; exact layR_length x
    have hus : ((u.size : Int) == 12) = true := by rw [husz]; rfl
    have hue : (u.toList == u.toList) = true := by simp
    have HRD : Hid ((readR u.data.toList).getD Rob.zero = x ∧ (if (readR u.data.toList).isSome then (0 : Int) else 2) = 0) := Lib.hid (by rw [HU.out, HRL.out]; exact ⟨rfl, rfl⟩)
    clear hx husz
    rintro e wn ⟨z9, rfl, he, hb⟩
    obtain rfl := ErrFrom.zero he
    rw [if_pos rfl, ← HU.out]
    dsimp only
    replace HOx := Lib.hid (HOx.out.carry hb)
    replace HB := Lib.hid (HB.out.trans (hb.mono HB.out.size))
    clear he hb
    obtain ⟨c0, c1, c2, c3, c4, c5, c6⟩ := HOx.out
    go_wp2_with fail
    refine (RightRobot_any x _).mono ?_
    rw [HX.out]
    rintro e wn ⟨rfl, hb⟩
    dsimp only
    replace HOx := Lib.hid (HOx.out.carry hb)
    replace HB := Lib.hid (HB.out.trans (hb.mono HB.out.size))
    clear hb c0 c1 c2 c3 c4 c5 c6
    go_wp2_with fail
    refine (ReadRobot_at u wn x 0 HRD.out.1.symm HRD.out.2.symm).mono ?_
    rintro e wr ⟨z6, rfl, he, hb⟩
    dsimp only
    have HE6 := Lib.hid he
    replace HOx := Lib.hid (HOx.out.carry hb)
    replace HB := Lib.hid (HB.out.trans (hb.mono HB.out.size))
    clear he hb
    go_wp2_with (with_reducible refine stop_at (o := ⟨none, _, _, _, _, _⟩) ?_)
    obtain ⟨c, HC⟩ : ∃ c, Hid (c = wr.heap.size) := ⟨_, Lib.hid rfl⟩
    obtain ⟨wb, HWB⟩ : ∃ wb, Hid (wb = wr.alloc (.cells #[.int .i64 0, .int .i64 0, .int .i64 0, .int .i64 0, .int .i64 0, .int .i64 0, .int .i64 0] 29)) := ⟨_, Lib.hid rfl⟩
    rw [← HWB.out, ← HC.out]
    have hbb : Below wr.heap.size wr wb := by rw [HWB.out]; exact (Below.refl _ _).alloc (Nat.le_refl _) _
    have HCB : Hid (COwn wb c (robCells Rob.zero)) := Lib.hid (by rw [HWB.out, HC.out]; exact COwn.new (robCells Rob.zero) _)
    clear HWB
    refine wpList_store_c Tryd.robTy rfl _ _ rfl c (robCells Rob.zero) (robCells x) rfl rfl (robCells_one _) rfl rfl HCB.out ?_
    intro wc HWC HCC
    have hbc : Below wr.heap.size wr wc := below_cells9 hbb HWC.out (by rw [HC.out]; exact Nat.le_refl _)
    replace HE6 := Lib.hid (HE6.out.carry hbc)
    replace HOx := Lib.hid (HOx.out.carry hbc)
    replace HB := Lib.hid (HB.out.trans (hbc.mono HB.out.size))
    clear hbb hbc HWC HCB HC
    go_wp2_with fail
    have heq : ∀ w, (binOp .eql 29 (.agg (robCells x).toArray) (.agg (robCells x).toArray)).run Tryd.prog w = .ok (.bool true) w := fun w => by have h := eql_rob x x w; rw [decide_eq_true rfl] at h; exact h
    have hgu := guardRob
    refine wp_region_held (S := fun wr => RobAt wr p x ∧ COwn wr c (robCells x) ∧ Below w.heap.size w wr) (by kernel_rfl) ?_
    change wpAnyH _ _ _ _ _ _ _ _ wc.drew
    obtain ⟨wa, HWA⟩ : ∃ wa, Hid (wa = wc.drew) := ⟨_, Lib.hid rfl⟩
    rw [← HWA.out]
    have hdr : Below wc.heap.size wc wa := by rw [HWA.out]; exact (Below.refl _ _).drew
    have hS : RobAt wa p x ∧ COwn wa c (robCells x) ∧ Below w.heap.size w wa := ⟨HOx.out.carry hdr, HCC.out.carry hdr (by show 0 < 7; decide), HB.out.trans (hdr.mono HB.out.size)⟩
    replace HE6 := Lib.hid (HE6.out.carry hdr)
    clear HWA hdr HOx HCC HB
    refine takeH (i := 0) 30 (v := .nilIface) rfl (by kernel_rfl) (by kernel_rfl) (by kernel_rfl) rfl (fun _ _ _ h => h) (.inl ⟨by rfl, fun _ _ => by go_simp⟩) hS ?_
    simp only [Act.put, List.setIfInBounds_toArray, List.set_cons_zero, List.set_cons_succ]
    refine oneH (i := 1) (oi := ⟨some 31, _, _, _, _, _⟩) rfl (by kernel_rfl) (fun K0 hK => ?_)
    go_simp
    refine (Num_any 0 .nilIface _ (.nil _) (HGK.out _ hS.2.2)).mono ?_
    rintro e0 w1x ⟨rfl, hb⟩
    have hS2 : RobAt w1x p x ∧ COwn w1x c (robCells x) ∧ Below w.heap.size w w1x := ⟨hS.1.carry hb, hS.2.1.carry hb (by show 0 < 7; decide), hS.2.2.trans (hb.mono hS.2.2.size)⟩
    replace HE6 := Lib.hid (HE6.out.carry hb)
    clear hb hS
    refine hK.out _ _ hS2 ?_
    clear hK K0
    have hS := hS2
    clear hS2
    try simp only [Act.put, List.setIfInBounds_toArray, List.set_cons_zero, List.set_cons_succ]
    refine takeH (i := 2) 32 (v := .bool true) rfl (by kernel_rfl) (by kernel_rfl) (by kernel_rfl) rfl (fun _ _ _ h => h) (.inl ⟨by rfl, fun _ _ => by go_simp⟩) hS ?_
    simp only [Act.put, List.setIfInBounds_toArray, List.set_cons_zero, List.set_cons_succ]
    refine takeH (i := 3) 33 (v := .bool true) rfl (by kernel_rfl) (by kernel_rfl) (by kernel_rfl) rfl (fun _ _ _ h => h) (.inl ⟨by rfl, fun _ _ => by go_simp⟩) hS ?_
    simp only [Act.put, List.setIfInBounds_toArray, List.set_cons_zero, List.set_cons_succ]
    refine takeH (i := 4) 34 (v := .string u) rfl (by kernel_rfl) (by kernel_rfl) (by kernel_rfl) rfl (fun _ _ _ h => h) (.inl ⟨by rfl, fun _ _ => by go_simp⟩) hS ?_
    simp only [Act.put, List.setIfInBounds_toArray, List.set_cons_zero, List.set_cons_succ]
    refine takeH (i := 5) 35 (v := .agg (robCells x).toArray) rfl (by kernel_rfl) (by kernel_rfl) (by kernel_rfl) rfl (fun _ _ _ h => h) (yieldsIf_c Tryd.refRobTy (by rfl) _ rfl p 0 rfl (robCells x) rfl (fun _ h => h.1.range)) hS ?_
    simp only [Act.put, List.setIfInBounds_toArray, List.set_cons_zero, List.set_cons_succ]
    refine oneH (i := 6) (oi := ⟨some 36, _, _, _, _, _⟩) rfl (by kernel_rfl) (fun K0 hK => ?_)
    rw [if_pos (by rfl)]
    go_simp
    refine (RefLayRobot_any x HX.out _).mono ?_
    rw [← HU.out]
    rintro e0 w2x ⟨rfl, hb⟩
    have hS2 : RobAt w2x p x ∧ COwn w2x c (robCells x) ∧ Below w.heap.size w w2x := ⟨hS.1.carry hb, hS.2.1.carry hb (by show 0 < 7; decide), hS.2.2.trans (hb.mono hS.2.2.size)⟩
    replace HE6 := Lib.hid (HE6.out.carry hb)
    clear hb hS
    refine hK.out _ _ hS2 ?_
    clear hK K0
    have hS := hS2
    clear hS2
    try simp only [Act.put, List.setIfInBounds_toArray, List.set_cons_zero, List.set_cons_succ]
    refine takeH (i := 7) 37 (v := .bool true) rfl (by kernel_rfl) (by kernel_rfl) (by kernel_rfl) rfl (fun _ _ _ h => h) (.inl ⟨by rfl, fun _ _ => by go_simp⟩) hS ?_
    simp only [Act.put, List.setIfInBounds_toArray, List.set_cons_zero, List.set_cons_succ]
    refine takeH (i := 8) 38 (v := .bool true) rfl (by kernel_rfl) (by kernel_rfl) (by kernel_rfl) rfl (fun _ _ _ h => h) (.inl ⟨by rfl, fun _ _ => by go_simp⟩) hS ?_
    simp only [Act.put, List.setIfInBounds_toArray, List.set_cons_zero, List.set_cons_succ]
    refine takeH (i := 9) 39 (v := .bool true) rfl (by kernel_rfl) (by kernel_rfl) (by kernel_rfl) rfl (fun _ _ _ h => h) (.inl ⟨by rfl, fun _ _ => by go_simp⟩) hS ?_
    simp only [Act.put, List.setIfInBounds_toArray, List.set_cons_zero, List.set_cons_succ]
    refine takeH (i := 10) 40 (v := .string u) rfl (by kernel_rfl) (by kernel_rfl) (by kernel_rfl) rfl (fun _ _ _ h => h) (.inl ⟨by rfl, fun _ _ => by go_simp⟩) hS ?_
    simp only [Act.put, List.setIfInBounds_toArray, List.set_cons_zero, List.set_cons_succ]
    refine takeH (i := 11) 41 (v := .int .i64 (u.size : Int)) rfl (by kernel_rfl) (by kernel_rfl) (by kernel_rfl) rfl (fun _ _ _ h => h) (.inl ⟨by rfl, fun _ _ => by go_simp⟩) hS ?_
    simp only [Act.put, List.setIfInBounds_toArray, List.set_cons_zero, List.set_cons_succ]
    refine takeH (i := 12) 42 (v := .bool true) rfl (by kernel_rfl) (by kernel_rfl) (by kernel_rfl) rfl (fun _ _ _ h => h) (.inl ⟨by rfl, fun _ _ => by go_simp⟩) hS ?_
    simp only [Act.put, List.setIfInBounds_toArray, List.set_cons_zero, List.set_cons_succ]
    refine takeH (i := 13) 43 (v := .bool true) rfl (by kernel_rfl) (by kernel_rfl) (by kernel_rfl) rfl (fun _ _ _ h => h) (.inl ⟨by rfl, fun _ _ => by go_simp⟩) hS ?_
    simp only [Act.put, List.setIfInBounds_toArray, List.set_cons_zero, List.set_cons_succ]
    refine takeH (i := 14) 44 (v := .bool true) rfl (by kernel_rfl) (by kernel_rfl) (by kernel_rfl) rfl (fun _ _ _ h => h) (.inl ⟨by rfl, fun _ _ => by go_simp⟩) hS ?_
    simp only [Act.put, List.setIfInBounds_toArray, List.set_cons_zero, List.set_cons_succ]
    refine takeH (i := 15) 45 (v := z6) rfl (by kernel_rfl) (by kernel_rfl) (by kernel_rfl) rfl (fun _ _ _ h => h) (.inl ⟨by rfl, fun _ _ => by go_simp⟩) hS ?_
    simp only [Act.put, List.setIfInBounds_toArray, List.set_cons_zero, List.set_cons_succ]
    refine oneH (i := 16) (oi := ⟨some 46, _, _, _, _, _⟩) rfl (by kernel_rfl) (fun K0 hK => ?_)
    rw [if_pos (by rfl)]
    go_simp
    refine (Num_any 0 z6 _ HE6.out (HGK.out _ hS.2.2)).mono ?_
    rintro e0 w3x ⟨rfl, hb⟩
    have hS2 : RobAt w3x p x ∧ COwn w3x c (robCells x) ∧ Below w.heap.size w w3x := ⟨hS.1.carry hb, hS.2.1.carry hb (by show 0 < 7; decide), hS.2.2.trans (hb.mono hS.2.2.size)⟩
    replace HE6 := Lib.hid (HE6.out.carry hb)
    clear hb hS
    refine hK.out _ _ hS2 ?_
    clear hK K0
    have hS := hS2
    clear hS2
    try simp only [Act.put, List.setIfInBounds_toArray, List.set_cons_zero, List.set_cons_succ]
    refine takeH (i := 17) 47 (v := .bool true) rfl (by kernel_rfl) (by kernel_rfl) (by kernel_rfl) rfl (fun _ _ _ h => h) (.inl ⟨by rfl, fun _ _ => by go_simp⟩) hS ?_
    simp only [Act.put, List.setIfInBounds_toArray, List.set_cons_zero, List.set_cons_succ]
    refine takeH (i := 18) 48 (v := .bool true) rfl (by kernel_rfl) (by kernel_rfl) (by kernel_rfl) rfl (fun _ _ _ h => h) (.inl ⟨by rfl, fun _ _ => by go_simp⟩) hS ?_
    simp only [Act.put, List.setIfInBounds_toArray, List.set_cons_zero, List.set_cons_succ]
    refine takeH (i := 19) 49 (v := .bool true) rfl (by kernel_rfl) (by kernel_rfl) (by kernel_rfl) rfl (fun _ _ _ h => h) (.inl ⟨by rfl, fun _ _ => by go_simp⟩) hS ?_
    simp only [Act.put, List.setIfInBounds_toArray, List.set_cons_zero, List.set_cons_succ]
    refine takeH (i := 20) 50 (v := .agg (robCells x).toArray) rfl (by kernel_rfl) (by kernel_rfl) (by kernel_rfl) rfl (fun _ _ _ h => h) (yieldsIf_c Tryd.robTy (by rfl) _ rfl c 0 rfl (robCells x) rfl (fun _ h => h.2.1.at_)) hS ?_
    simp only [Act.put, List.setIfInBounds_toArray, List.set_cons_zero, List.set_cons_succ]
    refine takeH (i := 21) 51 (v := .agg (robCells x).toArray) rfl (by kernel_rfl) (by kernel_rfl) (by kernel_rfl) rfl (fun _ _ _ h => h) (yieldsIf_c Tryd.refRobTy (by rfl) _ rfl p 0 rfl (robCells x) rfl (fun _ h => h.1.range)) hS ?_
    simp only [Act.put, List.setIfInBounds_toArray, List.set_cons_zero, List.set_cons_succ]
    refine oneH (i := 22) (oi := ⟨some 52, _, _, _, _, _⟩) rfl (by kernel_rfl) (fun K0 hK => ?_)
    rw [if_pos (by rfl)]
    go_simp
    refine (OfRobot_any x _).mono ?_
    rintro e0 w4x ⟨rfl, hb⟩
    have hS2 : RobAt w4x p x ∧ COwn w4x c (robCells x) ∧ Below w.heap.size w w4x := ⟨hS.1.carry hb, hS.2.1.carry hb (by show 0 < 7; decide), hS.2.2.trans (hb.mono hS.2.2.size)⟩
    replace HE6 := Lib.hid (HE6.out.carry hb)
    clear hb hS
    refine hK.out _ _ hS2 ?_
    clear hK K0
    have hS := hS2
    clear hS2
    try simp only [Act.put, List.setIfInBounds_toArray, List.set_cons_zero, List.set_cons_succ]
    refine takeH (i := 23) 53 (v := .bool true) rfl (by kernel_rfl) (by kernel_rfl) (by kernel_rfl) rfl (fun _ _ _ h => h) (.inl ⟨by rfl, fun _ _ => by go_simp⟩) hS ?_
    simp only [Act.put, List.setIfInBounds_toArray, List.set_cons_zero, List.set_cons_succ]
    refine takeH (i := 24) 54 (v := .bool true) rfl (by kernel_rfl) (by kernel_rfl) (by kernel_rfl) rfl (fun _ _ _ h => h) (.inl ⟨by rfl, fun _ _ => by go_simp⟩) hS ?_
    simp only [Act.put, List.setIfInBounds_toArray, List.set_cons_zero, List.set_cons_succ]
    refine takeH (i := 25) 2 (v := .bool true) rfl (by kernel_rfl) (by kernel_rfl) (by kernel_rfl) rfl (fun _ _ _ h => h) (.inl ⟨by rfl, fun _ _ => by go_simp⟩) hS ?_
    simp only [Act.put, List.setIfInBounds_toArray, List.set_cons_zero, List.set_cons_succ]
    refine wpAnyH_done (by kernel_rfl) ?_ _
    go_wp2_with fail
    go_ret
    exact ⟨rfl, hS.2.2⟩
end Go.Proofs.YtjjlghdcpkkdhaaDoor
