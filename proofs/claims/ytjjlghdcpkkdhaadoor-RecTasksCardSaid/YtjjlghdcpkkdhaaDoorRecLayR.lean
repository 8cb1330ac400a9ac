/-
  The contract of rec.LayRobot. Conditions: none beyond the premises of each theorem.
-/
import Derived.Test.YtjjlghdcpkkdhaaDoorRecLayT
namespace Go.Proofs.YtjjlghdcpkkdhaaDoor
open Go.RowKit

def robV (x : Rob) : Value := .agg #[.int .i64 x.cell, .int .i64 x.charge, .int .i64 x.phase, .int .i64 x.task, .int .i64 x.moved, .int .i64 x.gained, .int .i64 x.adj]
structure RobAt (w : World) (b : Nat) (x : Rob) : Prop where
  c0 : w.cell? ⟨b, 0, none⟩ = some (.int .i64 x.cell)
  c1 : w.cell? ⟨b, 1, none⟩ = some (.int .i64 x.charge)
  c2 : w.cell? ⟨b, 2, none⟩ = some (.int .i64 x.phase)
  c3 : w.cell? ⟨b, 3, none⟩ = some (.int .i64 x.task)
  c4 : w.cell? ⟨b, 4, none⟩ = some (.int .i64 x.moved)
  c5 : w.cell? ⟨b, 5, none⟩ = some (.int .i64 x.gained)
  c6 : w.cell? ⟨b, 6, none⟩ = some (.int .i64 x.adj)
theorem RobAt.carry {w w' : World} {b : Nat} {x : Rob} (h : RobAt w b x) (hb : Below w.heap.size w w') : RobAt w' b x :=
  have hl : b < w.heap.size := below_block h.c0
  ⟨(hb.cell (p := ⟨b, 0, none⟩) hl).trans h.c0, (hb.cell (p := ⟨b, 1, none⟩) hl).trans h.c1, (hb.cell (p := ⟨b, 2, none⟩) hl).trans h.c2, (hb.cell (p := ⟨b, 3, none⟩) hl).trans h.c3, (hb.cell (p := ⟨b, 4, none⟩) hl).trans h.c4, (hb.cell (p := ⟨b, 5, none⟩) hl).trans h.c5, (hb.cell (p := ⟨b, 6, none⟩) hl).trans h.c6⟩
theorem RobAt.drewN {w : World} {b : Nat} {x : Rob} (h : RobAt w b x) (n : Nat) : RobAt (w.drewN n) b x := ⟨h.c0, h.c1, h.c2, h.c3, h.c4, h.c5, h.c6⟩
theorem RobAt.new {w : World} {x : Rob} (ty : TypeId) : RobAt (w.alloc (.cells #[.int .i64 x.cell, .int .i64 x.charge, .int .i64 x.phase, .int .i64 x.task, .int .i64 x.moved, .int .i64 x.gained, .int .i64 x.adj] ty)) w.heap.size x := ⟨by simp, by simp, by simp, by simp, by simp, by simp, by simp⟩
def prtsR (x : Rob) : List Prt := [⟨x.cell, 0, 63⟩, ⟨x.charge, 0, 200⟩, ⟨x.phase, 0, 4⟩, ⟨x.task, -1, 19⟩, ⟨x.moved, 0, 16777215⟩, ⟨x.gained, 0, 16777215⟩, ⟨x.adj, -32768, 32767⟩]
theorem prtsR_ok (x : Rob) : (prtsR x).all Prt.ok = rightR x := by
  simp only [prtsR, List.all_cons, List.all_nil, Prt.ok, rightR, Bool.and_true]
  rw [Bool.eq_iff_iff]
  simp only [Bool.and_eq_true, decide_eq_true_eq]
  omega
theorem ints_numsR {x : Rob} (h : rightR x = true) : ints (numsR x) = [x.cell, x.charge, x.phase, x.task + 1, x.moved, x.gained, x.adj + 32768] := by
  have h := of_decide_eq_true h
  simp only [numsR, ints, List.map_cons, List.map_nil, List.cons.injEq, and_true]
  omega
theorem wrapR {x : Rob} (h : rightR x = true) : IntKind.i64.wrap (x.task + 1) = x.task + 1 ∧ IntKind.i64.wrap (x.adj + 32768) = x.adj + 32768 := by
  have h := of_decide_eq_true h
  exact ⟨IntWalk.i64_in _ (by omega), IntWalk.i64_in _ (by omega)⟩
set_option maxRecDepth 100000 in
theorem LayRobot_any (x : Rob) (w : World) : Calls Tryd.prog 9 #[robV x] w (RecLayPost (rightR x) (layR x) w) := by
  obtain ⟨b, HB⟩ : ∃ b, Hid (b = w.heap.size) := ⟨_, Lib.hid rfl⟩
  unfold robV
  go_enter Tryd.func9, Tryd.ntmps9
  go_upto_region 1 with (fail)
  obtain ⟨w1, HW⟩ : ∃ w1, Hid (w1 = w.alloc (.cells #[.int .i64 x.cell, .int .i64 x.charge, .int .i64 x.phase, .int .i64 x.task, .int .i64 x.moved, .int .i64 x.gained, .int .i64 x.adj] 29)) := ⟨_, Lib.hid rfl⟩
  rw [← HW.out, ← HB.out]
  have HO : Hid (RobAt w1 b x) := Lib.hid (by rw [HW.out, HB.out]; exact RobAt.new _)
  have HBL : Hid (Below w.heap.size w w1) := Lib.hid (by rw [HW.out]; exact (Below.refl _ _).alloc (Nat.le_refl _) _)
  clear HW
  obtain ⟨c0, c1, c2, c3, c4, c5, c6⟩ := HO.out
  go_wp2_with (with_reducible refine stop_at (o := ⟨some 25, _, _, _, _, _⟩) ?_)
  refine wpList_prts rfl 7 _ rfl (prtsR x) rfl (by decide) (by decide) rfl ?_
  intro w2 B2 HE2 HP2 HB2 HL2
  have HO2 := Lib.hid (HO.out.carry HB2.out)
  have HBL2 := Lib.hid (HBL.out.trans (HB2.out.mono HBL.out.size))
  clear HO HBL HB2 c0 c1 c2 c3 c4 c5 c6
  go_wp2_with fail
  refine (mayBe_any (prtsR x) B2 7 w2 HP2.out HL2.out (by decide : (7 : Nat) ≤ 100)).mono ?_
  rw [prtsR_ok]
  rintro e w3 ⟨rfl, hb⟩
  have HO3 := Lib.hid (HO2.out.carry (hb))
  have HBL3 := Lib.hid (HBL2.out.trans (hb.mono HBL2.out.size))
  clear hb HO2 HBL2 HP2 HL2 HE2
  cases hr : rightR x with
  | false =>
    have HNo : Hid (∀ v w', ErrFrom w' w.heap.size 8 v → Below w.heap.size w w' → RecLayPost (rightR x) (layR x) w (.returned (.tuple #[.string ⟨#[]⟩, v])) w') := Lib.hid fun v w' h1 h2 => by rw [hr]; exact ⟨v, rfl, h1, h2⟩
    clear hr
    go_wp2_with fail
    refine (RecFault_any 8 (by decide) _).mono ?_
    rintro e w4 ⟨v, rfl, he, hb⟩
    have HE := Lib.hid (he.mono HBL3.out.size)
    have HB4 := Lib.hid (HBL3.out.trans (hb.mono HBL3.out.size))
    clear he hb
    go_wp2_with fail
    go_ret2
    exact HNo.out v _ HE.out HB4.out
  | true =>
    have HNI := Lib.hid (ints_numsR hr)
    have HR := Lib.hid hr
    have HY := Lib.hid (recLay_of (ws := wsR) (ns := numsR x) widthsR (lenR x) (fitR hr))
    obtain ⟨s, HS⟩ : ∃ s : ByteArray, Hid (s = ⟨(layR x).toArray⟩) := ⟨_, Lib.hid rfl⟩
    have HPost : Hid (∀ w', Below w.heap.size w w' → RecLayPost (rightR x) (layR x) w (.returned (.tuple #[.string s, .nilIface])) w') := Lib.hid fun w' h => by rw [hr]; exact ⟨_, by rw [HS.out]; rfl, .nil _ _, h⟩
    have hw1 := (wrapR hr).1
    have hw2 := (wrapR hr).2
    clear hr
    go_wp2_with fail
    refine wp_region_held (S := fun wr => RobAt wr b x ∧ Below w.heap.size w wr) (by kernel_rfl) ?_
    change wpAnyH _ _ _ _ _ _ _ _ w3.drew
    obtain ⟨wa, HWA⟩ : ∃ wa, Hid (wa = w3.drew) := ⟨_, Lib.hid rfl⟩
    rw [← HWA.out]
    have hS : RobAt wa b x ∧ Below w.heap.size w wa := by rw [HWA.out]; exact ⟨HO3.out.drewN 1, HBL3.out.drew⟩
    clear HWA HO3 HBL3
    refine takeH (i := 1) 30 (v := .pointer (some ⟨b, 0, none⟩)) rfl (by kernel_rfl) (by kernel_rfl) (by kernel_rfl) rfl (fun _ _ _ h => h) (.inl ⟨by rfl, fun _ _ => by go_simp⟩) hS ?_
    simp only [Act.put, List.setIfInBounds_toArray, List.set_cons_zero, List.set_cons_succ]
    refine takeH (i := 2) 31 (v := .int .i64 x.cell) rfl (by kernel_rfl) (by kernel_rfl) (by kernel_rfl) rfl (fun _ _ _ h => h) (.inl ⟨by rfl, fun _ h => by have c0 := h.1.c0; go_simp⟩) hS ?_
    simp only [Act.put, List.setIfInBounds_toArray, List.set_cons_zero, List.set_cons_succ]
    refine takeH (i := 3) 32 (v := .pointer (some ⟨b, 1, none⟩)) rfl (by kernel_rfl) (by kernel_rfl) (by kernel_rfl) rfl (fun _ _ _ h => h) (.inl ⟨by rfl, fun _ _ => by go_simp⟩) hS ?_
    simp only [Act.put, List.setIfInBounds_toArray, List.set_cons_zero, List.set_cons_succ]
    refine takeH (i := 4) 33 (v := .int .i64 x.charge) rfl (by kernel_rfl) (by kernel_rfl) (by kernel_rfl) rfl (fun _ _ _ h => h) (.inl ⟨by rfl, fun _ h => by have c0 := h.1.c1; go_simp⟩) hS ?_
    simp only [Act.put, List.setIfInBounds_toArray, List.set_cons_zero, List.set_cons_succ]
    refine takeH (i := 5) 34 (v := .pointer (some ⟨b, 2, none⟩)) rfl (by kernel_rfl) (by kernel_rfl) (by kernel_rfl) rfl (fun _ _ _ h => h) (.inl ⟨by rfl, fun _ _ => by go_simp⟩) hS ?_
    simp only [Act.put, List.setIfInBounds_toArray, List.set_cons_zero, List.set_cons_succ]
    refine takeH (i := 6) 35 (v := .int .i64 x.phase) rfl (by kernel_rfl) (by kernel_rfl) (by kernel_rfl) rfl (fun _ _ _ h => h) (.inl ⟨by rfl, fun _ h => by have c0 := h.1.c2; go_simp⟩) hS ?_
    simp only [Act.put, List.setIfInBounds_toArray, List.set_cons_zero, List.set_cons_succ]
    refine takeH (i := 7) 36 (v := .pointer (some ⟨b, 3, none⟩)) rfl (by kernel_rfl) (by kernel_rfl) (by kernel_rfl) rfl (fun _ _ _ h => h) (.inl ⟨by rfl, fun _ _ => by go_simp⟩) hS ?_
    simp only [Act.put, List.setIfInBounds_toArray, List.set_cons_zero, List.set_cons_succ]
    refine takeH (i := 8) 37 (v := .int .i64 x.task) rfl (by kernel_rfl) (by kernel_rfl) (by kernel_rfl) rfl (fun _ _ _ h => h) (.inl ⟨by rfl, fun _ h => by have c0 := h.1.c3; go_simp⟩) hS ?_
    simp only [Act.put, List.setIfInBounds_toArray, List.set_cons_zero, List.set_cons_succ]
    refine takeH (i := 9) 38 (v := .int .i64 (x.task + 1)) rfl (by kernel_rfl) (by kernel_rfl) (by kernel_rfl) rfl (fun _ _ _ h => h) (.inl ⟨by rfl, fun _ _ => by go_simp⟩) hS ?_
    simp only [Act.put, List.setIfInBounds_toArray, List.set_cons_zero, List.set_cons_succ]
    refine takeH (i := 10) 39 (v := .pointer (some ⟨b, 4, none⟩)) rfl (by kernel_rfl) (by kernel_rfl) (by kernel_rfl) rfl (fun _ _ _ h => h) (.inl ⟨by rfl, fun _ _ => by go_simp⟩) hS ?_
    simp only [Act.put, List.setIfInBounds_toArray, List.set_cons_zero, List.set_cons_succ]
    refine takeH (i := 11) 40 (v := .int .i64 x.moved) rfl (by kernel_rfl) (by kernel_rfl) (by kernel_rfl) rfl (fun _ _ _ h => h) (.inl ⟨by rfl, fun _ h => by have c0 := h.1.c4; go_simp⟩) hS ?_
    simp only [Act.put, List.setIfInBounds_toArray, List.set_cons_zero, List.set_cons_succ]
    refine takeH (i := 12) 41 (v := .pointer (some ⟨b, 5, none⟩)) rfl (by kernel_rfl) (by kernel_rfl) (by kernel_rfl) rfl (fun _ _ _ h => h) (.inl ⟨by rfl, fun _ _ => by go_simp⟩) hS ?_
    simp only [Act.put, List.setIfInBounds_toArray, List.set_cons_zero, List.set_cons_succ]
    refine takeH (i := 13) 42 (v := .int .i64 x.gained) rfl (by kernel_rfl) (by kernel_rfl) (by kernel_rfl) rfl (fun _ _ _ h => h) (.inl ⟨by rfl, fun _ h => by have c0 := h.1.c5; go_simp⟩) hS ?_
    simp only [Act.put, List.setIfInBounds_toArray, List.set_cons_zero, List.set_cons_succ]
    refine takeH (i := 14) 43 (v := .pointer (some ⟨b, 6, none⟩)) rfl (by kernel_rfl) (by kernel_rfl) (by kernel_rfl) rfl (fun _ _ _ h => h) (.inl ⟨by rfl, fun _ _ => by go_simp⟩) hS ?_
    simp only [Act.put, List.setIfInBounds_toArray, List.set_cons_zero, List.set_cons_succ]
    refine takeH (i := 15) 44 (v := .int .i64 x.adj) rfl (by kernel_rfl) (by kernel_rfl) (by kernel_rfl) rfl (fun _ _ _ h => h) (.inl ⟨by rfl, fun _ h => by have c0 := h.1.c6; go_simp⟩) hS ?_
    simp only [Act.put, List.setIfInBounds_toArray, List.set_cons_zero, List.set_cons_succ]
    refine takeH (i := 16) 45 (v := .int .i64 (x.adj + 32768)) rfl (by kernel_rfl) (by kernel_rfl) (by kernel_rfl) rfl (fun _ _ _ h => h) (.inl ⟨by rfl, fun _ _ => by go_simp⟩) hS ?_
    simp only [Act.put, List.setIfInBounds_toArray, List.set_cons_zero, List.set_cons_succ]
    refine twoH (i := 0) (j := 17) (oi := ⟨some 29, _, _, _, _, _⟩) (oj := ⟨some 46, _, _, _, _, _⟩) rfl rfl (by kernel_rfl) (fun K0 hK => ?_) (fun K0 hK => ?_)
    case' refine_1 =>
      go_simp
      refine (robotWidths_any _).mono ?_
      rintro e wy ⟨B5, rfl, hn, hb⟩
      have HN5 := Lib.hid hn
      have hS2 := carry2 (R := fun wr => RobAt wr b x) hS hb (fun h hb => RobAt.carry h hb)
      have hb5 := Lib.hid hb
      clear hn hb hS
      refine hK.out _ _ hS2 ?_
      clear hK K0
      have hS := hS2
      clear hS2
      try simp only [Act.put, List.setIfInBounds_toArray, List.set_cons_zero, List.set_cons_succ]
      refine oneH (i := 17) (oi := ⟨some 46, _, _, _, _, _⟩) rfl (by kernel_rfl) (fun K0 hK => ?_)
      rw [if_pos (by rfl)]
      refine wp_ints 7 _ rfl [x.cell, x.charge, x.phase, x.task + 1, x.moved, x.gained, x.adj + 32768] rfl (by decide) (by decide) rfl ?_
      intro wz B6 HE6 HN6 HB6
      have hS2 := carry2 (R := fun wr => RobAt wr b x) hS HB6.out (fun h hb => RobAt.carry h hb)
      clear HE6 hS
      refine hK.out _ _ hS2 ?_
      clear hK K0
      have hS := hS2
      clear hS2
      try simp only [Act.put, List.setIfInBounds_toArray, List.set_cons_zero, List.set_cons_succ]
      replace HN5 := Lib.hid (HN5.out.carry HB6.out)
      clear HB6 hb5
    case' refine_2 =>
      rw [if_pos (by rfl)]
      refine wp_ints 7 _ rfl [x.cell, x.charge, x.phase, x.task + 1, x.moved, x.gained, x.adj + 32768] rfl (by decide) (by decide) rfl ?_
      intro wy B6 HE6 HN6 HB6
      have hS2 := carry2 (R := fun wr => RobAt wr b x) hS HB6.out (fun h hb => RobAt.carry h hb)
      clear HE6 hS
      refine hK.out _ _ hS2 ?_
      clear hK K0
      have hS := hS2
      clear hS2
      try simp only [Act.put, List.setIfInBounds_toArray, List.set_cons_zero, List.set_cons_succ]
      refine oneH (i := 0) (oi := ⟨some 29, _, _, _, _, _⟩) rfl (by kernel_rfl) (fun K0 hK => ?_)
      go_simp
      refine (robotWidths_any _).mono ?_
      rintro e wz ⟨B5, rfl, hn, hb⟩
      have HN5 := Lib.hid hn
      have hS2 := carry2 (R := fun wr => RobAt wr b x) hS hb (fun h hb => RobAt.carry h hb)
      have hb5 := Lib.hid hb
      clear hn hb hS
      refine hK.out _ _ hS2 ?_
      clear hK K0
      have hS := hS2
      clear hS2
      try simp only [Act.put, List.setIfInBounds_toArray, List.set_cons_zero, List.set_cons_succ]
      replace HN6 := Lib.hid (HN6.out.carry hb5.out)
      clear HB6 hb5
    all_goals
      replace HN6 : Hid (Nums wz .i64 (some ⟨B6, 0, none⟩) (ints (numsR x))) := Lib.hid (by rw [HNI.out]; exact HN6.out)
      refine oneH (i := 18) (oi := ⟨some 47, _, _, _, _, _⟩) rfl (by kernel_rfl) (fun K0 hK => ?_)
      go_simp
      refine (HY.out wz B5 B6 HN5.out HN6.out).mono ?_
      rw [show lays ((wsR).zip (numsR x)) = layR x from rfl]
      unfold FieldsPost
      rw [← HS.out]
      rintro e wk ⟨rfl, hb⟩
      have hS2 := carry2 (R := fun wr => RobAt wr b x) hS hb (fun h hb => RobAt.carry h hb)
      clear hb hS HN5 HN6
      refine hK.out _ _ hS2 ?_
      clear hK K0
      have hS := hS2
      clear hS2
      try simp only [Act.put, List.setIfInBounds_toArray, List.set_cons_zero, List.set_cons_succ]
      refine takeH (i := 19) 48 (v := .string s) rfl (by kernel_rfl) (by kernel_rfl) (by kernel_rfl) rfl (fun _ _ _ h => h) (.inl ⟨by rfl, fun _ _ => by go_simp⟩) hS ?_
      simp only [Act.put, List.setIfInBounds_toArray, List.set_cons_zero, List.set_cons_succ]
      refine takeH (i := 20) 49 (v := .nilIface) rfl (by kernel_rfl) (by kernel_rfl) (by kernel_rfl) rfl (fun _ _ _ h => h) (.inl ⟨by rfl, fun _ _ => by go_simp⟩) hS ?_
      simp only [Act.put, List.setIfInBounds_toArray, List.set_cons_zero, List.set_cons_succ]
      refine takeH (i := 21) 2 (v := .string s) rfl (by kernel_rfl) (by kernel_rfl) (by kernel_rfl) rfl (fun _ _ _ h => h) (.inl ⟨by rfl, fun _ _ => by go_simp⟩) hS ?_
      simp only [Act.put, List.setIfInBounds_toArray, List.set_cons_zero, List.set_cons_succ]
      refine takeH (i := 22) 3 (v := .nilIface) rfl (by kernel_rfl) (by kernel_rfl) (by kernel_rfl) rfl (fun _ _ _ h => h) (.inl ⟨by rfl, fun _ _ => by go_simp⟩) hS ?_
      simp only [Act.put, List.setIfInBounds_toArray, List.set_cons_zero, List.set_cons_succ]
      refine wpAnyH_done (by kernel_rfl) ?_ _
      go_wp2_with fail
      go_ret2
      exact HPost.out _ hS.2
end Go.Proofs.YtjjlghdcpkkdhaaDoor
