/-
  The closures by which rec reads a robot and a task: the thing that numbers tell. Conditions: none beyond the premises of each theorem.
-/
import Derived.Test.YtjjlghdcpkkdhaaDoorRecLayA
import Derived.Test.YtjjlghdcpkkdhaaDoorCells
namespace Go.Proofs.YtjjlghdcpkkdhaaDoor
open Go.RowKit

def robCells (x : Rob) : List Value := [.int .i64 x.cell, .int .i64 x.charge, .int .i64 x.phase, .int .i64 x.task, .int .i64 x.moved, .int .i64 x.gained, .int .i64 x.adj]
def tasCells (x : Tas) : List Value := [.int .i64 x.frm, .int .i64 x.to, .int .i64 x.state]
def alsCells (x : Als) : List Value := .int .i64 x.tick :: offCells x.off
theorem robCells_one (x : Rob) : ∀ v ∈ robCells x, v.oneCell' = true := by
  intro v hv
  simp only [robCells, List.mem_cons, List.not_mem_nil, or_false] at hv
  rcases hv with rfl | rfl | rfl | rfl | rfl | rfl | rfl <;> rfl
theorem tasCells_one (x : Tas) : ∀ v ∈ tasCells x, v.oneCell' = true := by
  intro v hv
  simp only [tasCells, List.mem_cons, List.not_mem_nil, or_false] at hv
  rcases hv with rfl | rfl | rfl <;> rfl
theorem alsCells_one (x : Als) : ∀ v ∈ alsCells x, v.oneCell' = true := by
  intro v hv
  rcases List.mem_cons.1 hv with rfl | hv
  · rfl
  · obtain ⟨n, _, rfl⟩ := List.mem_map.1 hv
    rfl
theorem alsCells_len {x : Als} (h : x.Ok) : (alsCells x).length = 9 := by simp [alsCells, offCells, h.len]
theorem Tryd.robTy : RowTy Tryd.prog 29 7 := ⟨⟨_, Tryd.underlying29, rfl⟩, by kernel_rfl⟩
theorem Tryd.tasTy : RowTy Tryd.prog 42 3 := ⟨⟨_, Tryd.underlying42, rfl⟩, by kernel_rfl⟩
theorem Tryd.alsTy : RowTy Tryd.prog 44 9 := ⟨⟨_, Tryd.underlying44, rfl⟩, by kernel_rfl⟩
/-- what stands in memory while the numbers are read -/
structure TRS (w : World) (b g : Nat) (n0 n1 n2 n3 n4 n5 n6 : Nat) (wr : World) : Prop where
  own : ∃ cs : List Value, cs.length = 7 ∧ COwn wr b cs
  l0 : wr.cell? ⟨g, 0, none⟩ = some (.int .i64 (n0 : Int))
  l1 : wr.cell? ⟨g, 1, none⟩ = some (.int .i64 (n1 : Int))
  l2 : wr.cell? ⟨g, 2, none⟩ = some (.int .i64 (n2 : Int))
  l3 : wr.cell? ⟨g, 3, none⟩ = some (.int .i64 (n3 : Int))
  l4 : wr.cell? ⟨g, 4, none⟩ = some (.int .i64 (n4 : Int))
  l5 : wr.cell? ⟨g, 5, none⟩ = some (.int .i64 (n5 : Int))
  l6 : wr.cell? ⟨g, 6, none⟩ = some (.int .i64 (n6 : Int))
  below : Below w.heap.size w wr
set_option maxRecDepth 100000 in
theorem tellRobot_any (n0 n1 n2 n3 n4 n5 n6 g cap : Nat) (w : World) (hn3 : n3 < 4294967296) (hn6 : n6 < 4294967296) (hn : Nums w .i64 (some ⟨g, 0, none⟩) (ints [n0, n1, n2, n3, n4, n5, n6])) :
    Calls Tryd.prog 29 #[.slice (some ⟨g, 0, none⟩) 7 cap] w fun e w' => e = .returned (.agg (robCells (tellR [n0, n1, n2, n3, n4, n5, n6])).toArray) ∧ Below w.heap.size w w' := by
  obtain ⟨A, hA, hlt, hc⟩ := hn (by simp [ints])
  obtain rfl : ⟨g, 0, none⟩ = A := Option.some.inj hA
  have hwn3 : IntKind.i64.wrap ((n3 : Int) - 1) = (n3 : Int) - 1 := IntWalk.i64_in _ (by omega)
  have hwn6 : IntKind.i64.wrap ((n6 : Int) - 32768) = (n6 : Int) - 32768 := IntWalk.i64_in _ (by omega)
  have d0 := hc 0 (n0 : Int) rfl
  have d1 := hc 1 (n1 : Int) rfl
  have d2 := hc 2 (n2 : Int) rfl
  have d3 := hc 3 (n3 : Int) rfl
  have d4 := hc 4 (n4 : Int) rfl
  have d5 := hc 5 (n5 : Int) rfl
  have d6 := hc 6 (n6 : Int) rfl
  simp only [Addr.add_mid, Nat.zero_add] at d0 d1 d2 d3 d4 d5 d6
  clear hc hA hn
  obtain ⟨b, HB⟩ : ∃ b, Hid (b = w.heap.size) := ⟨_, Lib.hid rfl⟩
  have HLT := Lib.hid hlt
  clear hlt
  go_enter Tryd.func29, Tryd.ntmps29
  go_upto_region 1 with (fail)
  obtain ⟨w1, HW⟩ : ∃ w1, Hid (w1 = w.alloc (.cells #[.int .i64 0, .int .i64 0, .int .i64 0, .int .i64 0, .int .i64 0, .int .i64 0, .int .i64 0] 29)) := ⟨_, Lib.hid rfl⟩
  rw [← HW.out, ← HB.out]
  refine wp_region_held (S := TRS w b g n0 n1 n2 n3 n4 n5 n6) (by kernel_rfl) ?_
  change wpAnyH _ _ _ _ _ _ _ _ w1.drew
  obtain ⟨wa, HWA⟩ : ∃ wa, Hid (wa = w1.drew) := ⟨_, Lib.hid rfl⟩
  rw [← HWA.out]
  have hS : TRS w b g n0 n1 n2 n3 n4 n5 n6 wa := by
    have hb : Below w.heap.size w wa := by rw [HWA.out, HW.out]; exact ((Below.refl _ _).alloc (Nat.le_refl _) _).drew
    refine ⟨by rw [HWA.out, HW.out, HB.out]; exact ⟨_, rfl, (COwn.new (robCells Rob.zero) _).drewN 1⟩, (hb.cell (p := ⟨g, 0, none⟩) HLT.out).trans d0, (hb.cell (p := ⟨g, 1, none⟩) HLT.out).trans d1, (hb.cell (p := ⟨g, 2, none⟩) HLT.out).trans d2, (hb.cell (p := ⟨g, 3, none⟩) HLT.out).trans d3, (hb.cell (p := ⟨g, 4, none⟩) HLT.out).trans d4, (hb.cell (p := ⟨g, 5, none⟩) HLT.out).trans d5, (hb.cell (p := ⟨g, 6, none⟩) HLT.out).trans d6, hb⟩
  clear HWA HW d0 d1 d2 d3 d4 d5 d6
  refine takeH (i := 0) 3 (v := .slice (some ⟨g, 0, none⟩) 7 cap) rfl (by kernel_rfl) (by kernel_rfl) (by kernel_rfl) rfl (fun _ _ _ h => h) (.inl ⟨by rfl, fun _ _ => by go_simp⟩) hS ?_
  simp only [Act.put, List.setIfInBounds_toArray, List.set_cons_zero, List.set_cons_succ]
  refine takeH (i := 1) 4 (v := .pointer (some ⟨g, 0, none⟩)) rfl (by kernel_rfl) (by kernel_rfl) (by kernel_rfl) rfl (fun _ _ _ h => h) (.inl ⟨by rfl, fun _ _ => by go_simp⟩) hS ?_
  simp only [Act.put, List.setIfInBounds_toArray, List.set_cons_zero, List.set_cons_succ]
  refine takeH (i := 2) 5 (v := .int .i64 (n0 : Int)) rfl (by kernel_rfl) (by kernel_rfl) (by kernel_rfl) rfl (fun _ _ _ h => h) (.inl ⟨by rfl, fun _ h => by have c0 := h.l0; go_simp⟩) hS ?_
  simp only [Act.put, List.setIfInBounds_toArray, List.set_cons_zero, List.set_cons_succ]
  refine takeH (i := 3) 6 (v := .slice (some ⟨g, 0, none⟩) 7 cap) rfl (by kernel_rfl) (by kernel_rfl) (by kernel_rfl) rfl (fun _ _ _ h => h) (.inl ⟨by rfl, fun _ _ => by go_simp⟩) hS ?_
  simp only [Act.put, List.setIfInBounds_toArray, List.set_cons_zero, List.set_cons_succ]
  refine takeH (i := 4) 7 (v := .pointer (some ⟨g, 1, none⟩)) rfl (by kernel_rfl) (by kernel_rfl) (by kernel_rfl) rfl (fun _ _ _ h => h) (.inl ⟨by rfl, fun _ _ => by go_simp⟩) hS ?_
  simp only [Act.put, List.setIfInBounds_toArray, List.set_cons_zero, List.set_cons_succ]
  refine takeH (i := 5) 8 (v := .int .i64 (n1 : Int)) rfl (by kernel_rfl) (by kernel_rfl) (by kernel_rfl) rfl (fun _ _ _ h => h) (.inl ⟨by rfl, fun _ h => by have c0 := h.l1; go_simp⟩) hS ?_
  simp only [Act.put, List.setIfInBounds_toArray, List.set_cons_zero, List.set_cons_succ]
  refine takeH (i := 6) 9 (v := .slice (some ⟨g, 0, none⟩) 7 cap) rfl (by kernel_rfl) (by kernel_rfl) (by kernel_rfl) rfl (fun _ _ _ h => h) (.inl ⟨by rfl, fun _ _ => by go_simp⟩) hS ?_
  simp only [Act.put, List.setIfInBounds_toArray, List.set_cons_zero, List.set_cons_succ]
  refine takeH (i := 7) 10 (v := .pointer (some ⟨g, 2, none⟩)) rfl (by kernel_rfl) (by kernel_rfl) (by kernel_rfl) rfl (fun _ _ _ h => h) (.inl ⟨by rfl, fun _ _ => by go_simp⟩) hS ?_
  simp only [Act.put, List.setIfInBounds_toArray, List.set_cons_zero, List.set_cons_succ]
  refine takeH (i := 8) 11 (v := .int .i64 (n2 : Int)) rfl (by kernel_rfl) (by kernel_rfl) (by kernel_rfl) rfl (fun _ _ _ h => h) (.inl ⟨by rfl, fun _ h => by have c0 := h.l2; go_simp⟩) hS ?_
  simp only [Act.put, List.setIfInBounds_toArray, List.set_cons_zero, List.set_cons_succ]
  refine takeH (i := 9) 12 (v := .slice (some ⟨g, 0, none⟩) 7 cap) rfl (by kernel_rfl) (by kernel_rfl) (by kernel_rfl) rfl (fun _ _ _ h => h) (.inl ⟨by rfl, fun _ _ => by go_simp⟩) hS ?_
  simp only [Act.put, List.setIfInBounds_toArray, List.set_cons_zero, List.set_cons_succ]
  refine takeH (i := 10) 13 (v := .pointer (some ⟨g, 3, none⟩)) rfl (by kernel_rfl) (by kernel_rfl) (by kernel_rfl) rfl (fun _ _ _ h => h) (.inl ⟨by rfl, fun _ _ => by go_simp⟩) hS ?_
  simp only [Act.put, List.setIfInBounds_toArray, List.set_cons_zero, List.set_cons_succ]
  refine takeH (i := 11) 14 (v := .int .i64 (n3 : Int)) rfl (by kernel_rfl) (by kernel_rfl) (by kernel_rfl) rfl (fun _ _ _ h => h) (.inl ⟨by rfl, fun _ h => by have c0 := h.l3; go_simp⟩) hS ?_
  simp only [Act.put, List.setIfInBounds_toArray, List.set_cons_zero, List.set_cons_succ]
  refine takeH (i := 12) 15 (v := .int .i64 ((n3 : Int) - 1)) rfl (by kernel_rfl) (by kernel_rfl) (by kernel_rfl) rfl (fun _ _ _ h => h) (.inl ⟨by rfl, fun _ _ => by go_simp⟩) hS ?_
  simp only [Act.put, List.setIfInBounds_toArray, List.set_cons_zero, List.set_cons_succ]
  refine takeH (i := 13) 16 (v := .slice (some ⟨g, 0, none⟩) 7 cap) rfl (by kernel_rfl) (by kernel_rfl) (by kernel_rfl) rfl (fun _ _ _ h => h) (.inl ⟨by rfl, fun _ _ => by go_simp⟩) hS ?_
  simp only [Act.put, List.setIfInBounds_toArray, List.set_cons_zero, List.set_cons_succ]
  refine takeH (i := 14) 17 (v := .pointer (some ⟨g, 4, none⟩)) rfl (by kernel_rfl) (by kernel_rfl) (by kernel_rfl) rfl (fun _ _ _ h => h) (.inl ⟨by rfl, fun _ _ => by go_simp⟩) hS ?_
  simp only [Act.put, List.setIfInBounds_toArray, List.set_cons_zero, List.set_cons_succ]
  refine takeH (i := 15) 18 (v := .int .i64 (n4 : Int)) rfl (by kernel_rfl) (by kernel_rfl) (by kernel_rfl) rfl (fun _ _ _ h => h) (.inl ⟨by rfl, fun _ h => by have c0 := h.l4; go_simp⟩) hS ?_
  simp only [Act.put, List.setIfInBounds_toArray, List.set_cons_zero, List.set_cons_succ]
  refine takeH (i := 16) 19 (v := .slice (some ⟨g, 0, none⟩) 7 cap) rfl (by kernel_rfl) (by kernel_rfl) (by kernel_rfl) rfl (fun _ _ _ h => h) (.inl ⟨by rfl, fun _ _ => by go_simp⟩) hS ?_
  simp only [Act.put, List.setIfInBounds_toArray, List.set_cons_zero, List.set_cons_succ]
  refine takeH (i := 17) 20 (v := .pointer (some ⟨g, 5, none⟩)) rfl (by kernel_rfl) (by kernel_rfl) (by kernel_rfl) rfl (fun _ _ _ h => h) (.inl ⟨by rfl, fun _ _ => by go_simp⟩) hS ?_
  simp only [Act.put, List.setIfInBounds_toArray, List.set_cons_zero, List.set_cons_succ]
  refine takeH (i := 18) 21 (v := .int .i64 (n5 : Int)) rfl (by kernel_rfl) (by kernel_rfl) (by kernel_rfl) rfl (fun _ _ _ h => h) (.inl ⟨by rfl, fun _ h => by have c0 := h.l5; go_simp⟩) hS ?_
  simp only [Act.put, List.setIfInBounds_toArray, List.set_cons_zero, List.set_cons_succ]
  refine takeH (i := 19) 22 (v := .slice (some ⟨g, 0, none⟩) 7 cap) rfl (by kernel_rfl) (by kernel_rfl) (by kernel_rfl) rfl (fun _ _ _ h => h) (.inl ⟨by rfl, fun _ _ => by go_simp⟩) hS ?_
  simp only [Act.put, List.setIfInBounds_toArray, List.set_cons_zero, List.set_cons_succ]
  refine takeH (i := 20) 23 (v := .pointer (some ⟨g, 6, none⟩)) rfl (by kernel_rfl) (by kernel_rfl) (by kernel_rfl) rfl (fun _ _ _ h => h) (.inl ⟨by rfl, fun _ _ => by go_simp⟩) hS ?_
  simp only [Act.put, List.setIfInBounds_toArray, List.set_cons_zero, List.set_cons_succ]
  refine takeH (i := 21) 24 (v := .int .i64 (n6 : Int)) rfl (by kernel_rfl) (by kernel_rfl) (by kernel_rfl) rfl (fun _ _ _ h => h) (.inl ⟨by rfl, fun _ h => by have c0 := h.l6; go_simp⟩) hS ?_
  simp only [Act.put, List.setIfInBounds_toArray, List.set_cons_zero, List.set_cons_succ]
  refine takeH (i := 22) 25 (v := .int .i64 ((n6 : Int) - 32768)) rfl (by kernel_rfl) (by kernel_rfl) (by kernel_rfl) rfl (fun _ _ _ h => h) (.inl ⟨by rfl, fun _ _ => by go_simp⟩) hS ?_
  simp only [Act.put, List.setIfInBounds_toArray, List.set_cons_zero, List.set_cons_succ]
  refine takeH (i := 23) 26 (v := .agg #[.int .i64 (n0 : Int), .int .i64 (n1 : Int), .int .i64 (n2 : Int), .int .i64 ((n3 : Int) - 1), .int .i64 (n4 : Int), .int .i64 (n5 : Int), .int .i64 ((n6 : Int) - 32768)]) rfl (by kernel_rfl) (by kernel_rfl) (by kernel_rfl) rfl (fun _ _ _ h => h) (.inl ⟨by rfl, fun _ _ => by go_simp⟩) hS ?_
  simp only [Act.put, List.setIfInBounds_toArray, List.set_cons_zero, List.set_cons_succ]
  refine oneH (i := 24) (oi := ⟨none, _, _, _, _, _⟩) rfl (by kernel_rfl) (fun K0 hK => ?_)
  rw [if_pos (by rfl)]
  obtain ⟨cs, hcl, hcs⟩ := hS.own
  refine wp_store_c Tryd.robTy _ _ rfl b cs (robCells (tellR [n0, n1, n2, n3, n4, n5, n6])) rfl hcl (robCells_one _) rfl rfl hcs ?_
  intro w2 HW2 HC2
  have HBB : Hid (Below w.heap.size w w2) := Lib.hid (below_cells9 hS.below HW2.out (by rw [HB.out]; exact Nat.le_refl _))
  have hfar : ∀ i, i = g → w2.heap[i]? = wa.heap[i]? := fun i hi => by rw [HW2.out]; exact setCells_far9 b (by have h9 : g < w.heap.size := HLT.out; rw [HB.out]; omega) _ _ _
  have hS2 : TRS w b g n0 n1 n2 n3 n4 n5 n6 w2 := ⟨⟨_, rfl, HC2.out⟩, (World.cell?_of_block (w := wa) (a := ⟨g, 0, none⟩) (hfar _ rfl)).trans hS.l0, (World.cell?_of_block (w := wa) (a := ⟨g, 1, none⟩) (hfar _ rfl)).trans hS.l1, (World.cell?_of_block (w := wa) (a := ⟨g, 2, none⟩) (hfar _ rfl)).trans hS.l2, (World.cell?_of_block (w := wa) (a := ⟨g, 3, none⟩) (hfar _ rfl)).trans hS.l3, (World.cell?_of_block (w := wa) (a := ⟨g, 4, none⟩) (hfar _ rfl)).trans hS.l4, (World.cell?_of_block (w := wa) (a := ⟨g, 5, none⟩) (hfar _ rfl)).trans hS.l5, (World.cell?_of_block (w := wa) (a := ⟨g, 6, none⟩) (hfar _ rfl)).trans hS.l6, HBB.out⟩
  clear hS HW2 hfar
  refine hK.out _ _ hS2 ?_
  clear hK K0 hS2
  refine wpAnyH_done (by kernel_rfl) ?_ _
  go_wp2_with fail
  exact bodyPost_ret (results_c Tryd.robTy rfl _ _ b (robCells (tellR [n0, n1, n2, n3, n4, n5, n6])) rfl HC2.out.at_ rfl) rfl ⟨rfl, HBB.out⟩
/-- what stands in memory while the numbers are read -/
structure TTS (w : World) (b g : Nat) (n0 n1 n2 n3 n4 n5 : Nat) (wr : World) : Prop where
  own : ∃ cs : List Value, cs.length = 3 ∧ COwn wr b cs
  l0 : wr.cell? ⟨g, 0, none⟩ = some (.int .i64 (n0 : Int))
  l1 : wr.cell? ⟨g, 1, none⟩ = some (.int .i64 (n1 : Int))
  l2 : wr.cell? ⟨g, 2, none⟩ = some (.int .i64 (n2 : Int))
  l3 : wr.cell? ⟨g, 3, none⟩ = some (.int .i64 (n3 : Int))
  l4 : wr.cell? ⟨g, 4, none⟩ = some (.int .i64 (n4 : Int))
  l5 : wr.cell? ⟨g, 5, none⟩ = some (.int .i64 (n5 : Int))
  below : Below w.heap.size w wr
set_option maxRecDepth 100000 in
theorem tellTask_any (n0 n1 n2 n3 n4 n5 g cap : Nat) (w : World) (hn : Nums w .i64 (some ⟨g, 0, none⟩) (ints [n0, n1, n2, n3, n4, n5])) :
    Calls Tryd.prog 34 #[.slice (some ⟨g, 0, none⟩) 6 cap] w fun e w' => e = .returned (.agg (tasCells (tellT [n0, n1, n2, n3, n4, n5])).toArray) ∧ Below w.heap.size w w' := by
  obtain ⟨A, hA, hlt, hc⟩ := hn (by simp [ints])
  obtain rfl : ⟨g, 0, none⟩ = A := Option.some.inj hA
  have d0 := hc 0 (n0 : Int) rfl
  have d1 := hc 1 (n1 : Int) rfl
  have d2 := hc 2 (n2 : Int) rfl
  have d3 := hc 3 (n3 : Int) rfl
  have d4 := hc 4 (n4 : Int) rfl
  have d5 := hc 5 (n5 : Int) rfl
  simp only [Addr.add_mid, Nat.zero_add] at d0 d1 d2 d3 d4 d5
  clear hc hA hn
  obtain ⟨b, HB⟩ : ∃ b, Hid (b = w.heap.size) := ⟨_, Lib.hid rfl⟩
  have HLT := Lib.hid hlt
  clear hlt
  go_enter Tryd.func34, Tryd.ntmps34
  go_upto_region 1 with (fail)
  obtain ⟨w1, HW⟩ : ∃ w1, Hid (w1 = w.alloc (.cells #[.int .i64 0, .int .i64 0, .int .i64 0] 42)) := ⟨_, Lib.hid rfl⟩
  rw [← HW.out, ← HB.out]
  refine wp_region_held (S := TTS w b g n0 n1 n2 n3 n4 n5) (by kernel_rfl) ?_
  change wpAnyH _ _ _ _ _ _ _ _ w1.drew
  obtain ⟨wa, HWA⟩ : ∃ wa, Hid (wa = w1.drew) := ⟨_, Lib.hid rfl⟩
  rw [← HWA.out]
  have hS : TTS w b g n0 n1 n2 n3 n4 n5 wa := by
    have hb : Below w.heap.size w wa := by rw [HWA.out, HW.out]; exact ((Below.refl _ _).alloc (Nat.le_refl _) _).drew
    refine ⟨by rw [HWA.out, HW.out, HB.out]; exact ⟨_, rfl, (COwn.new (tasCells Tas.zero) _).drewN 1⟩, (hb.cell (p := ⟨g, 0, none⟩) HLT.out).trans d0, (hb.cell (p := ⟨g, 1, none⟩) HLT.out).trans d1, (hb.cell (p := ⟨g, 2, none⟩) HLT.out).trans d2, (hb.cell (p := ⟨g, 3, none⟩) HLT.out).trans d3, (hb.cell (p := ⟨g, 4, none⟩) HLT.out).trans d4, (hb.cell (p := ⟨g, 5, none⟩) HLT.out).trans d5, hb⟩
  clear HWA HW d0 d1 d2 d3 d4 d5
  refine takeH (i := 0) 3 (v := .slice (some ⟨g, 0, none⟩) 6 cap) rfl (by kernel_rfl) (by kernel_rfl) (by kernel_rfl) rfl (fun _ _ _ h => h) (.inl ⟨by rfl, fun _ _ => by go_simp⟩) hS ?_
  simp only [Act.put, List.setIfInBounds_toArray, List.set_cons_zero, List.set_cons_succ]
  refine takeH (i := 1) 4 (v := .pointer (some ⟨g, 0, none⟩)) rfl (by kernel_rfl) (by kernel_rfl) (by kernel_rfl) rfl (fun _ _ _ h => h) (.inl ⟨by rfl, fun _ _ => by go_simp⟩) hS ?_
  simp only [Act.put, List.setIfInBounds_toArray, List.set_cons_zero, List.set_cons_succ]
  refine takeH (i := 2) 5 (v := .int .i64 (n0 : Int)) rfl (by kernel_rfl) (by kernel_rfl) (by kernel_rfl) rfl (fun _ _ _ h => h) (.inl ⟨by rfl, fun _ h => by have c0 := h.l0; go_simp⟩) hS ?_
  simp only [Act.put, List.setIfInBounds_toArray, List.set_cons_zero, List.set_cons_succ]
  refine takeH (i := 3) 6 (v := .slice (some ⟨g, 0, none⟩) 6 cap) rfl (by kernel_rfl) (by kernel_rfl) (by kernel_rfl) rfl (fun _ _ _ h => h) (.inl ⟨by rfl, fun _ _ => by go_simp⟩) hS ?_
  simp only [Act.put, List.setIfInBounds_toArray, List.set_cons_zero, List.set_cons_succ]
  refine takeH (i := 4) 7 (v := .pointer (some ⟨g, 1, none⟩)) rfl (by kernel_rfl) (by kernel_rfl) (by kernel_rfl) rfl (fun _ _ _ h => h) (.inl ⟨by rfl, fun _ _ => by go_simp⟩) hS ?_
  simp only [Act.put, List.setIfInBounds_toArray, List.set_cons_zero, List.set_cons_succ]
  refine takeH (i := 5) 8 (v := .int .i64 (n1 : Int)) rfl (by kernel_rfl) (by kernel_rfl) (by kernel_rfl) rfl (fun _ _ _ h => h) (.inl ⟨by rfl, fun _ h => by have c0 := h.l1; go_simp⟩) hS ?_
  simp only [Act.put, List.setIfInBounds_toArray, List.set_cons_zero, List.set_cons_succ]
  refine takeH (i := 6) 9 (v := .slice (some ⟨g, 0, none⟩) 6 cap) rfl (by kernel_rfl) (by kernel_rfl) (by kernel_rfl) rfl (fun _ _ _ h => h) (.inl ⟨by rfl, fun _ _ => by go_simp⟩) hS ?_
  simp only [Act.put, List.setIfInBounds_toArray, List.set_cons_zero, List.set_cons_succ]
  refine takeH (i := 7) 10 (v := .pointer (some ⟨g, 2, none⟩)) rfl (by kernel_rfl) (by kernel_rfl) (by kernel_rfl) rfl (fun _ _ _ h => h) (.inl ⟨by rfl, fun _ _ => by go_simp⟩) hS ?_
  simp only [Act.put, List.setIfInBounds_toArray, List.set_cons_zero, List.set_cons_succ]
  refine takeH (i := 8) 11 (v := .int .i64 (n2 : Int)) rfl (by kernel_rfl) (by kernel_rfl) (by kernel_rfl) rfl (fun _ _ _ h => h) (.inl ⟨by rfl, fun _ h => by have c0 := h.l2; go_simp⟩) hS ?_
  simp only [Act.put, List.setIfInBounds_toArray, List.set_cons_zero, List.set_cons_succ]
  refine takeH (i := 9) 12 (v := .agg #[.int .i64 (n0 : Int), .int .i64 (n1 : Int), .int .i64 (n2 : Int)]) rfl (by kernel_rfl) (by kernel_rfl) (by kernel_rfl) rfl (fun _ _ _ h => h) (.inl ⟨by rfl, fun _ _ => by go_simp⟩) hS ?_
  simp only [Act.put, List.setIfInBounds_toArray, List.set_cons_zero, List.set_cons_succ]
  refine oneH (i := 10) (oi := ⟨none, _, _, _, _, _⟩) rfl (by kernel_rfl) (fun K0 hK => ?_)
  rw [if_pos (by rfl)]
  obtain ⟨cs, hcl, hcs⟩ := hS.own
  refine wp_store_c Tryd.tasTy _ _ rfl b cs (tasCells (tellT [n0, n1, n2, n3, n4, n5])) rfl hcl (tasCells_one _) rfl rfl hcs ?_
  intro w2 HW2 HC2
  have HBB : Hid (Below w.heap.size w w2) := Lib.hid (below_cells9 hS.below HW2.out (by rw [HB.out]; exact Nat.le_refl _))
  have hfar : ∀ i, i = g → w2.heap[i]? = wa.heap[i]? := fun i hi => by rw [HW2.out]; exact setCells_far9 b (by have h9 : g < w.heap.size := HLT.out; rw [HB.out]; omega) _ _ _
  have hS2 : TTS w b g n0 n1 n2 n3 n4 n5 w2 := ⟨⟨_, rfl, HC2.out⟩, (World.cell?_of_block (w := wa) (a := ⟨g, 0, none⟩) (hfar _ rfl)).trans hS.l0, (World.cell?_of_block (w := wa) (a := ⟨g, 1, none⟩) (hfar _ rfl)).trans hS.l1, (World.cell?_of_block (w := wa) (a := ⟨g, 2, none⟩) (hfar _ rfl)).trans hS.l2, (World.cell?_of_block (w := wa) (a := ⟨g, 3, none⟩) (hfar _ rfl)).trans hS.l3, (World.cell?_of_block (w := wa) (a := ⟨g, 4, none⟩) (hfar _ rfl)).trans hS.l4, (World.cell?_of_block (w := wa) (a := ⟨g, 5, none⟩) (hfar _ rfl)).trans hS.l5, HBB.out⟩
  clear hS HW2 hfar
  refine hK.out _ _ hS2 ?_
  clear hK K0 hS2
  refine wpAnyH_done (by kernel_rfl) ?_ _
  go_wp2_with fail
  exact bodyPost_ret (results_c Tryd.tasTy rfl _ _ b (tasCells (tellT [n0, n1, n2, n3, n4, n5])) rfl HC2.out.at_ rfl) rfl ⟨rfl, HBB.out⟩
end Go.Proofs.YtjjlghdcpkkdhaaDoor
