/-
  The contracts of heap.Push. Conditions: none beyond the premises of each theorem.
-/
import Derived.Test.YtiffgmgefpoblaaDoorHeapRise
namespace Go.Proofs.YtiffgmgefpoblaaDoor
open Go.RowKit Hp

theorem Tryd.dueInfo : (Tryd.prog.info? 52).map (fun i => (i.zero, i.size, i.bytes)) = some (some (.agg #[.int .i64 0, .int .i64 0]), 2, 16) := by kernel_rfl
theorem run_one9 {P : Program} (w : World) (t e : TypeId) (c : Array Value) (hu : P.underlying t = some (.slice e)) (hz : ((P.info? e).bind (·.zero)).isSome = true) (hi : (P.info? e).map (·.size) = some c.size) (h0 : 0 < c.size) (h24 : c.size ≤ 2 ^ 24) :
    (Instr.buildSlice t 1 #[(0, .agg c)]).run P w = .ok (.slice (some ⟨w.heap.size, 0, none⟩) 1 1) (w.alloc (.cells c e)) := by
  cases hie : P.info? e with
  | none => simp [hie] at hi
  | some ie =>
    simp only [hie, Option.map_some, Option.some.injEq, Option.bind_some] at hi hz
    obtain ⟨z, hzz⟩ := Option.isSome_iff_exists.1 hz
    refine run_buildSlice w t e 1 _ c ie z hu hie hzz (by rw [hi]; omega) (by rw [hi]; omega) ?_
    have := fill_rows9 ie.size [c.toList] 0 ((Array.range (1 * ie.size)).map (z.cells[· % z.cells.size]!)) (by simp [hi]) (by simp)
    simp only [List.zipIdx_cons, List.zipIdx_nil, List.map_cons, List.map_nil] at this
    rw [show (#[(0, Value.agg c)] : Array (Nat × Value)).toList = [(0, Value.agg c.toList.toArray)] by simp, this]
    have e : ∀ l : List Value, l.length = c.size → (c.toList ++ l.drop c.size).toArray = c := fun l hl => by rw [List.drop_of_length_le (by omega), List.append_nil]
    simp only [Nat.zero_mul, List.take_zero, List.nil_append, List.flatten_cons, List.flatten_nil, List.append_nil, Nat.zero_add, List.length_singleton, Nat.one_mul, hi]
    rw [e _ (by simp)]
/-- a slice literal of one element, at a step of a region that draws its order -/
theorem step_one9 {P : Program} {w : World} {ops : Array Oper} {o : Oper} {a : Act} {K : Act → World → Prop} {Q : Exit → Act → World → Prop} {E : Prop} (hgd : o.guard = none) (t e : TypeId) (x : Operand) (ho : o.op = .buildSlice t 1 #[(0, x)])
    (c : Array Value) (hx : a.eval x = .agg c) (hu : P.underlying t = some (.slice e)) (hz : ((P.info? e).bind (·.zero)).isSome = true) (hi : (P.info? e).map (·.size) = some c.size) (h0 : 0 < c.size) (h24 : c.size ≤ 2 ^ 24)
    (h : K (a.put o.dst (.slice (some ⟨w.heap.size, 0, none⟩) 1 1)) (w.alloc (.cells c e))) : if Region.wanted o (yielded ops a.tmps) = true then Oper.wp P o a w K Q else E := by
  have hw : Region.wanted o (yielded ops a.tmps) = true := by simp [Region.wanted, hgd]
  rw [if_pos hw]
  unfold Oper.wp execOp
  simp only [ho, List.map_toArray, List.map_cons, List.map_nil, hx, Sem.run_bind, run_one9 w t e c hu hz hi h0 h24, Result.andThen_ok]
  exact h
/-- an item more -/
def PushPost (B hb : Nat) (v : Value) (L : List Itm) (x : Itm) (w : World) (e : Ending) (w' : World) : Prop :=
  e = .returned (.tuple #[]) ∧ ∃ v' L', HpAt w' B hb v' L' ∧ IsHp L' ∧ L'.Perm (L ++ [x]) ∧ But2 (some hb) v.ownBlock w w' ∧ (v'.ownBlock = v.ownBlock ∨ ∀ g, v'.ownBlock = some g → w.heap.size ≤ g)
set_option maxRecDepth 100000 in
theorem Push_any {w : World} {B hb : Nat} {v : Value} {L : List Itm} (h : HpAt w B hb v L) (hh : IsHp L) (hn : L.length ≤ 100000) (hB : B ≤ w.heap.size) (x : Itm) :
    Calls Tryd.prog 25 #[ptr9 hb, itV x] w (PushPost B hb v L x w) := by
  obtain ⟨i0, hi0, hz0, hz1, hz2⟩ := info_parts Tryd.dueInfo
  obtain ⟨w1, HW1⟩ : ∃ w1, Hid (w1 = w.alloc (.cells #[.int .i64 x.1, .int .i64 x.2] 52)) := ⟨_, Lib.hid rfl⟩
  obtain ⟨p, HP⟩ : ∃ p, Hid (p = w.heap.size) := ⟨_, Lib.hid rfl⟩
  have HPW : Hid (w.heap.size ≤ p) := Lib.hid (by rw [HP.out]; exact Nat.le_refl _)
  have HB1 : Hid (Below w.heap.size w w1) := Lib.hid (by rw [HW1.out]; exact (Below.refl _ _).alloc (Nat.le_refl _) _)
  have HP1 : Hid (HpAt w1 B hb v L) := Lib.hid (h.carry HB1.out)
  have HX1 : Hid (w1.rangeAt p 0 (itC x)) := Lib.hid (by rw [HW1.out, HP.out]; exact (COwn.new (w := w) (itC x) 52).at_)
  have HPP1 : Hid (p < w1.heap.size) := Lib.hid (by rw [HW1.out, HP.out]; simp)
  have HVB : Hid (∀ k, v.ownBlock = some k → k < w.heap.size) := Lib.hid fun k hk => (h.row.lt k hk).2
  have HHH := Lib.hid hh
  have HN := Lib.hid hn
  have HBW := Lib.hid hB
  have HLT0 : Hid (hb < w.heap.size) := Lib.hid h.lt
  have HNE : Hid (v.ownBlock ≠ some hb) := Lib.hid h.ne
  have HFAR : Hid (B ≤ hb) := Lib.hid h.far
  clear hh hn hB h
  go_enter Tryd.func25, Tryd.ntmps25
  go_upto_region 1 with (fail)
  rw [← HW1.out, ← HP.out]
  clear HW1 HP
  go_upto_region 2 with (fail)
  refine wp_region_head (S := fun w9 => World.cell? w9 ⟨hb, 0, none⟩ = some v ∧ w9.rangeAt p 0 (itC x)) 8 (by kernel_rfl) (by kernel_rfl) (fun w2 HW2 => ?_)
  have HP2 : Hid (HpAt w2 B hb v L) := Lib.hid (by rw [HW2.out]; exact HP1.out.drew)
  have HB2 : Hid (Below w.heap.size w w2) := Lib.hid (by rw [HW2.out]; exact HB1.out.drew)
  have HPP : Hid (p < w2.heap.size) := Lib.hid (by rw [HW2.out]; exact HPP1.out)
  have HHB : Hid (hb < w2.heap.size) := Lib.hid HP2.out.lt
  have hS : World.cell? w2 ⟨hb, 0, none⟩ = some v ∧ w2.rangeAt p 0 (itC x) := ⟨HP2.out.cell, by rw [HW2.out]; exact HX1.out⟩
  clear HW2 HP1 HB1 HPP1 HX1
  refine takeH (i := 0) 6 (v := .pointer (some ⟨hb, 0, none⟩)) rfl (by kernel_rfl) (by kernel_rfl) (by kernel_rfl) rfl (fun _ _ _ h => h) (.inl ⟨by rfl, fun _ _ => by go_simp⟩) hS ?_
  simp only [Act.put, List.setIfInBounds_toArray, List.set_cons_zero, List.set_cons_succ]
  refine takeH (i := 1) 7 (v := .pointer (some ⟨hb, 0, none⟩)) rfl (by kernel_rfl) (by kernel_rfl) (by kernel_rfl) rfl (fun _ _ _ h => h) (.inl ⟨by rfl, fun _ _ => by go_simp⟩) hS ?_
  simp only [Act.put, List.setIfInBounds_toArray, List.set_cons_zero, List.set_cons_succ]
  refine takeH (i := 2) 8 (v := .pointer (some ⟨hb, 0, none⟩)) rfl (by kernel_rfl) (by kernel_rfl) (by kernel_rfl) rfl (fun _ _ _ h => h) (.inl ⟨by rfl, fun _ _ => by go_simp⟩) hS ?_
  simp only [Act.put, List.setIfInBounds_toArray, List.set_cons_zero, List.set_cons_succ]
  refine takeH (i := 3) 9 (v := .pointer (some ⟨hb, 0, none⟩)) rfl (by kernel_rfl) (by kernel_rfl) (by kernel_rfl) rfl (fun _ _ _ h => h) (.inl ⟨by rfl, fun _ _ => by go_simp⟩) hS ?_
  simp only [Act.put, List.setIfInBounds_toArray, List.set_cons_zero, List.set_cons_succ]
  refine takeH (i := 4) 10 (v := v) rfl (by kernel_rfl) (by kernel_rfl) (by kernel_rfl) rfl (fun _ _ _ h => h) (.inl ⟨by rfl, fun _ h => by have c0 := h.1; go_simp⟩) hS ?_
  simp only [Act.put, List.setIfInBounds_toArray, List.set_cons_zero, List.set_cons_succ]
  refine takeH (i := 5) 11 (v := itV x) rfl (by kernel_rfl) (by kernel_rfl) (by kernel_rfl) rfl (fun _ _ _ h => h) (yieldsIf_c dueTy (by rfl) _ rfl p 0 (by rfl) (itC x) rfl (fun _ h => h.2)) hS ?_
  simp only [Act.put, List.setIfInBounds_toArray, List.set_cons_zero, List.set_cons_succ]
  refine oneH (i := 6) (oi := ⟨some 12, _, _, _, _, _⟩) rfl (by kernel_rfl) (fun K hK => ?_)
  refine step_one9 (by rfl) _ 52 _ (by rfl) (itC x).toArray (by rfl) Tryd.underlying60 (by kernel_rfl) dueTy.size (by simp) (by simp) ?_
  refine hK.out _ _ ⟨(World.cell?_alloc_lt _ _ _ HHB.out).trans hS.1, World.rangeAt_alloc hS.2 _⟩ ?_
  clear hK K
  simp only [Act.put, List.setIfInBounds_toArray, List.set_cons_zero, List.set_cons_succ]
  obtain ⟨w5, HW5⟩ : ∃ w5, Hid (w5 = w2.alloc (.cells (itC x).toArray 52)) := ⟨_, Lib.hid rfl⟩
  obtain ⟨g5, HG5⟩ : ∃ g5, Hid (g5 = w2.heap.size) := ⟨_, Lib.hid rfl⟩
  have HP5 : Hid (HpAt w5 B hb v L) := Lib.hid (by rw [HW5.out]; exact HP2.out.carry ((Below.refl _ _).alloc (Nat.le_refl _) _))
  have HB5 : Hid (Below w.heap.size w w5) := Lib.hid (by rw [HW5.out]; exact HB2.out.alloc HB2.out.size _)
  have HN5 : Hid (∀ j u, (itC x)[j]? = some u → w5.cell? ((⟨g5, 0, none⟩ : Addr).add j) = some u) := Lib.hid (by rw [HW5.out, HG5.out]; exact World.news_of_block (cs := (itC x).toArray) (heap_alloc_new w2 _))
  have HX5 : Hid (w5.rangeAt p 0 (itC x)) := Lib.hid (by rw [HW5.out]; exact World.rangeAt_alloc hS.2 _)
  have HPL : Hid (p < g5 ∧ g5 < w5.heap.size) := Lib.hid ⟨by rw [HG5.out]; exact HPP.out, by rw [HW5.out, HG5.out]; simp⟩
  have hS5 : World.cell? w5 ⟨hb, 0, none⟩ = some v ∧ w5.rangeAt p 0 (itC x) := ⟨HP5.out.cell, HX5.out⟩
  rw [← HW5.out, ← HG5.out]
  clear hS HP2 HB2 HW5 HG5 HPP HHB
  have hS := hS5
  clear hS5
  refine oneH (i := 7) (oi := ⟨some 13, _, _, _, _, _⟩) rfl (by kernel_rfl) (fun K hK => ?_)
  refine step_append_lies _ rfl _ _ _ rfl B 52 i0 _ 2 16 Tryd.underlying60 hi0 hz0 hz1 hz2 rfl (by omega) v L.length (flat2 L) rfl HP5.out.row ⟨g5, 0, none⟩ 1 1 (itC x) rfl rfl HN5.out (by intro u hu; simp only [itC, List.mem_cons, List.not_mem_nil, or_false] at hu; rcases hu with rfl | rfl <;> rfl)
    (by omega) (by have := HN.out; unfold maxLen; omega) (by have := HN.out; omega) (Nat.le_trans HBW.out HB5.out.size) w5.heap.size rfl ?_
  intro g cap w3 hown3 hgrow hat hlt
  have HO3 := Lib.hid hown3
  have HGR := Lib.hid hgrow
  have HAT := Lib.hid hat
  have HLT := Lib.hid hlt
  clear hown3 hgrow hat hlt
  have hS3 : World.cell? w3 ⟨hb, 0, none⟩ = some v ∧ w3.rangeAt p 0 (itC x) := ⟨(HGR.out.cell_far ⟨hb, 0, none⟩ HP5.out.lt (fun e => HP5.out.ne e.symm)).trans HP5.out.cell, fun j u hu => HGR.out.cell (HX5.out j u hu) (fun e => by have h9 : p < w.heap.size := HVB.out p e.symm; have := HPW.out; omega)⟩
  refine hK.out _ _ hS3 ?_
  clear hK K hS HX5 HPL HN5
  have hS := hS3
  clear hS3
  refine wpAnyH_done (by kernel_rfl) ?_ _
  unfold HeadPost
  simp only [List.drop_succ_cons, List.drop_zero]
  have c0 := hS.1
  have HF3 : Hid (w3.heap[hb]? = some (.cells #[v] 67 (0, 0))) := Lib.hid ((HGR.out.block hb HP5.out.lt (fun e => HP5.out.ne e.symm)).trans HP5.out.head)
  have f0 : w3.frozen? ⟨hb, 0, none⟩ = false := free_of_one HF3.out
  clear hS
  have HGN : Hid (g ≠ hb) := Lib.hid (by
    rcases HAT.out with h1 | h1
    · intro e; exact HNE.out (by rw [h1, e])
    · have := HP5.out.lt; omega)
  obtain ⟨w6, HW6⟩ : ∃ w6, Hid (w6 = w3.setCell ⟨hb, 0, none⟩ (.slice (some ⟨g, 0, none⟩) (L.length + 1) cap)) := ⟨_, Lib.hid rfl⟩
  have HS6 : Hid (HpS w6 B hb g (L.length + 1) cap (L ++ [x])) := Lib.hid (by
    rw [HW6.out]
    refine ⟨one_setCell HF3.out, ownsRow_setCell_other (by rw [flat2_append, flat2_one]; exact HO3.out) (a := ⟨hb, 0, none⟩) (by intro e; exact HGN.out (Option.some.inj e)) _, HFAR.out, HGN.out⟩)
  have HB6 : Hid (But2 (some hb) v.ownBlock w w6) := Lib.hid (by
    rw [HW6.out]
    exact ((But2.of_below HB5.out).trans (.of_grown HGR.out (.inr rfl)) (.inl rfl)).setCell (a := ⟨hb, 0, none⟩) (.inl rfl) _)
  have HG6 : Hid (some g = v.ownBlock ∨ ∀ k, some g = some k → w.heap.size ≤ k) := Lib.hid (by
    rcases HAT.out with h1 | h1
    · exact .inl h1.symm
    · exact .inr fun k hk => by have := HB5.out.size; have := Option.some.inj hk; omega)
  clear HP5 HB5 HO3 HGR HAT HLT HF3 HGN HVB
  go_upto_region 3 with (fail)
  rw [← HW6.out]
  clear c0 f0 HW6
  obtain ⟨n, HNL⟩ : ∃ n, Hid (n = L.length) := ⟨_, Lib.hid rfl⟩
  have hn9 : n ≤ 100000 := by rw [HNL.out]; exact HN.out
  have HS6' : Hid (HpS w6 B hb g (n + 1) cap (L ++ [x])) := Lib.hid (by rw [HNL.out]; exact HS6.out)
  rw [← HNL.out]
  have c0 := HS6'.out.cell
  have hr := Lib.hid (rise_any HS6'.out (i0 := n) (by omega) (by rw [HNL.out]; exact UpI.push HHH.out x) (by omega))
  have e1 : ((n : Int) + 1) - 1 = (n : Int) := by omega
  have k1 : wrap64 (n : Int) = (n : Int) := by unfold wrap64; omega
  have k2 : wrap64 (((n : Int) + 1) - 1) = (n : Int) := by unfold wrap64; omega
  go_wp2_with fail
  refine hr.out.mono ?_
  rintro e w7 ⟨rfl, L7, h7, h8, h9, h10⟩
  have H7 := Lib.hid h7
  have H8 := Lib.hid h8
  have H9 := Lib.hid h9
  have H10 := Lib.hid h10
  clear h7 h8 h9 h10
  go_wp2_with fail
  exact bodyPost_end (results_none rfl _ _ _) rfl ⟨rfl, _, L7, H7.out.at_, H8.out, H9.out, HB6.out.trans H10.out HG6.out, HG6.out.imp (fun h => h) (fun h => h)⟩
theorem Push_none (x : Itm) (w : World) : Calls Tryd.prog 25 #[.pointer none, itV x] w fun e w' => e = .returned (.tuple #[]) ∧ Below w.heap.size w w' := by
  go_enter Tryd.func25, Tryd.ntmps25
  go_wp2_with fail
  exact bodyPost_ret (results_none rfl _ _ _) rfl ⟨rfl, (Below.refl _ _).alloc (Nat.le_refl _) _⟩
end Go.Proofs.YtiffgmgefpoblaaDoor
