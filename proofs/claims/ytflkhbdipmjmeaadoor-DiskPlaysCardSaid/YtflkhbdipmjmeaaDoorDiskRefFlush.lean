/-
  The contract of the document's own Flush. Conditions: none beyond the premises of each theorem.
-/
import Derived.Test.YtflkhbdipmjmeaaDoorDiskRefRead
namespace Go.Proofs.YtflkhbdipmjmeaaDoor
open Go.RowKit

/-- sectors as cells -/
def pgsCells (l : List Pg) : List Value := l.flatMap pgCells
theorem pgsCells_snoc (l : List Pg) (p : Pg) : pgsCells (l ++ [p]) = pgsCells l ++ pgCells p := by simp [pgsCells]
theorem pgsCells_length {l : List Pg} (h : Whole l) : (pgsCells l).length = l.length * 128 := flat_length fun p hp => by rw [pgCells_length, h p hp]
theorem Tryd.infoArr3 : (Tryd.prog.info? 35).map (fun i => (i.zero, i.size, i.bytes)) = some (some (pgV zeroPg), 128, 128) := by kernel_rfl
theorem Tryd.refSize : (Tryd.prog.info? 34).map (·.size) = some 3 := by kernel_rfl
theorem Tryd.arrZero : ((Tryd.prog.info? 35).bind (·.zero)).isSome = true := by kernel_rfl
/-- an owned row of sectors -/
def OwnPgs (w : World) (B : Nat) (v : Value) (l : List Pg) : Prop := w.ownsRow B 35 128 v l.length (pgsCells l)
theorem OwnPgs.pages {w : World} {B g : Nat} {v : Value} {l : List Pg} (h : OwnPgs w B v l) (hw : Whole l) (hg : v.ownBlock = some g) : Pages w g l := fun i p hp => by
  have hlt : i < l.length := (List.getElem?_eq_some_iff.1 hp).1
  have hpl : p.length = 128 := by
    obtain ⟨_, e⟩ := List.getElem?_eq_some_iff.1 hp
    rw [← e]; exact hw.at_ _
  refine ⟨hpl, fun j v' hv => ?_⟩
  have hj : j < 128 := by
    have := (List.getElem?_eq_some_iff.1 hv).1
    rwa [pgCells_length, hpl] at this
  have := h.cells hg (i * 128 + j) v' (by
    rw [pgsCells, flat_at (c := 128) (fun q hq => by rw [pgCells_length, hw q hq]) hp hj]
    exact hv)
  rw [Addr.add_mid, Nat.zero_add] at this
  exact this
/-- how far Flush has come -/
structure FlSt (w : World) (b1 b2 b3 : Nat) (x0 x1 x2 : Value) (v : Value) (l : List Pg) (wr : World) : Prop where
  below : Below w.heap.size w wr
  a0 : wr.cell? ⟨b1, 0, none⟩ = some x0
  a1 : wr.cell? ⟨b1, 1, none⟩ = some x1
  a2 : wr.cell? ⟨b1, 2, none⟩ = some x2
  r0 : wr.cell? ⟨b2, 0, none⟩ = some (.slice none 0 0)
  r1 : wr.cell? ⟨b2, 1, none⟩ = some (.slice none 0 0)
  r2 : wr.cell? ⟨b2, 2, none⟩ = some (.slice none 0 0)
  rf : ∀ j, wr.frozen? ⟨b2, j, none⟩ = false
  o0 : wr.cell? ⟨b3, 0, none⟩ = some v
  o1 : wr.cell? ⟨b3, 1, none⟩ = some (.slice none 0 0)
  o2 : wr.cell? ⟨b3, 2, none⟩ = some (.slice none 0 0)
  of : ∀ j, wr.frozen? ⟨b3, j, none⟩ = false
  own : OwnPgs wr w.heap.size v l
  far : ∀ g, v.ownBlock = some g → g ≠ b1 ∧ g ≠ b2 ∧ g ≠ b3
theorem FlSt.carry {w wr w' : World} {b1 b2 b3 : Nat} {x0 x1 x2 v : Value} {l : List Pg} (h : FlSt w b1 b2 b3 x0 x1 x2 v l wr) (hb : Below wr.heap.size wr w') : FlSt w b1 b2 b3 x0 x1 x2 v l w' := by
  have c : ∀ {p : Addr} {u : Value}, wr.cell? p = some u → w'.cell? p = some u := fun {p} {u} hc => (hb.cell (p := p) (lt_of_cell hc)).trans hc
  have l2 : b2 < wr.heap.size := lt_of_cell h.r0
  have l3 : b3 < wr.heap.size := lt_of_cell h.o0
  refine ⟨h.below.trans (hb.mono h.below.size), c h.a0, c h.a1, c h.a2, c h.r0, c h.r1, c h.r2, fun j => (hb.frozen (p := ⟨b2, j, none⟩) l2).trans (h.rf j), c h.o0, c h.o1, c h.o2, fun j => (hb.frozen (p := ⟨b3, j, none⟩) l3).trans (h.of j), ?_, h.far⟩
  obtain ⟨h1, h2⟩ := h.own
  refine ⟨h1, ?_⟩
  rcases h2 with h2 | ⟨g, cap, cur, e1, e2, e3, e4⟩
  · exact .inl h2
  · exact .inr ⟨g, cap, cur, e1, e2, by rw [hb.block g (Array.getElem?_eq_some_iff.1 e3).1]; exact e3, e4⟩
theorem FlSt.far_cell {w w6 w7 : World} {b1 b2 b3 : Nat} {x0 x1 x2 v : Value} {l : List Pg} (h : FlSt w b1 b2 b3 x0 x1 x2 v l w6) (hg : w6.grownBy w7 v.ownBlock) {b : Nat} (hb : b = b1 ∨ b = b2 ∨ b = b3) (j : Nat) :
    w7.cell? ⟨b, j, none⟩ = w6.cell? ⟨b, j, none⟩ ∧ w7.frozen? ⟨b, j, none⟩ = w6.frozen? ⟨b, j, none⟩ := by
  have hlt : b < w6.heap.size := by
    rcases hb with rfl | rfl | rfl
    · exact lt_of_cell h.a0
    · exact lt_of_cell h.r0
    · exact lt_of_cell h.o0
  have hne : some b ≠ v.ownBlock := fun e => by
    have := h.far b e.symm
    omega
  exact ⟨hg.cell_far ⟨b, j, none⟩ hlt hne, hg.frozen_far ⟨b, j, none⟩ hlt hne⟩
theorem FlSt.push {w w6 w7 : World} {b1 b2 b3 gg k cap : Nat} {x0 x1 x2 v : Value} {l l' : List Pg} (h : FlSt w b1 b2 b3 x0 x1 x2 v l w6) (hne : b1 ≠ b2 ∧ b1 ≠ b3 ∧ b2 ≠ b3 ∧ w.heap.size ≤ b3 ∧ w.heap.size ≤ b2) (hg : w6.grownBy w7 v.ownBlock)
    (hown : OwnPgs w7 w.heap.size (.slice (some ⟨gg, 0, none⟩) k cap) l') (hat : v.ownBlock = some gg ∨ gg = w6.heap.size) : FlSt w b1 b2 b3 x0 x1 x2 (.slice (some ⟨gg, 0, none⟩) k cap) l' (w7.setCell ⟨b3, 0, none⟩ (.slice (some ⟨gg, 0, none⟩) k cap)) := by
  have l1 : b1 < w6.heap.size := lt_of_cell h.a0
  have l2 : b2 < w6.heap.size := lt_of_cell h.r0
  have l3 : b3 < w6.heap.size := lt_of_cell h.o0
  have hgg : gg ≠ b1 ∧ gg ≠ b2 ∧ gg ≠ b3 := by
    rcases hat with e | e
    · exact h.far gg e
    · omega
  have c1 : ∀ j, (w7.setCell ⟨b3, 0, none⟩ (.slice (some ⟨gg, 0, none⟩) k cap)).cell? ⟨b1, j, none⟩ = w6.cell? ⟨b1, j, none⟩ := fun j => by
    rw [World.cell?_setCell_other _ _ _ _ (fun e => hne.2.1 (Addr.mk.inj e).1.symm)]; exact (h.far_cell hg (.inl rfl) j).1
  have c2 : ∀ j, (w7.setCell ⟨b3, 0, none⟩ (.slice (some ⟨gg, 0, none⟩) k cap)).cell? ⟨b2, j, none⟩ = w6.cell? ⟨b2, j, none⟩ := fun j => by
    rw [World.cell?_setCell_other _ _ _ _ (fun e => hne.2.2.1 (Addr.mk.inj e).1.symm)]; exact (h.far_cell hg (.inr (.inl rfl)) j).1
  have c3 : ∀ j, j ≠ 0 → (w7.setCell ⟨b3, 0, none⟩ (.slice (some ⟨gg, 0, none⟩) k cap)).cell? ⟨b3, j, none⟩ = w6.cell? ⟨b3, j, none⟩ := fun j hj => by
    rw [World.cell?_setCell_other _ _ _ _ (fun e => hj (Addr.mk.inj e).2.1.symm)]; exact (h.far_cell hg (.inr (.inr rfl)) j).1
  refine ⟨(h.below.grown hg h.below.size (fun q hq => (h.own.lt q hq).1)).setCell hne.2.2.2.1 _, (c1 0).trans h.a0, (c1 1).trans h.a1, (c1 2).trans h.a2, (c2 0).trans h.r0, (c2 1).trans h.r1, (c2 2).trans h.r2, fun j => ?_,
    World.cell?_setCell_same _ _ _ ((h.far_cell hg (.inr (.inr rfl)) 0).1.trans h.o0), (c3 1 (by decide)).trans h.o1, (c3 2 (by decide)).trans h.o2, fun j => ?_, ?_, fun q hq => ?_⟩
  · rw [World.frozen?_setCell]; exact (h.far_cell hg (.inr (.inl rfl)) j).2.trans (h.rf j)
  · rw [World.frozen?_setCell]; exact (h.far_cell hg (.inr (.inr rfl)) j).2.trans (h.of j)
  · obtain ⟨h1, h2⟩ := hown
    refine ⟨h1, ?_⟩
    rcases h2 with ⟨e, _⟩ | ⟨g, cap', cur, e1, e2, e3, e4⟩
    · cases e
    · obtain rfl : gg = g := by
        injection e1 with e1
        injection e1 with e1
        injection e1 with e1
      exact .inr ⟨gg, cap', cur, e1, e2, by rw [setCell_heap_other w7 b3 0 _ gg hgg.2.2]; exact e3, e4⟩
  · obtain rfl : gg = q := by injection hq
    exact hgg
def FlRel (w : World) (b1 b2 b3 : Nat) (x0 x1 x2 : Value) (f : Nat → Pg) (n : Nat) (i : Value) (wr : World) : Prop := ∃ (j : Nat) (v : Value), j ≤ n ∧ i = .int .i64 (j : Int) ∧ FlSt w b1 b2 b3 x0 x1 x2 v ((List.range j).map f) wr
def FlushPost (n : Nat) (f : Nat → Pg) (w : World) (e : Ending) (w' : World) : Prop :=
  ∃ g cap, e = .returned (refV g cap n none 0 none 0 0) ∧ OwnPgs w' w.heap.size (.slice (some ⟨g, 0, none⟩) n cap) ((List.range n).map f) ∧ Below w.heap.size w w'
theorem whole_map {f : Nat → Pg} {n : Nat} (h : ∀ i, i < n → (f i).length = 128) (j : Nat) (hj : j ≤ n) : Whole ((List.range j).map f) := fun p hp => by
  obtain ⟨i, hi, rfl⟩ := List.mem_map.1 hp
  exact h i (by have := List.mem_range.1 hi; omega)
set_option maxRecDepth 100000 in
set_option maxHeartbeats 8000000 in
theorem RefFlush_any {F cF n : Nat} {A : Option Addr} {cA : Nat} {W : Option Addr} {cW : Nat} {firm : List Pg} {soft : Soft} {w : World} (h : RefRd w F cF A cA W cW n firm soft) (hs : soft.length ≤ 1000000) (h1 : 1 ≤ n) (hn : n ≤ 1000) :
    Calls Tryd.prog 13 #[refV F cF n A cA W cW soft.length] w (FlushPost n (readZ firm soft) w) := by
  have HR := Lib.hid h
  clear h
  obtain ⟨f, HF⟩ : ∃ f : Nat → Pg, Hid (f = readZ firm soft) := ⟨_, Lib.hid rfl⟩
  have HFW : Hid (∀ i, i < n → (f i).length = 128) := Lib.hid (fun i hi => by
    rw [HF.out]
    exact readK_length HR.out.whole (by rw [HR.out.len]; exact hi) (by rw [HR.out.len]; exact HR.out.fits) _ (Nat.le_refl _))
  rw [← HF.out]
  go_enter Tryd.func13, Tryd.ntmps13
  go_wp2_with fail
  obtain ⟨w0, HW0⟩ : ∃ w0, Hid (w0 = ((w.alloc (.cells #[.slice (some ⟨F, 0, none⟩) n cF, .slice A soft.length cA, .slice W soft.length cW] 34)).alloc (.cells #[.slice none 0 0, .slice none 0 0, .slice none 0 0] 34)).alloc (.cells #[.slice none 0 0, .slice none 0 0, .slice none 0 0] 34)) := ⟨_, Lib.hid rfl⟩
  obtain ⟨b1, HB1⟩ : ∃ b1, Hid (b1 = w.heap.size) := ⟨_, Lib.hid rfl⟩
  obtain ⟨b2, HB2⟩ : ∃ b2, Hid (b2 = w.heap.size + 1) := ⟨_, Lib.hid rfl⟩
  obtain ⟨b3, HB3⟩ : ∃ b3, Hid (b3 = w.heap.size + 1 + 1) := ⟨_, Lib.hid rfl⟩
  rw [← HW0.out, ← HB3.out, ← HB2.out, ← HB1.out]
  have hh1 : w0.heap[b1]? = some (.cells #[.slice (some ⟨F, 0, none⟩) n cF, .slice A soft.length cA, .slice W soft.length cW] 34 (0, 0)) := by
    rw [HW0.out, HB1.out, Below.heap_alloc _ _ _ (by simp; omega), Below.heap_alloc _ _ _ (by simp)]
    exact heap_alloc_last w _
  have hh2 : w0.heap[b2]? = some (.cells #[.slice none 0 0, .slice none 0 0, .slice none 0 0] 34 (0, 0)) := by
    rw [HW0.out, HB2.out, Below.heap_alloc _ _ _ (by simp)]
    have := heap_alloc_last (w.alloc (.cells #[.slice (some ⟨F, 0, none⟩) n cF, .slice A soft.length cA, .slice W soft.length cW] 34)) (.cells #[.slice none 0 0, .slice none 0 0, .slice none 0 0] 34)
    simpa using this
  have hh3 : w0.heap[b3]? = some (.cells #[.slice none 0 0, .slice none 0 0, .slice none 0 0] 34 (0, 0)) := by
    rw [HW0.out, HB3.out]
    have := heap_alloc_last ((w.alloc (.cells #[.slice (some ⟨F, 0, none⟩) n cF, .slice A soft.length cA, .slice W soft.length cW] 34)).alloc (.cells #[.slice none 0 0, .slice none 0 0, .slice none 0 0] 34)) (.cells #[.slice none 0 0, .slice none 0 0, .slice none 0 0] 34)
    simpa using this
  have H0 : Hid (FlSt w b1 b2 b3 (.slice (some ⟨F, 0, none⟩) n cF) (.slice A soft.length cA) (.slice W soft.length cW) (.slice none 0 0) [] w0) := Lib.hid
    ⟨by rw [HW0.out]; exact (((Below.refl _ _).alloc (Nat.le_refl _) _).alloc (by simp) _).alloc (by simp; omega) _,
      by rw [cell_of_row w0 b1 0 _ _ _ hh1]; rfl, by rw [cell_of_row w0 b1 1 _ _ _ hh1]; rfl, by rw [cell_of_row w0 b1 2 _ _ _ hh1]; rfl,
      by rw [cell_of_row w0 b2 0 _ _ _ hh2]; rfl, by rw [cell_of_row w0 b2 1 _ _ _ hh2]; rfl, by rw [cell_of_row w0 b2 2 _ _ _ hh2]; rfl, fun j => frozen_of_row w0 b2 j _ _ hh2,
      by rw [cell_of_row w0 b3 0 _ _ _ hh3]; rfl, by rw [cell_of_row w0 b3 1 _ _ _ hh3]; rfl, by rw [cell_of_row w0 b3 2 _ _ _ hh3]; rfl, fun j => frozen_of_row w0 b3 j _ _ hh3,
      World.ownsRow_nil w0 _ _ _, fun g hg => by cases hg⟩
  have HNE : Hid (b1 ≠ b2 ∧ b1 ≠ b3 ∧ b2 ≠ b3 ∧ w.heap.size ≤ b3 ∧ w.heap.size ≤ b2) := Lib.hid (by rw [HB1.out, HB2.out, HB3.out]; omega)
  clear hh1 hh2 hh3 HW0
  go_loopw [4] (fun i wr => FlRel w b1 b2 b3 (.slice (some ⟨F, 0, none⟩) n cF) (.slice A soft.length cA) (.slice W soft.length cW) f n i wr) (fun i _ => n - (intOf i).toNat)
  case atStart => exact ⟨0, _, Nat.zero_le _, rfl, H0.out⟩
  case round =>
    obtain ⟨j, v, hj, rfl, hst⟩ := hrel
    have HS := Lib.hid hst
    clear hst H0
    have a0 := HS.out.a0
    have a1 := HS.out.a1
    have a2 := HS.out.a2
    have o0 := HS.out.o0
    by_cases hlt : j < n
    · have hlt' : (j : Int) < (n : Int) := by omega
      go_wp2_with fail
      refine wp_region_head (fun w' => w'.cell? ⟨b3, 0, none⟩ = some v ∧ w'.cell? ⟨b1, 0, none⟩ = some (.slice (some ⟨F, 0, none⟩) n cF) ∧ w'.cell? ⟨b1, 1, none⟩ = some (.slice A soft.length cA) ∧ w'.cell? ⟨b1, 2, none⟩ = some (.slice W soft.length cW)) 8 (by kernel_rfl) (by kernel_rfl) (fun w4 HW4 => ?_)
      have HS4 : Hid (FlSt w b1 b2 b3 (.slice (some ⟨F, 0, none⟩) n cF) (.slice A soft.length cA) (.slice W soft.length cW) v ((List.range j).map f) w4) := Lib.hid (by rw [HW4.out]; exact HS.out.carry (Below.refl _ _).drew)
      have hS : w4.cell? ⟨b3, 0, none⟩ = some v ∧ w4.cell? ⟨b1, 0, none⟩ = some (.slice (some ⟨F, 0, none⟩) n cF) ∧ w4.cell? ⟨b1, 1, none⟩ = some (.slice A soft.length cA) ∧ w4.cell? ⟨b1, 2, none⟩ = some (.slice W soft.length cW) := ⟨HS4.out.o0, HS4.out.a0, HS4.out.a1, HS4.out.a2⟩
      clear a0 a1 a2 o0 HS HW4
      refine takeH (i := 0) 12 (v := .pointer (some ⟨b3, 0, none⟩)) rfl (by kernel_rfl) (by kernel_rfl) (by kernel_rfl) rfl (fun _ _ _ h => h) (.inl ⟨by rfl, fun _ _ => by go_simp⟩) hS ?_
      simp only [Act.put, List.setIfInBounds_toArray, List.set_cons_zero, List.set_cons_succ]
      refine takeH (i := 1) 13 (v := v) rfl (by kernel_rfl) (by kernel_rfl) (by kernel_rfl) rfl (fun _ _ _ h => h) (.inl ⟨by rfl, fun _ hw => by have e0 := hw.1; go_simp⟩) hS ?_
      simp only [Act.put, List.setIfInBounds_toArray, List.set_cons_zero, List.set_cons_succ]
      refine takeH (i := 2) 14 (v := refV F cF n A cA W cW soft.length) rfl (by kernel_rfl) (by kernel_rfl) (by kernel_rfl) rfl (fun _ _ _ h => h) (.inl ⟨by rfl, fun _ hw => by obtain ⟨_, e0, e1, e2⟩ := hw; go_simp⟩) hS ?_
      simp only [Act.put, List.setIfInBounds_toArray, List.set_cons_zero, List.set_cons_succ]
      refine takeH (i := 3) 15 (v := .int .i64 (j : Int)) rfl (by kernel_rfl) (by kernel_rfl) (by kernel_rfl) rfl (fun _ _ _ h => h) (.inl ⟨by rfl, fun _ _ => by go_simp⟩) hS ?_
      simp only [Act.put, List.setIfInBounds_toArray, List.set_cons_zero, List.set_cons_succ]
      refine oneH (i := 4) (oi := ⟨some 16, _, _, _, _, _⟩) rfl (by kernel_rfl) (fun K hK => ?_)
      go_simp
      refine (RefRead_any (HR.out.carry HS4.out.below) j hlt hs).mono ?_
      obtain ⟨q, HQ⟩ : ∃ q, Hid (q = f j) := ⟨_, Lib.hid rfl⟩
      have HQL : Hid (q.length = 128) := Lib.hid (by rw [HQ.out]; exact HFW.out j hlt)
      rw [← HF.out, ← HQ.out]
      rintro e w5 ⟨rfl, hb⟩
      have HS5 := Lib.hid (HS4.out.carry hb)
      clear hb hS HS4
      refine hK.out _ _ ⟨HS5.out.o0, HS5.out.a0, HS5.out.a1, HS5.out.a2⟩ ?_
      clear hK K
      refine oneH (i := 5) (oi := ⟨some 17, _, _, _, _, _⟩) rfl (by kernel_rfl) (fun K hK => ?_)
      refine step_buildSlice_one (by rfl) _ 35 _ (by rfl) (pgArr q) (by rfl) Tryd.underlying31 Tryd.arrZero (by rw [pgArr_size, HQL.out]; exact Tryd.arrSize) (by rw [pgArr_size, HQL.out]; decide) (by rw [pgArr_size, HQL.out]; decide) ?_
      have hb6 : Below w5.heap.size w5 (w5.alloc (.cells (pgArr q) 35)) := (Below.refl _ _).alloc (Nat.le_refl _) _
      have HS6 := Lib.hid (HS5.out.carry hb6)
      refine hK.out _ _ ⟨HS6.out.o0, HS6.out.a0, HS6.out.a1, HS6.out.a2⟩ ?_
      clear hK K hb6
      simp only [Act.put, List.setIfInBounds_toArray]
      obtain ⟨w6, HW6⟩ : ∃ w6, Hid (w6 = w5.alloc (.cells (pgArr q) 35)) := ⟨_, Lib.hid rfl⟩
      have hn6 : ∀ j u, (pgCells q)[j]? = some u → w6.cell? ((⟨w5.heap.size, 0, none⟩ : Addr).add j) = some u := by rw [HW6.out]; exact World.news_of_block (cs := pgArr q) (heap_alloc_new w5 _)
      rw [← HW6.out] at HS6 ⊢
      obtain ⟨i0, hi0, hz0, hz1, hz2⟩ := info_parts Tryd.infoArr3
      have HO6 : Hid (w6.ownsRow w.heap.size 35 128 v j (pgsCells ((List.range j).map f))) := Lib.hid (by
        have := HS6.out.own
        unfold OwnPgs at this
        rw [List.length_map, List.length_range] at this
        exact this)
      have hl2 : b2 < w6.heap.size := lt_of_cell HS6.out.r0
      have hl3 : b3 < w6.heap.size := lt_of_cell HS6.out.o0
      have hl1 : b1 < w6.heap.size := lt_of_cell HS6.out.a0
      have hsz : w.heap.size ≤ w6.heap.size := HS6.out.below.size
      refine oneH (i := 6) (oi := ⟨some 18, _, _, _, _, _⟩) rfl (by kernel_rfl) (fun K hK => ?_)
      refine step_append_lies _ rfl _ _ _ rfl w.heap.size 35 i0 _ 128 128 Tryd.underlying31 hi0 hz0 hz1 hz2 rfl (by omega) v j (pgsCells ((List.range j).map f)) rfl HO6.out ⟨w5.heap.size, 0, none⟩ 1 1 (pgCells q) rfl (by rw [pgCells_length, HQL.out]) hn6 (pgCells_one q)
        (by omega) (by unfold maxLen; omega) (by omega) hsz w6.heap.size rfl ?_
      intro gg cap w7 hown7 hgrow hat hlt7
      have HS7 : Hid (FlSt w b1 b2 b3 (.slice (some ⟨F, 0, none⟩) n cF) (.slice A soft.length cA) (.slice W soft.length cW) (.slice (some ⟨gg, 0, none⟩) (j + 1) cap) ((List.range (j + 1)).map f) (w7.setCell ⟨b3, 0, none⟩ (.slice (some ⟨gg, 0, none⟩) (j + 1) cap))) := Lib.hid (by
        refine HS6.out.push HNE.out hgrow ?_ hat
        unfold OwnPgs
        rw [List.length_map, List.length_range, List.range_succ, List.map_append, List.map_cons, List.map_nil, pgsCells_snoc, ← HQ.out]
        exact hown7)
      have hS : w7.cell? ⟨b3, 0, none⟩ = some v ∧ w7.cell? ⟨b1, 0, none⟩ = some (.slice (some ⟨F, 0, none⟩) n cF) ∧ w7.cell? ⟨b1, 1, none⟩ = some (.slice A soft.length cA) ∧ w7.cell? ⟨b1, 2, none⟩ = some (.slice W soft.length cW) :=
        ⟨(HS6.out.far_cell hgrow (.inr (.inr rfl)) 0).1.trans HS6.out.o0, (HS6.out.far_cell hgrow (.inl rfl) 0).1.trans HS6.out.a0, (HS6.out.far_cell hgrow (.inl rfl) 1).1.trans HS6.out.a1, (HS6.out.far_cell hgrow (.inl rfl) 2).1.trans HS6.out.a2⟩
      have cz := hS.1
      have fz : w7.frozen? ⟨b3, 0, none⟩ = false := (HS6.out.far_cell hgrow (.inr (.inr rfl)) 0).2.trans (HS6.out.of 0)
      refine hK.out _ _ hS ?_
      clear hK K
      simp only [Act.put, List.setIfInBounds_toArray, List.set_cons_zero, List.set_cons_succ]
      refine takeH (i := 7) 19 (v := .pointer (some ⟨b3, 0, none⟩)) rfl (by kernel_rfl) (by kernel_rfl) (by kernel_rfl) rfl (fun _ _ _ h => h) (.inl ⟨by rfl, fun _ _ => by go_simp⟩) hS ?_
      simp only [Act.put, List.setIfInBounds_toArray, List.set_cons_zero, List.set_cons_succ]
      refine wpAnyH_done (by kernel_rfl) ?_ _
      unfold HeadPost
      simp only [List.drop_succ_cons, List.drop_zero]
      clear hown7 hgrow hat hlt7 hn6 hi0 hz0 hz1 hz2 hl1 hl2 hl3 hsz HS6 HO6
      go_wp2_with fail
      go_roundw
      case rel => exact ⟨j + 1, _, hlt, by go_num, HS7.out⟩
      case measure => simp [intOf]; omega
    · obtain rfl : j = n := by omega
      obtain ⟨gg, cap, hv⟩ : ∃ gg cap, v = .slice (some ⟨gg, 0, none⟩) j cap := by
        obtain ⟨_, h2⟩ := HS.out.own
        rcases h2 with ⟨_, h2⟩ | ⟨g, cap, cur, e1, _⟩
        · rw [List.length_map, List.length_range] at h2
          omega
        · rw [List.length_map, List.length_range] at e1
          exact ⟨g, cap, e1⟩
      subst hv
      have o1 := HS.out.o1
      have o2 := HS.out.o2
      have r0 := HS.out.r0
      have r1 := HS.out.r1
      have r2 := HS.out.r2
      have rf0 := HS.out.rf 0
      have rf1 := HS.out.rf 1
      have rf2 := HS.out.rf 2
      have HOW : Hid (OwnPgs (((wr.setCell ⟨b2, 0, none⟩ (.slice (some ⟨gg, 0, none⟩) j cap)).setCell ⟨b2, 1, none⟩ (.slice none 0 0)).setCell ⟨b2, 2, none⟩ (.slice none 0 0)) w.heap.size (.slice (some ⟨gg, 0, none⟩) j cap) ((List.range j).map f)) := Lib.hid (by
        have hg2 : gg ≠ b2 := (HS.out.far gg rfl).2.1
        obtain ⟨q1, q2⟩ := HS.out.own
        refine ⟨q1, ?_⟩
        rcases q2 with ⟨e, _⟩ | ⟨g, cap', cur, e1, e2, e3, e4⟩
        · cases e
        · obtain rfl : gg = g := by
            injection e1 with e1
            injection e1 with e1
            injection e1 with e1
          exact .inr ⟨gg, cap', cur, e1, e2, by rw [setCell_heap_other _ b2 2 _ gg hg2, setCell_heap_other _ b2 1 _ gg hg2, setCell_heap_other _ b2 0 _ gg hg2]; exact e3, e4⟩)
      have HBW : Hid (Below w.heap.size w (((wr.setCell ⟨b2, 0, none⟩ (.slice (some ⟨gg, 0, none⟩) j cap)).setCell ⟨b2, 1, none⟩ (.slice none 0 0)).setCell ⟨b2, 2, none⟩ (.slice none 0 0))) := Lib.hid (((HS.out.below.setCell HNE.out.2.2.2.2 _).setCell HNE.out.2.2.2.2 _).setCell HNE.out.2.2.2.2 _)
      have HRW : Hid ((((wr.setCell ⟨b2, 0, none⟩ (.slice (some ⟨gg, 0, none⟩) j cap)).setCell ⟨b2, 1, none⟩ (.slice none 0 0)).setCell ⟨b2, 2, none⟩ (.slice none 0 0)).rangeAt b2 0 [.slice (some ⟨gg, 0, none⟩) j cap, .slice none 0 0, .slice none 0 0]) := Lib.hid (fun i u hu => by
        rw [Nat.zero_add]
        have g0 := World.cell?_setCell_same wr ⟨b2, 0, none⟩ (.slice (some ⟨gg, 0, none⟩) j cap) HS.out.r0
        have g1 := World.cell?_setCell_same (wr.setCell ⟨b2, 0, none⟩ (.slice (some ⟨gg, 0, none⟩) j cap)) ⟨b2, 1, none⟩ (.slice none 0 0) ((World.cell?_setCell_other _ _ _ _ (by simp)).trans HS.out.r1)
        have g2 := World.cell?_setCell_same ((wr.setCell ⟨b2, 0, none⟩ (.slice (some ⟨gg, 0, none⟩) j cap)).setCell ⟨b2, 1, none⟩ (.slice none 0 0)) ⟨b2, 2, none⟩ (.slice none 0 0) ((World.cell?_setCell_other _ _ _ _ (by simp)).trans ((World.cell?_setCell_other _ _ _ _ (by simp)).trans HS.out.r2))
        match i, hu with
        | 0, hu =>
          obtain rfl := Option.some.inj hu
          rw [World.cell?_setCell_other _ _ _ _ (by simp), World.cell?_setCell_other _ _ _ _ (by simp)]
          exact g0
        | 1, hu =>
          obtain rfl := Option.some.inj hu
          rw [World.cell?_setCell_other _ _ _ _ (by simp)]
          exact g1
        | 2, hu =>
          obtain rfl := Option.some.inj hu
          exact g2
        | i + 3, hu => exact absurd hu (by simp))
      go_wp2_with fail
      exact bodyPost_ret (results_cell_mid rfl _ _ b2 0 _ _ rfl HRW.out Tryd.underlying34 rfl Tryd.refSize) rfl ⟨gg, cap, rfl, HOW.out, HBW.out⟩
end Go.Proofs.YtflkhbdipmjmeaaDoor
