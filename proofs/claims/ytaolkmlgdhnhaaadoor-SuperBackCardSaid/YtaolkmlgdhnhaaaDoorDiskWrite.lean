/-
  The contract of disk.Write. Conditions: none beyond the premises of each theorem.
-/
import Derived.Test.YtaolkmlgdhnhaaaDoorFill
import Derived.Test.YtaolkmlgdhnhaaaDoorRegionHead
import Derived.StillTailTactics
import Derived.Deep.RegionHeld3
import Derived.Deep.AppendLies
namespace Go.Proofs.YtaolkmlgdhnhaaaDoor
open Go.RowKit

/-- a load of a sector, in a region that reads ahead of its last operations -/
theorem wpStill_load_page {P : Program} {ops : Array Oper} {w : World} {Q : Act → Prop} {a : Act} {o : Oper} {rest : List Oper} (hgd : o.guard = none) (ty : TypeId) (x : Operand) (ho : o.op = .load ty x)
    (b off : Nat) (hx : a.eval x = .pointer (some ⟨b, off, none⟩)) (p : Pg) (hl : p.length = 128) (hc : w.rangeAt b off (pgCells p)) (d : TypeDesc)
    (hu : P.underlying ty = some d) (hd : d.isRow = true) (hi : (P.info? ty).map (·.size) = some 128)
    (h : wpStill P ops w Q rest (a.put o.dst (pgV p))) : wpStill P ops w Q (o :: rest) a := by
  refine wpStill_step fun K hK => ?_
  have hw : Region.wanted o (yielded ops a.tmps) = true := by simp [Region.wanted, hgd]
  rw [if_pos hw]
  unfold Oper.still execOp
  simp only [ho, hx, Instr.loadAt, Instr.sureAddr, Sem.run_bind, Sem.run_pure, Result.andThen_ok, run_loadVar_mid w b off ty (pgCells p) d hc hu hd (by rw [pgCells_length, hl]; exact hi), Oper.stillUpon_value]
  exact hK _ h

/-- a store of a sector: the world behind it is a letter -/
theorem wpList_store_page {P : Program} {ops : Array Oper} {rest : List Oper} {op : Oper} {a : Act} {w : World} {Q : Exit → Act → World → Prop} (hgd : op.guard = none) (ty : TypeId) (x y : Operand) (ho : op.op = .store ty x y)
    (b o : Nat) (p : Pg) (hl : p.length = 128) (hx : a.eval x = .pointer (some ⟨b, o, none⟩)) (hy : a.eval y = pgV p) (ht : w.there b o 128) (hi : (P.info? ty).map (·.size) = some 128)
    (h : ∀ w2, Hid (w2 = w.setCells b o (pgCells p)) → wpList P ops Q rest (a.put op.dst undef) w2) : wpList P ops Q (op :: rest) a w :=
  wpList_store_mid hgd ty x y ho b o (pgArr p) hx hy (by rw [pgArr_size, hl]; exact ht) (by rw [pgArr_size, hl]; exact hi) (pgArr_all p) (h _ rfl)
theorem setCells_cell {w : World} {b c : Nat} (h : c ≠ b) (o j : Nat) (vs : List Value) : (w.setCells b o vs).cell? ⟨c, j, none⟩ = w.cell? ⟨c, j, none⟩ := World.cell?_setCells_out b vs o w _ (fun e _ => absurd e h)
/-- a sector is written where it is read -/
theorem DiskIs.laid {K : Nat → Prop} {w w2 : World} {D F S : Nat} {v : Value} {n i : Nat} {d : Dk} {p : Pg} (h : DiskIs K w D F S v n d) (hw : w2 = w.setCells S (i * 128) (pgCells p)) (hi : i < n) (hl : p.length = 128) :
    DiskIs K w2 D F S v n ⟨d.firm, d.seen.set i p, d.soft, d.down⟩ := by
  subst hw
  have hb : ∀ k, k ≠ S → (w.setCells S (i * 128) (pgCells p)).heap[k]? = w.heap[k]? := fun k hk => setCells_block S hk _ _ _
  refine ⟨⟨h.ok.firm, by simp [h.ok.seen], h.ok.wf, h.ok.ws.set _ hl, h.ok.fits⟩, h.pos, by rw [setCells_cell h.ds]; exact h.c0, by rw [setCells_cell h.ds]; exact h.c1, by rw [setCells_cell h.ds]; exact h.c2, by rw [setCells_cell h.ds]; exact h.c3,
    frozen_setCells h.fz _ _ _, frozen_setCells h.ff _ _ _, frozen_setCells h.fs _ _ _, h.firm.carry (hb F h.fsn), h.seen.store h.fs (by rw [h.ok.seen]; exact hi) hl, ?_, h.kd, h.kf, h.ks, h.kv, h.df, h.ds, h.fsn⟩
  obtain ⟨h1, h2⟩ := h.soft
  refine ⟨h1, ?_⟩
  rcases h2 with h2 | ⟨g, cap, cur, e1, e2, e3, e4⟩
  · exact .inl h2
  · exact .inr ⟨g, cap, cur, e1, e2, by rw [hb g (h.kv g (by rw [e1]; rfl)).2.2.2]; exact e3, e4⟩
/-- a region that reads, and ends in one order: the world behind the draw is a letter -/
theorem wp_region_tail {P : Program} {id : Nat} {Q : Exit → Act → World → Prop} {a : Act} {w : World} {l : List Oper} (n : Nat) (hm : P.follows .mixedOrders = true) (hB : Region.lexTailB .any l.toArray n = true)
    (h : ∀ w1, Hid (w1 = w.drew) → wpStill P l.toArray w1 (fun a' => wpList P l.toArray Q (l.drop n) a' w1) (l.take n) a) : (Code.region id l.toArray true).wp P Q a w := wp_region_still_tail n hm hB (h _ rfl)

theorem Tryd.infoWrite : (Tryd.prog.info? 80).map (fun i => (i.zero, i.size, i.bytes)) = some (some (.agg (#[.int .i64 0] ++ pgArr zeroPg)), 129, 136) := by kernel_rfl

theorem Tryd.infoWrite2 : (Tryd.prog.info? 80).map (fun i => (i.zero, i.size)) = some (some (.agg (#[.int .i64 0] ++ pgArr zeroPg)), 129) := by kernel_rfl
/-- a literal yields its cells in whatever world -/
theorem yieldsIf_build {P : Program} {ops : Array Oper} {S : World → Prop} {op : Oper} {a : Act} (hw : Region.wanted op (yielded ops a.tmps) = true) (t : TypeId) (x y : Operand) (ho : op.op = .build t #[(0, x), (1, y)]) (u v : Value) (c : Array Value)
    (hx : a.eval x = u) (hy : a.eval y = v) (hb : P.built t [(0, u), (1, v)] = some c) : YieldsIf P ops S op (.agg c) a :=
  .inl ⟨hw, fun w _ => by
    unfold execOp
    simp only [ho, List.map_toArray, List.map_cons, List.map_nil, hx, hy, Sem.run_bind, run_build w t #[(0, u), (1, v)] c hb, Result.andThen_ok]
    rfl⟩
/-- a slice literal of one element, at a step of a region that draws its order -/
theorem step_buildSlice_one {P : Program} {w : World} {ops : Array Oper} {o : Oper} {a : Act} {K : Act → World → Prop} {Q : Exit → Act → World → Prop} {E : Prop} (hgd : o.guard = none) (t e : TypeId) (x : Operand) (ho : o.op = .buildSlice t 1 #[(0, x)])
    (c : Array Value) (hx : a.eval x = .agg c) (hu : P.underlying t = some (.slice e)) (hz : ((P.info? e).bind (·.zero)).isSome = true) (hi : (P.info? e).map (·.size) = some c.size) (h0 : 0 < c.size) (h24 : c.size ≤ 2 ^ 24)
    (h : K (a.put o.dst (.slice (some ⟨w.heap.size, 0, none⟩) 1 1)) (w.alloc (.cells c e))) : if Region.wanted o (yielded ops a.tmps) = true then Oper.wp P o a w K Q else E := by
  have hw : Region.wanted o (yielded ops a.tmps) = true := by simp [Region.wanted, hgd]
  rw [if_pos hw]
  unfold Oper.wp execOp
  simp only [ho, List.map_toArray, List.map_cons, List.map_nil, hx, Sem.run_bind, run_buildSlice_one w t e c hu hz hi h0 h24, Result.andThen_ok]
  exact h
theorem range_far {w w3 : World} {o : Obj} {row : Option Nat} {b : Nat} {cs : List Value} (hg : (w.alloc o).drew.grownBy w3 row) (hb : b < w.heap.size) (hn : row ≠ some b) (hr : w.rangeAt b 0 cs) : w3.rangeAt b 0 cs := fun j v hv => by
  rw [hg.cell_far _ (by show b < (w.alloc o).heap.size; simp; omega) (Ne.symm hn)]
  exact World.rangeAt_alloc hr o j v hv
theorem cell_far2 {w w3 : World} {o : Obj} {row : Option Nat} {b j : Nat} (hg : (w.alloc o).drew.grownBy w3 row) (hb : b < w.heap.size) (hn : row ≠ some b) : w3.cell? ⟨b, j, none⟩ = w.cell? ⟨b, j, none⟩ :=
  (hg.cell_far _ (by show b < (w.alloc o).heap.size; simp; omega) (Ne.symm hn)).trans (World.cell?_alloc_lt w o ⟨b, j, none⟩ hb)
theorem frozen_far2 {w w3 : World} {o : Obj} {row : Option Nat} {b j : Nat} (hg : (w.alloc o).drew.grownBy w3 row) (hb : b < w.heap.size) (hn : row ≠ some b) : w3.frozen? ⟨b, j, none⟩ = w.frozen? ⟨b, j, none⟩ :=
  (hg.frozen_far _ (by show b < (w.alloc o).heap.size; simp; omega) (Ne.symm hn)).trans (World.frozen?_alloc_old w o ⟨b, j, none⟩ (Nat.ne_of_lt hb))
theorem range_setCell {w : World} {D b o : Nat} {cs : List Value} (hD : D ≠ b) (hr : w.rangeAt b o cs) (j : Nat) (u : Value) : (w.setCell ⟨D, j, none⟩ u).rangeAt b o cs := fun k v hv => by
  rw [World.cell?_setCell_other _ _ _ _ (fun e => hD (Addr.mk.inj e).1)]
  exact hr k v hv
/-- a write is put behind the others -/
theorem DiskIs.pushed {K : Nat → Prop} {w w3 : World} {D F S : Nat} {v : Value} {n i gg cap : Nat} {d : Dk} {p : Pg} {o : Obj} (h : DiskIs K w D F S v n d) (ht : There K w) (hg : (w.alloc o).drew.grownBy w3 v.ownBlock)
    (hown : w3.ownsRow 0 80 129 (.slice (some ⟨gg, 0, none⟩) (d.soft.length + 1) cap) (d.soft.length + 1) (softCells d.soft ++ wrCells (i, p))) (hat : v.ownBlock = some gg ∨ gg = w.heap.size + 1) (hi : i < n) (hl : p.length = 128) :
    DiskIs K (w3.setCell ⟨D, 2, none⟩ (.slice (some ⟨gg, 0, none⟩) (d.soft.length + 1) cap)) D F S (.slice (some ⟨gg, 0, none⟩) (d.soft.length + 1) cap) n ⟨d.firm, d.seen, d.soft ++ [(i, p)], d.down⟩ := by
  have hD : D < w.heap.size := lt_of_cell h.c0
  have hF := h.firm.lt (by rw [h.ok.firm]; exact h.pos)
  have hS := h.seen.lt (by rw [h.ok.seen]; exact h.pos)
  have nD : v.ownBlock ≠ some D := fun e => (h.kv D e).2.1 rfl
  have nF : v.ownBlock ≠ some F := fun e => (h.kv F e).2.2.1 rfl
  have nS : v.ownBlock ≠ some S := fun e => (h.kv S e).2.2.2 rfl
  have blk : ∀ k, k < w.heap.size → v.ownBlock ≠ some k → w3.heap[k]? = w.heap[k]? := fun k hk hn =>
    (hg.block k (by show k < (w.alloc o).heap.size; simp; omega) (Ne.symm hn)).trans (Below.heap_alloc w o k hk)
  have bF : (w3.setCell ⟨D, 2, none⟩ (.slice (some ⟨gg, 0, none⟩) (d.soft.length + 1) cap)).heap[F]? = w.heap[F]? := (setCell_heap_other w3 D 2 _ F (Ne.symm h.df)).trans (blk F hF nF)
  have bS : (w3.setCell ⟨D, 2, none⟩ (.slice (some ⟨gg, 0, none⟩) (d.soft.length + 1) cap)).heap[S]? = w.heap[S]? := (setCell_heap_other w3 D 2 _ S (Ne.symm h.ds)).trans (blk S hS nS)
  have hgD : gg ≠ D ∧ gg ≠ F ∧ gg ≠ S ∧ ¬ K gg := by
    rcases hat with e | e
    · have := h.kv gg e
      exact ⟨this.2.1, this.2.2.1, this.2.2.2, this.1⟩
    · refine ⟨by omega, by omega, by omega, fun hk => ?_⟩
      have := ht gg hk
      omega
  refine ⟨⟨h.ok.firm, h.ok.seen, h.ok.wf, h.ok.ws, h.ok.fits.snoc hi hl⟩, h.pos, ?_, ?_, ?_, ?_, fun j => ?_, fun j => ?_, fun j => ?_, h.firm.carry bF, h.seen.carry bS, ?_, h.kd, h.kf, h.ks, ?_, h.df, h.ds, h.fsn⟩
  · rw [World.cell?_setCell_other _ _ _ _ (by simp), cell_far2 hg hD nD]; exact h.c0
  · rw [World.cell?_setCell_other _ _ _ _ (by simp), cell_far2 hg hD nD]; exact h.c1
  · exact World.cell?_setCell_same _ _ _ ((cell_far2 hg hD nD).trans h.c2)
  · rw [World.cell?_setCell_other _ _ _ _ (by simp), cell_far2 hg hD nD]; exact h.c3
  · rw [World.frozen?_setCell, frozen_far2 hg hD nD]; exact h.fz j
  · exact (World.frozen?_of_block (w := w) (a := ⟨F, j, none⟩) bF).trans (h.ff j)
  · exact (World.frozen?_of_block (w := w) (a := ⟨S, j, none⟩) bS).trans (h.fs j)
  · rw [List.length_append, List.length_singleton, softCells_snoc]
    obtain ⟨h1, h2⟩ := hown
    refine ⟨h1, ?_⟩
    rcases h2 with ⟨e, _⟩ | ⟨g, cap', cur, e1, e2, e3, e4⟩
    · cases e
    · obtain ⟨rfl, rfl⟩ : gg = g ∧ cap = cap' := by
        injection e1 with e1 e5 e6
        injection e1 with e1
        injection e1 with e1
        exact ⟨e1, e6⟩
      exact .inr ⟨gg, cap, cur, rfl, e2, by rw [setCell_heap_other w3 D 2 _ gg hgD.1]; exact e3, e4⟩
  · intro g e
    obtain rfl : gg = g := by injection e
    exact ⟨hgD.2.2.2, hgD.1, hgD.2.1, hgD.2.2.1⟩
set_option maxRecDepth 100000 in
set_option maxHeartbeats 2000000 in
theorem Write_yes {K0 : Nat → Prop} {D n i : Nat} {d : Dk} {p : Pg} {w : World} (h : DiskAt K0 w D n d) (ht : There K0 w) (hd : d.down = false) (hi : i < n) (hl : p.length = 128) (hs : d.soft.length ≤ 1000000) :
    Calls Tryd.prog 19 #[.pointer (some ⟨D, 0, none⟩), .int .i64 i, pgV p] w fun e w' => e = .returned .nilIface ∧ DiskAt K0 w' D n (d.write i p) ∧ Kept K0 w w' := by
  obtain ⟨F, S, v, h⟩ := h
  have h0 := h.c0
  have h1 := h.c1
  have h2 := h.c2
  have h3 := h.c3
  rw [hd] at h3
  have hD : D < w.heap.size := lt_of_cell h0
  have HD := Lib.hid h
  have HL := Lib.hid hl
  have HT := Lib.hid ht
  have HS := Lib.hid hs
  clear h hl ht hd hs
  have hr : (w.alloc (.cells (pgArr p) 55)).drew.rangeAt w.heap.size 0 (pgCells p) := by
    intro j u hu
    have := World.cell?_alloc_at (w := w) (pgArr p) 55 w.heap.size (0 + j) rfl
    show (w.alloc (.cells (pgArr p) 55)).cell? _ = _
    rw [this, Nat.zero_add]
    simpa [pgArr] using hu
  have HR := Lib.hid hr
  clear hr
  go_enter Tryd.func19, Tryd.ntmps19
  go_wp2_with fail
  refine (refuse_yes D n i ⟨F, 0, none⟩ _ hi ?_ ?_).mono ?_
  · rw [World.cell?_alloc_lt _ _ _ hD]; exact h0
  · rw [World.cell?_alloc_lt _ _ _ hD]; exact h3
  rintro e w' ⟨rfl, rfl⟩
  go_wp2_with fail
  refine wp_region_tail 6 (by kernel_rfl) (by kernel_rfl) (fun w1 HW1 => ?_)
  simp only [List.take_succ_cons, List.take_zero, List.drop_succ_cons, List.drop_zero]
  have h1' : w1.cell? ⟨D, 1, none⟩ = some (.slice (some ⟨S, 0, none⟩) n n) := by rw [HW1.out]; show (w.alloc _).cell? _ = _; rw [World.cell?_alloc_lt _ _ _ hD]; exact h1
  have HR1 : Hid (w1.rangeAt w.heap.size 0 (pgCells p)) := Lib.hid (by rw [HW1.out]; exact HR.out)
  iterate 5 still_step
  refine wpStill_load_page rfl _ _ rfl w.heap.size 0 rfl p HL.out HR1.out _ Tryd.underlying55 rfl Tryd.pageSize ?_
  refine wpStill_nil ?_
  go_wp2_with (with_reducible refine stop_at (o := ⟨none, _, _, _, _, _⟩) ?_)
  have HD1 : Hid (DiskIs K0 w1 D F S v n d) := Lib.hid (by rw [HW1.out]; exact HD.out.carry ((Below.refl _ _).alloc (Nat.le_refl _) _).drew)
  refine wpList_store_page rfl _ _ _ rfl S (i * 128) p HL.out rfl rfl (HD1.out.seen.there HD1.out.fs (by rw [HD1.out.ok.seen]; exact hi)) Tryd.pageSize (fun w2 HW2 => ?_)
  have hDS := HD1.out.ds
  have h2' : w2.cell? ⟨D, 2, none⟩ = some v := by rw [HW2.out, setCells_cell hDS]; exact HD1.out.c2
  have hf2' : w2.frozen? ⟨D, 2, none⟩ = false := by rw [HW2.out, World.frozen?_setCells]; exact HD1.out.fz 2
  have HD2 : Hid (DiskIs K0 w2 D F S v n ⟨d.firm, d.seen.set i p, d.soft, d.down⟩) := Lib.hid (HD1.out.laid HW2.out hi HL.out)
  have hSb : S < w.heap.size := HD.out.seen.lt (by rw [HD.out.ok.seen]; exact HD.out.pos)
  have HR2 : Hid (w2.rangeAt w.heap.size 0 (pgCells p)) := Lib.hid (by rw [HW2.out]; exact World.rangeAt_setCells_apart HR1.out _ _ _ (.inl (by omega)))
  have HK2 : Hid (Kept K0 w w2) := Lib.hid (by
    rw [HW2.out, HW1.out]
    exact ((Kept.refl K0 w).alloc HT.out _).drew.setCells HD.out.ks _ _)
  obtain ⟨b0, HB0⟩ : ∃ b0, Hid (b0 = w.heap.size) := ⟨_, Lib.hid rfl⟩
  rw [← HB0.out] at HR2
  have hr2 := HR2.out
  have hb2 : b0 < w2.heap.size := by have := HK2.out.size; have := (HW1.out ▸ Nat.le_refl w1.heap.size); rw [HB0.out, HW2.out, setCells_size, HW1.out]; show _ < (w.alloc _).heap.size; simp
  clear hDS HR HR1 h1' HD1 h0 h1 h2 h3
  obtain ⟨i0, hi0, hz0, hz1, hz2⟩ := info_parts Tryd.infoWrite
  have hun : Tryd.prog.underlying 55 = some (.array 128 5) := Tryd.underlying55
  have hsz : (Tryd.prog.info? 55).map (·.size) = some (pgCells p).length := by rw [pgCells_length, HL.out]; exact Tryd.pageSize
  have hDb : D ≠ b0 := by rw [HB0.out]; omega
  have HO : Hid (w2.ownsRow 0 80 129 v d.soft.length (softCells d.soft)) := Lib.hid HD2.out.soft
  have hvD : v.ownBlock ≠ some D := fun e => (HD2.out.kv D e).2.1 rfl
  have hvb : v.ownBlock ≠ some b0 := fun e => by have := (HD.out.soft.lt b0 e).2; rw [HB0.out] at this; omega
  have hD2 : D < w2.heap.size := by have := HK2.out.size; omega
  rw [← HB0.out]
  go_wp2_with fail
  refine wp_region_head (fun w' => w'.cell? ⟨D, 2, none⟩ = some v ∧ w'.rangeAt b0 0 (pgCells p)) 10 (by kernel_rfl) (by kernel_rfl) (fun w4 HW4 => ?_)
  have hS : w4.cell? ⟨D, 2, none⟩ = some v ∧ w4.rangeAt b0 0 (pgCells p) := by rw [HW4.out]; exact ⟨h2', HR2.out⟩
  refine takeH (i := 0) 21 (v := .pointer (some ⟨D, 0, none⟩)) rfl (by kernel_rfl) (by kernel_rfl) (by kernel_rfl) rfl (fun _ _ _ h => h) (.inl ⟨by rfl, fun _ _ => by go_simp⟩) hS ?_
  simp only [Act.put, List.setIfInBounds_toArray, List.set_cons_zero, List.set_cons_succ]
  refine takeH (i := 1) 22 (v := .pointer (some ⟨D, 0, none⟩)) rfl (by kernel_rfl) (by kernel_rfl) (by kernel_rfl) rfl (fun _ _ _ h => h) (.inl ⟨by rfl, fun _ _ => by go_simp⟩) hS ?_
  simp only [Act.put, List.setIfInBounds_toArray, List.set_cons_zero, List.set_cons_succ]
  refine takeH (i := 2) 23 (v := .pointer (some ⟨D, 0, none⟩)) rfl (by kernel_rfl) (by kernel_rfl) (by kernel_rfl) rfl (fun _ _ _ h => h) (.inl ⟨by rfl, fun _ _ => by go_simp⟩) hS ?_
  simp only [Act.put, List.setIfInBounds_toArray, List.set_cons_zero, List.set_cons_succ]
  refine takeH (i := 3) 24 (v := .pointer (some ⟨D, 2, none⟩)) rfl (by kernel_rfl) (by kernel_rfl) (by kernel_rfl) rfl (fun _ _ _ h => h) (.inl ⟨by rfl, fun _ _ => by go_simp⟩) hS ?_
  simp only [Act.put, List.setIfInBounds_toArray, List.set_cons_zero, List.set_cons_succ]
  refine takeH (i := 4) 25 (v := v) rfl (by kernel_rfl) (by kernel_rfl) (by kernel_rfl) rfl (fun _ _ _ h => h) (.inl ⟨by rfl, fun _ hw => by have hw1 := hw.1; go_simp⟩) hS ?_
  simp only [Act.put, List.setIfInBounds_toArray, List.set_cons_zero, List.set_cons_succ]
  refine takeH (i := 5) 26 (v := .int .i64 (i : Int)) rfl (by kernel_rfl) (by kernel_rfl) (by kernel_rfl) rfl (fun _ _ _ h => h) (.inl ⟨by rfl, fun _ _ => by go_simp⟩) hS ?_
  simp only [Act.put, List.setIfInBounds_toArray, List.set_cons_zero, List.set_cons_succ]
  refine takeH (i := 6) 27 (v := pgV p) rfl (by kernel_rfl) (by kernel_rfl) (by kernel_rfl) rfl (fun _ _ _ h => h) (yieldsIf_load_mid (by rfl) _ _ rfl b0 0 rfl (pgCells p) _ (fun _ hw => hw.2) Tryd.underlying55 rfl hsz) hS ?_
  simp only [Act.put, List.setIfInBounds_toArray, List.set_cons_zero, List.set_cons_succ]
  refine takeH (i := 7) 28 (v := .agg (wrArr i p)) rfl (by kernel_rfl) (by kernel_rfl) (by kernel_rfl) rfl (fun _ _ _ h => h) (yieldsIf_build (by rfl) _ _ _ rfl (.int .i64 (i : Int)) (pgV p) _ rfl rfl (built_write i HL.out)) hS ?_
  simp only [Act.put, List.setIfInBounds_toArray, List.set_cons_zero, List.set_cons_succ]
  refine oneH (i := 8) rfl (by kernel_rfl) (fun K hK => ?_)
  refine step_buildSlice_one (by rfl) _ 80 _ (by rfl) (wrArr i p) (by rfl) Tryd.underlying75 Tryd.writeZero (by rw [wrArr_size HL.out]; exact Tryd.writeInfo) (by rw [wrArr_size HL.out]; decide) (by rw [wrArr_size HL.out]; decide) ?_
  refine hK.out _ _ ⟨(World.cell?_alloc_lt _ _ _ (by rw [HW4.out]; exact hD2)).trans hS.1, World.rangeAt_alloc hS.2 _⟩ ?_
  clear hK K
  simp only [Act.put, List.setIfInBounds_toArray]
  obtain ⟨w5, HW5⟩ : ∃ w5, Hid (w5 = w4.alloc (.cells (wrArr i p) 80)) := ⟨_, Lib.hid rfl⟩
  have h45 : w4.heap.size = w2.heap.size := by rw [HW4.out]; rfl
  have HO5 : Hid (w5.ownsRow 0 80 129 v d.soft.length (softCells d.soft)) := Lib.hid (by rw [HW5.out, HW4.out]; exact (HO.out.drew).alloc _)
  have hn5 : ∀ j u, (wrCells (i, p))[j]? = some u → w5.cell? ((⟨w4.heap.size, 0, none⟩ : Addr).add j) = some u := by rw [HW5.out]; exact World.news_of_block (cs := wrArr i p) (heap_alloc_new w4 _)
  have hs5 : w5.heap.size = w2.heap.size + 1 := by rw [HW5.out, ← h45]; simp
  rw [← HW5.out]
  refine oneH (i := 9) rfl (by kernel_rfl) (fun K hK => ?_)
  refine step_append_lies _ rfl _ _ _ rfl 0 80 i0 _ 129 136 Tryd.underlying75 hi0 hz0 hz1 hz2 rfl (by omega) v d.soft.length (softCells d.soft) rfl HO5.out ⟨w4.heap.size, 0, none⟩ 1 1 (wrCells (i, p)) rfl (by rw [wrCells_length HL.out]) hn5 (wrArr_one i p)
    (by omega) (by have := HS.out; unfold maxLen; omega) (by have := HS.out; omega) (Nat.zero_le _) (w2.heap.size + 1) hs5 ?_
  intro gg cap w3 hown3 hgrow hat hlt
  have hgrow : (w2.alloc (.cells (wrArr i p) 80)).drew.grownBy w3 v.ownBlock := by
    have e : (w2.alloc (.cells (wrArr i p) 80)).drew = w5 := by rw [HW5.out, HW4.out]; rfl
    rw [e]
    exact hgrow
  have cz : w3.cell? ⟨D, 2, none⟩ = some v := (cell_far2 hgrow hD2 hvD).trans h2'
  have fz : w3.frozen? ⟨D, 2, none⟩ = false := (frozen_far2 hgrow hD2 hvD).trans hf2'
  refine hK.out _ _ ⟨cz, range_far hgrow hb2 hvb HR2.out⟩ ?_
  clear hK K
  simp only [Act.put]
  refine wpAnyH_done (by kernel_rfl) ?_ _
  unfold HeadPost
  simp only [List.drop_succ_cons, List.drop_zero]
  have HF : Hid (DiskAt K0 (w3.setCell ⟨D, 2, none⟩ (.slice (some ⟨gg, 0, none⟩) (d.soft.length + 1) cap)) D n (d.write i p)) := Lib.hid ⟨F, S, _, HD2.out.pushed (HT.out.kept HK2.out) hgrow hown3 hat hi HL.out⟩
  have HKF : Hid (Kept K0 w (w3.setCell ⟨D, 2, none⟩ (.slice (some ⟨gg, 0, none⟩) (d.soft.length + 1) cap))) := Lib.hid (HK2.out.trans (((((Kept.refl K0 w2).alloc (HT.out.kept HK2.out) _).drew.grown (fun k hk => Nat.lt_of_lt_of_le (HT.out.kept HK2.out k hk) (by show w2.heap.size ≤ (w2.alloc _).heap.size; simp)) hgrow (fun k hk => (HD2.out.kv k hk).1)).setCell HD2.out.kd _)))
  clear hown3 hgrow hat hlt hsz hvD hvb hD2 h2' hf2' hb2 hn5 hs5 h45
  go_wp2_with fail
  go_ret
  exact ⟨rfl, HF.out, HKF.out⟩
end Go.Proofs.YtaolkmlgdhnhaaaDoor
