/-
  The contract of disk.Read. Conditions: none beyond the premises of each theorem.
-/
import Derived.Test.YtaolkmlgdhnhaaaDoorDiskErr
import Derived.Deep.WholeRow
import Derived.Laws.CopyRow
import Derived.Laws.Tables
namespace Go.Proofs.YtaolkmlgdhnhaaaDoor
open Go.RowKit

theorem Tryd.infoPage : (Tryd.prog.info? 55).map (fun i => (i.zero, i.size)) = some (some (pgV zeroPg), 128) := by kernel_rfl
theorem Tryd.pageSize : (Tryd.prog.info? 55).map (·.size) = some 128 := by kernel_rfl
theorem Tryd.zeroPage (w : World) : (zeroValue 55).run Tryd.prog w = .ok (pgV zeroPg) w := (zero_of_info Tryd.infoPage).1 w

/-- the walk stands still here -/
def Stopped (p : Prop) : Prop := p
theorem stop_at {P : Program} {ops : Array Oper} {rest : List Oper} {o : Oper} {a : Act} {w : World} {Q : Exit → Act → World → Prop} (h : Stopped (wpList P ops Q (o :: rest) a w)) : wpList P ops Q (o :: rest) a w := h
/-- a store of a whole row into the block that was made last -/
theorem wpList_store_last {P : Program} {ops : Array Oper} {rest : List Oper} {o : Oper} {a : Act} {w : World} {Q : Exit → Act → World → Prop} (hgd : o.guard = none) (t : TypeId) (x y : Operand) (ho : o.op = .store t x y)
    (c c' : Array Value) (t' : TypeId) (ht : t' = t) (hx : a.eval x = .pointer (some ⟨w.heap.size, 0, none⟩)) (hy : a.eval y = .agg c') (hi : (P.info? t).map (·.size) = some c'.size) (hs : c.size = c'.size) (h1 : c'.all (·.oneCell') = true)
    (h : wpList P ops Q rest (a.put o.dst undef) (w.alloc (.cells c' t'))) : wpList P ops Q (o :: rest) a (w.alloc (.cells c t')) := by
  subst ht
  refine wpList_plain hgd fun K hK => ?_
  unfold Oper.wp execOp
  simp only [ho, hx, hy, Instr.storeAt, Instr.sureAddr, Sem.run_bind, Sem.run_pure, Result.andThen_ok, run_storeVar_new w t' c c' hi hs h1]
  exact hK _ _ h
/-- a store of what stands there already -/
theorem wpList_store_same {P : Program} {ops : Array Oper} {rest : List Oper} {o : Oper} {a : Act} {w : World} {Q : Exit → Act → World → Prop} (hgd : o.guard = none) (t : TypeId) (x y : Operand) (ho : o.op = .store t x y)
    (g : Nat) (c : Array Value) (hg : w.heap[g]? = some (.cells c t (0, 0))) (hx : a.eval x = .pointer (some ⟨g, 0, none⟩)) (hy : a.eval y = .agg c) (hi : (P.info? t).map (·.size) = some c.size) (h1 : c.all (·.oneCell') = true)
    (h : wpList P ops Q rest (a.put o.dst undef) w) : wpList P ops Q (o :: rest) a w := by
  refine wpList_plain hgd fun K hK => ?_
  unfold Oper.wp execOp
  simp only [ho, hx, hy, Instr.storeAt, Instr.sureAddr, Sem.run_bind, Sem.run_pure, Result.andThen_ok, run_storeVar_row w g t t c c hg hi rfl h1, setRow_self w g c t (0, 0) hg]
  exact hK _ _ h
/-- a literal without parts -/
theorem wpList_build_none {P : Program} {ops : Array Oper} {rest : List Oper} {o : Oper} {a : Act} {w : World} {Q : Exit → Act → World → Prop} (hgd : o.guard = none) (t : TypeId) (ho : o.op = .build t #[]) (c : Array Value) (hb : P.built t [] = some c)
    (h : wpList P ops Q rest (a.put o.dst (.agg c)) w) : wpList P ops Q (o :: rest) a w :=
  wpList_plain hgd fun _ hK => wp_build t #[] ho (by simp [hb]) (hK _ _ (by simpa [hb] using h))
/-- a load of a sector -/
theorem wpList_load_page {P : Program} {ops : Array Oper} {rest : List Oper} {op : Oper} {a : Act} {w : World} {Q : Exit → Act → World → Prop} (hgd : op.guard = none) (ty : TypeId) (x : Operand) (ho : op.op = .load ty x)
    (b o : Nat) (hx : a.eval x = .pointer (some ⟨b, o, none⟩)) (p : Pg) (hl : p.length = 128) (hc : w.rangeAt b o (pgCells p)) (d : TypeDesc)
    (hu : P.underlying ty = some d) (hd : d.isRow = true) (hi : (P.info? ty).map (·.size) = some 128)
    (h : wpList P ops Q rest (a.put op.dst (pgV p)) w) : wpList P ops Q (op :: rest) a w :=
  wpList_load_mid hgd ty x ho b o hx (pgCells p) d hc hu hd (by rw [pgCells_length, hl]; exact hi) h
theorem loadVar_new_page (w : World) (p : Pg) (hl : p.length = 128) : (loadVar 55 ⟨w.heap.size, 0, none⟩).run Tryd.prog (w.alloc (.cells (pgArr p) 55)) = .ok (pgV p) (w.alloc (.cells (pgArr p) 55)) :=
  run_loadVar_new w _ _ 128 5 Tryd.underlying55 (by rw [pgArr_size, hl]; exact Tryd.pageSize)

set_option maxRecDepth 100000 in
theorem Read_yes {D S n i : Nat} {F : Addr} {p : Pg} {w : World} (hi : i < n) (h0 : w.cell? ⟨D, 0, none⟩ = some (.slice (some F) n n)) (h1 : w.cell? ⟨D, 1, none⟩ = some (.slice (some ⟨S, 0, none⟩) n n)) (h3 : w.cell? ⟨D, 3, none⟩ = some (.bool false))
    (hp : w.rangeAt S (i * 128) (pgCells p)) (hl : p.length = 128) :
    Calls Tryd.prog 24 #[.pointer (some ⟨D, 0, none⟩), .int .i64 i] w fun e w' => e = .returned (.tuple #[pgV p, .nilIface]) ∧ Below w.heap.size w w' := by
  have hz := Tryd.zeroPage
  have hD : D < w.heap.size := lt_of_cell h0
  have hc := World.rangeAt_alloc hp (.cells (pgArr zeroPg) 55)
  have HC := Lib.hid hc
  have HL := Lib.hid hl
  clear hp hc hl
  go_enter Tryd.func24, Tryd.ntmps24
  go_wp2_with fail
  refine (refuse_yes D n i F _ hi ?_ ?_).mono ?_
  · rw [World.cell?_alloc_lt _ _ _ hD]; exact h0
  · rw [World.cell?_alloc_lt _ _ _ hD]; exact h3
  rintro e w' ⟨rfl, rfl⟩
  go_wp2_with (with_reducible refine stop_at (o := ⟨some 20, _, _, _, _, _⟩) ?_)
  refine wpList_load_page rfl _ _ rfl S (i * 128) rfl p HL.out HC.out _ Tryd.underlying55 rfl Tryd.pageSize ?_
  refine wpList_store_last rfl _ _ _ rfl (pgArr zeroPg) (pgArr p) _ rfl rfl rfl (by rw [pgArr_size, HL.out]; exact Tryd.pageSize) (by rw [pgArr_size, pgArr_size, HL.out, zeroPg_length]) (pgArr_all p) ?_
  go_wp2_with fail
  refine bodyPost_ret (v := .tuple #[pgV p, .nilIface]) ?_ rfl ⟨rfl, (Below.refl _ _).alloc (Nat.le_refl _) _⟩
  rw [results_cell_tmp rfl]
  simp [asAddr, Result.andThen, loadVar_new_page w p HL.out]

/-- what Read answers -/
def ReadPost (c : Int) (p : Pg) (w : World) (e : Ending) (w' : World) : Prop := ∃ v, e = .returned (.tuple #[pgV p, v]) ∧ ErrAt w' w.heap.size c v ∧ Below w.heap.size w w'
theorem built_zero : Tryd.prog.built 55 [] = some (pgArr zeroPg) := by kernel_rfl
set_option maxRecDepth 100000 in
theorem Read_no {D n : Nat} {i : Int} {b : Bool} {F : Addr} {w : World} {c : Int} (hc : codeZ b n i = c) (h0c : c ≠ 0) (h0 : w.cell? ⟨D, 0, none⟩ = some (.slice (some F) n n)) (h3 : w.cell? ⟨D, 3, none⟩ = some (.bool b)) :
    Calls Tryd.prog 24 #[.pointer (some ⟨D, 0, none⟩), .int .i64 i] w (ReadPost c zeroPg w) := by
  have hz := Tryd.zeroPage
  have hD : D < w.heap.size := lt_of_cell h0
  have HCC := Lib.hid hc
  have H0C := Lib.hid h0c
  clear hc h0c
  go_enter Tryd.func24, Tryd.ntmps24
  go_wp2_with fail
  refine (refuse_any D n i b F _ ?_ ?_).mono ?_
  · rw [World.cell?_alloc_lt _ _ _ hD]; exact h0
  · rw [World.cell?_alloc_lt _ _ _ hD]; exact h3
  rw [HCC.out]
  rintro e w' ⟨v, rfl, h1, h4⟩
  have H1 := Lib.hid h1
  have H4 := Lib.hid h4
  obtain ⟨t, x, rfl⟩ := H1.out.some H0C.out
  clear h1 h4
  have hh : w'.heap[w.heap.size]? = some (.cells (pgArr zeroPg) 55 (0, 0)) := by
    rw [H4.out.block w.heap.size (by simp)]
    exact heap_alloc_last w _
  have HH := Lib.hid hh
  clear hh
  go_wp2_with (with_reducible refine stop_at (o := ⟨some 12, _, _, _, _, _⟩) ?_)
  refine wpList_build_none rfl _ rfl _ built_zero ?_
  go_wp2_with (with_reducible refine stop_at (o := ⟨none, _, _, _, _, _⟩) ?_)
  refine wpList_store_same rfl _ _ _ rfl w.heap.size (pgArr zeroPg) HH.out rfl rfl (by rw [pgArr_size, zeroPg_length]; exact Tryd.pageSize) (pgArr_all _) ?_
  go_wp2_with fail
  refine bodyPost_ret (v := .tuple #[pgV zeroPg, .iface t x]) ?_ rfl ⟨_, rfl, H1.out.mono (by simp), ((Below.refl _ _).alloc (Nat.le_refl _) _).trans (H4.out.mono (by simp))⟩
  rw [results_cell_tmp rfl]
  simp [asAddr, Result.andThen, run_loadVar_row w' w.heap.size 55 55 (pgArr zeroPg) (0, 0) _ HH.out Tryd.underlying55 rfl (by rw [pgArr_size, zeroPg_length]; exact Tryd.pageSize)]
set_option maxRecDepth 100000 in
theorem Read_nil (i : Int) (w : World) : Calls Tryd.prog 24 #[.pointer none, .int .i64 i] w (ReadPost 1 zeroPg w) := by
  have hz := Tryd.zeroPage
  go_enter Tryd.func24, Tryd.ntmps24
  go_wp2_with fail
  refine (refuse_nil i _).mono ?_
  rintro e w' ⟨v, rfl, h1, h4⟩
  have H1 := Lib.hid h1
  have H4 := Lib.hid h4
  obtain ⟨t, x, rfl⟩ := H1.out.some (by decide)
  clear h1 h4
  have hh : w'.heap[w.heap.size]? = some (.cells (pgArr zeroPg) 55 (0, 0)) := by
    rw [H4.out.block w.heap.size (by simp)]
    exact heap_alloc_last w _
  have HH := Lib.hid hh
  clear hh
  go_wp2_with (with_reducible refine stop_at (o := ⟨some 12, _, _, _, _, _⟩) ?_)
  refine wpList_build_none rfl _ rfl _ built_zero ?_
  go_wp2_with (with_reducible refine stop_at (o := ⟨none, _, _, _, _, _⟩) ?_)
  refine wpList_store_same rfl _ _ _ rfl w.heap.size (pgArr zeroPg) HH.out rfl rfl (by rw [pgArr_size, zeroPg_length]; exact Tryd.pageSize) (pgArr_all _) ?_
  go_wp2_with fail
  refine bodyPost_ret (v := .tuple #[pgV zeroPg, .iface t x]) ?_ rfl ⟨_, rfl, H1.out.mono (by simp), ((Below.refl _ _).alloc (Nat.le_refl _) _).trans (H4.out.mono (by simp))⟩
  rw [results_cell_tmp rfl]
  simp [asAddr, Result.andThen, run_loadVar_row w' w.heap.size 55 55 (pgArr zeroPg) (0, 0) _ HH.out Tryd.underlying55 rfl (by rw [pgArr_size, zeroPg_length]; exact Tryd.pageSize)]
theorem Read_any {K : Nat → Prop} {D n : Nat} {d : Dk} {w : World} (h : DiskAt K w D n d) (i : Int) :
    Calls Tryd.prog 24 #[.pointer (some ⟨D, 0, none⟩), .int .i64 i] w (ReadPost (codeZ d.down n i) (if codeZ d.down n i = 0 then pgAt d.seen i.toNat else zeroPg) w) := by
  obtain ⟨F, S, v, h⟩ := h
  by_cases hz : codeZ d.down n i = 0
  · rw [if_pos hz]
    obtain ⟨hd, k, rfl, hk⟩ := codeZ_zero hz
    have hp := h.seen.at_ (i := k) (by rw [h.ok.seen]; exact hk)
    have h3 := h.c3
    rw [hd] at h3
    rw [hz]
    exact (Read_yes hk h.c0 h.c1 h3 hp.2 hp.1).mono fun e w' ⟨he, hb⟩ => ⟨_, he, ErrAt.nil _ _, hb⟩
  · rw [if_neg hz]
    exact Read_no rfl hz h.c0 h.c3
end Go.Proofs.YtaolkmlgdhnhaaaDoor
