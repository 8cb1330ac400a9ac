/-
  The contract of joined's closure (layer 14): a cell is met, and waits if it is new. Conditions: none beyond the premises of each theorem.
-/
import Derived.Test.YtiffgmgefpoblaaDoorGridMap
namespace Go.Proofs.YtiffgmgefpoblaaDoor
open Go.RowKit Go.Maps

theorem ownsMap_block {w : World} {P : Program} {k : TypeId} {R : Value → Option (DataW Unit × List MemPlace)} {b n : Nat} {D : DataW Unit} (h : w.ownsMap P k R b n D) : ∃ es cl, w.heap[b]? = some (.map es cl) := by
  obtain ⟨es, cl, hb, _⟩ := h
  exact ⟨es, cl, hb⟩
theorem OwnsAt.cells_block {w : World} {base e size n : Nat} {v : Value} {xs : List Value} (h : OwnsAt w base e size v n xs) : ∀ g, v.ownBlock = some g → ∃ cur, w.heap[g]? = some (.cells cur e (0, 0)) := by
  intro g hg
  rcases h.2 with ⟨rfl, _⟩ | ⟨g', off, cap, cur, rfl, _, hgg, _⟩
  · simp [Value.ownBlock] at hg
  · simp [Value.ownBlock] at hg
    subst hg
    exact ⟨cur, hgg⟩
/-- the state while the cell c is looked at: bm, bw: the variables met and wait; mb: the map; b: counts are below it -/
structure JoinSt (w0 : World) (bm mb bw : Nat) (xs : List UInt8) (a f c b : Nat) (pre keys wait : List Nat) (D : DataW Unit) (v : Value) (w : World) : Prop where
  met : Boxed w bm 83 (.map (some mb))
  own : w.ownsMap Tryd.prog 3 (plainElem Tryd.prog 3) mb (b + pre.length) D
  km : KeysMap D keys ((b + pre.length : Nat) : Int)
  wt : Boxed w bw 24 v
  row : OwnsAt w w0.heap.size 3 1 v (c :: wait).length (numCells (c :: wait))
  mid : Grid.BfsMid xs a f c pre keys wait
  below : Below w0.heap.size w0 w
  lm : w0.heap.size ≤ bm
  lb : w0.heap.size ≤ mb
  lw : w0.heap.size ≤ bw
def JoinJ (w0 : World) (bm mb bw : Nat) (xs : List UInt8) (a f c b : Nat) (pre : List Nat) (w : World) : Prop := ∃ keys wait D v, JoinSt w0 bm mb bw xs a f c b pre keys wait D v w
/-- what waits is among what was met, and no two are alike -/
theorem JoinSt.grown {w0 : World} {bm mb bw : Nat} {xs : List UInt8} {a f c b : Nat} {pre keys wait : List Nat} {D : DataW Unit} {v : Value} {w w' : World} (h : JoinSt w0 bm mb bw xs a f c b pre keys wait D v w) (hg : w.grownBy w' none) : JoinSt w0 bm mb bw xs a f c b pre keys wait D v w' :=
  ⟨h.met.kept hg (by simp), h.own.kept hg (by simp), h.km, h.wt.kept hg (by simp), h.row.block (fun g hgg => hg.block g (h.row.lt g hgg).2 (by simp)), h.mid, h.below.grown hg h.below.size (fun _ e => by cases e), h.lm, h.lb, h.lw⟩
/-- behind the map's change -/
theorem JoinSt.mapped {w0 : World} {bm mb bw : Nat} {xs : List UInt8} {a f c b : Nat} {pre keys wait : List Nat} {D : DataW Unit} {v : Value} {w w1 : World} (h : JoinSt w0 bm mb bw xs a f c b pre keys wait D v w) (hg : w.grownBy w1 (some mb)) :
    Boxed w1 bm 83 (.map (some mb)) ∧ Boxed w1 bw 24 v ∧ OwnsAt w1 w0.heap.size 3 1 v (c :: wait).length (numCells (c :: wait)) ∧ Below w0.heap.size w0 w1 := by
  obtain ⟨es, cl, hmb⟩ := ownsMap_block h.own
  have h1 : some bm ≠ some mb := fun e => by
    injection e with e; subst e
    rw [show w.heap[bm]? = _ from h.met] at hmb; cases hmb
  have h2 : some bw ≠ some mb := fun e => by
    injection e with e; subst e
    rw [show w.heap[bw]? = _ from h.wt] at hmb; cases hmb
  refine ⟨h.met.kept hg h1, h.wt.kept hg h2, h.row.block fun g hgg => ?_, h.below.grown hg h.below.size (fun j e => by cases e; exact h.lb)⟩
  refine hg.block g (h.row.lt g hgg).2 fun e => ?_
  injection e with e; subst e
  obtain ⟨cur, hc⟩ := h.row.cells_block _ hgg
  rw [hc] at hmb; cases hmb
theorem JoinSt.push_old {w0 : World} {bm mb bw : Nat} {xs : List UInt8} {a f c b : Nat} {pre keys wait : List Nat} {D D' : DataW Unit} {v : Value} {w w1 : World} {n : Nat} (h : JoinSt w0 bm mb bw xs a f c b pre keys wait D v w)
    (hg : w.grownBy w1 (some mb)) (ho : w1.ownsMap Tryd.prog 3 (plainElem Tryd.prog 3) mb (b + pre.length + 1) D') (hk : KeysMap D' keys ((b + pre.length : Nat) + 1 : Int)) (hn : n ∈ keys) : JoinSt w0 bm mb bw xs a f c b (pre ++ [n]) keys wait D' v w1 := by
  obtain ⟨es, cl, hmb⟩ := ownsMap_block h.own
  have h1 : some bm ≠ some mb := fun e => by
    injection e with e; subst e
    rw [show w.heap[bm]? = _ from h.met] at hmb; cases hmb
  have h2 : some bw ≠ some mb := fun e => by
    injection e with e; subst e
    rw [show w.heap[bw]? = _ from h.wt] at hmb; cases hmb
  refine ⟨h.met.kept hg h1, ?_, ?_, h.wt.kept hg h2, h.row.block (fun g hgg => ?_), h.mid.old hn, h.below.grown hg h.below.size (fun j e => by cases e; exact h.lb), h.lm, h.lb, h.lw⟩
  · rw [List.length_append, List.length_singleton, ← Nat.add_assoc]; exact ho
  · rw [List.length_append, List.length_singleton, ← Nat.add_assoc]; exact hk
  · refine hg.block g (h.row.lt g hgg).2 fun e => ?_
    injection e with e; subst e
    obtain ⟨cur, hc⟩ := h.row.cells_block _ hgg
    rw [hc] at hmb; cases hmb
/-- behind the map's change, a row made beside, the append and the store -/
theorem JoinSt.push_new {w0 : World} {bm mb bw : Nat} {xs : List UInt8} {a f c b : Nat} {pre keys wait : List Nat} {D D' : DataW Unit} {v v' : Value} {w w1 w3 : World} {n : Nat} {o : Obj} (h : JoinSt w0 bm mb bw xs a f c b pre keys wait D v w) (hne : bm ≠ bw)
    (hg : w.grownBy w1 (some mb)) (ho : w1.ownsMap Tryd.prog 3 (plainElem Tryd.prog 3) mb (b + pre.length + 1) D') (hk : KeysMap D' (keys ++ [n]) ((b + pre.length : Nat) + 1 : Int)) (hn : n ∉ keys) (hop : Grid.openAt xs n = true) (hbs : Grid.beside a c n = true)
    (hgr : (w1.alloc o).grownBy w3 v.ownBlock) (hrow : OwnsAt w3 w0.heap.size 3 1 v' ((c :: wait).length + 1) (numCells (c :: wait) ++ [.int .i64 (n : Int)])) (hnew : ∀ g, v'.ownBlock = some g → v.ownBlock = some g ∨ (w1.alloc o).heap.size ≤ g) :
    JoinSt w0 bm mb bw xs a f c b (pre ++ [n]) (keys ++ [n]) (wait ++ [n]) D' v' (w3.setCell ⟨bw, 0, none⟩ v') := by
  obtain ⟨es, cl, hmb⟩ := ownsMap_block h.own
  have hmb1 := (ownsMap_block ho)
  have h1 : some bm ≠ some mb := fun e => by
    injection e with e; subst e
    rw [show w.heap[bm]? = _ from h.met] at hmb; cases hmb
  have h2 : some bw ≠ some mb := fun e => by
    injection e with e; subst e
    rw [show w.heap[bw]? = _ from h.wt] at hmb; cases hmb
  have rowb : ∀ g, v.ownBlock = some g → w1.heap[g]? = w.heap[g]? := fun g hgg => by
    refine hg.block g (h.row.lt g hgg).2 fun e => ?_
    injection e with e; subst e
    obtain ⟨cur, hc⟩ := h.row.cells_block _ hgg
    rw [hc] at hmb; cases hmb
  have notrow : ∀ {B : Nat} {t : TypeId} {u : Value}, t ≠ 3 → Boxed w B t u → some B ≠ v.ownBlock := fun {B t u} ht hb e => by
    obtain ⟨cur, hc⟩ := h.row.cells_block _ e.symm
    rw [show w.heap[B]? = _ from hb] at hc
    injection hc with hc
    injection hc with _ e2
    exact ht e2
  have m1 := (h.met.kept hg h1).alloc o
  have b1 := (h.wt.kept hg h2).alloc o
  have m3 := m1.kept hgr (notrow (by decide) h.met)
  have b3 := b1.kept hgr (notrow (by decide) h.wt)
  have o3 : w3.ownsMap Tryd.prog 3 (plainElem Tryd.prog 3) mb (b + pre.length + 1) D' := (ho.alloc o).kept hgr (fun e => by
    obtain ⟨cur, hc⟩ := h.row.cells_block _ e.symm
    rw [hc] at hmb; cases hmb)
  have hlt1 : w1.heap.size < (w1.alloc o).heap.size := by simp
  have hnb : ∀ g, v'.ownBlock = some g → g ≠ bw := fun g hgg e => by
    subst e
    rcases hnew _ hgg with e' | e'
    · exact notrow (by decide) h.wt e'.symm
    · have := (h.wt.kept hg h2).lt
      omega
  have hset := grownBy_setCell' w3 bw v'
  refine ⟨m3.kept hset (by simpa using hne), ?_, ?_, b3.set v', ?_, h.mid.new hn hop hbs, ?_, h.lm, h.lb, h.lw⟩
  · rw [List.length_append, List.length_singleton, ← Nat.add_assoc]
    exact o3.kept hset (fun e => h2 e.symm)
  · rw [List.length_append, List.length_singleton, ← Nat.add_assoc]; exact hk
  · have := hrow.block (w' := w3.setCell ⟨bw, 0, none⟩ v') (fun g hgg => Below.heap_setCell _ _ _ _ (hnb g hgg))
    unfold numCells at this ⊢
    simpa using this
  · have hb1 := (h.below.grown hg h.below.size (fun j e => by cases e; exact h.lb)).alloc (h.below.grown hg h.below.size (fun j e => by cases e; exact h.lb)).size o
    exact (hb1.grown hgr hb1.size (fun j e => (h.row.lt j e).1)).setCell (p := ⟨bw, 0, none⟩) h.lw v'
theorem Keeps.map {lo mb : Nat} {w w1 : World} {es : Array MapEntry} {cl : Nat} (hmb : w.heap[mb]? = some (.map es cl)) (hg : w.grownBy w1 (some mb)) : Keeps lo w w1 := by
  refine ⟨hg.size, fun b c t x _ _ h => (hg.block b (Array.getElem?_eq_some_iff.1 h).1 fun e => ?_).trans h⟩
  injection e with e; subst e
  rw [h] at hmb; cases hmb
theorem Keeps.push {bw : Nat} {w1 w3 : World} {v v' : Value} {o : Obj} (hrow : ∀ g, v.ownBlock = some g → ∃ cur, w1.heap[g]? = some (.cells cur 3 (0, 0))) (hgr : (w1.alloc o).grownBy w3 v.ownBlock) : Keeps bw w1 (w3.setCell ⟨bw, 0, none⟩ v') := by
  refine ⟨?_, fun b c t x hb ht h => ?_⟩
  · refine Nat.le_trans ?_ (grownBy_setCell' w3 bw v').size
    have := hgr.size
    simp at this
    omega
  · have h1 : (w1.alloc o).heap[b]? = some (.cells c t x) := (Below.heap_alloc _ _ _ (Array.getElem?_eq_some_iff.1 h).1).trans h
    have h2 : w3.heap[b]? = some (.cells c t x) := by
      refine (hgr.block b (Array.getElem?_eq_some_iff.1 h1).1 fun e => ?_).trans h1
      obtain ⟨cur, hc⟩ := hrow _ e.symm
      rw [h] at hc
      injection hc with hc
      injection hc with _ e2
      exact ht e2
    exact (Below.heap_setCell _ _ _ _ (by show b ≠ bw; exact hb)).trans h2
set_option maxRecDepth 100000 in
set_option maxHeartbeats 1000000 in
theorem joinTell_any {w0 : World} {bm mb bw : Nat} {xs : List UInt8} {a f c b : Nat} {pre keys wait : List Nat} {D : DataW Unit} {v : Value} (n : Nat) (hne : bm ≠ bw) (w : World) (h : JoinSt w0 bm mb bw xs a f c b pre keys wait D v w)
    (hl : xs.length ≤ 64) (hb : b ≤ 1000) (hp : pre.length < 4) (hn : n ∈ Grid.nears xs a c) (hwl : wait.length ≤ 64) :
    Calls Tryd.prog 50 #[.int .i64 (n : Int), .pointer (some ⟨bm, 0, none⟩), .pointer (some ⟨bw, 0, none⟩)] w fun e w' =>
      e = .returned (.tuple #[]) ∧ (∃ keys' wait' D' v', JoinSt w0 bm mb bw xs a f c b (pre ++ [n]) keys' wait' D' v' w' ∧ keys'.length + wait.length = keys.length + wait'.length) ∧ Keeps bw w w' := by
  obtain ⟨hop, hbs⟩ := Grid.mem_nears.1 hn
  have hn64 : n < 64 := Nat.lt_of_lt_of_le (Grid.openAt_lt hop) hl
  obtain ⟨ii, hi0, hi1, hi2, hi3⟩ := info_parts Tryd.infoNum
  have HS := Lib.hid h
  have hz0 := Tryd.zeroInt
  have hkey : keyOf Tryd.prog 3 (.int .i64 (n : Int)) = some (.int .i64 (n : Int)) := keyOf_int_mk Tryd.underlying3 (WalkArith.wf_i64 (by omega))
  have HK := Lib.hid hkey
  have HNE := Lib.hid hne
  have c0 := h.met.cell
  clear h hkey hn hne
  go_enter Tryd.func50, Tryd.ntmps50
  go_wp2_with (with_reducible refine stop_at (o := ⟨some 6, _, _, _, _, _⟩) ?_)
  refine wpList_lookup_g _ (by rfl) _ _ 83 rfl 3 3 .i64 Tryd.keyInt Tryd.underlying83 Tryd.underlying3 (hz0 _) mb _ D rfl HS.out.own _ _ rfl HK.out ?_
  intro x hat hwx
  obtain ⟨x0, x1, x2⟩ := HS.out.km.at_ n x hat
  have hx4 : x ≤ 1004 := by omega
  have HAT := Lib.hid hat
  have HX2 := Lib.hid x2
  have hwr : wrap64 (x + 1) = x + 1 := by unfold wrap64; omega
  clear hat hwx x1 x2
  go_wp2_with (with_reducible refine stop_at (o := ⟨none, _, _, _, _, _⟩) ?_)
  unfold Stopped
  try rw [hwr]
  refine wpList_mapUpdate_own _ rfl _ _ _ 83 rfl 3 3 Tryd.keyInt Tryd.underlying83 _ mb _ D rfl HS.out.own (by unfold maxLen; omega) _ (.int .i64 (x + 1)) _ rfl rfl HK.out (.lit (.int .i64 (x + 1))) [] (plainElem_int Tryd.underlying3 (WalkArith.wf_i64 (by omega))) ?_
  intro w1 hown1 hgrow1
  have hkm := HS.out.km.put (HS.out.own.tidy Tryd.keyInt) n x HAT.out
  have hat2 : (D.put (.int .i64 (n : Int)) (.lit (.int .i64 (x + 1)))).atKey (.int .i64 (n : Int)) (.lit (.int .i64 0)) = .lit (.int .i64 (x + 1)) := atKey_put_same (k := .int .i64 (n : Int)) HS.out.km.map trivial _ _
  obtain ⟨es, cl, hmb⟩ := ownsMap_block HS.out.own
  have hkp1 : Keeps bw w w1 := Keeps.map hmb hgrow1
  by_cases hz : n ∈ keys
  · rw [if_pos hz] at hkm
    have hx1 : x ≠ 0 := fun e => HX2.out.1 e hz
    have hst := HS.out.push_old hgrow1 hown1 hkm hz
    have HST := Lib.hid hst
    have HAT2 := Lib.hid hat2
    have HKP := Lib.hid hkp1
    have c0 := hst.met.cell
    clear hkm hown1 hgrow1 hat2 hmb hkp1 hst hz
    go_wp2_with (with_reducible refine stop_at (o := ⟨some 10, _, _, _, _, _⟩) ?_)
    refine wpList_lookup_g _ (by rfl) _ _ 83 rfl 3 3 .i64 Tryd.keyInt Tryd.underlying83 Tryd.underlying3 (hz0 _) mb _ _ rfl HST.out.own _ _ rfl HK.out ?_
    intro y hat3 _
    obtain rfl : x + 1 = y := lit_int9 (HAT2.out.symm.trans hat3)
    clear hat3
    have hne1 : ¬ x = 0 := hx1
    go_wp2_with fail
    go_end0
    exact ⟨rfl, ⟨_, _, _, _, HST.out, rfl⟩, HKP.out⟩
  · rw [if_neg hz] at hkm
    obtain rfl : x = 0 := HX2.out.2 hz
    obtain ⟨m1, b1, r1, l1⟩ := HS.out.mapped hgrow1
    have c0 := m1.cell
    have c1 := b1.cell
    have HAT2 := Lib.hid hat2
    have HKM := Lib.hid hkm
    have HO1 := Lib.hid hown1
    have HG1 := Lib.hid hgrow1
    have HKP := Lib.hid hkp1
    have HR1 := Lib.hid r1
    have HB1 := Lib.hid b1
    have HL1 := Lib.hid l1
    have HNZ := Lib.hid hz
    clear hkm hown1 hgrow1 hat2 hmb hkp1 m1 b1 r1 l1 hz
    go_wp2_with (with_reducible refine stop_at (o := ⟨some 10, _, _, _, _, _⟩) ?_)
    refine wpList_lookup_g _ (by rfl) _ _ 83 rfl 3 3 .i64 Tryd.keyInt Tryd.underlying83 Tryd.underlying3 (hz0 _) mb _ _ rfl HO1.out _ _ rfl HK.out ?_
    intro y hat3 _
    obtain rfl : (0 : Int) + 1 = y := lit_int9 (HAT2.out.symm.trans hat3)
    clear hat3
    go_wp2_with (with_reducible refine stop_at (o := ⟨some 15, _, _, _, _, _⟩) ?_)
    have hnw : ∀ (j : Nat) u, ([.int .i64 (n : Int)] : List Value)[j]? = some u → (w1.alloc (.cells #[.int .i64 (n : Int)] 3)).cell? ((⟨w1.heap.size, 0, none⟩ : Addr).add j) = some u := World.news_of_block (cs := #[.int .i64 (n : Int)]) (heap_alloc_last w1 _)
    have rb : OwnsAt (w1.alloc (.cells #[.int .i64 (n : Int)] 3)) w0.heap.size 3 1 v (c :: wait).length (numCells (c :: wait)) := HR1.out.block fun g hgg => Below.heap_alloc _ _ _ (HR1.out.lt g hgg).2
    refine wpList_append_at _ rfl _ _ 24 rfl w0.heap.size 3 ii _ 1 8 Tryd.underlying24 hi0 hi1 hi2 hi3 rfl (by decide) v (c :: wait).length (numCells (c :: wait)) rfl rb ⟨w1.heap.size, 0, none⟩ 1 1 [.int .i64 (n : Int)] rfl rfl hnw (fun u hu => by rw [List.mem_singleton.1 hu]; rfl) (by simp; unfold maxLen; omega) (by simp; omega) (by have := HL1.out.size; simp; omega) ?_
    intro v3 w3 hrow3 hgrow3 hnew3
    obtain ⟨g3, o3, cap3, rfl, _, _⟩ := hrow3.slice (by simp)
    have hst := HS.out.push_new HNE.out HG1.out HO1.out HKM.out HNZ.out hop hbs hgrow3 hrow3 hnew3
    have hkp2 : Keeps bw w1 (w3.setCell ⟨bw, 0, none⟩ (.slice (some ⟨g3, o3, none⟩) ((c :: wait).length + 1) cap3)) := Keeps.push (fun g hgg => HR1.out.cells_block g hgg) hgrow3
    have HST := Lib.hid hst
    have HKP2 := Lib.hid (HKP.out.trans hkp2)
    have hb3 : Boxed w3 bw 24 v := (HB1.out.alloc _).kept hgrow3 (fun e => by
      obtain ⟨cur, hc⟩ := rb.cells_block _ e.symm
      rw [show (w1.alloc (.cells #[.int .i64 (n : Int)] 3)).heap[bw]? = _ from HB1.out.alloc _] at hc
      injection hc with hc
      injection hc with _ e2
      exact absurd e2 (by decide))
    have c3 := hb3.cell
    have f3 := hb3.frozen
    clear hst hkp2 hrow3 hgrow3 hnew3 rb hnw hb3 c0 c1
    go_wp2_with fail
    go_end0
    exact ⟨rfl, ⟨_, _, _, _, HST.out, by simp; omega⟩, HKP2.out⟩
end Go.Proofs.YtiffgmgefpoblaaDoor
