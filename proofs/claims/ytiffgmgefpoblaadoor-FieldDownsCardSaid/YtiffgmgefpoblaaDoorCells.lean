/-
  A variable of several cells (a struct, an array) of the call's own, for any seat: loads, stores, results of the whole of it; what keeps it. Conditions: none beyond the premises of each theorem.
-/
import Derived.Test.YtiffgmgefpoblaaDoorFillRows
import Derived.Deep.MidRow
import Derived.Lib.LazyBuf
import Derived.Laws.ResultCell
namespace Go.Proofs.YtiffgmgefpoblaaDoor
open Go.RowKit

/-- the variable at block b holds these cells, none of them shut -/
structure COwn (w : World) (b : Nat) (cs : List Value) : Prop where
  at_ : w.rangeAt b 0 cs
  free : ∀ j, w.frozen? ⟨b, j, none⟩ = false
theorem COwn.cell {w : World} {b : Nat} {cs : List Value} (h : COwn w b cs) {j : Nat} {v : Value} (hj : cs[j]? = some v) : w.cell? ⟨b, j, none⟩ = some v := by
  have := h.at_ j v hj
  rwa [Nat.zero_add] at this
theorem COwn.part {w : World} {b : Nat} {cs : List Value} (h : COwn w b cs) (o : Nat) {ds : List Value} (hd : ∀ j v, ds[j]? = some v → cs[o + j]? = some v) : w.rangeAt b o ds := fun j v hv => h.cell (hd j v hv)
theorem COwn.new {w : World} (cs : List Value) (t : TypeId) : COwn (w.alloc (.cells cs.toArray t)) w.heap.size cs := by
  have hh : (w.alloc (.cells cs.toArray t)).heap[w.heap.size]? = some (.cells cs.toArray t (0, 0)) := heap_alloc_new w _
  refine ⟨fun j u hu => ?_, fun j => frozen_of_row _ _ j _ _ hh⟩
  rw [cell_of_row _ w.heap.size (0 + j) _ _ _ hh, Nat.zero_add]
  simpa using hu
theorem COwn.block {w w' : World} {b : Nat} {cs : List Value} (h : COwn w b cs) (hb : w'.heap[b]? = w.heap[b]?) : COwn w' b cs :=
  ⟨fun j v hv => (World.cell?_of_block (w := w) (a := ⟨b, 0 + j, none⟩) hb).trans (h.at_ j v hv), fun j => (World.frozen?_of_block (w := w) (a := ⟨b, j, none⟩) hb).trans (h.free j)⟩
theorem COwn.lt {w : World} {b : Nat} {cs : List Value} (h : COwn w b cs) (hl : 0 < cs.length) : b < w.heap.size := below_block (h.at_ 0 _ (List.getElem?_eq_getElem hl))
theorem COwn.below {w w' : World} {b B : Nat} {cs : List Value} (h : COwn w b cs) (hb : Below B w w') (hB : b < B) : COwn w' b cs := h.block (hb.block b hB)
theorem COwn.carry {w w' : World} {b : Nat} {cs : List Value} (h : COwn w b cs) (hb : Below w.heap.size w w') (hl : 0 < cs.length) : COwn w' b cs := h.below hb (h.lt hl)
theorem COwn.drewN {w : World} {b : Nat} {cs : List Value} (h : COwn w b cs) (n : Nat) : COwn (w.drewN n) b cs := ⟨h.at_, h.free⟩
theorem COwn.there {w : World} {b : Nat} {cs : List Value} (h : COwn w b cs) : w.there b 0 cs.length := fun j hj => ⟨by rw [h.at_ j _ (List.getElem?_eq_getElem hj)]; rfl, h.free _⟩
/-- all of it is laid anew -/
theorem COwn.lay {w : World} {b : Nat} {cs ds : List Value} (h : COwn w b cs) (hl : ds.length = cs.length) : COwn (w.setCells b 0 ds) b ds :=
  ⟨World.rangeAt_setCells_same w b 0 _ (by rw [hl]; exact h.there), fun j => by rw [World.frozen?_setCells]; exact h.free j⟩
theorem setCells_far9 (b : Nat) {k : Nat} (hk : k ≠ b) : ∀ (vs : List Value) (o : Nat) (w : World), (w.setCells b o vs).heap[k]? = w.heap[k]?
  | [], _, _ => rfl
  | v :: r, o, w => by rw [World.setCells, setCells_far9 b hk r (o + 1), Below.heap_setCell _ _ _ _ hk]
theorem COwn.other {w : World} {b c : Nat} {cs : List Value} (h : COwn w b cs) (hc : b ≠ c) (o : Nat) (vs : List Value) : COwn (w.setCells c o vs) b cs := h.block (setCells_far9 c hc vs o w)
/-- one cell is laid anew -/
theorem COwn.put {w : World} {b i : Nat} {cs : List Value} (h : COwn w b cs) (hi : i < cs.length) (v : Value) : COwn (w.setCell ⟨b, i, none⟩ v) b (cs.set i v) := by
  refine ⟨fun j u hu => ?_, fun j => by rw [World.frozen?_setCell]; exact h.free j⟩
  rw [Nat.zero_add]
  by_cases e : i = j
  · subst e
    rw [List.getElem?_set_self hi] at hu
    obtain rfl := Option.some.inj hu
    exact World.cell?_setCell_same _ _ _ (h.cell (List.getElem?_eq_getElem hi))
  · rw [List.getElem?_set_ne e] at hu
    rw [World.cell?_setCell_other _ _ _ _ (by intro hh; injection hh; omega)]
    exact h.cell hu
theorem COwn.far {w : World} {b c : Nat} {cs : List Value} (h : COwn w b cs) (hc : b ≠ c) (i : Nat) (v : Value) : COwn (w.setCell ⟨c, i, none⟩ v) b cs := h.block (Below.heap_setCell _ _ _ _ hc)
/-- a type of variables of k cells -/
structure RowTy (P : Program) (T : TypeId) (k : Nat) : Prop where
  und : ∃ d, P.underlying T = some d ∧ d.isRow = true
  size : (P.info? T).map (·.size) = some k

section
variable {P : Program} {T : TypeId} {k : Nat} (hT : RowTy P T k)
include hT
theorem wp_load_c {op : Oper} {a : Act} {w : World} {K : Act → World → Prop} {Q : Exit → Act → World → Prop} (x : Operand) (ho : op.op = .load T x) (b o : Nat) (hx : a.eval x = .pointer (some ⟨b, o, none⟩)) (cs : List Value) (hl : cs.length = k) (hc : w.rangeAt b o cs)
    (h : K (a.put op.dst (.agg cs.toArray)) w) : op.wp P a w K Q := by
  obtain ⟨d, hu, hd⟩ := hT.und
  exact wp_load_mid T x ho b o hx cs _ hc hu hd (by rw [hl]; exact hT.size) h
theorem wpList_load_c {ops : Array Oper} {rest : List Oper} {op : Oper} {a : Act} {w : World} {Q : Exit → Act → World → Prop} (hw : Region.wanted op (yielded ops a.tmps) = true) (x : Operand) (ho : op.op = .load T x)
    (b o : Nat) (hx : a.eval x = .pointer (some ⟨b, o, none⟩)) (cs : List Value) (hl : cs.length = k) (hc : w.rangeAt b o cs)
    (h : wpList P ops Q rest (a.put op.dst (.agg cs.toArray)) w) : wpList P ops Q (op :: rest) a w :=
  wpList_step fun _ hK => by
    rw [if_pos hw]
    exact wp_load_c hT x ho b o hx cs hl hc (hK _ _ h)
theorem yieldsIf_c {ops : Array Oper} {S : World → Prop} {op : Oper} {a : Act} (hw : Region.wanted op (yielded ops a.tmps) = true) (x : Operand) (ho : op.op = .load T x)
    (b o : Nat) (hx : a.eval x = .pointer (some ⟨b, o, none⟩)) (cs : List Value) (hl : cs.length = k) (hS : ∀ w, S w → w.rangeAt b o cs) : YieldsIf P ops S op (.agg cs.toArray) a := by
  obtain ⟨d, hu, hd⟩ := hT.und
  exact yieldsIf_load_mid hw _ x ho b o hx cs _ hS hu hd (by rw [hl]; exact hT.size)
/-- a store: the world behind it is a letter -/
theorem wp_store_c {op : Oper} {a : Act} {w : World} {K : Act → World → Prop} {Q : Exit → Act → World → Prop} (x y : Operand) (ho : op.op = .store T x y) (b : Nat) (cs ds : List Value) (hl : ds.length = k) (hcl : cs.length = k) (h1 : ∀ v ∈ ds, v.oneCell' = true)
    (hx : a.eval x = .pointer (some ⟨b, 0, none⟩)) (hy : a.eval y = .agg ds.toArray) (hb : COwn w b cs)
    (h : ∀ w2, Hid (w2 = w.setCells b 0 ds) → Hid (COwn w2 b ds) → K (a.put op.dst undef) w2) : op.wp P a w K Q :=
  wp_store_mid T x y ho b 0 ds.toArray hx hy (by have := hb.there; rw [hcl, ← hl] at this; simpa using this) (by simpa [hl] using hT.size) (all_oneCell_toArray h1) (h _ (Lib.hid rfl) (Lib.hid (hb.lay (by rw [hl, hcl]))))
theorem wpList_store_c {ops : Array Oper} {rest : List Oper} {op : Oper} {a : Act} {w : World} {Q : Exit → Act → World → Prop} (hgd : op.guard = none) (x y : Operand) (ho : op.op = .store T x y) (b : Nat) (cs ds : List Value) (hl : ds.length = k) (hcl : cs.length = k) (h1 : ∀ v ∈ ds, v.oneCell' = true)
    (hx : a.eval x = .pointer (some ⟨b, 0, none⟩)) (hy : a.eval y = .agg ds.toArray) (hb : COwn w b cs)
    (h : ∀ w2, Hid (w2 = w.setCells b 0 ds) → Hid (COwn w2 b ds) → wpList P ops Q rest (a.put op.dst undef) w2) : wpList P ops Q (op :: rest) a w :=
  wpList_plain hgd fun _ hK => wp_store_c hT x y ho b cs ds hl hcl h1 hx hy hb fun w2 h2 h3 => hK _ _ (h w2 h2 h3)
/-- results that lie in a variable -/
theorem results_c {fn : Func} {p : Tmp} (h : fn.results = #[.cell p T]) (tmps : Array Value) (w : World) (b : Nat) (cs : List Value)
    (hp : tmps.getD p undef = .pointer (some ⟨b, 0, none⟩)) (hc : w.rangeAt b 0 cs) (hl : cs.length = k) : (results fn tmps).run P w = .ok (.agg cs.toArray) w := by
  obtain ⟨d, hu, hd⟩ := hT.und
  have hp' : tmps[p]?.getD undef = .pointer (some ⟨b, 0, none⟩) := by simpa using hp
  simp [results, h, hp', asAddr, run_loadVar_mid w b 0 T cs d hc hu hd (by rw [hl]; exact hT.size)]
theorem results_c2 {fn : Func} {p q : Tmp} (h : fn.results = #[.cell p T, .tmp q]) (tmps : Array Value) (w : World) (b : Nat) (cs : List Value) (v : Value)
    (hp : tmps.getD p undef = .pointer (some ⟨b, 0, none⟩)) (hq : tmps.getD q undef = v) (hc : w.rangeAt b 0 cs) (hl : cs.length = k) : (results fn tmps).run P w = .ok (.tuple #[.agg cs.toArray, v]) w := by
  obtain ⟨d, hu, hd⟩ := hT.und
  have hp' : tmps[p]?.getD undef = .pointer (some ⟨b, 0, none⟩) := by simpa using hp
  rw [results_cell_tmp h, hp, hq]
  simp [asAddr, Result.andThen, run_loadVar_mid w b 0 T cs d hc hu hd (by rw [hl]; exact hT.size)]
end
/-- what a store to a variable of the call's own leaves as it was -/
theorem below_cells9 {B b : Nat} {w w2 w0 : World} {vs : List Value} {o : Nat} (h : Below B w0 w) (hw : w2 = w.setCells b o vs) (hb : B ≤ b) : Below B w0 w2 := by
  subst hw
  exact below_setCells hb vs o w h
end Go.Proofs.YtiffgmgefpoblaaDoor
