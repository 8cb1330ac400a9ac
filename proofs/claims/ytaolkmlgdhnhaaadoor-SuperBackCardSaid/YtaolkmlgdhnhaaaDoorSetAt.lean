/-
  A set of numbers from 0 to 239 in memory: 30 bytes, as a value and as a row. Conditions: none beyond the premises of each theorem.
-/
import Derived.Test.YtaolkmlgdhnhaaaDoorSetBit
import Derived.Lib.Hide
import Derived.Deep.MidRow
import Derived.Deep.WholeRow
import Derived.Deep.AppendLies
import Derived.OwnWalk
import Derived.Laws.Tables
import Derived.Lib.LazyBuf
namespace Go.Proofs.YtaolkmlgdhnhaaaDoor
open Go.RowKit
open Bits (Ok has at_)

/-- a set's bytes as cells -/
def stCells (s : List Nat) : List Value := s.map fun n : Nat => .int .u8 (n : Int)
def stArr (s : List Nat) : Array Value := (stCells s).toArray
abbrev stV (s : List Nat) : Value := .agg (stArr s)
theorem stCells_length (s : List Nat) : (stCells s).length = s.length := by simp [stCells]
theorem stArr_size (s : List Nat) : (stArr s).size = s.length := by simp [stArr, stCells]
theorem stCells_at {s : List Nat} {i : Nat} (h : i < s.length) : (stCells s)[i]? = some (.int .u8 (at_ s i : Int)) := by
  rw [← Bits.at_eq h]
  simp [stCells, h]
theorem stCells_one (s : List Nat) : ∀ v ∈ stCells s, v.oneCell' = true := by
  intro v hv
  obtain ⟨n, _, rfl⟩ := List.mem_map.1 hv
  rfl
theorem stArr_all (s : List Nat) : (stArr s).all (·.oneCell') = true := all_oneCell_toArray (stCells_one s)
/-- the empty set -/
def zeroSt : List Nat := List.replicate 30 0
theorem zeroSt_length : zeroSt.length = 30 := by simp [zeroSt]
theorem Tryd.setSize : (Tryd.prog.info? 31).map (·.size) = some 30 := by kernel_rfl
theorem Tryd.infoSet : (Tryd.prog.info? 31).map (fun i => (i.zero, i.size)) = some (some (stV (zeroSt)), 30) := by kernel_rfl
theorem Tryd.zeroSet (w : World) : (zeroValue 31).run Tryd.prog w = .ok (stV (zeroSt)) w := (zero_of_info Tryd.infoSet).1 w
theorem set_at {w : World} {b i : Nat} {s : List Nat} (h : w.rangeAt b 0 (stCells s)) (hi : i < s.length) : w.cell? ⟨b, i, none⟩ = some (.int .u8 (Bits.at_ s i : Int)) := by
  have := h i _ (stCells_at hi)
  rwa [Nat.zero_add] at this
theorem range_carry {w w' : World} {b o : Nat} {cs : List Value} (h : w.rangeAt b o cs) (hb : Below w.heap.size w w') : w'.rangeAt b o cs := fun j v hv => (hb.cell (p := ⟨b, o + j, none⟩) (below_block (h j v hv))).trans (h j v hv)
theorem below_cells_of {B b : Nat} {w w2 w0 : World} {vs : List Value} {o : Nat} (h : Below B w0 w) (hw : w2 = w.setCells b o vs) (hb : B ≤ b) : Below B w0 w2 := by
  subst hw
  exact below_setCells hb vs o w h
theorem set_below_drewN {B : Nat} {a w : World} (h : Below B a w) (n : Nat) : Below B a (w.drewN n) := ⟨h.os, h.tape, h.output, h.size, h.block⟩
theorem size_alloc_one (w : World) (o : Obj) : (w.alloc o).heap.size = w.heap.size + 1 := by simp
/-- a set of the call's own -/
structure SOwn (w : World) (b : Nat) (s : List Nat) : Prop where
  at_ : w.rangeAt b 0 (stCells s)
  free : ∀ j, w.frozen? ⟨b, j, none⟩ = false
theorem SOwn.new {w : World} {s : List Nat} (t : TypeId) : SOwn (w.alloc (.cells (stArr s) t)) w.heap.size s := by
  have hh : (w.alloc (.cells (stArr s) t)).heap[w.heap.size]? = some (.cells (stArr s) t (0, 0)) := heap_alloc_last w _
  refine ⟨fun j u hu => ?_, fun j => frozen_of_row _ _ j _ _ hh⟩
  rw [cell_of_row _ w.heap.size (0 + j) _ _ _ hh, Nat.zero_add]
  simpa [stArr] using hu
theorem SOwn.below {w w' : World} {b B : Nat} {s : List Nat} (h : SOwn w b s) (hb : Below B w w') (hB : b < B) : SOwn w' b s :=
  ⟨fun j v hv => (hb.cell (p := ⟨b, 0 + j, none⟩) hB).trans (h.at_ j v hv), fun j => (hb.frozen (p := ⟨b, j, none⟩) hB).trans (h.free j)⟩
theorem SOwn.drew {w : World} {b : Nat} {s : List Nat} (h : SOwn w b s) : SOwn w.drew b s := ⟨h.at_, h.free⟩
theorem SOwn.lt {w : World} {b : Nat} {s : List Nat} (h : SOwn w b s) (hl : 0 < s.length) : b < w.heap.size := below_block (h.at_ 0 _ (stCells_at hl))
theorem SOwn.there {w : World} {b : Nat} {s : List Nat} (h : SOwn w b s) : w.there b 0 s.length := fun j hj => ⟨by rw [h.at_ j _ (stCells_at hj)]; rfl, h.free _⟩
/-- a byte is laid anew -/
theorem SOwn.put {w : World} {b : Nat} {s : List Nat} (h : SOwn w b s) {i : Nat} (hi : i < s.length) (v : Nat) : SOwn (w.setCell ⟨b, i, none⟩ (.int .u8 (v : Int))) b (s.set i v) := by
  refine ⟨fun j u hu => ?_, fun j => by rw [World.frozen?_setCell]; exact h.free j⟩
  rw [Nat.zero_add]
  have hj : j < s.length := by
    have := (List.getElem?_eq_some_iff.1 hu).1
    simpa [stCells] using this
  rw [stCells_at (by simpa using hj), Bits.at_set hi] at hu
  obtain rfl := Option.some.inj hu
  by_cases e : i = j
  · subst e
    rw [if_pos rfl]
    exact World.cell?_setCell_same _ _ _ (set_at h.at_ hi)
  · rw [if_neg e, World.cell?_setCell_other _ _ _ _ (by intro hh; injection hh; omega)]
    exact set_at h.at_ hj
theorem SOwn.other {w : World} {b c : Nat} {s : List Nat} (h : SOwn w b s) (hc : c ≠ b) (i : Nat) (v : Value) : SOwn (w.setCell ⟨c, i, none⟩ v) b s := by
  refine ⟨fun j u hu => ?_, fun j => by rw [World.frozen?_setCell]; exact h.free j⟩
  rw [World.cell?_setCell_other _ _ _ _ (by intro hh; injection hh; omega)]
  exact h.at_ j u hu
/-- all of it is laid anew -/
theorem SOwn.lay {w : World} {b : Nat} {s t : List Nat} (h : SOwn w b s) (hl : t.length = s.length) : SOwn (w.setCells b 0 (stCells t)) b t :=
  ⟨World.rangeAt_setCells_same w b 0 _ (by rw [stCells_length, hl]; exact h.there), fun j => by rw [World.frozen?_setCells]; exact h.free j⟩
/-- a load of a set -/
theorem loadSet {w : World} {b : Nat} {s : List Nat} (h : w.rangeAt b 0 (stCells s)) (hl : s.length = 30) : (loadVar 31 ⟨b, 0, none⟩).run Tryd.prog w = .ok (stV s) w :=
  run_loadVar_mid w b 0 31 (stCells s) _ h Tryd.underlying31 rfl (by rw [stCells_length, hl]; exact Tryd.setSize)
/-- a result that lies in a cell of its own -/
theorem results_set {fn : Func} {p : Tmp} (h : fn.results = #[.cell p 31]) (tmps : Array Value) (w : World) (b : Nat) (s : List Nat)
    (hp : tmps.getD p undef = .pointer (some ⟨b, 0, none⟩)) (hc : w.rangeAt b 0 (stCells s)) (hl : s.length = 30) : (results fn tmps).run Tryd.prog w = .ok (stV s) w := by
  have hp' : tmps[p]?.getD undef = .pointer (some ⟨b, 0, none⟩) := by simpa using hp
  simp [results, h, hp', asAddr, loadSet hc hl]
/-- the walk stands still here -/
def SetStop (p : Prop) : Prop := p
theorem set_stop {P : Program} {ops : Array Oper} {rest : List Oper} {o : Oper} {a : Act} {w : World} {Q : Exit → Act → World → Prop} (h : SetStop (wpList P ops Q (o :: rest) a w)) : wpList P ops Q (o :: rest) a w := h
/-- a load of a set, in a region without an order -/
theorem wpList_load_set {ops : Array Oper} {rest : List Oper} {op : Oper} {a : Act} {w : World} {Q : Exit → Act → World → Prop} (hw : Region.wanted op (yielded ops a.tmps) = true) (x : Operand) (ho : op.op = .load 31 x)
    (b : Nat) (hx : a.eval x = .pointer (some ⟨b, 0, none⟩)) (s : List Nat) (hl : s.length = 30) (hc : w.rangeAt b 0 (stCells s))
    (h : wpList Tryd.prog ops Q rest (a.put op.dst (stV s)) w) : wpList Tryd.prog ops Q (op :: rest) a w :=
  wpList_step fun _ hK => by
    rw [if_pos hw]
    exact wp_load_mid 31 x ho b 0 hx (stCells s) _ hc Tryd.underlying31 rfl (by rw [stCells_length, hl]; exact Tryd.setSize) (hK _ _ h)
/-- a store of a set: the world behind it is a letter -/
theorem wpList_store_set {ops : Array Oper} {rest : List Oper} {op : Oper} {a : Act} {w : World} {Q : Exit → Act → World → Prop} (hgd : op.guard = none) (x y : Operand) (ho : op.op = .store 31 x y)
    (b : Nat) (s t : List Nat) (hl : s.length = 30) (hs : t.length = 30) (hx : a.eval x = .pointer (some ⟨b, 0, none⟩)) (hy : a.eval y = stV s) (hb : SOwn w b t)
    (h : ∀ w2, Hid (w2 = w.setCells b 0 (stCells s)) → Hid (SOwn w2 b s) → wpList Tryd.prog ops Q rest (a.put op.dst undef) w2) : wpList Tryd.prog ops Q (op :: rest) a w :=
  wpList_store_mid hgd _ x y ho b 0 (stArr s) hx hy (by rw [stArr_size, hl, ← hs]; exact hb.there) (by rw [stArr_size, hl]; exact Tryd.setSize) (stArr_all s) (h _ (Lib.hid rfl) (Lib.hid (hb.lay (by omega))))
end Go.Proofs.YtaolkmlgdhnhaaaDoor
