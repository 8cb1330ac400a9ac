/-
  A superblock as a value and in memory, of either of its two types: literals, loads, stores, results, two compared. Conditions: none beyond the premises of each theorem.
-/
import Derived.Test.YtaolkmlgdhnhaaaDoorSuperMath
import Derived.Test.YtaolkmlgdhnhaaaDoorSetEq
import Derived.Test.YtaolkmlgdhnhaaaDoorFill
namespace Go.Proofs.YtaolkmlgdhnhaaaDoor
open Go.RowKit

instance sbDec (x y : Sb) : Decidable (x = y) := decidable_of_iff (x.gen = y.gen ∧ x.root = y.root ∧ x.used = y.used) (by cases x; cases y; simp)
/-- a superblock's cells -/
def sbCells (x : Sb) : List Value := .int .u32 (x.gen : Int) :: .int .i64 x.root :: stCells x.used
def sbArr (x : Sb) : Array Value := (sbCells x).toArray
abbrev sbV (x : Sb) : Value := .agg (sbArr x)
theorem sbCells_length {x : Sb} (h : x.Ok) : (sbCells x).length = 32 := by simp [sbCells, stCells_length, h.used.len]
theorem sbArr_size {x : Sb} (h : x.Ok) : (sbArr x).size = 32 := by simp [sbArr, sbCells_length h]
theorem sbArr_list (x : Sb) : (sbArr x).toList = sbCells x := rfl
theorem sbCells_one (x : Sb) : ∀ v ∈ sbCells x, v.oneCell' = true := by
  intro v hv
  rcases List.mem_cons.1 hv with rfl | hv
  · rfl
  rcases List.mem_cons.1 hv with rfl | hv
  · rfl
  · exact stCells_one _ v hv
theorem sbArr_all (x : Sb) : (sbArr x).all (·.oneCell') = true := all_oneCell_toArray (sbCells_one x)

/-- a type of superblocks -/
structure SbType (T : TypeId) : Prop where
  und : ∃ d, Tryd.prog.underlying T = some d ∧ d.isRow = true
  info : (Tryd.prog.info? T).map (fun i => (i.zero, i.size)) = some (some (sbV Sb.zero), 32)
  none_ : Tryd.prog.built T [] = some (sbArr Sb.zero)
  three : ∀ x y z, Tryd.prog.built T [(0, x), (1, y), (2, z)] = Instr.fill ((#[(0, 1), (1, 1), (2, 30)] : Array (Nat × Nat))[·]?) (sbArr Sb.zero) [(0, x), (1, y), (2, z)]
theorem SbType.size {T : TypeId} (h : SbType T) : (Tryd.prog.info? T).map (·.size) = some 32 := by
  have := h.info
  cases hi : Tryd.prog.info? T with
  | none => rw [hi] at this; cases this
  | some i =>
    rw [hi] at this
    simp only [Option.map_some, Option.some.injEq, Prod.mk.injEq] at this ⊢
    exact this.2
theorem SbType.zero {T : TypeId} (h : SbType T) (w : World) : (zeroValue T).run Tryd.prog w = .ok (sbV Sb.zero) w := (zero_of_info h.info).1 w
theorem Tryd.sbProg : SbType 33 := ⟨⟨_, Tryd.underlying33, rfl⟩, by kernel_rfl, by kernel_rfl, fun _ _ _ => by kernel_rfl⟩
theorem Tryd.sbRef : SbType 25 := ⟨⟨_, Tryd.underlying25, rfl⟩, by kernel_rfl, by kernel_rfl, fun _ _ _ => by kernel_rfl⟩
/-- a literal of three parts -/
theorem SbType.built {T : TypeId} (h : SbType T) {x : Sb} (hx : x.Ok) : Tryd.prog.built T [(0, .int .u32 (x.gen : Int)), (1, .int .i64 x.root), (2, stV x.used)] = some (sbArr x) := by
  rw [h.three]
  have hz : (sbArr Sb.zero).size = 32 := sbArr_size Sb.Ok.zero
  have hzl : (stCells Sb.zero.used).length = 30 := by rw [stCells_length]; exact Sb.Ok.zero.used.len
  have e0 : (sbArr Sb.zero).toList = .int .u32 0 :: .int .i64 0 :: stCells Sb.zero.used := rfl
  rw [fill_step _ _ 0 _ _ 0 1 rfl rfl (by rw [hz]; decide)]
  rw [e0]
  generalize hq : stCells Sb.zero.used = q at hzl
  rw [fill_step _ _ 1 _ _ 1 1 rfl rfl (by simp [Value.cells, hzl])]
  rw [fill_step _ _ 2 _ _ 2 30 rfl (by show (stArr x.used).size = 30; rw [stArr_size, hx.used.len]) (by simp [Value.cells, hzl])]
  rw [Instr.fill]
  congr 1
  simp [Value.cells, sbArr, sbCells, stArr, hzl]

/-- a superblock of the call's own -/
structure BOwn (w : World) (b : Nat) (x : Sb) : Prop where
  at_ : w.rangeAt b 0 (sbCells x)
  free : ∀ j, w.frozen? ⟨b, j, none⟩ = false
theorem BOwn.new {w : World} {x : Sb} (t : TypeId) : BOwn (w.alloc (.cells (sbArr x) t)) w.heap.size x := by
  have hh : (w.alloc (.cells (sbArr x) t)).heap[w.heap.size]? = some (.cells (sbArr x) t (0, 0)) := heap_alloc_last w _
  refine ⟨fun j u hu => ?_, fun j => frozen_of_row _ _ j _ _ hh⟩
  rw [cell_of_row _ w.heap.size (0 + j) _ _ _ hh, Nat.zero_add]
  simpa [sbArr] using hu
theorem BOwn.below {w w' : World} {b B : Nat} {x : Sb} (h : BOwn w b x) (hb : Below B w w') (hB : b < B) : BOwn w' b x :=
  ⟨fun j v hv => (hb.cell (p := ⟨b, 0 + j, none⟩) hB).trans (h.at_ j v hv), fun j => (hb.frozen (p := ⟨b, j, none⟩) hB).trans (h.free j)⟩
theorem BOwn.block {w w' : World} {b : Nat} {x : Sb} (h : BOwn w b x) (hb : w'.heap[b]? = w.heap[b]?) : BOwn w' b x :=
  ⟨fun j v hv => (World.cell?_of_block (w := w) (a := ⟨b, 0 + j, none⟩) hb).trans (h.at_ j v hv), fun j => (World.frozen?_of_block (w := w) (a := ⟨b, j, none⟩) hb).trans (h.free j)⟩
theorem BOwn.drew {w : World} {b : Nat} {x : Sb} (h : BOwn w b x) : BOwn w.drew b x := ⟨h.at_, h.free⟩
theorem BOwn.drewN {w : World} {b : Nat} {x : Sb} (h : BOwn w b x) (n : Nat) : BOwn (w.drewN n) b x := ⟨h.at_, h.free⟩
theorem BOwn.gen {w : World} {b : Nat} {x : Sb} (h : BOwn w b x) : w.cell? ⟨b, 0, none⟩ = some (.int .u32 (x.gen : Int)) := h.at_ 0 _ rfl
theorem BOwn.root {w : World} {b : Nat} {x : Sb} (h : BOwn w b x) : w.cell? ⟨b, 1, none⟩ = some (.int .i64 x.root) := h.at_ 1 _ rfl
theorem BOwn.used {w : World} {b : Nat} {x : Sb} (h : BOwn w b x) : w.rangeAt b 2 (stCells x.used) := fun j v hv => by
  have := h.at_ (j + 2) v (by simpa [sbCells] using hv)
  rw [show 0 + (j + 2) = 2 + j by omega] at this
  exact this
theorem BOwn.lt {w : World} {b : Nat} {x : Sb} (h : BOwn w b x) : b < w.heap.size := below_block h.gen
theorem BOwn.there {w : World} {b : Nat} {x : Sb} (h : BOwn w b x) : w.there b 0 (sbCells x).length := fun j hj => ⟨by rw [h.at_ j _ (List.getElem?_eq_getElem hj)]; rfl, h.free _⟩
/-- all of it is laid anew -/
theorem BOwn.lay {w : World} {b : Nat} {x y : Sb} (h : BOwn w b x) (hx : x.Ok) (hy : y.Ok) : BOwn (w.setCells b 0 (sbCells y)) b y :=
  ⟨World.rangeAt_setCells_same w b 0 _ (by rw [sbCells_length hy, ← sbCells_length hx]; exact h.there), fun j => by rw [World.frozen?_setCells]; exact h.free j⟩
theorem BOwn.other {w : World} {b c : Nat} {x : Sb} (h : BOwn w b x) (hc : c ≠ b) (o : Nat) (vs : List Value) : BOwn (w.setCells c o vs) b x :=
  ⟨fun j v hv => by rw [World.cell?_setCells_out c vs o w _ (fun e _ => absurd e.symm hc)]; exact h.at_ j v hv, fun j => by rw [World.frozen?_setCells]; exact h.free j⟩
theorem BOwn.put0 {w : World} {b : Nat} {x : Sb} (h : BOwn w b x) (g : Nat) : BOwn (w.setCell ⟨b, 0, none⟩ (.int .u32 (g : Int))) b ⟨g, x.root, x.used⟩ := by
  refine ⟨fun j v hv => ?_, fun j => by rw [World.frozen?_setCell]; exact h.free j⟩
  rw [Nat.zero_add]
  by_cases e : j = 0
  · subst e
    have : v = .int .u32 (g : Int) := by simpa [sbCells] using hv.symm
    rw [this]
    exact World.cell?_setCell_same _ _ _ h.gen
  · rw [World.cell?_setCell_other _ _ _ _ (by intro hh; injection hh; omega)]
    have := h.at_ j v (by cases j with | zero => exact absurd rfl e | succ j => simpa [sbCells] using hv)
    rwa [Nat.zero_add] at this
theorem BOwn.put1 {w : World} {b : Nat} {x : Sb} (h : BOwn w b x) (r : Int) : BOwn (w.setCell ⟨b, 1, none⟩ (.int .i64 r)) b ⟨x.gen, r, x.used⟩ := by
  refine ⟨fun j v hv => ?_, fun j => by rw [World.frozen?_setCell]; exact h.free j⟩
  rw [Nat.zero_add]
  by_cases e : j = 1
  · subst e
    have : v = .int .i64 r := by simpa [sbCells] using hv.symm
    rw [this]
    exact World.cell?_setCell_same _ _ _ h.root
  · rw [World.cell?_setCell_other _ _ _ _ (by intro hh; injection hh; omega)]
    have := h.at_ j v (by
      match j, e with
      | 0, _ => simpa [sbCells] using hv
      | j + 2, _ => simpa [sbCells] using hv)
    rwa [Nat.zero_add] at this
/-- a byte of its set is laid anew -/
theorem BOwn.put2 {w : World} {b : Nat} {x : Sb} (h : BOwn w b x) {i : Nat} (hi : i < x.used.length) (n : Nat) : BOwn (w.setCell ⟨b, 2 + i, none⟩ (.int .u8 (n : Int))) b ⟨x.gen, x.root, x.used.set i n⟩ := by
  refine ⟨fun j v hv => ?_, fun j => by rw [World.frozen?_setCell]; exact h.free j⟩
  rw [Nat.zero_add]
  by_cases e : j = 2 + i
  · subst e
    have : v = .int .u8 (n : Int) := by
      rw [show 2 + i = i + 2 by omega] at hv
      simpa [sbCells, stCells, hi] using hv.symm
    rw [this]
    have h2 := h.used i _ (stCells_at hi)
    exact World.cell?_setCell_same _ _ _ h2
  · rw [World.cell?_setCell_other _ _ _ _ (by intro hh; injection hh; omega)]
    have := h.at_ j v (by
      match j, e with
      | 0, _ => simpa [sbCells] using hv
      | 1, _ => simpa [sbCells] using hv
      | j + 2, e =>
        have hne : i ≠ j := by omega
        simpa [sbCells, stCells, List.getElem?_set, hne] using hv)
    rwa [Nat.zero_add] at this

section
variable {T : TypeId} (hT : SbType T)
include hT
theorem loadSb {w : World} {b : Nat} {x : Sb} (h : w.rangeAt b 0 (sbCells x)) (hx : x.Ok) : (loadVar T ⟨b, 0, none⟩).run Tryd.prog w = .ok (sbV x) w := by
  obtain ⟨d, hu, hd⟩ := hT.und
  exact run_loadVar_mid w b 0 T (sbCells x) _ h hu hd (by rw [sbCells_length hx]; exact hT.size)
/-- a load -/
theorem wpList_load_sb {ops : Array Oper} {rest : List Oper} {op : Oper} {a : Act} {w : World} {Q : Exit → Act → World → Prop} (hw : Region.wanted op (yielded ops a.tmps) = true) (x : Operand) (ho : op.op = .load T x)
    (b : Nat) (hx : a.eval x = .pointer (some ⟨b, 0, none⟩)) (s : Sb) (hs : s.Ok) (hc : w.rangeAt b 0 (sbCells s))
    (h : wpList Tryd.prog ops Q rest (a.put op.dst (sbV s)) w) : wpList Tryd.prog ops Q (op :: rest) a w :=
  wpList_step fun _ hK => by
    obtain ⟨d, hu, hd⟩ := hT.und
    rw [if_pos hw]
    exact wp_load_mid T x ho b 0 hx (sbCells s) _ hc hu hd (by rw [sbCells_length hs]; exact hT.size) (hK _ _ h)
theorem yieldsIf_sb {ops : Array Oper} {S : World → Prop} {op : Oper} {a : Act} (hw : Region.wanted op (yielded ops a.tmps) = true) (x : Operand) (ho : op.op = .load T x)
    (b : Nat) (hx : a.eval x = .pointer (some ⟨b, 0, none⟩)) (s : Sb) (hs : s.Ok) (hS : ∀ w, S w → w.rangeAt b 0 (sbCells s)) : YieldsIf Tryd.prog ops S op (sbV s) a := by
  obtain ⟨d, hu, hd⟩ := hT.und
  exact yieldsIf_load_mid hw _ x ho b 0 hx (sbCells s) _ hS hu hd (by rw [sbCells_length hs]; exact hT.size)
/-- a store: the world behind it is a letter -/
theorem wpList_store_sb {ops : Array Oper} {rest : List Oper} {op : Oper} {a : Act} {w : World} {Q : Exit → Act → World → Prop} (hgd : op.guard = none) (x y : Operand) (ho : op.op = .store T x y)
    (b : Nat) (s t : Sb) (hs : s.Ok) (ht : t.Ok) (hx : a.eval x = .pointer (some ⟨b, 0, none⟩)) (hy : a.eval y = sbV s) (hb : BOwn w b t)
    (h : ∀ w2, Hid (w2 = w.setCells b 0 (sbCells s)) → Hid (BOwn w2 b s) → wpList Tryd.prog ops Q rest (a.put op.dst undef) w2) : wpList Tryd.prog ops Q (op :: rest) a w :=
  wpList_store_mid hgd _ x y ho b 0 (sbArr s) hx hy (by rw [sbArr_size hs, ← sbCells_length ht]; exact hb.there) (by rw [sbArr_size hs]; exact hT.size) (sbArr_all s) (h _ (Lib.hid rfl) (Lib.hid (hb.lay ht hs)))
/-- a literal without parts, of three parts -/
theorem wpList_build_sb0 {ops : Array Oper} {rest : List Oper} {o : Oper} {a : Act} {w : World} {Q : Exit → Act → World → Prop} (hgd : o.guard = none) (ho : o.op = .build T #[])
    (h : wpList Tryd.prog ops Q rest (a.put o.dst (sbV Sb.zero)) w) : wpList Tryd.prog ops Q (o :: rest) a w :=
  wpList_build_none hgd T ho (sbArr Sb.zero) hT.none_ h
theorem wpList_build_sb3 {ops : Array Oper} {rest : List Oper} {o : Oper} {a : Act} {w : World} {Q : Exit → Act → World → Prop} (hgd : o.guard = none) (x y z : Operand) (ho : o.op = .build T #[(0, x), (1, y), (2, z)]) (s : Sb) (hs : s.Ok)
    (hx : a.eval x = .int .u32 (s.gen : Int)) (hy : a.eval y = .int .i64 s.root) (hz : a.eval z = stV s.used)
    (h : wpList Tryd.prog ops Q rest (a.put o.dst (sbV s)) w) : wpList Tryd.prog ops Q (o :: rest) a w :=
  wpList_plain hgd fun _ hK => by
    have e : (#[(0, x), (1, y), (2, z)].map fun (i, x) => (i, a.eval x)).toList = [(0, .int .u32 (s.gen : Int)), (1, .int .i64 s.root), (2, stV s.used)] := by
      simp only [List.map_toArray, List.map_cons, List.map_nil, hx, hy, hz]
    exact wp_build T _ ho (by rw [e, hT.built hs]; rfl) (hK _ _ (by rw [e, hT.built hs]; exact h))
/-- results that lie in a cell -/
theorem results_sb {fn : Func} {p : Tmp} (h : fn.results = #[.cell p T]) (tmps : Array Value) (w : World) (b : Nat) (x : Sb)
    (hp : tmps.getD p undef = .pointer (some ⟨b, 0, none⟩)) (hc : w.rangeAt b 0 (sbCells x)) (hx : x.Ok) : (results fn tmps).run Tryd.prog w = .ok (sbV x) w := by
  have hp' : tmps[p]?.getD undef = .pointer (some ⟨b, 0, none⟩) := by simpa using hp
  simp [results, h, hp', asAddr, loadSb hT hc hx]
theorem results_sb2 {fn : Func} {p q : Tmp} (h : fn.results = #[.cell p T, .tmp q]) (tmps : Array Value) (w : World) (b : Nat) (x : Sb) (v : Value)
    (hp : tmps.getD p undef = .pointer (some ⟨b, 0, none⟩)) (hq : tmps.getD q undef = v) (hc : w.rangeAt b 0 (sbCells x)) (hx : x.Ok) : (results fn tmps).run Tryd.prog w = .ok (.tuple #[sbV x, v]) w := by
  have hp' : tmps[p]?.getD undef = .pointer (some ⟨b, 0, none⟩) := by simpa using hp
  rw [results_cell_tmp h, hp, hq]
  simp [asAddr, Result.andThen, loadSb hT hc hx]
end
/-- a load of a set, of an array, in the midst of a row -/
theorem wpList_load_set_at {ops : Array Oper} {rest : List Oper} {op : Oper} {a : Act} {w : World} {Q : Exit → Act → World → Prop} (hw : Region.wanted op (yielded ops a.tmps) = true) (x : Operand) (ho : op.op = .load 31 x)
    (b o : Nat) (hx : a.eval x = .pointer (some ⟨b, o, none⟩)) (s : List Nat) (hl : s.length = 30) (hc : w.rangeAt b o (stCells s))
    (h : wpList Tryd.prog ops Q rest (a.put op.dst (stV s)) w) : wpList Tryd.prog ops Q (op :: rest) a w :=
  wpList_step fun _ hK => by
    rw [if_pos hw]
    exact wp_load_mid 31 x ho b o hx (stCells s) _ hc Tryd.underlying31 rfl (by rw [stCells_length, hl]; exact Tryd.setSize) (hK _ _ h)
theorem wpList_load_arr_at {ops : Array Oper} {rest : List Oper} {op : Oper} {a : Act} {w : World} {Q : Exit → Act → World → Prop} (hw : Region.wanted op (yielded ops a.tmps) = true) (x : Operand) (ho : op.op = .load 23 x)
    (b o : Nat) (hx : a.eval x = .pointer (some ⟨b, o, none⟩)) (s : List Nat) (hl : s.length = 30) (hc : w.rangeAt b o (stCells s))
    (h : wpList Tryd.prog ops Q rest (a.put op.dst (stV s)) w) : wpList Tryd.prog ops Q (op :: rest) a w :=
  wpList_step fun _ hK => by
    rw [if_pos hw]
    exact wp_load_mid 23 x ho b o hx (stCells s) _ hc Tryd.underlying23 rfl (by rw [stCells_length, hl]; exact Tryd.arr30Size) (hK _ _ h)
/-- two superblocks of the document's type compared -/
theorem Tryd.sbFields : (Tryd.prog.fieldsOf 25).toList = [⟨"Gen", 22, 0, false, "", "", 0⟩, ⟨"Root", 3, 1, false, "", "", 8⟩, ⟨"Used", 23, 2, false, "", "", 16⟩] := by kernel_rfl
theorem Tryd.sbStruct : Tryd.prog.underlying 25 = some (.struct (Tryd.prog.fieldsOf 25)) := by kernel_rfl
theorem Tryd.sbHeld : Tryd.prog.stoodInHeld 25 = false := by kernel_rfl
theorem part_gen (x : Sb) (w : World) : (part 22 (sbArr x) 0).run Tryd.prog w = .ok (.int .u32 (x.gen : Int)) w := by
  simp [part, isAgg, underlying, Tryd.underlying22, sbArr, sbCells]
theorem part_root (x : Sb) (w : World) : (part 3 (sbArr x) 1).run Tryd.prog w = .ok (.int .i64 x.root) w := by
  simp [part, isAgg, underlying, Tryd.underlying3, sbArr, sbCells]
theorem part_used {x : Sb} (hx : x.Ok) (w : World) : (part 23 (sbArr x) 2).run Tryd.prog w = .ok (stV x.used) w := by
  have e : (sbArr x).extract 2 (2 + 30) = stArr x.used := by
    apply Array.toList_inj.1
    have h : (stCells x.used).length ≤ 30 := by rw [stCells_length, hx.used.len]; exact Nat.le_refl _
    simp [sbArr, sbCells, stArr, List.take_of_length_le h]
  simp [part, isAgg, underlying, Tryd.underlying23, e]
theorem equalIn_arrs {p q : List Nat} (d : Nat) (hl : p.length = 30) (hm : q.length = 30) (w : World) : (Op.equalIn (d + 2) 23 (stV p) (stV q)).run Tryd.prog w = .ok (decide (p = q)) w :=
  run_equalIn_set w d 30 23 5 p q Tryd.underlying23 Tryd.underlying5 sizeU8 hl hm
theorem equalIn_sb {x y : Sb} (hx : x.Ok) (hy : y.Ok) (w : World) : (Op.equalIn 10000 25 (sbV x) (sbV y)).run Tryd.prog w = .ok (decide (x = y)) w := by
  rw [run_equalIn_agg w 9999 25 _ _ Tryd.sbStruct Tryd.sbHeld, Tryd.sbFields]
  have e1 : (Op.equalIn 9999 22 (.int .u32 (x.gen : Int)) (.int .u32 (y.gen : Int))).run Tryd.prog w = .ok ((x.gen : Int) == (y.gen : Int)) w := run_equalIn_int w 9998 _ .u32 .u32 _ _ Tryd.underlying22
  have e2 : (Op.equalIn 9999 3 (.int .i64 x.root) (.int .i64 y.root)).run Tryd.prog w = .ok (x.root == y.root) w := run_equalIn_int w 9998 _ .i64 .i64 _ _ Tryd.underlying3
  have e3 : (Op.equalIn 9999 23 (stV x.used) (stV y.used)).run Tryd.prog w = .ok (decide (x.used = y.used)) w := equalIn_arrs 9997 hx.used.len hy.used.len w
  have n1 : ("Gen" : String) ≠ "_" := by decide
  have n2 : ("Root" : String) ≠ "_" := by decide
  have n3 : ("Used" : String) ≠ "_" := by decide
  have key : decide (x = y) = ((((x.gen : Int) == (y.gen : Int)) && (x.root == y.root)) && decide (x.used = y.used)) := by
    rw [Bool.eq_iff_iff]
    cases x; cases y
    simp [and_assoc]
    intro _ _
    omega
  rw [key]
  generalize ((x.gen : Int) == (y.gen : Int)) = b1 at e1 ⊢
  generalize (x.root == y.root) = b2 at e2 ⊢
  generalize decide (x.used = y.used) = b3 at e3 ⊢
  cases b1 <;> cases b2 <;> cases b3 <;> simp [Op.eqFields, n1, n2, n3, part_gen, part_root, part_used hx, part_used hy, Result.andThen_ok, e1, e2, e3]
set_option maxRecDepth 100000 in
theorem eql_sb {x y : Sb} (hx : x.Ok) (hy : y.Ok) (w : World) : (binOp .eql 25 (sbV x) (sbV y)).run Tryd.prog w = .ok (.bool (decide (x = y))) w := by
  rw [run_eql_struct, equalIn_sb hx hy, Result.andThen_ok]
set_option maxRecDepth 100000 in
theorem neq_sb {x y : Sb} (hx : x.Ok) (hy : y.Ok) (w : World) : (binOp .neq 25 (sbV x) (sbV y)).run Tryd.prog w = .ok (.bool (!decide (x = y))) w := by
  rw [run_neq_struct, equalIn_sb hx hy, Result.andThen_ok]
theorem guardSb : Tryd.prog.eqGuardType Tryd.prog.depth 25 = false := by kernel_rfl
end Go.Proofs.YtaolkmlgdhnhaaaDoor
