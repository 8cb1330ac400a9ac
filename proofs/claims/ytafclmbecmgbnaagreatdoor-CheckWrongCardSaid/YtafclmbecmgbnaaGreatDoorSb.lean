/-
  Sb: several texts in one file. Conditions: as each part says.
-/
import Derived.Test.YtafclmbecmgbnaaGreatDoorSm
import Derived.Test.YtafclmbecmgbnaaGreatDoorMaths
import Derived.Test.YtafclmbecmgbnaaGreatDoorSets
import Derived.Test.YtafclmbecmgbnaaGreatDoorDisks
import Derived.Test.YtafclmbecmgbnaaGreatDoorFrames
import Derived.Test.YtafclmbecmgbnaaGreatDoorPacks
import Derived.Great.BuildSlice
/-
 SbAt. Conditions: as each theorem says.
-/
namespace Go.Proofs.YtafclmbecmgbnaaGreatDoor
open Go.RowKit
instance sbDec (x y : Sb) : Decidable (x = y) := decidable_of_iff (x.gen = y.gen ∧ x.root = y.root ∧ x.used = y.used) (by cases x; cases y; simp)
def sbCells (x : Sb) : List Value := .int .u32 (x.gen : Int) :: .int .i64 x.root :: stCells x.used
def sbArr (x : Sb) : Array Value := (sbCells x).toArray
abbrev sbV (x : Sb) : Value := .agg (sbArr x)
theorem sbCells_length {x : Sb} (h : x.Ok) : (sbCells x).length = 32 := by simp [sbCells, stCells_length, h.used.len]
theorem sbArr_size {x : Sb} (h : x.Ok) : (sbArr x).size = 32 := by simp [sbArr, sbCells_length h]
theorem sbCells_one (x : Sb) : ∀ v ∈ sbCells x, v.oneCell' = true := by
 intro v hv
 rcases List.mem_cons.1 hv with rfl | hv
 ·rfl
 rcases List.mem_cons.1 hv with rfl | hv
 ·rfl
 ·exact stCells_one _ v hv
theorem sbArr_all (x : Sb) : (sbArr x).all (·.oneCell') = true := all_oneCell_toArray (sbCells_one x)
structure SbType (T : TypeId) : Prop where
 und : ∃ d, Tryz.prog.underlying T = some d ∧ d.isRow = true
 info : (Tryz.prog.info? T).map (fun i => (i.zero, i.size)) = some (some (sbV Sb.zero), 32)
 none_ : Tryz.prog.built T [] = some (sbArr Sb.zero)
 three : ∀ x y z, Tryz.prog.built T [(0, x), (1, y), (2, z)] = Instr.fill ((#[(0, 1), (1, 1), (2, 30)] : Array (Nat × Nat))[·]?) (sbArr Sb.zero) [(0, x), (1, y), (2, z)]
theorem SbType.size {T : TypeId} (h : SbType T) : (Tryz.prog.info? T).map (·.size) = some 32 := by
 have := h.info
 cases hi : Tryz.prog.info? T with
 | none => rw [hi] at this; cases this
 | some i =>
  rw [hi] at this
  simp only [Option.map_some, Option.some.injEq, Prod.mk.injEq] at this ⊢
  exact this.2
theorem SbType.zero {T : TypeId} (h : SbType T) (w : World) : (zeroValue T).run Tryz.prog w = .ok (sbV Sb.zero) w := (zero_of_info h.info).1 w
theorem Tryz.sbProg : SbType 103 := ⟨⟨_, Tryz.underlying103, rfl⟩, by kernel_rfl, by kernel_rfl, fun _ _ _ => by kernel_rfl⟩
theorem SbType.built {T : TypeId} (h : SbType T) {x : Sb} (hx : x.Ok) : Tryz.prog.built T [(0, .int .u32 (x.gen : Int)), (1, .int .i64 x.root), (2, stV x.used)] = some (sbArr x) := by
 rw [h.three]
 have hz : (sbArr Sb.zero).size = 32 := sbArr_size Sb.Ok.zero
 have hzl : (stCells Sb.zero.used).length = 30 := by rw [stCells_length]; exact Sb.Ok.zero.used.len
 have e0 : (sbArr Sb.zero).toList = .int .u32 0 :: .int .i64 0 :: stCells Sb.zero.used := rfl
 rw [fill_step _ _ 0 _ _ 0 1 rfl rfl (by rw [hz]; decide)]
 rw [e0]
 generalize hq : stCells Sb.zero.used = q at hzl
 rw [fill_step _ _ 1 _ _ 1 1 rfl rfl (by simp [Value.cells, hzl])]
 rw [fill_step _ _ 2 _ _ 2 30 rfl (by show (stArr x.used).size = 30; rw [stArr_size, hx.used.len]) (by simp [Value.cells, hzl])]
 rw [Instr.fill]
 congr 1
 simp [Value.cells, sbArr, sbCells, stArr, hzl]
structure BOwn (w : World) (b : Nat) (x : Sb) : Prop where
 at_ : w.rangeAt b 0 (sbCells x)
 free : ∀ j, w.frozen? ⟨b, j, none⟩ = false
theorem BOwn.new {w : World} {x : Sb} (t : TypeId) : BOwn (w.alloc (.cells (sbArr x) t)) w.heap.size x := by
 have hh : (w.alloc (.cells (sbArr x) t)).heap[w.heap.size]? = some (.cells (sbArr x) t (0, 0)) := heap_alloc_last w _
 refine ⟨fun j u hu => ?_, fun j => frozen_of_row _ _ j _ _ hh⟩
 rw [cell_of_row _ w.heap.size (0 + j) _ _ _ hh, Nat.zero_add]
 simpa [sbArr] using hu
theorem BOwn.below {w w' : World} {b B : Nat} {x : Sb} (h : BOwn w b x) (hb : Below B w w') (hB : b < B) : BOwn w' b x :=
 ⟨fun j v hv => (hb.cell (p := ⟨b, 0 + j, none⟩) hB).trans (h.at_ j v hv), fun j => (hb.frozen (p := ⟨b, j, none⟩) hB).trans (h.free j)⟩
theorem BOwn.block {w w' : World} {b : Nat} {x : Sb} (h : BOwn w b x) (hb : w'.heap[b]? = w.heap[b]?) : BOwn w' b x :=
 ⟨fun j v hv => (World.cell?_of_block (w := w) (a := ⟨b, 0 + j, none⟩) hb).trans (h.at_ j v hv), fun j => (World.frozen?_of_block (w := w) (a := ⟨b, j, none⟩) hb).trans (h.free j)⟩
theorem BOwn.drew {w : World} {b : Nat} {x : Sb} (h : BOwn w b x) : BOwn w.drew b x := ⟨h.at_, h.free⟩
theorem BOwn.gen {w : World} {b : Nat} {x : Sb} (h : BOwn w b x) : w.cell? ⟨b, 0, none⟩ = some (.int .u32 (x.gen : Int)) := h.at_ 0 _ rfl
theorem BOwn.root {w : World} {b : Nat} {x : Sb} (h : BOwn w b x) : w.cell? ⟨b, 1, none⟩ = some (.int .i64 x.root) := h.at_ 1 _ rfl
theorem BOwn.used {w : World} {b : Nat} {x : Sb} (h : BOwn w b x) : w.rangeAt b 2 (stCells x.used) := fun j v hv => by
 have := h.at_ (j + 2) v (by simpa [sbCells] using hv)
 rw [show 0 + (j + 2) = 2 + j by omega] at this
 exact this
theorem BOwn.lt {w : World} {b : Nat} {x : Sb} (h : BOwn w b x) : b < w.heap.size := below_block h.gen
theorem BOwn.there {w : World} {b : Nat} {x : Sb} (h : BOwn w b x) : w.there b 0 (sbCells x).length := fun j hj => ⟨by rw [h.at_ j _ (List.getElem?_eq_getElem hj)]; rfl, h.free _⟩
theorem BOwn.lay {w : World} {b : Nat} {x y : Sb} (h : BOwn w b x) (hx : x.Ok) (hy : y.Ok) : BOwn (w.setCells b 0 (sbCells y)) b y :=
 ⟨World.rangeAt_setCells_same w b 0 _ (by rw [sbCells_length hy, ← sbCells_length hx]; exact h.there), fun j => by rw [World.frozen?_setCells]; exact h.free j⟩
theorem BOwn.other {w : World} {b c : Nat} {x : Sb} (h : BOwn w b x) (hc : c ≠ b) (o : Nat) (vs : List Value) : BOwn (w.setCells c o vs) b x :=
 ⟨fun j v hv => by rw [World.cell?_setCells_out c vs o w _ (fun e _ => absurd e.symm hc)]; exact h.at_ j v hv, fun j => by rw [World.frozen?_setCells]; exact h.free j⟩
theorem BOwn.put0 {w : World} {b : Nat} {x : Sb} (h : BOwn w b x) (g : Nat) : BOwn (w.setCell ⟨b, 0, none⟩ (.int .u32 (g : Int))) b ⟨g, x.root, x.used⟩ := by
 refine ⟨fun j v hv => ?_, fun j => by rw [World.frozen?_setCell]; exact h.free j⟩
 rw [Nat.zero_add]
 by_cases e : j = 0
 ·subst e
  have : v = .int .u32 (g : Int) := by simpa [sbCells] using hv.symm
  rw [this]
  exact World.cell?_setCell_same _ _ _ h.gen
 ·rw [World.cell?_setCell_other _ _ _ _ (by intro hh; injection hh; omega)]
  have := h.at_ j v (by cases j with | zero => exact absurd rfl e | succ j => simpa [sbCells] using hv)
  rwa [Nat.zero_add] at this
theorem BOwn.put1 {w : World} {b : Nat} {x : Sb} (h : BOwn w b x) (r : Int) : BOwn (w.setCell ⟨b, 1, none⟩ (.int .i64 r)) b ⟨x.gen, r, x.used⟩ := by
 refine ⟨fun j v hv => ?_, fun j => by rw [World.frozen?_setCell]; exact h.free j⟩
 rw [Nat.zero_add]
 by_cases e : j = 1
 ·subst e
  have : v = .int .i64 r := by simpa [sbCells] using hv.symm
  rw [this]
  exact World.cell?_setCell_same _ _ _ h.root
 ·rw [World.cell?_setCell_other _ _ _ _ (by intro hh; injection hh; omega)]
  have := h.at_ j v (by
   match j, e with
   | 0, _ => simpa [sbCells] using hv
   | j + 2, _ => simpa [sbCells] using hv)
  rwa [Nat.zero_add] at this
section
variable {T : TypeId} (hT : SbType T)
include hT
theorem loadSb {w : World} {b : Nat} {x : Sb} (h : w.rangeAt b 0 (sbCells x)) (hx : x.Ok) : (loadVar T ⟨b, 0, none⟩).run Tryz.prog w = .ok (sbV x) w := by
 obtain ⟨d, hu, hd⟩ := hT.und
 exact run_loadVar_mid w b 0 T (sbCells x) _ h hu hd (by rw [sbCells_length hx]; exact hT.size)
theorem wpList_load_sb {ops : Array Oper} {rest : List Oper} {op : Oper} {a : Act} {w : World} {Q : Exit → Act → World → Prop} (hw : Region.wanted op (yielded ops a.tmps) = true) (x : Operand) (ho : op.op = .load T x)
  (b : Nat) (hx : a.eval x = .pointer (some ⟨b, 0, none⟩)) (s : Sb) (hs : s.Ok) (hc : w.rangeAt b 0 (sbCells s))
  (h : wpList Tryz.prog ops Q rest (a.put op.dst (sbV s)) w) : wpList Tryz.prog ops Q (op :: rest) a w :=
 wpList_step fun _ hK => by
  obtain ⟨d, hu, hd⟩ := hT.und
  rw [if_pos hw]
  exact wp_load_mid T x ho b 0 hx (sbCells s) _ hc hu hd (by rw [sbCells_length hs]; exact hT.size) (hK _ _ h)
theorem wpList_store_sb {ops : Array Oper} {rest : List Oper} {op : Oper} {a : Act} {w : World} {Q : Exit → Act → World → Prop} (hgd : op.guard = none) (x y : Operand) (ho : op.op = .store T x y)
  (b : Nat) (s t : Sb) (hs : s.Ok) (ht : t.Ok) (hx : a.eval x = .pointer (some ⟨b, 0, none⟩)) (hy : a.eval y = sbV s) (hb : BOwn w b t)
  (h : ∀ w2, Hid (w2 = w.setCells b 0 (sbCells s)) → Hid (BOwn w2 b s) → wpList Tryz.prog ops Q rest (a.put op.dst undef) w2) : wpList Tryz.prog ops Q (op :: rest) a w :=
 wpList_store_mid hgd _ x y ho b 0 (sbArr s) hx hy (by rw [sbArr_size hs, ← sbCells_length ht]; exact hb.there) (by rw [sbArr_size hs]; exact hT.size) (sbArr_all s) (h _ (Hi rfl) (Hi (hb.lay ht hs)))
theorem wpList_build_sb0 {ops : Array Oper} {rest : List Oper} {o : Oper} {a : Act} {w : World} {Q : Exit → Act → World → Prop} (hgd : o.guard = none) (ho : o.op = .build T #[])
  (h : wpList Tryz.prog ops Q rest (a.put o.dst (sbV Sb.zero)) w) : wpList Tryz.prog ops Q (o :: rest) a w :=
 wpList_build_none hgd T ho (sbArr Sb.zero) hT.none_ h
theorem wpList_build_sb3 {ops : Array Oper} {rest : List Oper} {o : Oper} {a : Act} {w : World} {Q : Exit → Act → World → Prop} (hgd : o.guard = none) (x y z : Operand) (ho : o.op = .build T #[(0, x), (1, y), (2, z)]) (s : Sb) (hs : s.Ok)
  (hx : a.eval x = .int .u32 (s.gen : Int)) (hy : a.eval y = .int .i64 s.root) (hz : a.eval z = stV s.used)
  (h : wpList Tryz.prog ops Q rest (a.put o.dst (sbV s)) w) : wpList Tryz.prog ops Q (o :: rest) a w :=
 wpList_plain hgd fun _ hK => by
  have e : (#[(0, x), (1, y), (2, z)].map fun (i, x) => (i, a.eval x)).toList = [(0, .int .u32 (s.gen : Int)), (1, .int .i64 s.root), (2, stV s.used)] := by
   simp only [List.map_toArray, List.map_cons, List.map_nil, hx, hy, hz]
  exact wp_build T _ ho (by rw [e, hT.built hs]; rfl) (hK _ _ (by rw [e, hT.built hs]; exact h))
theorem results_sb2 {fn : Func} {p q : Tmp} (h : fn.results = #[.cell p T, .tmp q]) (tmps : Array Value) (w : World) (b : Nat) (x : Sb) (v : Value)
  (hp : tmps.getD p undef = .pointer (some ⟨b, 0, none⟩)) (hq : tmps.getD q undef = v) (hc : w.rangeAt b 0 (sbCells x)) (hx : x.Ok) : (results fn tmps).run Tryz.prog w = .ok (.tuple #[sbV x, v]) w := by
 have hp' : tmps[p]?.getD undef = .pointer (some ⟨b, 0, none⟩) := by simpa using hp
 rw [results_cell_tmp h, hp, hq]
 simp [asAddr, Result.andThen, loadSb hT hc hx]
end
theorem wpList_load_set_at {ops : Array Oper} {rest : List Oper} {op : Oper} {a : Act} {w : World} {Q : Exit → Act → World → Prop} (hw : Region.wanted op (yielded ops a.tmps) = true) (x : Operand) (ho : op.op = .load 63 x)
  (b o : Nat) (hx : a.eval x = .pointer (some ⟨b, o, none⟩)) (s : List Nat) (hl : s.length = 30) (hc : w.rangeAt b o (stCells s))
  (h : wpList Tryz.prog ops Q rest (a.put op.dst (stV s)) w) : wpList Tryz.prog ops Q (op :: rest) a w :=
 wpList_step fun _ hK => by
  rw [if_pos hw]
  exact wp_load_mid 63 x ho b o hx (stCells s) _ hc Tryz.underlying63 rfl (by rw [stCells_length, hl]; exact Tryz.setSize) (hK _ _ h)
end Go.Proofs.YtafclmbecmgbnaaGreatDoor

/-
 SbOf. Conditions: as each theorem says.
-/
namespace Go.Proofs.YtafclmbecmgbnaaGreatDoor
open Go.RowKit
theorem sectorOf_any (g : Nat) (hg : g < 4294967296) (w : World) : Calls Tryz.prog 133 #[.int .u32 (g : Int)] w fun e w' => e = .returned (.int .i64 ((g % 2 : Nat) : Int)) ∧ w = w' := by
 go_enter Tryz.func133, Tryz.ntmps133
 go_wp2
 go_ret
 exact ⟨ret_int (by omega), rfl⟩
theorem SbFault_any (c : Int) (hc : c ≠ 0) (w : World) : Calls Tryz.prog 92 #[.int .i64 c] w (FromPost c w.heap.size w) := by
 have H := Hi hc
 clear hc
 go_enter Tryz.func92, Tryz.ntmps92
 go_wp2_with fail
 refine (Tag_from _ w.heap.size c _ w (.inr ⟨H.out, .base⟩) (Nat.le_refl _)).mono ?_
 rintro e w' ⟨v, rfl, h1, h4⟩
 have H1 := Hi h1
 have H4 := Hi h4
 clear h1 h4
 go_wp2_with fail
 go_ret
 exact ⟨v, rfl, H1.out, H4.out⟩
end Go.Proofs.YtafclmbecmgbnaaGreatDoor

/-
 SbRight. Conditions: as each theorem says.
-/
namespace Go.Proofs.YtafclmbecmgbnaaGreatDoor
open Go.RowKit
theorem hasI_eq (s : List Nat) (n : Int) : hasI s n = hasZ s n := rfl
theorem rightB_low {x : Sb} {k : Nat} (hk : k < 2) (h : Bits.has x.used k = true) : rightB x = false := by
 unfold rightB
 obtain rfl | rfl : k = 0 ∨ k = 1 := by omega
 ·simp [h]
 ·simp [h]
theorem rightB_rest {x : Sb} (h : ∀ j, j < 2 → Bits.has x.used j = false) : rightB x = (decide (x.gen ≠ 0) && (decide (x.root = 0) || hasZ x.used x.root)) := by
 unfold rightB
 rw [h 0 (by decide), h 1 (by decide), hasI_eq]
 by_cases h2 : 2 ≤ x.root
 ·simp [h2]
 ·by_cases h0 : x.root = 0
  ·simp [h0]
  ·have : hasZ x.used x.root = false := by
    rcases Int.lt_or_le x.root 0 with hn | hn
    ·unfold hasZ isNum
     rw [decide_eq_false (by omega), Bool.false_and]
    ·obtain ⟨m, hm⟩ : ∃ m : Nat, x.root = m := ⟨x.root.toNat, by omega⟩
     rw [hm, hasZ_nat (by omega)]
     exact h m (by omega)
   simp [this, h0]
def RightRel (x : Sb) (b : Nat) (w : World) (i : Value) (wr : World) : Prop := ∃ k : Nat, k ≤ 2 ∧ i = .int .i64 (k : Int) ∧ (∀ j, j < k → Bits.has x.used j = false) ∧ BOwn wr b x ∧ Below w.heap.size w wr
set_option maxRecDepth 100000 in
theorem Right_any (x : Sb) (hx : x.Ok) (w : World) : Calls Tryz.prog 157 #[sbV x] w fun e w' => e = .returned (.bool (rightB x)) ∧ Below w.heap.size w w' := by
 have HX := Hi hx
 clear hx
 obtain ⟨b, HB⟩ : ∃ b, Hid (b = w.heap.size) := Hy
 obtain ⟨w1, HW⟩ : ∃ w1, Hid (w1 = w.alloc (.cells (sbArr x) 103)) := Hy
 have HO : Hid (BOwn w1 b x) := Hi (by rw [HW.out, HB.out]; exact BOwn.new _)
 have HBL : Hid (Below w.heap.size w w1) := Hi (by rw [HW.out]; exact (Below.refl _ _).alloc (Nat.le_refl _) _)
 have HH := Hi (Has_any x.used HX.out.used)
 go_enter Tryz.func157, Tryz.ntmps157
 go_upto_region 1 with (fail)
 rw [← HW.out, ← HB.out]
 go_wp2_with fail
 go_loopw [4] (fun i wr => RightRel x b w i wr) (fun i _ => 2 - (intOf i).toNat)
 case atStart => exact ⟨0, by decide, rfl, fun j hj => by omega, HO.out, HBL.out⟩
 case round =>
  obtain ⟨k, hk, rfl, hn, ho, hb⟩ := hrel
  have HN := Hi hn
  have HO2 := Hi ho
  have HB2 := Hi hb
  clear hn ho hb
  by_cases hlt : k < 2
  ·go_wp2_with (with_reducible refine stop_at (o := ⟨some 8, _, _, _, _, _⟩) ?_)
   refine wpList_load_set_at rfl _ rfl b 2 rfl x.used HX.out.used.len HO2.out.used ?_
   go_wp2_with fail
   refine (HH.out k _).mono ?_
   rw [hasZ_nat (by omega)]
   rintro e w2 ⟨rfl, hb⟩
   have HB3 := Hi hb
   clear hb
   cases hh : Bits.has x.used k with
   | true =>
    have HR := Hi (rightB_low hlt hh)
    go_wp2_with fail
    go_ret
    rw [HR.out]
    exact ⟨rfl, HB2.out.trans (HB3.out.mono HB2.out.size)⟩
   | false =>
    have HF := Hi hh
    clear hh
    go_wp2_with fail
    go_roundw
    case rel =>
     refine ⟨k + 1, hlt, by go_num, fun j hj => ?_, HO2.out.below HB3.out HO2.out.lt, HB2.out.trans (HB3.out.mono HB2.out.size)⟩
     by_cases e : j < k
     ·exact HN.out j e
     ·obtain rfl : j = k := by omega
      exact HF.out
    case measure => simp [intOf]; omega
  ·obtain rfl : k = 2 := by omega
   have HR := Hi (rightB_rest HN.out)
   have c0 := HO2.out.gen
   have c1 := HO2.out.root
   obtain ⟨g, HG⟩ : ∃ g, Hid (g = x.gen) := Hy
   obtain ⟨r, HRT⟩ : ∃ r, Hid (r = x.root) := Hy
   rw [← HG.out] at c0
   rw [← HRT.out] at c1
   rw [← HG.out, ← HRT.out] at HR
   by_cases hg : g = 0
   ·subst hg
    go_wp2_with fail
    go_ret
    rw [HR.out]
    exact ⟨rfl, HB2.out⟩
   ·have e1 : ((g : Int) == 0) = false := by simp; omega
    have e2 : ((g : Int) != 0) = true := by simp [bne, e1]
    have e3 : decide (g ≠ 0) = true := by simp [hg]
    rw [e3, Bool.true_and] at HR
    clear e3
    by_cases hr : r = 0
    ·subst hr
     go_wp2_with fail
     go_ret
     rw [HR.out]
     exact ⟨rfl, HB2.out⟩
    ·have e4 : (r == 0) = false := by simp [hr]
     have e5 : decide (r = 0) = false := by simp [hr]
     rw [e5, Bool.false_or] at HR
     clear e5 hg hr
     go_wp2_with (with_reducible refine stop_at (o := ⟨some 21, _, _, _, _, _⟩) ?_)
     refine wpList_load_set_at (by rfl) _ rfl b 2 rfl x.used HX.out.used.len HO2.out.used ?_
     go_wp2_with fail
     refine (HH.out r _).mono ?_
     rintro e w2 ⟨rfl, hb⟩
     have HB3 := Hi hb
     clear hb
     go_wp2_with fail
     go_ret
     rw [HR.out]
     exact ⟨rfl, HB2.out.trans (HB3.out.mono HB2.out.size)⟩
end Go.Proofs.YtafclmbecmgbnaaGreatDoor

/-
 SbLay. Conditions: as each theorem says.
-/
namespace Go.Proofs.YtafclmbecmgbnaaGreatDoor
open Go.RowKit
theorem stCells_pg {s : List Nat} (h : ∀ b ∈ s, b < 256) : stCells s = pgCells (pgB (setB s)) := by
 simp only [stCells, pgCells, pgB, setB, List.map_map]
 refine List.map_congr_left fun b hb => ?_
 have := h b hb
 show Value.int .u8 (b : Int) = Value.int .u8 ((UInt8.ofNat b).toNat : Int)
 rw [UInt8.toNat_ofNat', Nat.mod_eq_of_lt (by omega)]
theorem set_text {w : World} {b o n cap : Nat} {s : List Nat} (h : w.rangeAt b o (stCells s)) (hs : ∀ b ∈ s, b < 256) (hn : s.length = n) :
  (convert 75 9 (.slice (some ⟨b, o, none⟩) n cap)).run Tryz.prog w = .ok (.string ⟨(setB s).toArray⟩) w := by
 rw [stCells_pg hs] at h
 exact range_text h (by rw [setB_length, hn])
theorem nums_two {w : World} {a c : Int} (t : TypeId) : Nums (w.alloc (.cells #[.int .i64 a, .int .i64 c] t)) .i64 (some ⟨w.heap.size, 0, none⟩) [a, c] := fun _ => ⟨_, rfl, by simp, fun i z hz => by
 match i, hz with
 | 0, hz => simp at hz; simp [hz, Addr.add]
 | 1, hz => simp at hz; simp [hz, Addr.add]⟩
theorem wpList_two {ops : Array Oper} {rest : List Oper} {o : Oper} {a : Act} {w : World} {Q : Exit → Act → World → Prop} (hg : o.guard = none) (x y : Operand) (ho : o.op = .buildSlice 45 2 #[(0, x), (1, y)]) (m n : Int)
  (hx : a.eval x = .int .i64 m) (hy : a.eval y = .int .i64 n)
  (h : ∀ w2 B, Hid (B = w.heap.size) → Hid (Nums w2 .i64 (some ⟨B, 0, none⟩) [m, n]) → Hid (Below w.heap.size w w2) → wpList Tryz.prog ops Q rest (a.put o.dst (.slice (some ⟨B, 0, none⟩) 2 2)) w2) : wpList Tryz.prog ops Q (o :: rest) a w := by
 obtain ⟨i0, hi, hz0, hz1, _⟩ := info_parts Tryz.infoInt
 have hp : (#[(0, x), (1, y)].map fun (i, x) => (i, a.eval x)).toList = [(0, .int .i64 m), (1, .int .i64 n)] := by simp only [List.map_toArray, List.map_cons, List.map_nil, hx, hy]
 refine wpList_buildSlice hg 45 3 2 _ ho #[.int .i64 m, .int .i64 n] i0 (.int .i64 0) Tryz.underlying45 hi hz0 (by rw [hz1]; decide) (by rw [hz1]; decide) ?_ ?_
 ·rw [hp, hz1]
  exact Great.fill_flat [.int .i64 m, .int .i64 n] _ (fun v hv => by
   simp only [List.mem_cons, List.not_mem_nil, or_false] at hv
   rcases hv with rfl | rfl <;> rfl) (by simp)
 ·exact h _ _ (Hi rfl) (Hi (nums_two _)) (Hi ((Below.refl _ _).alloc (Nat.le_refl _) _))
theorem widths_super : Widths [4, 1] := ⟨by decide, by decide⟩
theorem fit_super {g r : Nat} (hg : g < 4294967296) (hr : r < 256) : FitAll [4, 1] [g, r] := fun i h1 h2 => by
 match i, h1, h2 with
 | 0, _, _ => exact hg
 | 1, _, _ => exact hr
theorem lays_super (g r : Nat) (u : List UInt8) : lays ([4, 1].zip [g, r]) ++ u = be 4 g ++ UInt8.ofNat r :: u := by
 have h0 : lays ([4, 1].zip [g, r]) = be 4 g ++ (be 1 r ++ lays []) := rfl
 have h1 : be 1 r = [UInt8.ofNat r] := by
  simp [be]
 rw [h0, h1]
 show (be 4 g ++ ([UInt8.ofNat r] ++ [])) ++ u = _
 simp
def SbLayPost (x : Sb) (w : World) (e : Ending) (w' : World) : Prop :=
 ∃ v, e = .returned (.tuple #[.string (if rightB x = true then ⟨(layS x).toArray⟩ else ⟨#[]⟩), v]) ∧ ErrFrom w' w.heap.size (if rightB x = true then 0 else 1) v ∧ Below w.heap.size w w'
set_option maxRecDepth 100000 in
theorem Lay_any (x : Sb) (hx : x.Ok) (w : World) : Calls Tryz.prog 131 #[sbV x] w (SbLayPost x w) := by
 have HX := Hi hx
 clear hx
 obtain ⟨b, HB⟩ : ∃ b, Hid (b = w.heap.size) := Hy
 obtain ⟨w1, HW⟩ : ∃ w1, Hid (w1 = w.alloc (.cells (sbArr x) 103)) := Hy
 have HO : Hid (BOwn w1 b x) := Hi (by rw [HW.out, HB.out]; exact BOwn.new _)
 have HBL : Hid (Below w.heap.size w w1) := Hi (by rw [HW.out]; exact (Below.refl _ _).alloc (Nat.le_refl _) _)
 go_enter Tryz.func131, Tryz.ntmps131
 go_upto_region 1 with (fail)
 rw [← HW.out, ← HB.out]
 clear HW
 go_wp2_with (with_reducible refine stop_at (o := ⟨some 6, _, _, _, _, _⟩) ?_)
 refine wpList_load_sb Tryz.sbProg rfl _ rfl b rfl x HX.out HO.out.at_ ?_
 go_wp2_with fail
 refine (Right_any x HX.out _).mono ?_
 rintro e w2 ⟨rfl, hb⟩
 have HO2 := Hi (HO.out.below hb HO.out.lt)
 have HB2 : Hid (Below w.heap.size w w2) := Hi (HBL.out.trans (hb.mono HBL.out.size))
 clear hb HO HBL
 cases hr : rightB x with
 | false =>
  have HR := Hi hr
  clear hr
  go_wp2_with fail
  refine (SbFault_any 1 (by decide) _).mono ?_
  rintro e w3 ⟨v, rfl, he, hb⟩
  have HE := Hi he
  have HB3 := Hi hb
  clear he hb
  go_wp2_with fail
  go_ret2
  refine ⟨v, by rw [HR.out]; rfl, ?_, HB2.out.trans (HB3.out.mono HB2.out.size)⟩
  rw [HR.out]
  exact HE.out.mono HB2.out.size
 | true =>
  have HR := Hi hr
  obtain ⟨r, hroot, hrlt⟩ := rightB_root hr
  have c0 := HO2.out.gen
  have c1 := HO2.out.root
  rw [hroot] at c1
  obtain ⟨g, HG⟩ : ∃ g, Hid (g = x.gen) := Hy
  rw [← HG.out] at c0
  have HRT := Hi hroot
  have hg : (g : Int) < 4294967296 := by have := HX.out.gen; rw [HG.out]; omega
  clear hr hroot
  go_wp2_with (with_reducible refine stop_at (o := ⟨some 11, _, _, _, _, _⟩) ?_)
  refine wpList_two rfl _ _ rfl 4 1 rfl rfl ?_
  intro w3 B3 HBE3 HN3 HBL3
  have HO3 := Hi (HO2.out.below HBL3.out HO2.out.lt)
  have c0 := HO3.out.gen
  have c1 := HO3.out.root
  rw [HRT.out] at c1
  rw [← HG.out] at c0
  have hcv : IntKind.i64.wrap (g : Int) = (g : Int) := IntWalk.i64_in _ (by omega)
  go_wp2_with (with_reducible refine stop_at (o := ⟨some 17, _, _, _, _, _⟩) ?_)
  refine wpList_two rfl _ _ rfl (g : Int) (r : Int) rfl rfl ?_
  intro w4 B4 HBE4 HN4 HBL4
  have HO4 := Hi (HO3.out.below HBL4.out HO3.out.lt)
  have HB4 : Hid (Below w.heap.size w w4) := Hi ((HB2.out.trans (HBL3.out.mono HB2.out.size)).trans (HBL4.out.mono (Nat.le_trans HB2.out.size HBL3.out.size)))
  have HN3' := Hi (HN3.out.carry HBL4.out)
  clear c0 c1 hcv
  go_wp2_with fail
  refine (Fields_yes [4, 1] [g, r] (some ⟨B3, 0, none⟩) (some ⟨B4, 0, none⟩) 2 2 w4 widths_super HN3'.out HN4.out rfl (fit_super (by omega) (by omega))).mono ?_
  rintro e w5 ⟨rfl, hb⟩
  have HO5 := Hi (HO4.out.below hb HO4.out.lt)
  have HB5 : Hid (Below w.heap.size w w5) := Hi (HB4.out.trans (hb.mono HB4.out.size))
  obtain ⟨t, HT⟩ : ∃ t, Hid (t = lays ([4, 1].zip [g, r])) := Hy
  rw [← HT.out]
  have hcv := set_text (cap := 30) HO5.out.used HX.out.used.small HX.out.used.len
  clear hb
  obtain ⟨p, HP⟩ : ∃ p : ByteArray, Hid (p = ⟨t.toArray⟩) := Hy
  obtain ⟨q, HQ⟩ : ∃ q : ByteArray, Hid (q = ⟨(setB x.used).toArray⟩) := Hy
  rw [← HP.out]
  rw [← HQ.out] at hcv
  have HL : Hid (t ++ setB x.used = layS x) := Hi (by rw [HT.out, lays_super, HG.out]; unfold layS; rw [HRT.out, Int.toNat_natCast])
  have hps : p.size ≤ 100 := by
   have := congrArg List.length HL.out
   rw [List.length_append, layS_length HX.out] at this
   rw [HP.out, toArr_size]
   omega
  have hqs : q.size ≤ 100 := by rw [HQ.out, toArr_size, setB_length, HX.out.used.len]; decide
  have hsum : p.size + q.size ≤ maxLen := by unfold maxLen; omega
  go_wp2_with fail
  go_ret2
  have hpq : p ++ q = ⟨(layS x).toArray⟩ := by
   apply ByteArray.ext
   apply Array.toList_inj.1
   rw [HP.out, HQ.out, ← HL.out]
   simp
  refine ⟨.nilIface, ?_, ?_, HB5.out⟩
  ·rw [HR.out, if_pos rfl, ← hpq]
   rfl
  ·rw [HR.out, if_pos rfl]
   exact .nil _ _
end Go.Proofs.YtafclmbecmgbnaaGreatDoor

/-
 SbRead. Conditions: as each theorem says.
-/
namespace Go.Proofs.YtafclmbecmgbnaaGreatDoor
open Go.RowKit
def SbReadPost (s : ByteArray) (w : World) (e : Ending) (w' : World) : Prop :=
 ∃ v, e = .returned (.tuple #[sbV ((readS s.data.toList).getD Sb.zero), v]) ∧ ErrFrom w' w.heap.size (if (readS s.data.toList).isSome = true then 0 else 2) v ∧ Below w.heap.size w w'
theorem SbReadPost.fault {s : ByteArray} {w w1 : World} {e : Ending} {v : Value} (hn : readS s.data.toList = none) (he : e = .returned (.tuple #[sbV Sb.zero, v])) (h2 : ErrFrom w1 w.heap.size 2 v) (hb : Below w.heap.size w w1) : SbReadPost s w e w1 :=
 ⟨v, by rw [hn]; exact he, by rw [hn]; exact h2, hb⟩
theorem readS_long {l : List UInt8} (h : l.length ≠ 35) : readS l = none := by
 unfold readS
 rw [if_neg (fun hh => h hh.1)]
theorem readS_35 {l : List UInt8} (h : l.length = 35) : readS l = if rightB (ofS l) = true then some (ofS l) else none := by
 unfold readS
 by_cases hr : rightB (ofS l) = true
 ·rw [if_pos ⟨h, hr⟩, if_pos hr]
 ·rw [if_neg (fun hh => hr hh.2), if_neg hr]
theorem splits_super (l : List UInt8) (h : l.length = 35) : splits [4, 1] (l.take 5) = [num (l.take 4), (l.getD 4 0).toNat] := by
 match l, h with
 | a :: b :: c :: d :: e :: r, _ => simp [splits, num]
structure RdSt (w wi : World) (b : Nat) (x : Sb) : Prop where
 res : BOwn wi b Sb.zero
 own : BOwn wi (b + 1) x
 below : Below w.heap.size w wi
 at_ : b = w.heap.size
theorem RdSt.carry {w wi wj : World} {b : Nat} {x : Sb} (h : RdSt w wi b x) (hb : Below wi.heap.size wi wj) : RdSt w wj b x :=
 ⟨h.res.below hb h.res.lt, h.own.below hb h.own.lt, h.below.trans (hb.mono h.below.size), h.at_⟩
theorem RdSt.drew {w wi : World} {b : Nat} {x : Sb} (h : RdSt w wi b x) : RdSt w wi.drew b x := ⟨h.res.drew, h.own.drew, h.below.drew, h.at_⟩
theorem BOwn.there2 {w : World} {b n : Nat} {x : Sb} (h : BOwn w b x) (hx : x.used.length = n) : w.there b 2 n := fun j hj => ⟨by rw [h.used j _ (List.getElem?_eq_getElem (by rw [stCells_length, hx]; exact hj))]; rfl, h.free _⟩
theorem BOwn.copy {w w2 : World} {b : Nat} {x : Sb} {u : List UInt8} (h : BOwn w b x) (hx : x.Ok) (hu : u.length = 30) (hw : w2 = w.setCells b 2 (pgCells (pgB u))) : BOwn w2 b ⟨x.gen, x.root, u.map UInt8.toNat⟩ := by
 subst hw
 refine ⟨fun j v hv => ?_, fun j => by rw [World.frozen?_setCells]; exact h.free j⟩
 rw [Nat.zero_add]
 have hlen : (pgCells (pgB u)).length = 30 := by rw [pgCells_len, hu]
 match j, hv with
 | 0, hv =>
  rw [World.cell?_setCells_out b _ _ _ _ (fun _ _ => .inl (by show 0 < 2; decide))]
  have : v = .int .u32 (x.gen : Int) := by simpa [sbCells] using hv.symm
  rw [this]
  exact h.gen
 | 1, hv =>
  rw [World.cell?_setCells_out b _ _ _ _ (fun _ _ => .inl (by show 1 < 2; decide))]
  have : v = .int .i64 x.root := by simpa [sbCells] using hv.symm
  rw [this]
  exact h.root
 | j + 2, hv =>
  have hv' : (pgCells (pgB u))[j]? = some v := by
   have : (stCells (u.map UInt8.toNat))[j]? = some v := by simpa [sbCells] using hv
   rw [← this]
   simp [stCells, pgCells, pgB]
   rfl
  have hj : j < 30 := by have := (List.getElem?_eq_some_iff.1 hv').1; omega
  have hin := World.cell?_setCells_in b (pgCells (pgB u)) 2 w (fun i hi => by
   have := h.used i ((stCells x.used)[i]'(by rw [stCells_length, hx.used.len]; omega)) (List.getElem?_eq_getElem _)
   rw [this]; rfl) j (by omega)
  rw [show j + 2 = 2 + j by omega, hin]
  rw [List.getElem?_eq_getElem (by omega)] at hv'
  exact hv'
theorem ErrFrom.lay {w w2 : World} {lo b o : Nat} {c : Int} {v : Value} {vs : List Value} (h : ErrFrom w lo c v) (hw : w2 = w.setCells b o vs) (hb : b < lo) : ErrFrom w2 lo c v :=
 h.carry (below_cells_of (B := 0) ⟨rfl, rfl, rfl, Nat.le_refl _, fun _ h => absurd h (Nat.not_lt_zero _)⟩ hw (Nat.zero_le _)).size fun k hk _ => by
  subst hw
  exact setCells_block b (by omega) _ _ _
theorem RdSt.new (w : World) (t : TypeId) : RdSt w ((w.alloc (.cells (sbArr Sb.zero) t)).alloc (.cells (sbArr Sb.zero) t)) w.heap.size Sb.zero :=
 ⟨(BOwn.new _).below ((Below.refl _ _).alloc (Nat.le_refl _) _) (by simp), by have := BOwn.new (w := w.alloc (.cells (sbArr Sb.zero) t)) (x := Sb.zero) t; simpa using this,
  ((Below.refl _ _).alloc (Nat.le_refl _) _).alloc (by simp) _, rfl⟩
set_option maxRecDepth 100000 in
theorem SbRead_long (s : ByteArray) (hs : s.size ≠ 35) (w : World) : Calls Tryz.prog 128 #[.string s] w (SbReadPost s w) := by
 have HN := Hi (readS_long (l := s.data.toList) (by rw [lenS]; exact hs))
 have hne : ((s.size : Int) != 35) = true := by simp; omega
 clear hs
 have hz := Tryz.sbProg.zero
 obtain ⟨b, HB⟩ : ∃ b, Hid (b = w.heap.size) := Hy
 obtain ⟨w1, HW⟩ : ∃ w1, Hid (w1 = (w.alloc (.cells (sbArr Sb.zero) 103)).alloc (.cells (sbArr Sb.zero) 103)) := Hy
 have HST : Hid (RdSt w w1 b Sb.zero) := Hi (by rw [HW.out, HB.out]; exact RdSt.new w _)
 go_enter Tryz.func128, Tryz.ntmps128
 go_upto_region 2 with (fail)
 rw [← HW.out, ← HB.out]
 clear HW
 go_wp2_with (with_reducible refine stop_at (o := ⟨some 10, _, _, _, _, _⟩) ?_)
 refine wpList_build_sb0 Tryz.sbProg rfl rfl ?_
 go_wp2_with fail
 refine (SbFault_any 2 (by decide) _).mono ?_
 rintro e w3 ⟨v, rfl, he, hb⟩
 have HE := Hi he
 have HST3 := Hi (HST.out.carry hb)
 have HBB := Hi hb
 clear he hb
 go_wp2_with (with_reducible refine stop_at (o := ⟨none, _, _, _, _, _⟩) ?_)
 refine wpList_store_sb Tryz.sbProg rfl _ _ rfl b Sb.zero Sb.zero Sb.Ok.zero Sb.Ok.zero rfl rfl HST3.out.res ?_
 intro w4 HW4 HO4
 go_wp2_with fail
 have hb4 := below_cells_of HST3.out.below HW4.out (by rw [HB.out]; exact Nat.le_refl _)
 exact bodyPost_ret (results_sb2 Tryz.sbProg rfl _ _ b Sb.zero v rfl rfl HO4.out.at_ Sb.Ok.zero) rfl (SbReadPost.fault HN.out rfl ((HE.out.lay HW4.out HST.out.res.lt).mono HST.out.below.size) hb4)
theorem RdSt.one {w wi wj : World} {b : Nat} {x y : Sb} (h : RdSt w wi b x) (hw : ∃ j v, wj = wi.setCell ⟨b + 1, j, none⟩ v) (hy : BOwn wj (b + 1) y) : RdSt w wj b y := by
 obtain ⟨j, v, rfl⟩ := hw
 exact ⟨⟨fun i u hu => by rw [World.cell?_setCell_other _ _ _ _ (by intro hh; injection hh; omega)]; exact h.res.at_ i u hu, fun i => by rw [World.frozen?_setCell]; exact h.res.free i⟩, hy, h.below.setCell (by show w.heap.size ≤ b + 1; rw [h.at_]; omega) _, h.at_⟩
set_option maxRecDepth 100000 in
set_option maxHeartbeats 2000000 in
theorem SbRead_35 (s : ByteArray) (hs : s.size = 35) (w : World) : Calls Tryz.prog 128 #[.string s] w (SbReadPost s w) := by
 have hl35 : s.data.toList.length = 35 := by rw [lenS]; exact hs
 have HN := Hi (readS_35 hl35)
 have HOK := Hi (ofS_ok hl35)
 have HSP := Hi (splits_super _ hl35)
 have hne : ((s.size : Int) != 35) = false := by simp; omega
 have hz := Tryz.sbProg.zero
 obtain ⟨l, HLL⟩ : ∃ l, Hid (l = s.data.toList) := Hy
 obtain ⟨b, HB⟩ : ∃ b, Hid (b = w.heap.size) := Hy
 obtain ⟨w1, HW⟩ : ∃ w1, Hid (w1 = (w.alloc (.cells (sbArr Sb.zero) 103)).alloc (.cells (sbArr Sb.zero) 103)) := Hy
 have HST : Hid (RdSt w w1 b Sb.zero) := Hi (by rw [HW.out, HB.out]; exact RdSt.new w _)
 obtain ⟨x, HX⟩ : ∃ x, Hid (x = ofS s.data.toList) := Hy
 rw [← HX.out] at HN HOK
 go_enter Tryz.func128, Tryz.ntmps128
 go_upto_region 2 with (fail)
 rw [← HW.out, ← HB.out]
 clear HW
 go_wp2_with (with_reducible refine stop_at (o := ⟨some 13, _, _, _, _, _⟩) ?_)
 refine wpList_two rfl _ _ rfl 4 1 rfl rfl ?_
 intro w2 B2 HBE2 HN2 HBL2
 have HST2 := Hi (HST.out.carry HBL2.out)
 have hs5 : (5 : Int) ≤ (s.size : Int) := by omega
 obtain ⟨u, HU⟩ : ∃ u : ByteArray, Hid (u = s.extract 0 5) := Hy
 have HUL : Hid (u.data.toList = s.data.toList.take 5) := Hi (by rw [HU.out, extract_head])
 have HUS : Hid (u.size = 5) := Hi (by rw [← lenS, HUL.out, List.length_take, hl35]; decide)
 have hu : s.extract 0 5 = u := HU.out.symm
 go_wp2_with fail
 refine (Parse_own [4, 1] u (some ⟨B2, 0, none⟩) 2 w2 widths_super HN2.out HUS.out).mono ?_
 rw [HUL.out, HSP.out]
 rintro e w3 ⟨g, cap, hg, rfl, hn, hb⟩
 obtain ⟨m, HM⟩ : ∃ m, Hid (m = num (s.data.toList.take 4)) := Hy
 obtain ⟨r, HR⟩ : ∃ r, Hid (r = (s.data.toList.getD 4 0).toNat) := Hy
 rw [← HM.out, ← HR.out] at hn
 have HST3 := Hi (HST2.out.carry hb)
 have HG := Hi (Nat.lt_of_lt_of_le HST2.out.own.lt hg)
 obtain ⟨_, e1, c0⟩ := hn.at_ (i := 0) (z := (m : Int)) rfl
 obtain rfl := Option.some.inj e1
 obtain ⟨_, e2, c1⟩ := hn.at_ (i := 1) (z := (r : Int)) rfl
 obtain rfl := Option.some.inj e2
 have hm : m < 4294967296 := by rw [HM.out]; exact num_take_lt _ 4
 have hcv : IntKind.u32.wrap (m : Int) = (m : Int) := by
  show (m : Int) % 4294967296 = _
  omega
 have c0' : w3.cell? ⟨g, 0, none⟩ = some (.int .i64 (m : Int)) := c0
 have c1' : w3.cell? ⟨g, 1, none⟩ = some (.int .i64 (r : Int)) := c1
 have d0 := HST3.out.own.gen
 have d1 := HST3.out.own.root
 have f0 := HST3.out.own.free 0
 have f1 := HST3.out.own.free 1
 have hgb : g ≠ b + 1 := by have := HG.out; omega
 have hgb' : b + 1 ≠ g := by omega
 clear hn hb hg e1 e2 c0 c1
 go_upto_region 7 with (fail)
 go_cut [] (fun wx => Hid (RdSt w wx b ⟨m, r, zeroSt⟩))
 case first =>
  go_region_law (fail)
  all_goals
   go_wp2_with fail
   go_meet
   refine Hi (RdSt.drew ?_)
   exact (HST3.out.one ⟨_, _, rfl⟩ (HST3.out.own.put0 m)).one ⟨_, _, rfl⟩ ((HST3.out.own.put0 m).put1 (r : Int))
 case rest =>
  have HST4 := hcut
  have hs35 : s.size = 35 := hs
  obtain ⟨t, HT⟩ : ∃ t : ByteArray, Hid (t = s.extract 5 s.size) := Hy
  have HTL : Hid (t.data.toList = s.data.toList.drop 5) := Hi (by
   rw [HT.out, extract_list, List.take_of_length_le (by rw [List.length_drop, hl35, hs35]; decide)])
  have HTS : Hid ((s.data.toList.drop 5).length = 30) := Hi (by rw [List.length_drop, hl35])
  have ht : s.extract 5 35 = t := by rw [HT.out, hs35]
  clear hcut HST3 HST2 HST c0' c1' d0 d1 f0 f1 hgb hgb' hcv hu
  go_wp2_with fail
  refine wp_region_held (S := fun _ => True) (by kernel_rfl) ?_
  change wpAnyH _ _ _ _ _ _ _ _ wc.drew
  obtain ⟨w5, HW⟩ : ∃ w1, Hid (w1 = wc.drew) := Hy
  rw [← HW.out]
  have HST5 := Hi (HST4.out.drew)
  rw [← HW.out] at HST5
  clear HW HST4
  refine takeK (i := 0) 33 (v := .pointer (some ⟨b + 1, 2, none⟩)) rfl rfl trivial ?_
  simp only [Act.put, pU]
  refine takeK (i := 1) 34 (v := Value.slice (some ⟨b + 1, 2, none⟩) 30 30) rfl rfl trivial ?_
  simp only [Act.put, pU]
  refine takeK (i := 2) 35 (v := .string s) rfl rfl trivial ?_
  simp only [Act.put, pU]
  refine takeK (i := 3) 36 (v := .string t) rfl rfl trivial ?_
  simp only [Act.put, pU]
  refine oneH (i := 4) (oi := ⟨some 37, _, _, _, _, _⟩) rfl (by kernel_rfl) (fun K hK => ?_)
  refine step_copy_text (by rfl) _ _ _ _ rfl 5 Tryz.underlying75 sizeOne (b + 1) 2 30 30 rfl (s.data.toList.drop 5) t HTL.out rfl (by rw [HTS.out]; decide) (by rw [HTS.out]; exact HST5.out.own.there2 zeroSt_length) (fun w6 HW => ?_)
  refine hK.out _ _ trivial ?_
  clear hK K
  simp only [Act.put, pU]
  have HX2 : Hid (x = ⟨m, r, (s.data.toList.drop 5).map UInt8.toNat⟩) := Hi (by rw [HX.out, HM.out, HR.out]; rfl)
  have HST6 : Hid (RdSt w w6 b x) := Hi (by
   rw [HX2.out]
   exact ⟨by rw [HW.out]; exact HST5.out.res.other (by omega) _ _, HST5.out.own.copy ⟨hm, zeroSt_ok⟩ HTS.out HW.out, below_cells_of HST5.out.below HW.out (by rw [HST5.out.at_]; omega), HST5.out.at_⟩)
  clear HW HST5
  refine wpAnyH_done (by kernel_rfl) ?_ _
  go_wp2_with (with_reducible refine stop_at (o := ⟨some 38, _, _, _, _, _⟩) ?_)
  refine wpList_load_sb Tryz.sbProg rfl _ rfl (b + 1) rfl x HOK.out HST6.out.own.at_ ?_
  go_wp2_with fail
  refine (Right_any x HOK.out _).mono ?_
  rintro e w7 ⟨rfl, hb⟩
  have HST7 := Hi (HST6.out.carry hb)
  clear hb HST6
  cases hr : rightB x with
  | false =>
   have HN2 : Hid (readS s.data.toList = none) := Hi (by rw [HN.out, hr]; rfl)
   clear hr
   go_wp2_with (with_reducible refine stop_at (o := ⟨some 41, _, _, _, _, _⟩) ?_)
   refine wpList_build_sb0 Tryz.sbProg rfl rfl ?_
   go_wp2_with fail
   refine (SbFault_any 2 (by decide) _).mono ?_
   rintro e w8 ⟨v, rfl, he, hb⟩
   have HE := Hi he
   have HST8 := Hi (HST7.out.carry hb)
   clear he hb
   go_wp2_with (with_reducible refine stop_at (o := ⟨none, _, _, _, _, _⟩) ?_)
   refine wpList_store_sb Tryz.sbProg rfl _ _ rfl b Sb.zero Sb.zero Sb.Ok.zero Sb.Ok.zero rfl rfl HST8.out.res ?_
   intro w9 HW9 HO9
   go_wp2_with fail
   have hb9 := below_cells_of HST8.out.below HW9.out (by rw [HB.out]; exact Nat.le_refl _)
   exact bodyPost_ret (results_sb2 Tryz.sbProg rfl _ _ b Sb.zero v rfl rfl HO9.out.at_ Sb.Ok.zero) rfl (SbReadPost.fault HN2.out rfl ((HE.out.lay HW9.out HST7.out.res.lt).mono HST7.out.below.size) hb9)
  | true =>
   have HN2 : Hid (readS s.data.toList = some x) := Hi (by rw [HN.out, hr]; rfl)
   clear hr
   go_wp2_with (with_reducible refine stop_at (o := ⟨some 43, _, _, _, _, _⟩) ?_)
   refine wpList_load_sb Tryz.sbProg rfl _ rfl (b + 1) rfl x HOK.out HST7.out.own.at_ ?_
   refine wpList_store_sb Tryz.sbProg rfl _ _ rfl b x Sb.zero HOK.out Sb.Ok.zero rfl rfl HST7.out.res ?_
   intro w9 HW9 HO9
   go_wp2_with fail
   have hb9 := below_cells_of HST7.out.below HW9.out (by rw [HB.out]; exact Nat.le_refl _)
   refine bodyPost_ret (results_sb2 Tryz.sbProg rfl _ _ b x .nilIface rfl rfl HO9.out.at_ HOK.out) rfl ⟨.nilIface, by rw [HN2.out]; rfl, ?_, hb9⟩
   rw [HN2.out]
   exact .nil _ _
theorem SbRead_any (s : ByteArray) (w : World) : Calls Tryz.prog 128 #[.string s] w (SbReadPost s w) := by
 by_cases hs : s.size = 35
 ·exact SbRead_35 s hs w
 ·exact SbRead_long s hs w
end Go.Proofs.YtafclmbecmgbnaaGreatDoor

/-
 SbDisk. Conditions: as each theorem says.
-/
namespace Go.Proofs.YtafclmbecmgbnaaGreatDoor
open Go.RowKit
def SbLoadPost (l : List UInt8) (w : World) (e : Ending) (w' : World) : Prop :=
 ∃ c v, e = .returned (.tuple #[sbV ((sbOf l).getD Sb.zero), v]) ∧ ErrFrom w' w.heap.size c v ∧ (c = 0 ↔ (sbOf l).isSome = true) ∧ Below w.heap.size w w'
theorem codeLd_ok {l : List UInt8} (h : codeLd 0 1 l = 0) : codeB l = 0 ∧ kB l = 1 := by
 unfold codeLd at h
 rw [if_neg (by decide)] at h
 split at h
 ·rename_i h1; exact absurd h h1
 ·rename_i h1
  split at h
  ·rename_i h2
   refine ⟨Decidable.not_not.1 h1, ?_⟩
   rw [← UInt8.toNat_inj]
   show (kB l).toNat = 1
   omega
  ·cases h
theorem codeLd_no {l : List UInt8} (h : codeLd 0 1 l ≠ 0) : sbOf l = none := by
 unfold sbOf
 rw [if_neg]
 rintro ⟨h1, h2⟩
 apply h
 unfold codeLd
 rw [if_neg (by decide), if_neg (by rw [h1]; decide), if_pos (by rw [h2]; rfl)]
theorem dArr (l : List UInt8) : (⟨l.toArray⟩ : ByteArray).data.toList = l := by simp
set_option maxRecDepth 100000 in
theorem SbLoad_any {K : Nat → Prop} {D n : Nat} {d : Dk} {w : World} (h : DiskAt K w D n d) (i : Nat) (hc : codeZ d.down n i = 0) (l : List UInt8) (hl : l.length = 128) (hp : pgAt d.seen i = pgB l) (hg : LaidCrc w) :
  Calls Tryz.prog 93 #[.pointer (some ⟨D, 0, none⟩), .int .i64 i] w (SbLoadPost l w) := by
 have hz := Tryz.sbProg.zero
 obtain ⟨b, HB⟩ : ∃ b, Hid (b = w.heap.size) := Hy
 obtain ⟨w1, HW⟩ : ∃ w1, Hid (w1 = w.alloc (.cells (sbArr Sb.zero) 103)) := Hy
 have HO : Hid (BOwn w1 b Sb.zero) := Hi (by rw [HW.out, HB.out]; exact BOwn.new _)
 have HBL : Hid (Below w.heap.size w w1) := Hi (by rw [HW.out]; exact (Below.refl _ _).alloc (Nat.le_refl _) _)
 have hF := FrLoad_any (h.carry HBL.out) (i : Int) 1 l hl (fun _ => hp) (hg.carry HBL.out)
 rw [hc] at hF
 have HF := Hi hF
 clear hF h hc hl hp hg
 go_enter Tryz.func93, Tryz.ntmps93
 go_upto_region 1 with (fail)
 rw [← HW.out, ← HB.out]
 clear HW
 go_wp2_with fail
 refine HF.out.mono ?_
 rintro e w2 ⟨v, rfl, he, hb⟩
 have HO2 := Hi (HO.out.below hb HO.out.lt)
 have HB2 : Hid (Below w.heap.size w w2) := Hi (HBL.out.trans (hb.mono HBL.out.size))
 have HS2 := Hi hb.size
 by_cases hc : codeLd 0 1 l = 0
 ·rw [if_pos hc]
  rw [hc] at he
  obtain rfl := he.zero
  obtain ⟨h1, h2⟩ := codeLd_ok hc
  have HS : Hid (sbOf l = readS (dB l)) := Hi (by unfold sbOf; rw [if_pos ⟨h1, h2⟩])
  obtain ⟨s, HSS⟩ : ∃ s : ByteArray, Hid (s = ⟨(dB l).toArray⟩) := Hy
  have HL : Hid (s.data.toList = dB l) := Hi (by rw [HSS.out, dArr])
  rw [← HSS.out]
  clear he hb hc h1 h2
  go_wp2_with fail
  refine (SbRead_any s w2).mono ?_
  rintro e w3 ⟨v, rfl, he, hb⟩
  rw [HL.out, ← HS.out] at he ⊢
  obtain ⟨o, HOO⟩ : ∃ o, Hid (o = sbOf l) := Hy
  rw [← HOO.out] at he ⊢
  have HX : Hid ((o.getD Sb.zero).Ok) := Hi (by
   cases ho : o with
   | none => exact Sb.Ok.zero
   | some x => exact (sbOf_some (by rw [← HOO.out]; exact ho)).1)
  have HE := Hi he
  have HO3 := Hi (HO2.out.below hb HO2.out.lt)
  have HB3 : Hid (Below w.heap.size w w3) := Hi (HB2.out.trans (hb.mono HB2.out.size))
  obtain ⟨x, HXX⟩ : ∃ x, Hid (x = o.getD Sb.zero) := Hy
  rw [← HXX.out] at HX ⊢
  clear he hb
  go_wp2_with (with_reducible refine stop_at (o := ⟨none, _, _, _, _, _⟩) ?_)
  refine wpList_store_sb Tryz.sbProg rfl _ _ rfl b x Sb.zero HX.out Sb.Ok.zero rfl rfl HO3.out ?_
  intro w4 HW4 HO4
  go_wp2_with fail
  have hb4 := below_cells_of HB3.out HW4.out (by rw [HB.out]; exact Nat.le_refl _)
  refine bodyPost_ret (results_sb2 Tryz.sbProg rfl _ _ b x v rfl rfl HO4.out.at_ HX.out) rfl ⟨_, v, by rw [← HOO.out, ← HXX.out], (HE.out.lay HW4.out HO2.out.lt).mono HB2.out.size, ?_, hb4⟩
  rw [← HOO.out]
  cases o <;> simp
 ·have HC := Hi hc
  have HN := Hi (codeLd_no hc)
  have HE := Hi he
  obtain ⟨t, x, rfl⟩ := he.some hc
  rw [if_neg hc]
  clear he hb hc
  go_wp2_with (with_reducible refine stop_at (o := ⟨some 16, _, _, _, _, _⟩) ?_)
  refine wpList_build_sb0 Tryz.sbProg rfl rfl ?_
  go_wp2_with fail
  refine (Tag_from _ w1.heap.size _ _ w2 HE.out HS2.out).mono ?_
  rintro e w3 ⟨v, rfl, he, hb⟩
  have HE3 := Hi he
  have HO3 := Hi (HO2.out.below hb HO2.out.lt)
  have HB3 : Hid (Below w.heap.size w w3) := Hi (HB2.out.trans (hb.mono HB2.out.size))
  clear he hb
  go_wp2_with (with_reducible refine stop_at (o := ⟨none, _, _, _, _, _⟩) ?_)
  refine wpList_store_sb Tryz.sbProg rfl _ _ rfl b Sb.zero Sb.zero Sb.Ok.zero Sb.Ok.zero rfl rfl HO3.out ?_
  intro w4 HW4 HO4
  go_wp2_with fail
  have hb4 := below_cells_of HB3.out HW4.out (by rw [HB.out]; exact Nat.le_refl _)
  exact bodyPost_ret (results_sb2 Tryz.sbProg rfl _ _ b Sb.zero v rfl rfl HO4.out.at_ Sb.Ok.zero) rfl ⟨_, v, by rw [HN.out]; rfl, (HE3.out.lay HW4.out HO.out.lt).mono HBL.out.size, by rw [HN.out]; exact ⟨fun h => absurd h HC.out, fun h => by cases h⟩, hb4⟩
def BestPost (c : Int) (o : Option Sb) (w : World) (e : Ending) (w' : World) : Prop :=
 ∃ v, e = .returned (.tuple #[sbV (o.getD Sb.zero), v]) ∧ ErrFrom w' w.heap.size c v ∧ Below w.heap.size w w'
set_option maxRecDepth 100000 in
theorem Best_down {K : Nat → Prop} {D n : Nat} {d : Dk} {w : World} (h : DiskAt K w D n d) (hd : d.down = true) : Calls Tryz.prog 52 #[.pointer (some ⟨D, 0, none⟩)] w (BestPost 7 none w) := by
 have hz := Tryz.sbProg.zero
 have hz2 := Tryz.zeroPage
 obtain ⟨b, HB⟩ : ∃ b, Hid (b = w.heap.size) := Hy
 obtain ⟨w1, HW⟩ : ∃ w1, Hid (w1 = w.alloc (.cells (sbArr Sb.zero) 103)) := Hy
 have HO : Hid (BOwn w1 b Sb.zero) := Hi (by rw [HW.out, HB.out]; exact BOwn.new _)
 have HBL : Hid (Below w.heap.size w w1) := Hi (by rw [HW.out]; exact (Below.refl _ _).alloc (Nat.le_refl _) _)
 have hr := Read_any (h.carry HBL.out) 0
 have hc : codeZ d.down n 0 = 7 := by unfold codeZ; rw [if_pos hd]
 rw [hc, if_neg (by decide)] at hr
 have HR := Hi hr
 clear hr hc h hd
 go_enter Tryz.func52, Tryz.ntmps52
 go_upto_region 1 with (fail)
 rw [← HW.out, ← HB.out]
 clear HW
 go_wp2_with fail
 refine HR.out.mono ?_
 rintro e w2 ⟨v, rfl, he, hb⟩
 obtain ⟨t, x, rfl⟩ := he.some (by decide)
 have HE := Hi he.from_
 have HO2 := Hi (HO.out.below hb HO.out.lt)
 have HB2 : Hid (Below w.heap.size w w2) := Hi (HBL.out.trans (hb.mono HBL.out.size))
 have HS2 := Hi hb.size
 clear he hb HR
 go_wp2_with (with_reducible refine stop_at (o := ⟨none, _, _, _, _, _⟩) ?_)
 refine wpList_store_last rfl _ _ _ rfl (pgArr zeroPg) (pgArr zeroPg) _ rfl rfl rfl (by rw [pgArr_size, zeroPg_length]; exact Tryz.pageSize) rfl (pgArr_all _) ?_
 obtain ⟨w3, HW⟩ : ∃ w3, Hid (w3 = w2.alloc (.cells (pgArr zeroPg) 87)) := Hy
 rw [← HW.out]
 have hb3 : Below w2.heap.size w2 w3 := by rw [HW.out]; exact (Below.refl _ _).alloc (Nat.le_refl _) _
 have HO3 := Hi (HO2.out.below hb3 HO2.out.lt)
 have HB3 : Hid (Below w.heap.size w w3) := Hi (HB2.out.trans (hb3.mono HB2.out.size))
 have HE3 := Hi (HE.out.below hb3)
 have HS3 := Hi (Nat.le_trans HS2.out hb3.size)
 clear hb3 HW HE
 go_wp2_with (with_reducible refine stop_at (o := ⟨some 17, _, _, _, _, _⟩) ?_)
 refine wpList_build_sb0 Tryz.sbProg rfl rfl ?_
 go_wp2_with fail
 refine (Tag_from _ w1.heap.size _ _ w3 HE3.out HS3.out).mono ?_
 rintro e w4 ⟨v, rfl, he, hb⟩
 have HE4 := Hi he
 have HO4 := Hi (HO3.out.below hb HO3.out.lt)
 have HB4 : Hid (Below w.heap.size w w4) := Hi (HB3.out.trans (hb.mono HB3.out.size))
 clear he hb
 go_wp2_with (with_reducible refine stop_at (o := ⟨none, _, _, _, _, _⟩) ?_)
 refine wpList_store_sb Tryz.sbProg rfl _ _ rfl b Sb.zero Sb.zero Sb.Ok.zero Sb.Ok.zero rfl rfl HO4.out ?_
 intro w5 HW5 HO5
 go_wp2_with fail
 have hb5 := below_cells_of HB4.out HW5.out (by rw [HB.out]; exact Nat.le_refl _)
 exact bodyPost_ret (results_sb2 Tryz.sbProg rfl _ _ b Sb.zero v rfl rfl HO5.out.at_ Sb.Ok.zero) rfl ⟨v, rfl, (HE4.out.lay HW5.out HO.out.lt).mono HBL.out.size, hb5⟩
end Go.Proofs.YtafclmbecmgbnaaGreatDoor

/-
 SbBest. Conditions: as each theorem says.
-/
namespace Go.Proofs.YtafclmbecmgbnaaGreatDoor
open Go.RowKit
def bestK (a b : List UInt8) : Nat → Sb
 | 0 => Sb.zero
 | 1 => (sbOf a).getD Sb.zero
 | _ => (best (sbOf a) (sbOf b)).getD Sb.zero
theorem getD_ok {l : List UInt8} : ((sbOf l).getD Sb.zero).Ok := by
 cases h : sbOf l with
 | none => exact Sb.Ok.zero
 | some x => exact (sbOf_some h).1
theorem best_ok {a b : List UInt8} {x : Sb} (h : best (sbOf a) (sbOf b) = some x) : x.Ok ∧ rightB x = true := by
 rcases best_some h with h | h
 ·exact sbOf_some h
 ·exact sbOf_some h
theorem bestK_ok (a b : List UInt8) (k : Nat) : (bestK a b k).Ok := by
 match k with
 | 0 => exact Sb.Ok.zero
 | 1 => exact getD_ok
 | k + 2 =>
  show ((best (sbOf a) (sbOf b)).getD Sb.zero).Ok
  cases h : best (sbOf a) (sbOf b) with
  | none => exact Sb.Ok.zero
  | some x => exact (best_ok h).1
def secK (a b : List UInt8) (k : Nat) : List UInt8 := if k = 0 then a else b
theorem bestK_none {a b : List UInt8} {k : Nat} (hk : k < 2) (h : sbOf (secK a b k) = none) : bestK a b (k + 1) = bestK a b k := by
 match k, hk with
 | 0, _ => show (sbOf a).getD Sb.zero = Sb.zero; rw [show sbOf a = none from h]; rfl
 | 1, _ =>
  show (best (sbOf a) (sbOf b)).getD Sb.zero = (sbOf a).getD Sb.zero
  rw [show sbOf b = none from h]
  cases sbOf a <;> rfl
theorem bestK_some {a b : List UInt8} {k : Nat} {x : Sb} (hk : k < 2) (h : sbOf (secK a b k) = some x) : bestK a b (k + 1) = if (bestK a b k).gen < x.gen then x else bestK a b k := by
 have hr := rightB_gen (sbOf_some h).2
 match k, hk with
 | 0, _ =>
  show (sbOf a).getD Sb.zero = if (0 : Nat) < x.gen then x else Sb.zero
  rw [show sbOf a = some x from h, if_pos (by omega)]
  rfl
 | 1, _ =>
  show (best (sbOf a) (sbOf b)).getD Sb.zero = if ((sbOf a).getD Sb.zero).gen < x.gen then x else (sbOf a).getD Sb.zero
  rw [show sbOf b = some x from h]
  cases sbOf a with
  | none => show x = if (0 : Nat) < x.gen then x else _; rw [if_pos (by omega)]
  | some y =>
   show (if x.gen ≤ y.gen then some y else some x).getD Sb.zero = if y.gen < x.gen then x else y
   by_cases hg : x.gen ≤ y.gen
   ·rw [if_pos hg, if_neg (by omega)]; rfl
   ·rw [if_neg hg, if_pos (by omega)]; rfl
theorem bestK_two {a b : List UInt8} : (bestK a b 2).gen = 0 ↔ best (sbOf a) (sbOf b) = none := by
 show ((best (sbOf a) (sbOf b)).getD Sb.zero).gen = 0 ↔ _
 cases h : best (sbOf a) (sbOf b) with
 | none => exact ⟨fun _ => rfl, fun _ => rfl⟩
 | some x => exact ⟨fun hg => absurd hg (rightB_gen (best_ok h).2), fun hg => by cases hg⟩
set_option maxRecDepth 100000 in
theorem Best_small {K : Nat → Prop} {D n : Nat} {d : Dk} {w : World} (h : DiskAt K w D n d) (hd : d.down = false) (hn : n < 3) : Calls Tryz.prog 52 #[.pointer (some ⟨D, 0, none⟩)] w (BestPost 1 none w) := by
 have hz := Tryz.sbProg.zero
 have hz2 := Tryz.zeroPage
 have hn3 : (n : Int) < 3 := by omega
 obtain ⟨b, HB⟩ : ∃ b, Hid (b = w.heap.size) := Hy
 obtain ⟨w1, HW⟩ : ∃ w1, Hid (w1 = w.alloc (.cells (sbArr Sb.zero) 103)) := Hy
 have HO : Hid (BOwn w1 b Sb.zero) := Hi (by rw [HW.out, HB.out]; exact BOwn.new _)
 have HBL : Hid (Below w.heap.size w w1) := Hi (by rw [HW.out]; exact (Below.refl _ _).alloc (Nat.le_refl _) _)
 have HD := Hi (h.carry HBL.out)
 have hpos : 0 < n := by obtain ⟨F, S, v, h⟩ := h; exact h.pos
 have hr := Read_any HD.out 0
 have hc : codeZ d.down n ((0 : Nat) : Int) = 0 := by rw [hd]; exact codeZ_in hpos
 rw [show codeZ d.down n 0 = 0 from hc, if_pos rfl] at hr
 obtain ⟨p, HP⟩ : ∃ p, Hid (p = pgAt d.seen (0 : Int).toNat) := Hy
 have HPL : Hid (p.length = 128) := Hi (by rw [HP.out]; exact pgAt_length h.ok.ws (by rw [h.ok.seen]; exact hpos))
 rw [← HP.out] at hr
 have HR := Hi hr
 clear hr hc h hd hn
 go_enter Tryz.func52, Tryz.ntmps52
 go_upto_region 1 with (fail)
 rw [← HW.out, ← HB.out]
 clear HW
 go_wp2_with fail
 refine HR.out.mono ?_
 rintro e w2 ⟨v, rfl, he, hb⟩
 obtain rfl := he.zero
 have HO2 := Hi (HO.out.below hb HO.out.lt)
 have HB2 : Hid (Below w.heap.size w w2) := Hi (HBL.out.trans (hb.mono HBL.out.size))
 have HD2 := Hi (HD.out.carry hb)
 clear he hb HR HD
 go_wp2_with (with_reducible refine stop_at (o := ⟨none, _, _, _, _, _⟩) ?_)
 refine wpList_store_last rfl _ _ _ rfl (pgArr zeroPg) (pgArr p) _ rfl rfl rfl (by rw [pgArr_size, HPL.out]; exact Tryz.pageSize) (by rw [pgArr_size, pgArr_size, HPL.out]; rfl) (pgArr_all _) ?_
 obtain ⟨w3, HW⟩ : ∃ w3, Hid (w3 = w2.alloc (.cells (pgArr p) 87)) := Hy
 rw [← HW.out]
 have hb3 : Below w2.heap.size w2 w3 := by rw [HW.out]; exact (Below.refl _ _).alloc (Nat.le_refl _) _
 have HO3 := Hi (HO2.out.below hb3 HO2.out.lt)
 have HB3 : Hid (Below w.heap.size w w3) := Hi (HB2.out.trans (hb3.mono HB2.out.size))
 have HD3 := Hi (HD2.out.carry hb3)
 clear hb3 HW HD2
 go_wp2_with fail
 refine (Size_any HD3.out).mono ?_
 rintro e w' ⟨rfl, rfl⟩
 go_wp2_with (with_reducible refine stop_at (o := ⟨some 23, _, _, _, _, _⟩) ?_)
 refine wpList_build_sb0 Tryz.sbProg rfl rfl ?_
 go_wp2_with fail
 refine (SbFault_any 1 (by decide) w3).mono ?_
 rintro e w4 ⟨v, rfl, he, hb⟩
 have HE4 := Hi he
 have HO4 := Hi (HO3.out.below hb HO3.out.lt)
 have HB4 : Hid (Below w.heap.size w w4) := Hi (HB3.out.trans (hb.mono HB3.out.size))
 clear he hb
 go_wp2_with (with_reducible refine stop_at (o := ⟨none, _, _, _, _, _⟩) ?_)
 refine wpList_store_sb Tryz.sbProg rfl _ _ rfl b Sb.zero Sb.zero Sb.Ok.zero Sb.Ok.zero rfl rfl HO4.out ?_
 intro w5 HW5 HO5
 go_wp2_with fail
 have hb5 := below_cells_of HB4.out HW5.out (by rw [HB.out]; exact Nat.le_refl _)
 exact bodyPost_ret (results_sb2 Tryz.sbProg rfl _ _ b Sb.zero v rfl rfl HO5.out.at_ Sb.Ok.zero) rfl ⟨v, rfl, (HE4.out.lay HW5.out HO3.out.lt).mono HB3.out.size, hb5⟩
structure BestSt (w wr : World) (b c : Nat) (x : Sb) : Prop where
 res : BOwn wr b Sb.zero
 own : BOwn wr c x
 below : Below w.heap.size w wr
 lo : w.heap.size ≤ b
 lo2 : w.heap.size ≤ c
 ne : b ≠ c
theorem BestSt.carry {w wi wj : World} {b c : Nat} {x : Sb} (h : BestSt w wi b c x) (hb : Below wi.heap.size wi wj) : BestSt w wj b c x :=
 ⟨h.res.below hb h.res.lt, h.own.below hb h.own.lt, h.below.trans (hb.mono h.below.size), h.lo, h.lo2, h.ne⟩
def BestRel (w : World) (b c : Nat) (p q : List UInt8) (i : Value) (wr : World) : Prop := ∃ k : Nat, k ≤ 2 ∧ i = .int .i64 (k : Int) ∧ BestSt w wr b c (bestK p q k)
set_option maxRecDepth 100000 in
set_option maxHeartbeats 2000000 in
theorem Best_yes {K : Nat → Prop} {D n : Nat} {d : Dk} {w : World} (h : DiskAt K w D n d) (hd : d.down = false) (hn : 3 ≤ n) (p q : List UInt8) (hp : p.length = 128) (hq : q.length = 128)
  (h0 : pgAt d.seen 0 = pgB p) (h1 : pgAt d.seen 1 = pgB q) (hg : LaidCrc w) : Calls Tryz.prog 52 #[.pointer (some ⟨D, 0, none⟩)] w (BestPost (if (best (sbOf p) (sbOf q)).isSome = true then 0 else 4) (best (sbOf p) (sbOf q)) w) := by
 obtain ⟨P, HPP⟩ : ∃ P, Hid (P = BestPost (if (best (sbOf p) (sbOf q)).isSome = true then 0 else 4) (best (sbOf p) (sbOf q)) w) := Hy
 rw [← HPP.out]
 have hz := Tryz.sbProg.zero
 have hz2 := Tryz.zeroPage
 have hn3 : ¬ (n : Int) < 3 := by omega
 obtain ⟨b, HB⟩ : ∃ b, Hid (b = w.heap.size) := Hy
 obtain ⟨w1, HW⟩ : ∃ w1, Hid (w1 = w.alloc (.cells (sbArr Sb.zero) 103)) := Hy
 have HO : Hid (BOwn w1 b Sb.zero) := Hi (by rw [HW.out, HB.out]; exact BOwn.new _)
 have HBL : Hid (Below w.heap.size w w1) := Hi (by rw [HW.out]; exact (Below.refl _ _).alloc (Nat.le_refl _) _)
 have HD := Hi (h.carry HBL.out)
 have hr := Read_any HD.out 0
 have hc : codeZ d.down n ((0 : Nat) : Int) = 0 := by rw [hd]; exact codeZ_in (by omega)
 rw [show codeZ d.down n 0 = 0 from hc, if_pos rfl, show (0 : Int).toNat = 0 from rfl, h0] at hr
 have HR := Hi hr
 have HLOAD : Hid (∀ w2, Below w.heap.size w w2 → ∀ k : Nat, k < 2 → Calls Tryz.prog 93 #[.pointer (some ⟨D, 0, none⟩), .int .i64 (k : Int)] w2 (SbLoadPost (secK p q k) w2)) := Hi fun w2 hb k hk => by
  refine SbLoad_any (h.carry hb) k (by rw [hd]; exact codeZ_in (by omega)) (secK p q k) ?_ ?_ (hg.carry hb)
  ·unfold secK; split
   ·exact hp
   ·exact hq
  ·match k, hk with
   | 0, _ => exact h0
   | 1, _ => exact h1
 have HPL := Hi hp
 clear hr hc h hd hn h0 h1 hg hp hq
 go_enter Tryz.func52, Tryz.ntmps52
 go_upto_region 1 with (fail)
 rw [← HW.out, ← HB.out]
 clear HW
 go_wp2_with fail
 refine HR.out.mono ?_
 rintro e w2 ⟨v, rfl, he, hb⟩
 obtain rfl := he.zero
 have HO2 := Hi (HO.out.below hb HO.out.lt)
 have HB2 : Hid (Below w.heap.size w w2) := Hi (HBL.out.trans (hb.mono HBL.out.size))
 have HD2 := Hi (HD.out.carry hb)
 clear he hb HR HD
 go_wp2_with (with_reducible refine stop_at (o := ⟨none, _, _, _, _, _⟩) ?_)
 refine wpList_store_last rfl _ _ _ rfl (pgArr zeroPg) (pgArr (pgB p)) _ rfl rfl rfl (by rw [pgArr_size, pgB_length, HPL.out]; exact Tryz.pageSize) (by rw [pgArr_size, pgArr_size, pgB_length, HPL.out]; rfl) (pgArr_all _) ?_
 obtain ⟨w3, HW⟩ : ∃ w3, Hid (w3 = w2.alloc (.cells (pgArr (pgB p)) 87)) := Hy
 rw [← HW.out]
 have hb3 : Below w2.heap.size w2 w3 := by rw [HW.out]; exact (Below.refl _ _).alloc (Nat.le_refl _) _
 have HO3 := Hi (HO2.out.below hb3 HO2.out.lt)
 have HB3 : Hid (Below w.heap.size w w3) := Hi (HB2.out.trans (hb3.mono HB2.out.size))
 have HD3 := Hi (HD2.out.carry hb3)
 clear hb3 HW HD2
 go_wp2_with fail
 refine (Size_any HD3.out).mono ?_
 rintro e w' ⟨rfl, rfl⟩
 go_upto_region 7 with (fail)
 obtain ⟨c, HC⟩ : ∃ c, Hid (c = w3.heap.size) := Hy
 obtain ⟨w4, HW⟩ : ∃ w4, Hid (w4 = w3.alloc (.cells (sbArr Sb.zero) 103)) := Hy
 have HST : Hid (BestSt w w4 b c Sb.zero) := Hi (by
  have h1 : Below w3.heap.size w3 w4 := by rw [HW.out]; exact (Below.refl _ _).alloc (Nat.le_refl _) _
  have h2 := HO3.out.lt
  exact ⟨HO3.out.below h1 h2, by rw [HW.out, HC.out]; exact BOwn.new _, HB3.out.trans (h1.mono HB3.out.size), by rw [HB.out]; exact Nat.le_refl _, by rw [HC.out]; exact HB3.out.size, by rw [HC.out]; omega⟩)
 rw [← HW.out, ← HC.out]
 clear HW HO2 HO3 HB2 HB3 HO HBL HD3
 go_upto_region 8 with (fail)
 go_loopw [25] (fun i wr => BestRel w b c p q i wr) (fun i _ => 2 - (intOf i).toNat)
 case atStart => exact ⟨0, by decide, rfl, HST.out⟩
 case round =>
  obtain ⟨k, hk, rfl, hst⟩ := hrel
  have HS := Hi hst
  clear hst HST
  by_cases hlt : k < 2
  ·have hlt2 : (k : Int) < 2 := by omega
   go_wp2_with fail
   refine (HLOAD.out wr HS.out.below k hlt).mono ?_
   rintro e w5 ⟨ec, v, rfl, he, hz3, hb⟩
   have HS5 := Hi (HS.out.carry hb)
   have HZ := Hi hz3
   have HE := Hi he
   have HOO : Hid ((((sbOf (secK p q k)).getD Sb.zero)).Ok) := Hi getD_ok
   obtain ⟨x, HX⟩ : ∃ x, Hid (x = (sbOf (secK p q k)).getD Sb.zero) := Hy
   rw [← HX.out] at HOO ⊢
   clear he hz3 hb HS
   go_wp2_with (with_reducible refine stop_at (o := ⟨none, _, _, _, _, _⟩) ?_)
   refine wpList_store_last rfl _ _ _ rfl (sbArr Sb.zero) (sbArr x) _ rfl rfl rfl (by rw [sbArr_size HOO.out]; exact Tryz.sbProg.size) (by rw [sbArr_size HOO.out, sbArr_size Sb.Ok.zero]) (sbArr_all _) ?_
   obtain ⟨g, HG⟩ : ∃ g, Hid (g = w5.heap.size) := Hy
   obtain ⟨w6, HW⟩ : ∃ w6, Hid (w6 = w5.alloc (.cells (sbArr x) 103)) := Hy
   rw [← HW.out, ← HG.out]
   have HS6 : Hid (BestSt w w6 b c (bestK p q k)) := Hi (HS5.out.carry (by rw [HW.out]; exact (Below.refl _ _).alloc (Nat.le_refl _) _))
   have HOX : Hid (BOwn w6 g x) := Hi (by rw [HW.out, HG.out]; exact BOwn.new _)
   clear HW HS5
   cases hs : sbOf (secK p q k) with
   | none =>
    have HK := Hi (bestK_none hlt hs)
    have hec : ec ≠ 0 := fun h => by have := HZ.out.1 h; rw [hs] at this; cases this
    obtain ⟨t, y, rfl⟩ := HE.out.some hec
    clear hs hec HZ HE
    go_wp2_with fail
    go_roundw
    case rel => exact ⟨k + 1, hlt, by go_num, by rw [HK.out]; exact HS6.out⟩
    case measure => simp [intOf]; omega
   | some y =>
    have HK := Hi (bestK_some hlt hs)
    obtain rfl : x = y := by rw [HX.out, hs]; rfl
    have hec : ec = 0 := HZ.out.2 (by rw [hs]; rfl)
    subst hec
    obtain rfl := HE.out.zero
    have hok := bestK_ok p q k
    obtain ⟨z, HZZ⟩ : ∃ z, Hid (z = bestK p q k) := Hy
    rw [← HZZ.out] at HK HS6 hok
    have HZO := Hi hok
    have c1 := HOX.out.gen
    have c2 := HS6.out.own.gen
    obtain ⟨m, HM⟩ : ∃ m, Hid (m = x.gen) := Hy
    obtain ⟨l, HL⟩ : ∃ l, Hid (l = z.gen) := Hy
    rw [← HM.out] at c1 HK
    rw [← HL.out] at c2 HK
    clear hs HZ HE hok
    by_cases hg : l < m
    ·rw [if_pos hg] at HK
     have hg2 : (l : Int) < (m : Int) := by omega
     clear hg
     go_wp2_with (with_reducible refine stop_at (o := ⟨some 43, _, _, _, _, _⟩) ?_)
     refine wpList_load_sb Tryz.sbProg rfl _ rfl g rfl x HOO.out HOX.out.at_ ?_
     refine wpList_store_sb Tryz.sbProg rfl _ _ rfl c x z HOO.out HZO.out rfl rfl HS6.out.own ?_
     intro w7 HW7 HO7
     go_wp2_with fail
     go_roundw
     case rel =>
      refine ⟨k + 1, hlt, by go_num, ?_⟩
      rw [HK.out]
      exact ⟨by rw [HW7.out]; exact HS6.out.res.other (Ne.symm HS6.out.ne) _ _, HO7.out, below_cells_of HS6.out.below HW7.out HS6.out.lo2, HS6.out.lo, HS6.out.lo2, HS6.out.ne⟩
     case measure => simp [intOf]; omega
    ·rw [if_neg hg] at HK
     have hg2 : ¬ (l : Int) < (m : Int) := by omega
     have hg3 : decide ((l : Int) < (m : Int)) = false := decide_eq_false hg2
     clear hg
     go_wp2_with fail
     go_roundw
     case rel => exact ⟨k + 1, hlt, by go_num, by rw [HK.out]; exact HS6.out⟩
     case measure => simp [intOf]; omega
  ·obtain rfl : k = 2 := by omega
   have hok := bestK_ok p q 2
   have hzz := bestK_two (a := p) (b := q)
   have hgd : bestK p q 2 = (best (sbOf p) (sbOf q)).getD Sb.zero := rfl
   obtain ⟨z, HZZ⟩ : ∃ z, Hid (z = bestK p q 2) := Hy
   rw [← HZZ.out] at HS hok hzz hgd
   have HZO := Hi hok
   have HN := Hi hzz
   have HGD := Hi hgd
   have c2 := HS.out.own.gen
   obtain ⟨l, HL⟩ : ∃ l, Hid (l = z.gen) := Hy
   rw [← HL.out] at c2 HN
   clear hok hzz hgd HLOAD
   by_cases hg : l = 0
   ·have HB0 := Hi (HN.out.1 hg)
    subst hg
    go_wp2_with (with_reducible refine stop_at (o := ⟨some 48, _, _, _, _, _⟩) ?_)
    refine wpList_build_sb0 Tryz.sbProg rfl rfl ?_
    go_wp2_with fail
    refine (SbFault_any 4 (by decide) wr).mono ?_
    rintro e w4 ⟨v, rfl, he, hb⟩
    have HE4 := Hi he
    have HS4 := Hi (HS.out.carry hb)
    clear he hb
    go_wp2_with (with_reducible refine stop_at (o := ⟨none, _, _, _, _, _⟩) ?_)
    refine wpList_store_sb Tryz.sbProg rfl _ _ rfl b Sb.zero Sb.zero Sb.Ok.zero Sb.Ok.zero rfl rfl HS4.out.res ?_
    intro w5 HW5 HO5
    go_wp2_with fail
    have hb5 := below_cells_of HS4.out.below HW5.out HS4.out.lo
    rw [HPP.out]
    refine bodyPost_ret (results_sb2 Tryz.sbProg rfl _ _ b Sb.zero v rfl rfl HO5.out.at_ Sb.Ok.zero) rfl ⟨v, by rw [HB0.out]; rfl, ?_, hb5⟩
    rw [HB0.out]
    exact (HE4.out.lay HW5.out HS.out.res.lt).mono HS.out.below.size
   ·have HB0 : Hid ((best (sbOf p) (sbOf q)).isSome = true) := Hi (by
     cases h : best (sbOf p) (sbOf q) with
     | none => exact absurd (HN.out.2 h) hg
     | some x => rfl)
    have hg2 : ((l : Int) == 0) = false := by simp; omega
    clear hg
    go_wp2_with (with_reducible refine stop_at (o := ⟨some 50, _, _, _, _, _⟩) ?_)
    refine wpList_load_sb Tryz.sbProg rfl _ rfl c rfl z HZO.out HS.out.own.at_ ?_
    refine wpList_store_sb Tryz.sbProg rfl _ _ rfl b z Sb.zero HZO.out Sb.Ok.zero rfl rfl HS.out.res ?_
    intro w5 HW5 HO5
    go_wp2_with fail
    have hb5 := below_cells_of HS.out.below HW5.out HS.out.lo
    rw [HPP.out]
    refine bodyPost_ret (results_sb2 Tryz.sbProg rfl _ _ b z .nilIface rfl rfl HO5.out.at_ HZO.out) rfl ⟨.nilIface, by rw [← HGD.out], ?_, hb5⟩
    rw [if_pos HB0.out]
    exact .nil _ _
end Go.Proofs.YtafclmbecmgbnaaGreatDoor

/-
 SbSwitch. Conditions: as each theorem says.
-/
namespace Go.Proofs.YtafclmbecmgbnaaGreatDoor
open Go.RowKit
def swDk (d : Dk) (x : Sb) : Dk := (d.flush.write (x.gen % 2) (pgB (sbP x))).flush
theorem codeL_sb {x : Sb} (hx : x.Ok) : codeL 1 ⟨(layS x).toArray⟩ = 0 := by
 have h : (⟨(layS x).toArray⟩ : ByteArray).size = 35 := by rw [toArr_size, layS_length hx]
 unfold codeL
 rw [if_neg (by decide), if_neg (by rw [h]; decide)]
theorem pageL_sb {x : Sb} (hx : x.Ok) : pageL 1 ⟨(layS x).toArray⟩ = pgB (sbP x) := by
 unfold pageL
 rw [if_pos (codeL_sb hx), dArr]
 rfl
theorem Kept.less {K L : Nat → Prop} {w w' : World} (h : Kept L w w') (hKL : ∀ k, K k → L k) : Kept K w w' := ⟨h.os, h.tape, h.output, h.size, fun k hk => h.block k (hKL k hk)⟩
set_option maxRecDepth 100000 in
set_option maxHeartbeats 1000000 in
theorem Switch_yes {K : Nat → Prop} {D n : Nat} {d : Dk} {w : World} (h : DiskAt K w D n d) (ht : There K w) (hd : d.down = false) (hn : 3 ≤ n) (x : Sb) (hx : x.Ok) (hr : rightB x = true) (hg : ∀ w', Kept K w w' → LaidCrc w') :
  Calls Tryz.prog 98 #[.pointer (some ⟨D, 0, none⟩), sbV x] w fun e w' => e = .returned .nilIface ∧ DiskAt K w' D n (swDk d x) ∧ Kept K w w' := by
 have HX := Hi hx
 have HR := Hi hr
 have HT := Hi ht
 have HN := Hi hn
 have HG := Hi hg
 have HDN := Hi hd
 have hn3 : ¬ (n : Int) < 3 := by omega
 obtain ⟨b, HB⟩ : ∃ b, Hid (b = w.heap.size) := Hy
 obtain ⟨w1, HW⟩ : ∃ w1, Hid (w1 = w.alloc (.cells (sbArr x) 103)) := Hy
 obtain ⟨L, HL⟩ : ∃ L : Nat → Prop, Hid (L = fun k => K k ∨ k = b) := Hy
 have HO : Hid (BOwn w1 b x) := Hi (by rw [HW.out, HB.out]; exact BOwn.new _)
 have HBL : Hid (Below w.heap.size w w1) := Hi (by rw [HW.out]; exact (Below.refl _ _).alloc (Nat.le_refl _) _)
 have HKL : Hid (∀ k, K k → L k) := Hi fun k hk => by rw [HL.out]; exact .inl hk
 have HD : Hid (DiskAt L w1 D n d) := Hi (h.more HBL.out fun k hk => by
  rw [HL.out] at hk
  rcases hk with hk | rfl
  ·exact .inl hk
  ·exact .inr (by rw [HB.out]; exact Nat.le_refl _))
 have HTL : Hid (There L w1) := Hi fun k hk => by
  rw [HL.out] at hk
  rcases hk with hk | rfl
  ·exact Nat.lt_of_lt_of_le (ht k hk) HBL.out.size
  ·exact HO.out.lt
 have HLB : Hid (L b) := Hi (by rw [HL.out]; exact .inr rfl)
 clear hx hr h ht hn hg hd
 go_enter Tryz.func98, Tryz.ntmps98
 go_upto_region 1 with (fail)
 rw [← HW.out, ← HB.out]
 clear HW
 go_wp2_with (with_reducible refine stop_at (o := ⟨some 10, _, _, _, _, _⟩) ?_)
 refine wpList_load_sb Tryz.sbProg rfl _ rfl b rfl x HX.out HO.out.at_ ?_
 go_wp2_with fail
 refine (Lay_any x HX.out w1).mono ?_
 rintro e w2 ⟨v, rfl, he, hb⟩
 rw [HR.out, if_pos rfl] at he
 rw [HR.out, if_pos rfl]
 obtain rfl := he.zero
 obtain ⟨s, HS⟩ : ∃ s : ByteArray, Hid (s = ⟨(layS x).toArray⟩) := Hy
 rw [← HS.out]
 have HB2 : Hid (Below w.heap.size w w2) := Hi (HBL.out.trans (hb.mono HBL.out.size))
 have HO2 := Hi (HO.out.below hb HO.out.lt)
 have HD2 := Hi (HD.out.carry hb)
 have HTL2 : Hid (There L w2) := Hi fun k hk => Nat.lt_of_lt_of_le (HTL.out k hk) hb.size
 have HK2 : Hid (Kept K w w2) := Hi (Kept.of_below HB2.out HT.out)
 clear he hb HO HD HTL HBL
 go_wp2_with fail
 refine (Size_any HD2.out).mono ?_
 rintro e w' ⟨rfl, rfl⟩
 go_wp2_with fail
 refine (Flush_yes HD2.out HDN.out).mono ?_
 rintro e w3 ⟨rfl, hd3, hk3⟩
 have HD3 := Hi hd3
 have HTL3 : Hid (There L w3) := Hi fun k hk => Nat.lt_of_lt_of_le (HTL2.out k hk) hk3.size
 have HO3 := Hi (HO2.out.block (hk3.block b HLB.out))
 have HK3 := Hi (HK2.out.trans (hk3.less HKL.out))
 have c0 := HO3.out.gen
 obtain ⟨g, HGG⟩ : ∃ g, Hid (g = x.gen) := Hy
 rw [← HGG.out] at c0
 have HGL : Hid (g < 4294967296) := Hi (by rw [HGG.out]; exact HX.out.gen)
 clear hd3 hk3 HD2 HTL2 HO2 HK2
 go_wp2_with fail
 refine (sectorOf_any g HGL.out _).mono ?_
 rintro e w' ⟨rfl, rfl⟩
 obtain ⟨i, HI⟩ : ∃ i, Hid (i = g % 2) := Hy
 rw [← HI.out]
 go_wp2_with fail
 refine (FrStore_yes HD3.out HTL3.out HDN.out (i := i) (by have := HN.out; rw [HI.out]; omega) (by show (0 : Nat) ≤ 1000000; decide) 1 s (by rw [HS.out]; exact codeL_sb HX.out) (HG.out _ HK3.out)).mono ?_
 rintro e w4 ⟨rfl, hd4, hk4⟩
 have HD4 := Hi hd4
 have HK4 := Hi (HK3.out.trans (hk4.less HKL.out))
 clear hd4 hk4 HD3 c0
 go_wp2_with fail
 refine (Flush_yes HD4.out HDN.out).mono ?_
 rintro e w5 ⟨rfl, hd5, hk5⟩
 have HD5 := Hi hd5
 have HK5 := Hi (HK4.out.trans (hk5.less HKL.out))
 clear hd5 hk5 HD4
 go_wp2_with fail
 refine (Tag_from _ w5.heap.size 0 _ w5 (.nil _ _) (Nat.le_refl _)).mono ?_
 rintro e w6 ⟨v, rfl, he, hb⟩
 obtain rfl := he.zero
 have HB6 := Hi hb
 clear he hb
 go_wp2_with fail
 go_ret
 refine ⟨rfl, ?_, HK5.out.trans (Kept.of_below HB6.out fun k hk => Nat.lt_of_lt_of_le (HT.out k hk) HK5.out.size)⟩
 have := HD5.out.more HB6.out (L := K) fun k hk => .inl (HKL.out k hk)
 rw [HS.out, pageL_sb HX.out, HI.out, HGG.out] at this
 exact this
end Go.Proofs.YtafclmbecmgbnaaGreatDoor
