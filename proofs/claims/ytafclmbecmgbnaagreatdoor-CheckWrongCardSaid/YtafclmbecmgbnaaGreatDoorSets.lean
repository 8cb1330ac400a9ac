/-
  Sets: several texts in one file. Conditions: as each part says.
-/
import Derived.Test.YtafclmbecmgbnaaGreatDoorMaths
import Derived.Test.YtafclmbecmgbnaaGreatDoorPacks
import Derived.IntWalk
import Derived.BigQuiet
import Derived.Laws.BitsAllLaws
import Derived.Test.YtafclmbecmgbnaaGreatDoorSm
import Derived.Lib.Hide
import Derived.Deep.MidRow
import Derived.Deep.WholeRow
import Derived.Deep.AppendLies
import Derived.OwnWalk
import Derived.Laws.Tables
import Derived.Lib.LazyBuf
import Derived.Deep.DeepCutAuto
import Derived.Test.YtafclmbecmgbnaaGreatDoorDisks
import Derived.Laws.StructEq
/-
 SetBit. Conditions: as each theorem says.
-/
namespace Go.Proofs.YtafclmbecmgbnaaGreatDoor
open Go.RowKit
def isNum (n : Int) : Bool := decide (0 ≤ n ∧ n < 240)
theorem isNum_true {n : Int} (h : isNum n = true) : ∃ m : Nat, n = (m : Int) ∧ m < 240 := by
 have := of_decide_eq_true h
 exact ⟨n.toNat, by omega, by omega⟩
theorem isNum_nat {m : Nat} (h : m < 240) : isNum (m : Int) = true := decide_eq_true (by omega)
theorem set_bool {a b : Bool} (h : a = b) : Ending.returned (.bool a) = .returned (.bool b) := by rw [h]
theorem isNumber_any (n : Int) (w : World) : Calls Tryz.prog 94 #[.int .i64 n] w fun e w' => e = .returned (.bool (isNum n)) ∧ w = w' := by
 go_enter Tryz.func94, Tryz.ntmps94
 go_wp2
 all_goals go_ret
 all_goals exact ⟨set_bool (by simp [isNum]; try omega), rfl⟩
theorem bit_any (n : Nat) (w : World) : Calls Tryz.prog 95 #[.int .i64 n] w fun e w' => e = .returned (.int .u8 ((2 ^ (n % 8) : Nat) : Int)) ∧ w = w' := by
 go_enter Tryz.func95, Tryz.ntmps95
 go_wp2
 go_ret
 refine ⟨?_, rfl⟩
 show Ending.returned (Value.int IntKind.u8 (2 ^ (n % 8) % 256)) = _
 have h := Bits.pow_lt n
 have e : (2 : Int) ^ (n % 8) = ((2 ^ (n % 8) : Nat) : Int) := by simp
 rw [e]
 generalize 2 ^ (n % 8) = m at h ⊢
 rw [show (m : Int) % 256 = (m : Int) by omega]
end Go.Proofs.YtafclmbecmgbnaaGreatDoor

/-
 SetAt. Conditions: as each theorem says.
-/
namespace Go.Proofs.YtafclmbecmgbnaaGreatDoor
open Go.RowKit
open Bits (Ok has at_)
def stCells (s : List Nat) : List Value := s.map fun n : Nat => .int .u8 (n : Int)
def stArr (s : List Nat) : Array Value := (stCells s).toArray
abbrev stV (s : List Nat) : Value := .agg (stArr s)
theorem stCells_length (s : List Nat) : (stCells s).length = s.length := by simp [stCells]
theorem stArr_size (s : List Nat) : (stArr s).size = s.length := by simp [stArr, stCells]
theorem stCells_at {s : List Nat} {i : Nat} (h : i < s.length) : (stCells s)[i]? = some (.int .u8 (at_ s i : Int)) := by
 rw [← Bits.at_eq h]
 simp [stCells, h]
theorem stCells_one (s : List Nat) : ∀ v ∈ stCells s, v.oneCell' = true := by
 intro v hv
 obtain ⟨n, _, rfl⟩ := List.mem_map.1 hv
 rfl
theorem stArr_all (s : List Nat) : (stArr s).all (·.oneCell') = true := all_oneCell_toArray (stCells_one s)
def zeroSt : List Nat := List.replicate 30 0
theorem zeroSt_length : zeroSt.length = 30 := by simp [zeroSt]
theorem Tryz.setSize : (Tryz.prog.info? 63).map (·.size) = some 30 := by kernel_rfl
theorem Tryz.infoSet : (Tryz.prog.info? 63).map (fun i => (i.zero, i.size)) = some (some (stV (zeroSt)), 30) := by kernel_rfl
theorem Tryz.zeroSet (w : World) : (zeroValue 63).run Tryz.prog w = .ok (stV (zeroSt)) w := (zero_of_info Tryz.infoSet).1 w
theorem set_at {w : World} {b i : Nat} {s : List Nat} (h : w.rangeAt b 0 (stCells s)) (hi : i < s.length) : w.cell? ⟨b, i, none⟩ = some (.int .u8 (Bits.at_ s i : Int)) := by
 have := h i _ (stCells_at hi)
 rwa [Nat.zero_add] at this
theorem range_carry {w w' : World} {b o : Nat} {cs : List Value} (h : w.rangeAt b o cs) (hb : Below w.heap.size w w') : w'.rangeAt b o cs := fun j v hv => (hb.cell (p := ⟨b, o + j, none⟩) (below_block (h j v hv))).trans (h j v hv)
theorem below_cells_of {B b : Nat} {w w2 w0 : World} {vs : List Value} {o : Nat} (h : Below B w0 w) (hw : w2 = w.setCells b o vs) (hb : B ≤ b) : Below B w0 w2 := by
 subst hw
 exact below_setCells hb vs o w h
theorem set_below_drewN {B : Nat} {a w : World} (h : Below B a w) (n : Nat) : Below B a (w.drewN n) := ⟨h.os, h.tape, h.output, h.size, h.block⟩
structure SOwn (w : World) (b : Nat) (s : List Nat) : Prop where
 at_ : w.rangeAt b 0 (stCells s)
 free : ∀ j, w.frozen? ⟨b, j, none⟩ = false
theorem SOwn.new {w : World} {s : List Nat} (t : TypeId) : SOwn (w.alloc (.cells (stArr s) t)) w.heap.size s := by
 have hh : (w.alloc (.cells (stArr s) t)).heap[w.heap.size]? = some (.cells (stArr s) t (0, 0)) := heap_alloc_last w _
 refine ⟨fun j u hu => ?_, fun j => frozen_of_row _ _ j _ _ hh⟩
 rw [cell_of_row _ w.heap.size (0 + j) _ _ _ hh, Nat.zero_add]
 simpa [stArr] using hu
theorem SOwn.below {w w' : World} {b B : Nat} {s : List Nat} (h : SOwn w b s) (hb : Below B w w') (hB : b < B) : SOwn w' b s :=
 ⟨fun j v hv => (hb.cell (p := ⟨b, 0 + j, none⟩) hB).trans (h.at_ j v hv), fun j => (hb.frozen (p := ⟨b, j, none⟩) hB).trans (h.free j)⟩
theorem SOwn.drew {w : World} {b : Nat} {s : List Nat} (h : SOwn w b s) : SOwn w.drew b s := ⟨h.at_, h.free⟩
theorem SOwn.lt {w : World} {b : Nat} {s : List Nat} (h : SOwn w b s) (hl : 0 < s.length) : b < w.heap.size := below_block (h.at_ 0 _ (stCells_at hl))
theorem SOwn.there {w : World} {b : Nat} {s : List Nat} (h : SOwn w b s) : w.there b 0 s.length := fun j hj => ⟨by rw [h.at_ j _ (stCells_at hj)]; rfl, h.free _⟩
theorem SOwn.put {w : World} {b : Nat} {s : List Nat} (h : SOwn w b s) {i : Nat} (hi : i < s.length) (v : Nat) : SOwn (w.setCell ⟨b, i, none⟩ (.int .u8 (v : Int))) b (s.set i v) := by
 refine ⟨fun j u hu => ?_, fun j => by rw [World.frozen?_setCell]; exact h.free j⟩
 rw [Nat.zero_add]
 have hj : j < s.length := by
  have := (List.getElem?_eq_some_iff.1 hu).1
  simpa [stCells] using this
 rw [stCells_at (by simpa using hj), Bits.at_set hi] at hu
 obtain rfl := Option.some.inj hu
 by_cases e : i = j
 ·subst e
  rw [if_pos rfl]
  exact World.cell?_setCell_same _ _ _ (set_at h.at_ hi)
 ·rw [if_neg e, World.cell?_setCell_other _ _ _ _ (by intro hh; injection hh; omega)]
  exact set_at h.at_ hj
theorem SOwn.other {w : World} {b c : Nat} {s : List Nat} (h : SOwn w b s) (hc : c ≠ b) (i : Nat) (v : Value) : SOwn (w.setCell ⟨c, i, none⟩ v) b s := by
 refine ⟨fun j u hu => ?_, fun j => by rw [World.frozen?_setCell]; exact h.free j⟩
 rw [World.cell?_setCell_other _ _ _ _ (by intro hh; injection hh; omega)]
 exact h.at_ j u hu
theorem SOwn.lay {w : World} {b : Nat} {s t : List Nat} (h : SOwn w b s) (hl : t.length = s.length) : SOwn (w.setCells b 0 (stCells t)) b t :=
 ⟨World.rangeAt_setCells_same w b 0 _ (by rw [stCells_length, hl]; exact h.there), fun j => by rw [World.frozen?_setCells]; exact h.free j⟩
theorem loadSet {w : World} {b : Nat} {s : List Nat} (h : w.rangeAt b 0 (stCells s)) (hl : s.length = 30) : (loadVar 63 ⟨b, 0, none⟩).run Tryz.prog w = .ok (stV s) w :=
 run_loadVar_mid w b 0 63 (stCells s) _ h Tryz.underlying63 rfl (by rw [stCells_length, hl]; exact Tryz.setSize)
theorem results_set {fn : Func} {p : Tmp} (h : fn.results = #[.cell p 63]) (tmps : Array Value) (w : World) (b : Nat) (s : List Nat)
  (hp : tmps.getD p undef = .pointer (some ⟨b, 0, none⟩)) (hc : w.rangeAt b 0 (stCells s)) (hl : s.length = 30) : (results fn tmps).run Tryz.prog w = .ok (stV s) w := by
 have hp' : tmps[p]?.getD undef = .pointer (some ⟨b, 0, none⟩) := by simpa using hp
 simp [results, h, hp', asAddr, loadSet hc hl]
def SetStop (p : Prop) : Prop := p
theorem set_stop {P : Program} {ops : Array Oper} {rest : List Oper} {o : Oper} {a : Act} {w : World} {Q : Exit → Act → World → Prop} (h : SetStop (wpList P ops Q (o :: rest) a w)) : wpList P ops Q (o :: rest) a w := h
theorem wpList_load_set {ops : Array Oper} {rest : List Oper} {op : Oper} {a : Act} {w : World} {Q : Exit → Act → World → Prop} (hw : Region.wanted op (yielded ops a.tmps) = true) (x : Operand) (ho : op.op = .load 63 x)
  (b : Nat) (hx : a.eval x = .pointer (some ⟨b, 0, none⟩)) (s : List Nat) (hl : s.length = 30) (hc : w.rangeAt b 0 (stCells s))
  (h : wpList Tryz.prog ops Q rest (a.put op.dst (stV s)) w) : wpList Tryz.prog ops Q (op :: rest) a w :=
 wpList_step fun _ hK => by
  rw [if_pos hw]
  exact wp_load_mid 63 x ho b 0 hx (stCells s) _ hc Tryz.underlying63 rfl (by rw [stCells_length, hl]; exact Tryz.setSize) (hK _ _ h)
theorem wpList_store_set {ops : Array Oper} {rest : List Oper} {op : Oper} {a : Act} {w : World} {Q : Exit → Act → World → Prop} (hgd : op.guard = none) (x y : Operand) (ho : op.op = .store 63 x y)
  (b : Nat) (s t : List Nat) (hl : s.length = 30) (hs : t.length = 30) (hx : a.eval x = .pointer (some ⟨b, 0, none⟩)) (hy : a.eval y = stV s) (hb : SOwn w b t)
  (h : ∀ w2, Hid (w2 = w.setCells b 0 (stCells s)) → Hid (SOwn w2 b s) → wpList Tryz.prog ops Q rest (a.put op.dst undef) w2) : wpList Tryz.prog ops Q (op :: rest) a w :=
 wpList_store_mid hgd _ x y ho b 0 (stArr s) hx hy (by rw [stArr_size, hl, ← hs]; exact hb.there) (by rw [stArr_size, hl]; exact Tryz.setSize) (stArr_all s) (h _ (Hi rfl) (Hi (hb.lay (by omega))))
end Go.Proofs.YtafclmbecmgbnaaGreatDoor

/-
 SetHas. Conditions: as each theorem says.
-/
namespace Go.Proofs.YtafclmbecmgbnaaGreatDoor
open Go.RowKit
open Bits (Ok has)
def hasZ (s : List Nat) (n : Int) : Bool := isNum n && has s n.toNat
theorem hasZ_nat {s : List Nat} {m : Nat} (h : m < 240) : hasZ s (m : Int) = has s m := by
 unfold hasZ
 rw [isNum_nat h, Bool.true_and, Int.toNat_natCast]
theorem and_bit {a p j : Nat} (hp : p = 2 ^ j) (ha : a < 256) (hj : j < 8) : (bits .and .u8 (a : Int) (p : Int) != 0) = a.testBit j := by
 have h2 : p < 256 := by
  have h : (2 : Nat) ^ j < 2 ^ 8 := Nat.pow_lt_pow_right (by decide) hj
  omega
 have e : a &&& 2 ^ j = if a.testBit j then 2 ^ j else 0 := by
  refine Nat.eq_of_testBit_eq fun i => ?_
  rw [Nat.testBit_and, Nat.testBit_two_pow]
  by_cases h : j = i
  ·subst h
   cases a.testBit j <;> simp
  ·rw [decide_eq_false h, Bool.and_false]
   cases a.testBit j <;> simp [h]
 have h3 : 0 < 2 ^ j := Nat.two_pow_pos j
 rw [u8_and_nat a p ha h2, hp, e]
 clear hp h2 e
 generalize 2 ^ j = q at h3 ⊢
 cases a.testBit j with
 | false => simp
 | true =>
  simp
  omega
set_option maxRecDepth 100000 in
theorem Has_yes (s : List Nat) (h : Ok s) (m : Nat) (hm : m < 240) (w : World) :
  Calls Tryz.prog 54 #[stV s, .int .i64 m] w fun e w' => e = .returned (.bool (has s m)) ∧ Below w.heap.size w w' := by
 obtain ⟨w1, HW⟩ : ∃ w1, Hid (w1 = w.alloc (.cells (stArr s) 63)) := Hy
 have hr : w1.rangeAt w.heap.size 0 (stCells s) := by rw [HW.out]; exact (SOwn.new _).at_
 have hc := set_at hr (i := m / 8) (by rw [h.len]; omega)
 obtain ⟨a, HA⟩ : ∃ a, Hid (a = Bits.at_ s (m / 8)) := Hy
 obtain ⟨p, HP⟩ : ∃ p, Hid (p = 2 ^ (m % 8)) := Hy
 rw [← HA.out] at hc
 have HN : ∀ w, Calls Tryz.prog 94 #[.int .i64 m] w fun e w' => e = .returned (.bool true) ∧ w' = w := fun w => (isNumber_any m w).mono fun e w' ⟨h1, h2⟩ => ⟨by rw [h1, isNum_nat hm], h2.symm⟩
 have HB : ∀ w, Calls Tryz.prog 95 #[.int .i64 m] w fun e w' => e = .returned (.int .u8 (p : Int)) ∧ w' = w := fun w => (bit_any m w).mono fun e w' ⟨h1, h2⟩ => ⟨by rw [h1, HP.out], h2.symm⟩
 go_enter Tryz.func54, Tryz.ntmps54
 go_wp2_with fail
 rw [← HW.out]
 go_quiet (first | (go_at_call 94; exact Calls.quiet_of_same (HN _)) | (go_at_call 95; exact Calls.quiet_of_same (HB _)))
 rw [and_bit HP.out (by rw [HA.out]; exact Bits.at_lt h _) (Nat.mod_lt _ (by decide)), HA.out]
 go_wp2_with fail
 go_ret
 exact ⟨rfl, by rw [HW.out]; exact set_below_drewN ((Below.refl _ _).alloc (Nat.le_refl _) _) _⟩
set_option maxRecDepth 100000 in
theorem Has_no (s : List Nat) (n : Int) (hn : isNum n = false) (w : World) :
  Calls Tryz.prog 54 #[stV s, .int .i64 n] w fun e w' => e = .returned (.bool false) ∧ Below w.heap.size w w' := by
 obtain ⟨w1, HW⟩ : ∃ w1, Hid (w1 = w.alloc (.cells (stArr s) 63)) := Hy
 have HN : ∀ w, Calls Tryz.prog 94 #[.int .i64 n] w fun e w' => e = .returned (.bool false) ∧ w' = w := fun w => (isNumber_any n w).mono fun e w' ⟨h1, h2⟩ => ⟨by rw [h1, hn], h2.symm⟩
 go_enter Tryz.func54, Tryz.ntmps54
 go_wp2_with fail
 rw [← HW.out]
 go_quiet ((go_at_call 94; exact Calls.quiet_of_same (HN _)))
 go_wp2_with fail
 go_ret
 exact ⟨rfl, by rw [HW.out]; exact set_below_drewN ((Below.refl _ _).alloc (Nat.le_refl _) _) _⟩
theorem Has_any (s : List Nat) (h : Ok s) (n : Int) (w : World) :
  Calls Tryz.prog 54 #[stV s, .int .i64 n] w fun e w' => e = .returned (.bool (hasZ s n)) ∧ Below w.heap.size w w' := by
 cases hn : isNum n with
 | true =>
  obtain ⟨m, rfl, hm⟩ := isNum_true hn
  rw [hasZ_nat hm]
  exact Has_yes s h m hm w
 | false =>
  have e : hasZ s n = false := by unfold hasZ; rw [hn, Bool.false_and]
  rw [e]
  exact Has_no s n hn w
end Go.Proofs.YtafclmbecmgbnaaGreatDoor

/-
 SetRef. Conditions: as each theorem says.
-/
namespace Go.Proofs.YtafclmbecmgbnaaGreatDoor
open Go.RowKit
open Bits (Ok has with_ without count countBelow first both)
theorem Tryz.builtSet : Tryz.prog.built 63 [] = some (stArr zeroSt) := by kernel_rfl
theorem zeroSt_ok : Ok zeroSt := ⟨zeroSt_length, fun b hb => by rw [(List.mem_replicate.1 hb).2]; decide⟩
theorem wpList_build_set {ops : Array Oper} {rest : List Oper} {o : Oper} {a : Act} {w : World} {Q : Exit → Act → World → Prop} (hgd : o.guard = none) (ho : o.op = .build 63 #[])
  (h : wpList Tryz.prog ops Q rest (a.put o.dst (stV zeroSt)) w) : wpList Tryz.prog ops Q (o :: rest) a w :=
 wpList_plain hgd fun _ hK => wp_build 63 #[] ho (by simp [Tryz.builtSet]) (hK _ _ (by simpa [Tryz.builtSet] using h))
end Go.Proofs.YtafclmbecmgbnaaGreatDoor

/-
 SetEq. Conditions: as each theorem says.
-/
namespace Go.Proofs.YtafclmbecmgbnaaGreatDoor
open Go.RowKit
open Bits (Ok has with_ without count countBelow first both)
theorem run_equalIn_set {P : Program} (w : World) (d len : Nat) (t e : TypeId) (p q : List Nat) (ht : P.underlying t = some (.array len e)) (he : P.underlying e = some (.int .u8)) (hs : ∀ w, (sizeOf e).run P w = .ok 1 w) (hl : p.length = len) (hm : q.length = len) :
  (Op.equalIn (d + 2) t (.agg (stArr p)) (.agg (stArr q))).run P w = .ok (decide (p = q)) w := by
 have hp : ∀ (p : List Nat), p.length = len → ∀ i, i < len → (part e (stArr p) (i * 1)).run P w = .ok (.int .u8 ((p.getD i 0 : Nat) : Int)) w := by
  intro p hl i hi
  have hi' : i < p.length := by omega
  simp [part, isAgg, underlying, he, stArr, stCells, hi']
 rw [Op.equalIn]
 simp only [Sem.run_bind, run_underlying ht, Result.andThen_ok, hs, Std.Legacy.Range.forIn_eq_forIn_range']
 have key : ∀ l : List Nat, (∀ i ∈ l, i < len) → (forIn l (none, ()) fun i (_ : Option Bool × Unit) => do
   let a ← part e (stArr p) (i * 1)
   let b ← part e (stArr q) (i * 1)
   let r ← Op.equalIn (d + 1) e a b
   if (!r) = true then pure (ForInStep.done (some false, ())) else pure (ForInStep.yield ((none : Option Bool), ())) : Sem (Option Bool × Unit)).run P w = .ok (if l.all (fun i => ((p.getD i 0 : Nat) : Int) == ((q.getD i 0 : Nat) : Int)) then (none, ()) else (some false, ())) w := by
  intro l
  induction l with
  | nil => intro _; simp
  | cons i r ih =>
   intro h
   simp only [List.forIn_cons, Sem.run_bind, hp p hl i (h i (by simp)), hp q hm i (h i (by simp)), Result.andThen_ok, run_equalIn_int w d e .u8 .u8 _ _ he, List.all_cons]
   by_cases hb : (((p.getD i 0 : Nat) : Int) == ((q.getD i 0 : Nat) : Int)) = true
   ·simp only [hb, Bool.not_true, Bool.false_eq_true, if_false, Sem.run_pure, Result.andThen_ok, Bool.true_and]
    exact ih fun k hk => h k (by simp [hk])
   ·have hb' : (((p.getD i 0 : Nat) : Int) == ((q.getD i 0 : Nat) : Int)) = false := by simpa using hb
    simp only [hb', Bool.not_false, if_true, Sem.run_pure, Result.andThen_ok, Bool.false_and, Bool.false_eq_true, if_false]
 rw [key _ (fun i hi => by have := List.mem_range'.1 hi; obtain ⟨k, hk, rfl⟩ := this; simp at hk; omega)]
 have hall : ((List.range' 0 len).all (fun i => ((p.getD i 0 : Nat) : Int) == ((q.getD i 0 : Nat) : Int))) = decide (p = q) := by
  rw [Bool.eq_iff_iff, List.all_eq_true, decide_eq_true_eq]
  constructor
  ·intro h
   refine List.ext_getElem (by omega) fun i h1 h2 => ?_
   have := h i (by simp [List.mem_range']; omega)
   rw [beq_iff_eq] at this
   have := Int.ofNat.inj this
   simpa [List.getD_eq_getElem?_getD, h1, h2] using this
  ·rintro rfl i _
   simp
 have hsz : (⟨0, len, 1, by decide⟩ : Std.Legacy.Range).size = len := by simp [Std.Legacy.Range.size]
 rw [hsz, hall]
 by_cases h : p = q <;> simp [h, Result.andThen]
theorem sizeU8 (w : World) : (sizeOf 5).run Tryz.prog w = .ok 1 w := by kernel_rfl
theorem guardSet : Tryz.prog.eqGuardType Tryz.prog.depth 63 = false := by kernel_rfl
theorem equalIn_sets {p q : List Nat} (hl : p.length = 30) (hm : q.length = 30) (w : World) : (Op.equalIn 10000 63 (stV p) (stV q)).run Tryz.prog w = .ok (decide (p = q)) w :=
 run_equalIn_set w 9998 30 63 5 p q Tryz.underlying63 Tryz.underlying5 sizeU8 hl hm
theorem yieldsIf_set {ops : Array Oper} {S : World → Prop} {op : Oper} {a : Act} (hw : Region.wanted op (yielded ops a.tmps) = true) (x : Operand) (ho : op.op = .load 63 x)
  (b : Nat) (hx : a.eval x = .pointer (some ⟨b, 0, none⟩)) (s : List Nat) (hl : s.length = 30) (hS : ∀ w, S w → w.rangeAt b 0 (stCells s)) : YieldsIf Tryz.prog ops S op (stV s) a :=
 yieldsIf_load_mid hw _ x ho b 0 hx (stCells s) _ hS Tryz.underlying63 rfl (by rw [stCells_length, hl]; exact Tryz.setSize)
end Go.Proofs.YtafclmbecmgbnaaGreatDoor

/-
 SetWith. Conditions: as each theorem says.
-/
namespace Go.Proofs.YtafclmbecmgbnaaGreatDoor
open Go.RowKit
open Bits (Ok has with_ without)
def withZ (s : List Nat) (n : Int) : List Nat := if isNum n then with_ s n.toNat else s
theorem withZ_ok {s : List Nat} (h : Ok s) (n : Int) : Ok (withZ s n) := by
 unfold withZ; split
 ·exact h.with_ _
 ·exact h
structure WithSt (w wi : World) (b : Nat) (s : List Nat) : Prop where
 own : SOwn wi b s
 res : SOwn wi (b + 1) (zeroSt)
 below : Below w.heap.size w wi
 at_ : b = w.heap.size
theorem WithSt.new (w : World) (s : List Nat) : WithSt w ((w.alloc (.cells (stArr s) 63)).alloc (.cells (stArr (zeroSt)) 63)) w.heap.size s :=
 ⟨(SOwn.new (w := w) 63).below ((Below.refl _ _).alloc (Nat.le_refl _) _) (by simp), by
  have := SOwn.new (w := w.alloc (.cells (stArr s) 63)) (s := zeroSt) 63
  simpa using this, ((Below.refl _ _).alloc (Nat.le_refl _) _).alloc (by simp) _, rfl⟩
theorem WithSt.drew {w wi : World} {b : Nat} {s : List Nat} (h : WithSt w wi b s) : WithSt w wi.drew b s := ⟨h.own.drew, h.res.drew, h.below.drew, h.at_⟩
theorem WithSt.put {w wi : World} {b : Nat} {s : List Nat} (h : WithSt w wi b s) {i : Nat} (hi : i < s.length) (v : Nat) : WithSt w (wi.setCell ⟨b, i, none⟩ (.int .u8 (v : Int))) b (s.set i v) :=
 ⟨h.own.put hi v, h.res.other (by omega) _ _, h.below.setCell (by rw [h.at_]; exact Nat.le_refl _) _, h.at_⟩
set_option maxRecDepth 100000 in
theorem With_yes (s : List Nat) (h : Ok s) (m : Nat) (hm : m < 240) (w : World) :
  Calls Tryz.prog 71 #[stV s, .int .i64 m] w fun e w' => e = .returned (stV (with_ s m)) ∧ Below w.heap.size w w' := by
 have hz := Tryz.zeroSet
 have HN : ∀ w, Calls Tryz.prog 94 #[.int .i64 m] w fun e w' => e = .returned (.bool true) ∧ w' = w := fun w => (isNumber_any m w).mono fun e w' ⟨h1, h2⟩ => ⟨by rw [h1, isNum_nat hm], h2.symm⟩
 obtain ⟨a, HA⟩ : ∃ a, Hid (a = Bits.at_ s (m / 8)) := Hy
 obtain ⟨p, HP⟩ : ∃ p, Hid (p = 2 ^ (m % 8)) := Hy
 have HB : ∀ w, Calls Tryz.prog 95 #[.int .i64 m] w fun e w' => e = .returned (.int .u8 (p : Int)) ∧ w' = w := fun w => (bit_any m w).mono fun e w' ⟨h1, h2⟩ => ⟨by rw [h1, HP.out], h2.symm⟩
 have hst := WithSt.new w s
 obtain ⟨w2, HW⟩ : ∃ w2, Hid (w2 = (w.alloc (.cells (stArr s) 63)).alloc (.cells (stArr (zeroSt)) 63)) := Hy
 obtain ⟨b, HBB⟩ : ∃ b, Hid (b = w.heap.size) := Hy
 rw [← HW.out, ← HBB.out] at hst
 have HST := Hi hst
 clear hst
 go_enter Tryz.func71, Tryz.ntmps71
 go_wp2_with fail
 rw [← HW.out]
 rw [← HBB.out]
 refine (HN _).mono ?_
 rintro e w' ⟨rfl, rfl⟩
 go_wp2_with fail
 obtain ⟨i, HI⟩ : ∃ i, Hid (i = m / 8) := Hy
 have hi : i < 30 := by rw [HI.out]; omega
 have hwr : IntKind.i64.wrap ((m : Int) / 8) = (i : Int) := by rw [HI.out, IntKind.wrap_i64]; omega
 have hi2 : (i : Int) < 30 := by omega
 have hc := set_at HST.out.own.at_ (i := i) (by rw [h.len]; exact hi)
 have hf := HST.out.own.free i
 rw [HI.out, ← HA.out, ← HI.out] at hc
 go_region_law ((go_simp; go_at_call 95; refine (HB _).mono ?_; rintro e w' ⟨rfl, rfl⟩))
 all_goals
  rw [u8_or_nat a p (by rw [HA.out]; exact Bits.at_lt h _) (by rw [HP.out]; exact Bits.pow_lt m)]
  obtain ⟨w3, HW3⟩ : ∃ w3, Hid (w3 = (w'.setCell ⟨b, i, none⟩ (.int .u8 ((a ||| p : Nat) : Int))).drew) := Hy
  rw [← HW3.out]
  have HS3 : Hid (WithSt w w3 b (with_ s m)) := Hi (by
   have := (HST.out.put (i := i) (by rw [h.len]; exact hi) (a ||| p)).drew
   have e : with_ s m = s.set i (a ||| p) := by rw [HA.out, HP.out, HI.out]; rfl
   rw [HW3.out, e]
   exact this)
  clear HW3 HST hc hf HW
  have hl : (with_ s m).length = 30 := (h.with_ m).len
  go_wp2_with (with_reducible refine set_stop (o := ⟨some 15, _, _, _, _, _⟩) ?_)
  refine wpList_load_set rfl _ rfl b rfl (with_ s m) hl HS3.out.own.at_ ?_
  refine wpList_store_set rfl _ _ rfl (b + 1) (with_ s m) zeroSt hl zeroSt_length rfl rfl HS3.out.res ?_
  intro w4 HW4 HO4
  go_wp2_with fail
  refine bodyPost_ret (results_set rfl _ _ (b + 1) (with_ s m) rfl HO4.out.at_ hl) rfl ⟨rfl, ?_⟩
  have := HS3.out.below
  exact below_cells_of this HW4.out (by have := HS3.out.at_; omega)
set_option maxRecDepth 100000 in
theorem With_no (s : List Nat) (h : Ok s) (n : Int) (hn : isNum n = false) (w : World) :
  Calls Tryz.prog 71 #[stV s, .int .i64 n] w fun e w' => e = .returned (stV s) ∧ Below w.heap.size w w' := by
 have hz := Tryz.zeroSet
 have HN : ∀ w, Calls Tryz.prog 94 #[.int .i64 n] w fun e w' => e = .returned (.bool false) ∧ w' = w := fun w => (isNumber_any n w).mono fun e w' ⟨h1, h2⟩ => ⟨by rw [h1, hn], h2.symm⟩
 have hst := WithSt.new w s
 obtain ⟨w2, HW⟩ : ∃ w2, Hid (w2 = (w.alloc (.cells (stArr s) 63)).alloc (.cells (stArr zeroSt) 63)) := Hy
 obtain ⟨b, HBB⟩ : ∃ b, Hid (b = w.heap.size) := Hy
 rw [← HW.out, ← HBB.out] at hst
 have HS3 := Hi hst
 clear hst
 have hl := h.len
 go_enter Tryz.func71, Tryz.ntmps71
 go_wp2_with fail
 rw [← HW.out]
 rw [← HBB.out]
 refine (HN _).mono ?_
 rintro e w' ⟨rfl, rfl⟩
 go_wp2_with (with_reducible refine set_stop (o := ⟨some 15, _, _, _, _, _⟩) ?_)
 refine wpList_load_set rfl _ rfl b rfl s hl HS3.out.own.at_ ?_
 refine wpList_store_set rfl _ _ rfl (b + 1) s zeroSt hl zeroSt_length rfl rfl HS3.out.res ?_
 intro w4 HW4 HO4
 go_wp2_with fail
 refine bodyPost_ret (results_set rfl _ _ (b + 1) s rfl HO4.out.at_ hl) rfl ⟨rfl, ?_⟩
 have := HS3.out.below
 exact below_cells_of this HW4.out (by have := HS3.out.at_; omega)
theorem With_any (s : List Nat) (h : Ok s) (n : Int) (w : World) :
  Calls Tryz.prog 71 #[stV s, .int .i64 n] w fun e w' => e = .returned (stV (withZ s n)) ∧ Below w.heap.size w w' := by
 cases hn : isNum n with
 | true =>
  obtain ⟨m, rfl, hm⟩ := isNum_true hn
  rw [show withZ s (m : Int) = with_ s m by unfold withZ; rw [hn, if_pos rfl, Int.toNat_natCast]]
  exact With_yes s h m hm w
 | false =>
  rw [show withZ s n = s by unfold withZ; rw [hn, if_neg (by decide)]]
  exact With_no s h n hn w
set_option maxRecDepth 100000 in
theorem Without_yes (s : List Nat) (h : Ok s) (m : Nat) (hm : m < 240) (w : World) :
  Calls Tryz.prog 84 #[stV s, .int .i64 m] w fun e w' => e = .returned (stV (without s m)) ∧ Below w.heap.size w w' := by
 have hz := Tryz.zeroSet
 have HN : ∀ w, Calls Tryz.prog 94 #[.int .i64 m] w fun e w' => e = .returned (.bool true) ∧ w' = w := fun w => (isNumber_any m w).mono fun e w' ⟨h1, h2⟩ => ⟨by rw [h1, isNum_nat hm], h2.symm⟩
 obtain ⟨a, HA⟩ : ∃ a, Hid (a = Bits.at_ s (m / 8)) := Hy
 obtain ⟨p, HP⟩ : ∃ p, Hid (p = 2 ^ (m % 8)) := Hy
 have HB : ∀ w, Calls Tryz.prog 95 #[.int .i64 m] w fun e w' => e = .returned (.int .u8 (p : Int)) ∧ w' = w := fun w => (bit_any m w).mono fun e w' ⟨h1, h2⟩ => ⟨by rw [h1, HP.out], h2.symm⟩
 have hst := WithSt.new w s
 obtain ⟨w2, HW⟩ : ∃ w2, Hid (w2 = (w.alloc (.cells (stArr s) 63)).alloc (.cells (stArr (zeroSt)) 63)) := Hy
 obtain ⟨b, HBB⟩ : ∃ b, Hid (b = w.heap.size) := Hy
 rw [← HW.out, ← HBB.out] at hst
 have HST := Hi hst
 clear hst
 go_enter Tryz.func84, Tryz.ntmps84
 go_wp2_with fail
 rw [← HW.out]
 rw [← HBB.out]
 refine (HN _).mono ?_
 rintro e w' ⟨rfl, rfl⟩
 go_wp2_with fail
 obtain ⟨i, HI⟩ : ∃ i, Hid (i = m / 8) := Hy
 have hi : i < 30 := by rw [HI.out]; omega
 have hwr : IntKind.i64.wrap ((m : Int) / 8) = (i : Int) := by rw [HI.out, IntKind.wrap_i64]; omega
 have hi2 : (i : Int) < 30 := by omega
 have hc := set_at HST.out.own.at_ (i := i) (by rw [h.len]; exact hi)
 have hf := HST.out.own.free i
 rw [HI.out, ← HA.out, ← HI.out] at hc
 go_region_law ((go_simp; go_at_call 95; refine (HB _).mono ?_; rintro e w' ⟨rfl, rfl⟩))
 all_goals
  rw [u8_andNot_nat a p (by rw [HA.out]; exact Bits.at_lt h _) (by rw [HP.out]; exact Bits.pow_lt m)]
  obtain ⟨w3, HW3⟩ : ∃ w3, Hid (w3 = (w'.setCell ⟨b, i, none⟩ (.int .u8 ((a &&& (255 - p) : Nat) : Int))).drew) := Hy
  rw [← HW3.out]
  have HS3 : Hid (WithSt w w3 b (without s m)) := Hi (by
   have := (HST.out.put (i := i) (by rw [h.len]; exact hi) (a &&& (255 - p))).drew
   have e : without s m = s.set i (a &&& (255 - p)) := by rw [HA.out, HP.out, HI.out]; rfl
   rw [HW3.out, e]
   exact this)
  clear HW3 HST hc hf HW
  have hl : (without s m).length = 30 := (h.without m).len
  go_wp2_with (with_reducible refine set_stop (o := ⟨some 15, _, _, _, _, _⟩) ?_)
  refine wpList_load_set rfl _ rfl b rfl (without s m) hl HS3.out.own.at_ ?_
  refine wpList_store_set rfl _ _ rfl (b + 1) (without s m) zeroSt hl zeroSt_length rfl rfl HS3.out.res ?_
  intro w4 HW4 HO4
  go_wp2_with fail
  refine bodyPost_ret (results_set rfl _ _ (b + 1) (without s m) rfl HO4.out.at_ hl) rfl ⟨rfl, ?_⟩
  have := HS3.out.below
  exact below_cells_of this HW4.out (by have := HS3.out.at_; omega)
end Go.Proofs.YtafclmbecmgbnaaGreatDoor

/-
 SetCount. Conditions: as each theorem says.
-/
namespace Go.Proofs.YtafclmbecmgbnaaGreatDoor
open Go.RowKit
open Bits (Ok has with_ without count countBelow first both)
def firstZ (s : List Nat) (x y : Int) : Option Nat := first s (max x 0).toNat (min y 240 - max x 0).toNat
def firstV : Option Nat → Value
 | some n => .tuple #[.int .i64 (n : Int), .bool true]
 | none => .tuple #[.int .i64 0, .bool false]
def FirstRel (w : World) (b : Nat) (s : List Nat) (a c : Nat) (i : Value) (wr : World) : Prop :=
 ∃ k : Nat, k ≤ c ∧ i = .int .i64 ((a + k : Nat) : Int) ∧ first s a c = first s (a + k) (c - k) ∧ wr.rangeAt b 0 (stCells s) ∧ Below w.heap.size w wr
theorem FirstRel.start {w w1 : World} {b : Nat} {s : List Nat} {a c : Nat} {v : Int} (hv : v = (a : Int)) (hr : w1.rangeAt b 0 (stCells s)) (hb : Below w.heap.size w w1) : FirstRel w b s a c (.int .i64 v) w1 :=
 ⟨0, Nat.zero_le _, by rw [hv]; rfl, rfl, hr, hb⟩
set_option maxRecDepth 100000 in
theorem First_any (s : List Nat) (hok : Ok s) (x y : Int) (w : World) :
  Calls Tryz.prog 77 #[stV s, .int .i64 x, .int .i64 y] w fun e w' => e = .returned (firstV (firstZ s x y)) ∧ Below w.heap.size w w' := by
 obtain ⟨a, HA⟩ : ∃ a : Nat, Hid (max x 0 = (a : Int)) := ⟨(max x 0).toNat, Hi (by omega)⟩
 obtain ⟨c, HC⟩ : ∃ c : Nat, Hid (c = (min y 240 - a).toNat) := Hy
 have HF : Hid (firstZ s x y = first s a c) := Hi (by unfold firstZ; rw [HA.out, HC.out]; rfl)
 rw [HF.out]
 obtain ⟨w1, HW⟩ : ∃ w1, Hid (w1 = w.alloc (.cells (stArr s) 63)) := Hy
 obtain ⟨b, HBB⟩ : ∃ b, Hid (b = w.heap.size) := Hy
 have HR1 : Hid (w1.rangeAt b 0 (stCells s)) := Hi (by rw [HW.out, HBB.out]; exact (SOwn.new _).at_)
 have HB1 : Hid (Below w.heap.size w w1) := Hi (by rw [HW.out]; exact (Below.refl _ _).alloc (Nat.le_refl _) _)
 rcases (show x < 0 ∨ 0 ≤ x by omega) with hx | hx
 all_goals
  go_enter Tryz.func77, Tryz.ntmps77
  go_wp2_with fail
  rw [← HW.out, ← HBB.out]
  go_loopw [8] (fun i wr => FirstRel w b s a c i wr) (fun i _ => (240 - intOf i).toNat)
  case atStart => exact FirstRel.start (by have := HA.out; omega) HR1.out HB1.out
  case round =>
   clear hx
   obtain ⟨k, hk, rfl, hf, hr, hb⟩ := hrel
   have HR := Hi hr
   have HB := Hi hb
   have HFF := Hi hf
   clear hr hb HR1 HB1 hf
   obtain ⟨j, HJ⟩ : ∃ j, Hid (j = a + k) := Hy
   rw [← HJ.out]
   by_cases hlt : (j : Int) < y ∧ (j : Int) < 240
   ·obtain ⟨hy1, hy2⟩ := hlt
    have hj : j < 240 := by omega
    have hkc : Hid (k < c) := Hi (by have := HC.out; have := HJ.out; omega)
    go_wp2_with (with_reducible refine set_stop (o := ⟨some 17, _, _, _, _, _⟩) ?_)
    all_goals
     unfold SetStop
     refine wpList_load_set rfl _ rfl b rfl s hok.len HR.out ?_
     go_wp2_with fail
     refine (Has_yes s hok j hj wr).mono ?_
     rintro e w' ⟨rfl, hb⟩
     have HB2 : Hid (Below w.heap.size w w') := Hi (HB.out.trans (hb.mono HB.out.size))
     have HR2 : Hid (w'.rangeAt b 0 (stCells s)) := Hi (range_carry HR.out hb)
     clear hb HB HR
     obtain ⟨d, HD⟩ : ∃ d, Hid (c - k = d + 1) := ⟨c - k - 1, Hi (by have := hkc.out; omega)⟩
     have HE : Hid (first s a c = if has s j then first s (j + 1) d else some j) := Hi (by rw [HFF.out, ← HJ.out, HD.out]; rfl)
     obtain ⟨v, HV⟩ : ∃ v, Hid (v = has s j) := Hy
     rw [← HV.out]
     cases v with
     | true =>
      go_wp2_with fail
      go_roundw
      case rel => exact ⟨k + 1, hkc.out, by rw [HJ.out]; go_num, by rw [HE.out, ← HV.out, if_pos rfl, HJ.out, show c - (k + 1) = d by have := HD.out; omega]; rfl, HR2.out, HB2.out⟩
      case measure => simp [intOf]; omega
     | false =>
      go_wp2_with fail
      go_ret2
      exact ⟨by rw [HE.out, ← HV.out, if_neg (by decide)]; rfl, HB2.out⟩
   ·have hn : Hid (first s a c = none) := Hi (by
     rw [HFF.out, show c - k = 0 by have := HC.out; have := HJ.out; omega]
     rfl)
    by_cases hy : 240 < y
    all_goals
     go_wp2_with fail
     go_ret2
     exact ⟨by rw [hn.out]; rfl, HB.out⟩
def bothK (s t : List Nat) (k : Nat) : List Nat := (both s t).take k ++ s.drop k
theorem bothK_length {s t : List Nat} (hs : Ok s) (ht : Ok t) (k : Nat) : (bothK s t k).length = 30 := by
 have := (hs.both ht).len
 have := hs.len
 unfold bothK
 rw [List.length_append, List.length_take, List.length_drop]
 omega
theorem bothK_zero (s t : List Nat) : bothK s t 0 = s := by simp [bothK]
theorem bothK_all {s t : List Nat} (hs : Ok s) (ht : Ok t) : bothK s t 30 = both s t := by
 have h1 := (hs.both ht).len
 have h2 := hs.len
 unfold bothK
 rw [List.take_of_length_le (by omega), List.drop_of_length_le (by omega), List.append_nil]
theorem bothK_at {s t : List Nat} (hs : Ok s) (ht : Ok t) {k : Nat} (hk : k < 30) : Bits.at_ (bothK s t k) k = Bits.at_ s k := by
 have h1 := (hs.both ht).len
 have h2 := hs.len
 unfold Bits.at_ bothK
 rw [List.getD_eq_getElem?_getD, List.getD_eq_getElem?_getD, List.getElem?_append_right (by rw [List.length_take]; omega), List.getElem?_drop, List.length_take]
 congr 2
 omega
theorem bothK_succ {s t : List Nat} (hs : Ok s) (ht : Ok t) {k : Nat} (hk : k < 30) : (bothK s t k).set k (Bits.at_ s k ||| Bits.at_ t k) = bothK s t (k + 1) := by
 have h1 := (hs.both ht).len
 have h2 := hs.len
 have h3 := ht.len
 have e : (both s t)[k]'(by omega) = Bits.at_ s k ||| Bits.at_ t k := by
  rw [← Bits.at_eq (by omega), ← Bits.at_eq (by omega)]
  simp [both]
 have hl : ((both s t).take k).length = k := by rw [List.length_take]; omega
 unfold bothK
 rw [List.set_append_right _ _ (by rw [hl]; exact Nat.le_refl _), hl, Nat.sub_self, List.drop_eq_getElem_cons (by omega), List.set_cons_zero, ← e, List.take_succ_eq_append_getElem (by omega), List.append_assoc]
 rfl
def BothRel (w : World) (b : Nat) (s t : List Nat) (i : Value) (wr : World) : Prop :=
 ∃ k : Nat, k ≤ 30 ∧ i = .int .i64 k ∧ SOwn wr b (bothK s t k) ∧ wr.rangeAt (b + 1) 0 (stCells t) ∧ SOwn wr (b + 2) zeroSt ∧ Below w.heap.size w wr
set_option maxRecDepth 100000 in
theorem Both_any (s t : List Nat) (hs : Ok s) (ht : Ok t) (w : World) :
  Calls Tryz.prog 115 #[stV s, stV t] w fun e w' => e = .returned (stV (both s t)) ∧ Below w.heap.size w w' := by
 have hz := Tryz.zeroSet
 obtain ⟨w1, HW⟩ : ∃ w1, Hid (w1 = ((w.alloc (.cells (stArr s) 63)).alloc (.cells (stArr t) 63)).alloc (.cells (stArr zeroSt) 63)) := Hy
 obtain ⟨b, HBB⟩ : ∃ b, Hid (b = w.heap.size) := Hy
 have HB1 : Hid (Below w.heap.size w w1) := Hi (by rw [HW.out]; exact (((Below.refl _ _).alloc (Nat.le_refl _) _).alloc (by simp) _).alloc (by simp; omega) _)
 have HO1 : Hid (SOwn w1 b s) := Hi (by
  rw [HW.out, HBB.out]
  exact (SOwn.new _).below (((Below.refl _ _).alloc (Nat.le_refl _) _).alloc (by simp) _) (by simp))
 have HT1 : Hid (w1.rangeAt (b + 1) 0 (stCells t)) := Hi (by
  rw [HW.out, HBB.out]
  have := (SOwn.new (w := w.alloc (.cells (stArr s) 63)) (s := t) 63).below (((Below.refl _ _).alloc (Nat.le_refl _) (.cells (stArr zeroSt) 63))) (by simp)
  simpa using this.at_)
 have HZ1 : Hid (SOwn w1 (b + 2) zeroSt) := Hi (by
  rw [HW.out, HBB.out]
  have := SOwn.new (w := (w.alloc (.cells (stArr s) 63)).alloc (.cells (stArr t) 63)) (s := zeroSt) 63
  simpa using this)
 go_enter Tryz.func115, Tryz.ntmps115
 go_wp2_with fail
 rw [← HW.out, ← HBB.out]
 go_loopw [6] (fun i wr => BothRel w b s t i wr) (fun i _ => 30 - (intOf i).toNat)
 case atStart => exact ⟨0, by decide, rfl, by rw [bothK_zero]; exact HO1.out, HT1.out, HZ1.out, HB1.out⟩
 case round =>
  obtain ⟨k, hk, rfl, ho, hr, hzz, hb⟩ := hrel
  have HO := Hi ho
  have HR := Hi hr
  have HZ := Hi hzz
  have HB := Hi hb
  clear ho hr hzz hb HO1 HT1 HZ1 HB1
  by_cases hlt : k < 30
  ·obtain ⟨x, HX⟩ : ∃ x, Hid (x = Bits.at_ s k) := Hy
   obtain ⟨y, HY⟩ : ∃ y, Hid (y = Bits.at_ t k) := Hy
   have hc1 := set_at HO.out.at_ (i := k) (by rw [bothK_length hs ht]; exact hlt)
   have hc2 := set_at HR.out (i := k) (by rw [ht.len]; exact hlt)
   rw [bothK_at hs ht hlt, ← HX.out] at hc1
   rw [← HY.out] at hc2
   have hf := HO.out.free k
   have hk2 : (k : Int) < 30 := by omega
   go_wp2_with fail
   go_region
   clear hc1 hc2 hf
   rw [u8_or_nat x y (by rw [HX.out]; exact Bits.at_lt hs _) (by rw [HY.out]; exact Bits.at_lt ht _)]
   obtain ⟨w3, HW3⟩ : ∃ w3, Hid (w3 = (wr.setCell ⟨b, k, none⟩ (.int .u8 ((x ||| y : Nat) : Int))).drew) := Hy
   rw [← HW3.out]
   have hbb : w.heap.size ≤ b := by rw [HBB.out]; exact Nat.le_refl _
   have HO3 : Hid (SOwn w3 b (bothK s t (k + 1))) := Hi (by
    have := (HO.out.put (i := k) (by rw [bothK_length hs ht]; exact hlt) (x ||| y)).drew
    rw [HX.out, HY.out, bothK_succ hs ht hlt] at this
    rw [HW3.out, HX.out, HY.out]
    exact this)
   have HR3 : Hid (w3.rangeAt (b + 1) 0 (stCells t)) := Hi (by
    rw [HW3.out]
    intro j v hv
    have := HR.out j v hv
    exact (World.cell?_setCell_other _ _ _ _ (by intro hh; injection hh; omega)).trans this)
   have HZ3 : Hid (SOwn w3 (b + 2) zeroSt) := Hi (by
    rw [HW3.out]
    exact (HZ.out.other (by omega) _ _).drew)
   have HB3 : Hid (Below w.heap.size w w3) := Hi (by
    rw [HW3.out]
    exact (HB.out.setCell hbb _).drew)
   clear HW3 HO HR HZ HB hbb
   go_wp2_with fail
   go_roundw
   case rel => exact ⟨k + 1, hlt, by go_num, HO3.out, HR3.out, HZ3.out, HB3.out⟩
   case measure => simp [intOf]; omega
  ·obtain rfl : k = 30 := by omega
   have hl := (hs.both ht).len
   have HO2 : Hid (SOwn wr b (both s t)) := Hi (by have := HO.out; rwa [bothK_all hs ht] at this)
   clear HO
   go_wp2_with (with_reducible refine set_stop (o := ⟨some 18, _, _, _, _, _⟩) ?_)
   refine wpList_load_set rfl _ rfl b rfl (both s t) hl HO2.out.at_ ?_
   refine wpList_store_set rfl _ _ rfl (b + 2) (both s t) zeroSt hl zeroSt_length rfl rfl HZ.out ?_
   intro w4 HW4 HO4
   go_wp2_with fail
   refine bodyPost_ret (results_set rfl _ _ (b + 2) (both s t) rfl HO4.out.at_ hl) rfl ⟨rfl, ?_⟩
   exact below_cells_of HB.out HW4.out (by have := HBB.out; omega)
end Go.Proofs.YtafclmbecmgbnaaGreatDoor
