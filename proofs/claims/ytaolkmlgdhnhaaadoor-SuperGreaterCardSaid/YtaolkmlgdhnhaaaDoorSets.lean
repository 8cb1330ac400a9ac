/-
  Sets: several texts in one file. Conditions: as each part says.
-/
import Derived.Test.YtaolkmlgdhnhaaaDoorMaths
import Derived.Test.YtaolkmlgdhnhaaaDoorPacks
import Derived.IntWalk
import Derived.BigQuiet
import Derived.Laws.BitsAllLaws
import Derived.Lib.Hide
import Derived.Deep.MidRow
import Derived.Deep.WholeRow
import Derived.Deep.AppendLies
import Derived.OwnWalk
import Derived.Laws.Tables
import Derived.Lib.LazyBuf
import Derived.Deep.DeepCutAuto
import Derived.Test.YtaolkmlgdhnhaaaDoorDisks
import Derived.Laws.StructEq
/-
  The contracts of bits.isNumber and bits.bit. Conditions: none beyond the premises of each theorem.
-/
namespace Go.Proofs.YtaolkmlgdhnhaaaDoor
open Go.RowKit

/-- may a set have this number? -/
def isNum (n : Int) : Bool := decide (0 ≤ n ∧ n < 240)
theorem isNum_true {n : Int} (h : isNum n = true) : ∃ m : Nat, n = (m : Int) ∧ m < 240 := by
  have := of_decide_eq_true h
  exact ⟨n.toNat, by omega, by omega⟩
theorem isNum_nat {m : Nat} (h : m < 240) : isNum (m : Int) = true := decide_eq_true (by omega)
theorem set_bool {a b : Bool} (h : a = b) : Ending.returned (.bool a) = .returned (.bool b) := by rw [h]
theorem isNumber_any (n : Int) (w : World) : Calls Tryd.prog 48 #[.int .i64 n] w fun e w' => e = .returned (.bool (isNum n)) ∧ w = w' := by
  go_enter Tryd.func48, Tryd.ntmps48
  go_wp2
  all_goals go_ret
  all_goals exact ⟨set_bool (by simp [isNum]; try omega), rfl⟩
theorem bit_any (n : Nat) (w : World) : Calls Tryd.prog 49 #[.int .i64 n] w fun e w' => e = .returned (.int .u8 ((2 ^ (n % 8) : Nat) : Int)) ∧ w = w' := by
  go_enter Tryd.func49, Tryd.ntmps49
  go_wp2
  go_ret
  refine ⟨?_, rfl⟩
  show Ending.returned (Value.int IntKind.u8 (2 ^ (n % 8) % 256)) = _
  have h := Bits.pow_lt n
  have e : (2 : Int) ^ (n % 8) = ((2 ^ (n % 8) : Nat) : Int) := by simp
  rw [e]
  generalize 2 ^ (n % 8) = m at h ⊢
  rw [show (m : Int) % 256 = (m : Int) by omega]
end Go.Proofs.YtaolkmlgdhnhaaaDoor

/-
  A set of numbers from 0 to 239 in memory: 30 bytes, as a value and as a row. Conditions: none beyond the premises of each theorem.
-/
namespace Go.Proofs.YtaolkmlgdhnhaaaDoor
open Go.RowKit
open Bits (Ok has at_)

/-- a set's bytes as cells -/
def stCells (s : List Nat) : List Value := s.map fun n : Nat => .int .u8 (n : Int)
def stArr (s : List Nat) : Array Value := (stCells s).toArray
abbrev stV (s : List Nat) : Value := .agg (stArr s)
theorem stCells_length (s : List Nat) : (stCells s).length = s.length := by simp [stCells]
theorem stArr_size (s : List Nat) : (stArr s).size = s.length := by simp [stArr, stCells]
theorem stCells_at {s : List Nat} {i : Nat} (h : i < s.length) : (stCells s)[i]? = some (.int .u8 (at_ s i : Int)) := by
  rw [← Bits.at_eq h]
  simp [stCells, h]
theorem stCells_one (s : List Nat) : ∀ v ∈ stCells s, v.oneCell' = true := by
  intro v hv
  obtain ⟨n, _, rfl⟩ := List.mem_map.1 hv
  rfl
theorem stArr_all (s : List Nat) : (stArr s).all (·.oneCell') = true := all_oneCell_toArray (stCells_one s)
/-- the empty set -/
def zeroSt : List Nat := List.replicate 30 0
theorem zeroSt_length : zeroSt.length = 30 := by simp [zeroSt]
theorem Tryd.setSize : (Tryd.prog.info? 31).map (·.size) = some 30 := by kernel_rfl
theorem Tryd.infoSet : (Tryd.prog.info? 31).map (fun i => (i.zero, i.size)) = some (some (stV (zeroSt)), 30) := by kernel_rfl
theorem Tryd.zeroSet (w : World) : (zeroValue 31).run Tryd.prog w = .ok (stV (zeroSt)) w := (zero_of_info Tryd.infoSet).1 w
theorem set_at {w : World} {b i : Nat} {s : List Nat} (h : w.rangeAt b 0 (stCells s)) (hi : i < s.length) : w.cell? ⟨b, i, none⟩ = some (.int .u8 (Bits.at_ s i : Int)) := by
  have := h i _ (stCells_at hi)
  rwa [Nat.zero_add] at this
theorem range_carry {w w' : World} {b o : Nat} {cs : List Value} (h : w.rangeAt b o cs) (hb : Below w.heap.size w w') : w'.rangeAt b o cs := fun j v hv => (hb.cell (p := ⟨b, o + j, none⟩) (below_block (h j v hv))).trans (h j v hv)
theorem below_cells_of {B b : Nat} {w w2 w0 : World} {vs : List Value} {o : Nat} (h : Below B w0 w) (hw : w2 = w.setCells b o vs) (hb : B ≤ b) : Below B w0 w2 := by
  subst hw
  exact below_setCells hb vs o w h
theorem set_below_drewN {B : Nat} {a w : World} (h : Below B a w) (n : Nat) : Below B a (w.drewN n) := ⟨h.os, h.tape, h.output, h.size, h.block⟩
theorem size_alloc_one (w : World) (o : Obj) : (w.alloc o).heap.size = w.heap.size + 1 := by simp
/-- a set of the call's own -/
structure SOwn (w : World) (b : Nat) (s : List Nat) : Prop where
  at_ : w.rangeAt b 0 (stCells s)
  free : ∀ j, w.frozen? ⟨b, j, none⟩ = false
theorem SOwn.new {w : World} {s : List Nat} (t : TypeId) : SOwn (w.alloc (.cells (stArr s) t)) w.heap.size s := by
  have hh : (w.alloc (.cells (stArr s) t)).heap[w.heap.size]? = some (.cells (stArr s) t (0, 0)) := heap_alloc_last w _
  refine ⟨fun j u hu => ?_, fun j => frozen_of_row _ _ j _ _ hh⟩
  rw [cell_of_row _ w.heap.size (0 + j) _ _ _ hh, Nat.zero_add]
  simpa [stArr] using hu
theorem SOwn.below {w w' : World} {b B : Nat} {s : List Nat} (h : SOwn w b s) (hb : Below B w w') (hB : b < B) : SOwn w' b s :=
  ⟨fun j v hv => (hb.cell (p := ⟨b, 0 + j, none⟩) hB).trans (h.at_ j v hv), fun j => (hb.frozen (p := ⟨b, j, none⟩) hB).trans (h.free j)⟩
theorem SOwn.drew {w : World} {b : Nat} {s : List Nat} (h : SOwn w b s) : SOwn w.drew b s := ⟨h.at_, h.free⟩
theorem SOwn.lt {w : World} {b : Nat} {s : List Nat} (h : SOwn w b s) (hl : 0 < s.length) : b < w.heap.size := below_block (h.at_ 0 _ (stCells_at hl))
theorem SOwn.there {w : World} {b : Nat} {s : List Nat} (h : SOwn w b s) : w.there b 0 s.length := fun j hj => ⟨by rw [h.at_ j _ (stCells_at hj)]; rfl, h.free _⟩
/-- a byte is laid anew -/
theorem SOwn.put {w : World} {b : Nat} {s : List Nat} (h : SOwn w b s) {i : Nat} (hi : i < s.length) (v : Nat) : SOwn (w.setCell ⟨b, i, none⟩ (.int .u8 (v : Int))) b (s.set i v) := by
  refine ⟨fun j u hu => ?_, fun j => by rw [World.frozen?_setCell]; exact h.free j⟩
  rw [Nat.zero_add]
  have hj : j < s.length := by
    have := (List.getElem?_eq_some_iff.1 hu).1
    simpa [stCells] using this
  rw [stCells_at (by simpa using hj), Bits.at_set hi] at hu
  obtain rfl := Option.some.inj hu
  by_cases e : i = j
  · subst e
    rw [if_pos rfl]
    exact World.cell?_setCell_same _ _ _ (set_at h.at_ hi)
  · rw [if_neg e, World.cell?_setCell_other _ _ _ _ (by intro hh; injection hh; omega)]
    exact set_at h.at_ hj
theorem SOwn.other {w : World} {b c : Nat} {s : List Nat} (h : SOwn w b s) (hc : c ≠ b) (i : Nat) (v : Value) : SOwn (w.setCell ⟨c, i, none⟩ v) b s := by
  refine ⟨fun j u hu => ?_, fun j => by rw [World.frozen?_setCell]; exact h.free j⟩
  rw [World.cell?_setCell_other _ _ _ _ (by intro hh; injection hh; omega)]
  exact h.at_ j u hu
/-- all of it is laid anew -/
theorem SOwn.lay {w : World} {b : Nat} {s t : List Nat} (h : SOwn w b s) (hl : t.length = s.length) : SOwn (w.setCells b 0 (stCells t)) b t :=
  ⟨World.rangeAt_setCells_same w b 0 _ (by rw [stCells_length, hl]; exact h.there), fun j => by rw [World.frozen?_setCells]; exact h.free j⟩
/-- a load of a set -/
theorem loadSet {w : World} {b : Nat} {s : List Nat} (h : w.rangeAt b 0 (stCells s)) (hl : s.length = 30) : (loadVar 31 ⟨b, 0, none⟩).run Tryd.prog w = .ok (stV s) w :=
  run_loadVar_mid w b 0 31 (stCells s) _ h Tryd.underlying31 rfl (by rw [stCells_length, hl]; exact Tryd.setSize)
/-- a result that lies in a cell of its own -/
theorem results_set {fn : Func} {p : Tmp} (h : fn.results = #[.cell p 31]) (tmps : Array Value) (w : World) (b : Nat) (s : List Nat)
    (hp : tmps.getD p undef = .pointer (some ⟨b, 0, none⟩)) (hc : w.rangeAt b 0 (stCells s)) (hl : s.length = 30) : (results fn tmps).run Tryd.prog w = .ok (stV s) w := by
  have hp' : tmps[p]?.getD undef = .pointer (some ⟨b, 0, none⟩) := by simpa using hp
  simp [results, h, hp', asAddr, loadSet hc hl]
/-- the walk stands still here -/
def SetStop (p : Prop) : Prop := p
theorem set_stop {P : Program} {ops : Array Oper} {rest : List Oper} {o : Oper} {a : Act} {w : World} {Q : Exit → Act → World → Prop} (h : SetStop (wpList P ops Q (o :: rest) a w)) : wpList P ops Q (o :: rest) a w := h
/-- a load of a set, in a region without an order -/
theorem wpList_load_set {ops : Array Oper} {rest : List Oper} {op : Oper} {a : Act} {w : World} {Q : Exit → Act → World → Prop} (hw : Region.wanted op (yielded ops a.tmps) = true) (x : Operand) (ho : op.op = .load 31 x)
    (b : Nat) (hx : a.eval x = .pointer (some ⟨b, 0, none⟩)) (s : List Nat) (hl : s.length = 30) (hc : w.rangeAt b 0 (stCells s))
    (h : wpList Tryd.prog ops Q rest (a.put op.dst (stV s)) w) : wpList Tryd.prog ops Q (op :: rest) a w :=
  wpList_step fun _ hK => by
    rw [if_pos hw]
    exact wp_load_mid 31 x ho b 0 hx (stCells s) _ hc Tryd.underlying31 rfl (by rw [stCells_length, hl]; exact Tryd.setSize) (hK _ _ h)
/-- a store of a set: the world behind it is a letter -/
theorem wpList_store_set {ops : Array Oper} {rest : List Oper} {op : Oper} {a : Act} {w : World} {Q : Exit → Act → World → Prop} (hgd : op.guard = none) (x y : Operand) (ho : op.op = .store 31 x y)
    (b : Nat) (s t : List Nat) (hl : s.length = 30) (hs : t.length = 30) (hx : a.eval x = .pointer (some ⟨b, 0, none⟩)) (hy : a.eval y = stV s) (hb : SOwn w b t)
    (h : ∀ w2, Hid (w2 = w.setCells b 0 (stCells s)) → Hid (SOwn w2 b s) → wpList Tryd.prog ops Q rest (a.put op.dst undef) w2) : wpList Tryd.prog ops Q (op :: rest) a w :=
  wpList_store_mid hgd _ x y ho b 0 (stArr s) hx hy (by rw [stArr_size, hl, ← hs]; exact hb.there) (by rw [stArr_size, hl]; exact Tryd.setSize) (stArr_all s) (h _ (Lib.hid rfl) (Lib.hid (hb.lay (by omega))))
end Go.Proofs.YtaolkmlgdhnhaaaDoor

/-
  The contract of bits.Has. Conditions: none beyond the premises of each theorem.
-/
namespace Go.Proofs.YtaolkmlgdhnhaaaDoor
open Go.RowKit
open Bits (Ok has)

/-- what Has answers -/
def hasZ (s : List Nat) (n : Int) : Bool := isNum n && has s n.toNat
theorem hasZ_nat {s : List Nat} {m : Nat} (h : m < 240) : hasZ s (m : Int) = has s m := by
  unfold hasZ
  rw [isNum_nat h, Bool.true_and, Int.toNat_natCast]
theorem and_bit {a p j : Nat} (hp : p = 2 ^ j) (ha : a < 256) (hj : j < 8) : (bits .and .u8 (a : Int) (p : Int) != 0) = a.testBit j := by
  have h2 : p < 256 := by
    have h : (2 : Nat) ^ j < 2 ^ 8 := Nat.pow_lt_pow_right (by decide) hj
    omega
  have e : a &&& 2 ^ j = if a.testBit j then 2 ^ j else 0 := by
    refine Nat.eq_of_testBit_eq fun i => ?_
    rw [Nat.testBit_and, Nat.testBit_two_pow]
    by_cases h : j = i
    · subst h
      cases a.testBit j <;> simp
    · rw [decide_eq_false h, Bool.and_false]
      cases a.testBit j <;> simp [h]
  have h3 : 0 < 2 ^ j := Nat.two_pow_pos j
  rw [u8_and_nat a p ha h2, hp, e]
  clear hp h2 e
  generalize 2 ^ j = q at h3 ⊢
  cases a.testBit j with
  | false => simp
  | true =>
    simp
    omega
set_option maxRecDepth 100000 in
theorem Has_yes (s : List Nat) (h : Ok s) (m : Nat) (hm : m < 240) (w : World) :
    Calls Tryd.prog 29 #[stV s, .int .i64 m] w fun e w' => e = .returned (.bool (has s m)) ∧ Below w.heap.size w w' := by
  obtain ⟨w1, HW⟩ : ∃ w1, Hid (w1 = w.alloc (.cells (stArr s) 31)) := ⟨_, Lib.hid rfl⟩
  have hr : w1.rangeAt w.heap.size 0 (stCells s) := by rw [HW.out]; exact (SOwn.new _).at_
  have hc := set_at hr (i := m / 8) (by rw [h.len]; omega)
  obtain ⟨a, HA⟩ : ∃ a, Hid (a = Bits.at_ s (m / 8)) := ⟨_, Lib.hid rfl⟩
  obtain ⟨p, HP⟩ : ∃ p, Hid (p = 2 ^ (m % 8)) := ⟨_, Lib.hid rfl⟩
  rw [← HA.out] at hc
  have HN : ∀ w, Calls Tryd.prog 48 #[.int .i64 m] w fun e w' => e = .returned (.bool true) ∧ w' = w := fun w => (isNumber_any m w).mono fun e w' ⟨h1, h2⟩ => ⟨by rw [h1, isNum_nat hm], h2.symm⟩
  have HB : ∀ w, Calls Tryd.prog 49 #[.int .i64 m] w fun e w' => e = .returned (.int .u8 (p : Int)) ∧ w' = w := fun w => (bit_any m w).mono fun e w' ⟨h1, h2⟩ => ⟨by rw [h1, HP.out], h2.symm⟩
  go_enter Tryd.func29, Tryd.ntmps29
  go_wp2_with fail
  rw [← HW.out]
  go_quiet (first | (go_at_call 48; exact Calls.quiet_of_same (HN _)) | (go_at_call 49; exact Calls.quiet_of_same (HB _)))
  rw [and_bit HP.out (by rw [HA.out]; exact Bits.at_lt h _) (Nat.mod_lt _ (by decide)), HA.out]
  go_wp2_with fail
  go_ret
  exact ⟨rfl, by rw [HW.out]; exact set_below_drewN ((Below.refl _ _).alloc (Nat.le_refl _) _) _⟩
set_option maxRecDepth 100000 in
theorem Has_no (s : List Nat) (n : Int) (hn : isNum n = false) (w : World) :
    Calls Tryd.prog 29 #[stV s, .int .i64 n] w fun e w' => e = .returned (.bool false) ∧ Below w.heap.size w w' := by
  obtain ⟨w1, HW⟩ : ∃ w1, Hid (w1 = w.alloc (.cells (stArr s) 31)) := ⟨_, Lib.hid rfl⟩
  have HN : ∀ w, Calls Tryd.prog 48 #[.int .i64 n] w fun e w' => e = .returned (.bool false) ∧ w' = w := fun w => (isNumber_any n w).mono fun e w' ⟨h1, h2⟩ => ⟨by rw [h1, hn], h2.symm⟩
  go_enter Tryd.func29, Tryd.ntmps29
  go_wp2_with fail
  rw [← HW.out]
  go_quiet ((go_at_call 48; exact Calls.quiet_of_same (HN _)))
  go_wp2_with fail
  go_ret
  exact ⟨rfl, by rw [HW.out]; exact set_below_drewN ((Below.refl _ _).alloc (Nat.le_refl _) _) _⟩
theorem Has_any (s : List Nat) (h : Ok s) (n : Int) (w : World) :
    Calls Tryd.prog 29 #[stV s, .int .i64 n] w fun e w' => e = .returned (.bool (hasZ s n)) ∧ Below w.heap.size w w' := by
  cases hn : isNum n with
  | true =>
    obtain ⟨m, rfl, hm⟩ := isNum_true hn
    rw [hasZ_nat hm]
    exact Has_yes s h m hm w
  | false =>
    have e : hasZ s n = false := by unfold hasZ; rw [hn, Bool.false_and]
    rw [e]
    exact Has_no s n hn w
end Go.Proofs.YtaolkmlgdhnhaaaDoor

/-
  The contract of the document's own Has for layer 6; arrays of 30 bytes, loaded and built. Conditions: none beyond the premises of each theorem.
-/
namespace Go.Proofs.YtaolkmlgdhnhaaaDoor
open Go.RowKit
open Bits (Ok has with_ without count countBelow first both)

theorem Tryd.builtSet : Tryd.prog.built 31 [] = some (stArr zeroSt) := by kernel_rfl
theorem zeroSt_ok : Ok zeroSt := ⟨zeroSt_length, fun b hb => by rw [(List.mem_replicate.1 hb).2]; decide⟩
/-- a literal without parts -/
theorem wpList_build_set {ops : Array Oper} {rest : List Oper} {o : Oper} {a : Act} {w : World} {Q : Exit → Act → World → Prop} (hgd : o.guard = none) (ho : o.op = .build 31 #[])
    (h : wpList Tryd.prog ops Q rest (a.put o.dst (stV zeroSt)) w) : wpList Tryd.prog ops Q (o :: rest) a w :=
  wpList_plain hgd fun _ hK => wp_build 31 #[] ho (by simp [Tryd.builtSet]) (hK _ _ (by simpa [Tryd.builtSet] using h))
theorem Tryd.arr30Size : (Tryd.prog.info? 23).map (·.size) = some 30 := by kernel_rfl
/-- a load of an array of 30 bytes -/
theorem wpList_load_arr {ops : Array Oper} {rest : List Oper} {op : Oper} {a : Act} {w : World} {Q : Exit → Act → World → Prop} (hw : Region.wanted op (yielded ops a.tmps) = true) (x : Operand) (ho : op.op = .load 23 x)
    (b : Nat) (hx : a.eval x = .pointer (some ⟨b, 0, none⟩)) (s : List Nat) (hl : s.length = 30) (hc : w.rangeAt b 0 (stCells s))
    (h : wpList Tryd.prog ops Q rest (a.put op.dst (stV s)) w) : wpList Tryd.prog ops Q (op :: rest) a w :=
  wpList_step fun _ hK => by
    rw [if_pos hw]
    exact wp_load_mid 23 x ho b 0 hx (stCells s) _ hc Tryd.underlying23 rfl (by rw [stCells_length, hl]; exact Tryd.arr30Size) (hK _ _ h)
def HasRel (a j : Nat) (x i : Value) : Prop := ∃ k : Nat, k ≤ j ∧ i = .int .i64 (k : Int) ∧ x = .int .u8 ((a / 2 ^ k : Nat) : Int)
set_option maxRecDepth 100000 in
theorem RefHas_yes (s : List Nat) (h : Ok s) (m : Nat) (hm : m < 240) (w : World) :
    Calls Tryd.prog 31 #[stV s, .int .i64 m] w fun e w' => e = .returned (.bool (has s m)) ∧ Below w.heap.size w w' := by
  obtain ⟨w1, HW⟩ : ∃ w1, Hid (w1 = w.alloc (.cells (stArr s) 23)) := ⟨_, Lib.hid rfl⟩
  have hr : w1.rangeAt w.heap.size 0 (stCells s) := by rw [HW.out]; exact (SOwn.new _).at_
  have hc := set_at hr (i := m / 8) (by rw [h.len]; omega)
  have hb : Below w.heap.size w w1 := by rw [HW.out]; exact (Below.refl _ _).alloc (Nat.le_refl _) _
  have HB := Lib.hid hb
  have hd : Bits.at_ s (m / 8) < 256 := Bits.at_lt h _
  obtain ⟨a, HA⟩ : ∃ a, Hid (a = Bits.at_ s (m / 8)) := ⟨_, Lib.hid rfl⟩
  have HV : Hid (has s m = decide (a / 2 ^ (m % 8) % 2 = 1)) := Lib.hid (by rw [HA.out]; exact Bits.has_div s m)
  rw [← HA.out] at hc hd
  obtain ⟨i, HI⟩ : ∃ i, Hid (i = m / 8) := ⟨_, Lib.hid rfl⟩
  rw [← HI.out] at hc
  have hmi : (m : Int) / 8 = (i : Int) := by rw [HI.out]; omega
  have hi2 : (i : Int) < 30 := by have := HI.out; omega
  obtain ⟨q, HQ⟩ : ∃ q, Hid (q = m % 8) := ⟨_, Lib.hid rfl⟩
  have hmq : (m : Int) % 8 = (q : Int) := by rw [HQ.out]; omega
  have hm1 : (0 : Int) ≤ (m : Int) := by omega
  have hm2 : (m : Int) ≤ 239 := by omega
  clear hb hr
  go_enter Tryd.func31, Tryd.ntmps31
  go_upto_region 1 with (fail)
  rw [← HW.out]
  go_wp2_with fail
  go_loop [5, 6] (fun x j => HasRel a q x j) (fun _ j => q - (intOf j).toNat)
  case atStart => exact ⟨0, Nat.zero_le _, rfl, by simp⟩
  case round =>
    obtain ⟨k, hk, rfl, rfl⟩ := hrel
    obtain ⟨x, HX⟩ : ∃ x, Hid (x = a / 2 ^ k) := ⟨_, Lib.hid rfl⟩
    have hx : x < 256 := by rw [HX.out]; exact Nat.lt_of_le_of_lt (Nat.div_le_self _ _) hd
    rw [← HX.out]
    by_cases hlt : k < q
    · go_wp2
      go_round
      case rel =>
        refine ⟨k + 1, hlt, by go_num, ?_⟩
        rw [Nat.pow_succ, ← Nat.div_div_eq_div_mul, ← HX.out]
        go_num
      case measure => simp [intOf]; omega
    · obtain rfl : k = q := by omega
      go_wp2
      go_ret
      refine ⟨?_, HB.out⟩
      rw [HV.out, ← HQ.out, ← HX.out]
      refine set_bool ?_
      rw [Bool.eq_iff_iff]
      simp
      omega
set_option maxRecDepth 100000 in
theorem RefHas_no (s : List Nat) (n : Int) (hn : isNum n = false) (w : World) :
    Calls Tryd.prog 31 #[stV s, .int .i64 n] w fun e w' => e = .returned (.bool false) ∧ Below w.heap.size w w' := by
  have hn' : ¬ (0 ≤ n ∧ n < 240) := of_decide_eq_false hn
  rcases (show n < 0 ∨ 0 ≤ n by omega) with h1 | h1
  · go_enter Tryd.func31, Tryd.ntmps31
    go_wp2_with fail
    go_ret
    exact ⟨rfl, (Below.refl _ _).alloc (Nat.le_refl _) _⟩
  · have h2 : 239 < n := by omega
    go_enter Tryd.func31, Tryd.ntmps31
    go_wp2_with fail
    go_ret
    exact ⟨rfl, (Below.refl _ _).alloc (Nat.le_refl _) _⟩
theorem RefHas_any (s : List Nat) (h : Ok s) (n : Int) (w : World) :
    Calls Tryd.prog 31 #[stV s, .int .i64 n] w fun e w' => e = .returned (.bool (hasZ s n)) ∧ Below w.heap.size w w' := by
  cases hn : isNum n with
  | true =>
    obtain ⟨m, rfl, hm⟩ := isNum_true hn
    rw [hasZ_nat hm]
    exact RefHas_yes s h m hm w
  | false =>
    have e : hasZ s n = false := by unfold hasZ; rw [hn, Bool.false_and]
    rw [e]
    exact RefHas_no s n hn w
end Go.Proofs.YtaolkmlgdhnhaaaDoor

/-
  Two sets compared: the answer is whether they are the same. What is laid in a region that draws its order: loads of sets. Conditions: none beyond the premises of each theorem.
-/
namespace Go.Proofs.YtaolkmlgdhnhaaaDoor
open Go.RowKit
open Bits (Ok has with_ without count countBelow first both)

theorem run_equalIn_set {P : Program} (w : World) (d len : Nat) (t e : TypeId) (p q : List Nat) (ht : P.underlying t = some (.array len e)) (he : P.underlying e = some (.int .u8)) (hs : ∀ w, (sizeOf e).run P w = .ok 1 w) (hl : p.length = len) (hm : q.length = len) :
    (Op.equalIn (d + 2) t (.agg (stArr p)) (.agg (stArr q))).run P w = .ok (decide (p = q)) w := by
  have hp : ∀ (p : List Nat), p.length = len → ∀ i, i < len → (part e (stArr p) (i * 1)).run P w = .ok (.int .u8 ((p.getD i 0 : Nat) : Int)) w := by
    intro p hl i hi
    have hi' : i < p.length := by omega
    simp [part, isAgg, underlying, he, stArr, stCells, hi']
  rw [Op.equalIn]
  simp only [Sem.run_bind, run_underlying ht, Result.andThen_ok, hs, Std.Legacy.Range.forIn_eq_forIn_range']
  have key : ∀ l : List Nat, (∀ i ∈ l, i < len) → (forIn l (none, ()) fun i (_ : Option Bool × Unit) => do
      let a ← part e (stArr p) (i * 1)
      let b ← part e (stArr q) (i * 1)
      let r ← Op.equalIn (d + 1) e a b
      if (!r) = true then pure (ForInStep.done (some false, ())) else pure (ForInStep.yield ((none : Option Bool), ())) : Sem (Option Bool × Unit)).run P w = .ok (if l.all (fun i => ((p.getD i 0 : Nat) : Int) == ((q.getD i 0 : Nat) : Int)) then (none, ()) else (some false, ())) w := by
    intro l
    induction l with
    | nil => intro _; simp
    | cons i r ih =>
      intro h
      simp only [List.forIn_cons, Sem.run_bind, hp p hl i (h i (by simp)), hp q hm i (h i (by simp)), Result.andThen_ok, run_equalIn_int w d e .u8 .u8 _ _ he, List.all_cons]
      by_cases hb : (((p.getD i 0 : Nat) : Int) == ((q.getD i 0 : Nat) : Int)) = true
      · simp only [hb, Bool.not_true, Bool.false_eq_true, if_false, Sem.run_pure, Result.andThen_ok, Bool.true_and]
        exact ih fun k hk => h k (by simp [hk])
      · have hb' : (((p.getD i 0 : Nat) : Int) == ((q.getD i 0 : Nat) : Int)) = false := by simpa using hb
        simp only [hb', Bool.not_false, if_true, Sem.run_pure, Result.andThen_ok, Bool.false_and, Bool.false_eq_true, if_false]
  rw [key _ (fun i hi => by have := List.mem_range'.1 hi; obtain ⟨k, hk, rfl⟩ := this; simp at hk; omega)]
  have hall : ((List.range' 0 len).all (fun i => ((p.getD i 0 : Nat) : Int) == ((q.getD i 0 : Nat) : Int))) = decide (p = q) := by
    rw [Bool.eq_iff_iff, List.all_eq_true, decide_eq_true_eq]
    constructor
    · intro h
      refine List.ext_getElem (by omega) fun i h1 h2 => ?_
      have := h i (by simp [List.mem_range']; omega)
      rw [beq_iff_eq] at this
      have := Int.ofNat.inj this
      simpa [List.getD_eq_getElem?_getD, h1, h2] using this
    · rintro rfl i _
      simp
  have hsz : (⟨0, len, 1, by decide⟩ : Std.Legacy.Range).size = len := by simp [Std.Legacy.Range.size]
  rw [hsz, hall]
  by_cases h : p = q <;> simp [h, Result.andThen]
theorem sizeU8 (w : World) : (sizeOf 5).run Tryd.prog w = .ok 1 w := by kernel_rfl
theorem guardSet : Tryd.prog.eqGuardType Tryd.prog.depth 31 = false := by kernel_rfl
theorem equalIn_sets {p q : List Nat} (hl : p.length = 30) (hm : q.length = 30) (w : World) : (Op.equalIn 10000 31 (stV p) (stV q)).run Tryd.prog w = .ok (decide (p = q)) w :=
  run_equalIn_set w 9998 30 31 5 p q Tryd.underlying31 Tryd.underlying5 sizeU8 hl hm
/-- .. the same one -/
theorem equalIn_same {p : List Nat} (hl : p.length = 30) (w : World) : (Op.equalIn 10000 31 (stV p) (stV p)).run Tryd.prog w = .ok true w := by
  rw [equalIn_sets hl hl, decide_eq_true rfl]
/-- a load of a set, of an array of 30 bytes, at a step of a region that draws its order -/
theorem yieldsIf_set {ops : Array Oper} {S : World → Prop} {op : Oper} {a : Act} (hw : Region.wanted op (yielded ops a.tmps) = true) (x : Operand) (ho : op.op = .load 31 x)
    (b : Nat) (hx : a.eval x = .pointer (some ⟨b, 0, none⟩)) (s : List Nat) (hl : s.length = 30) (hS : ∀ w, S w → w.rangeAt b 0 (stCells s)) : YieldsIf Tryd.prog ops S op (stV s) a :=
  yieldsIf_load_mid hw _ x ho b 0 hx (stCells s) _ hS Tryd.underlying31 rfl (by rw [stCells_length, hl]; exact Tryd.setSize)
theorem yieldsIf_arr {ops : Array Oper} {S : World → Prop} {op : Oper} {a : Act} (hw : Region.wanted op (yielded ops a.tmps) = true) (x : Operand) (ho : op.op = .load 23 x)
    (b : Nat) (hx : a.eval x = .pointer (some ⟨b, 0, none⟩)) (s : List Nat) (hl : s.length = 30) (hS : ∀ w, S w → w.rangeAt b 0 (stCells s)) : YieldsIf Tryd.prog ops S op (stV s) a :=
  yieldsIf_load_mid hw _ x ho b 0 hx (stCells s) _ hS Tryd.underlying23 rfl (by rw [stCells_length, hl]; exact Tryd.arr30Size)
end Go.Proofs.YtaolkmlgdhnhaaaDoor
