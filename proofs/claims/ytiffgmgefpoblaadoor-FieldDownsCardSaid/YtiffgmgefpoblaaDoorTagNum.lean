/-
  The contracts of errors.As at an error that is a number with tags around it, of tag.first, tag.Num and tag.Tag: the number is found. Condition: the package variable errors.errorType holds the handle of the type error.
-/
import Derived.Test.YtiffgmgefpoblaaDoorRows
import Derived.WalkKit
import Derived.WalkSpells
import Derived.WalkLawsBesides
import Derived.LaidEql
import Derived.Stop.Asserts
import Derived.RowKitTokens
import Derived.Deep.LoopGhost
import Derived.Defers
import Derived.Recover
import Derived.Lib.Hide
namespace Go.Proofs.YtiffgmgefpoblaaDoor
open Go.RowKit Go.Extern.Stop Go.Stop Go.Extern

theorem Tryd.typeOf29 (v : Value) (w : World) : (callFunc 70 #[.iface 46 v]).run Tryd.prog w = .ok (.value (.iface 114 (.agg #[.pointer (some ⟨4, 46, none⟩)]))) w := by kernel_rfl

theorem Tryd.typeOf36 (v : Value) (w : World) : (callFunc 70 #[.iface 63 v]).run Tryd.prog w = .ok (.value (.iface 114 (.agg #[.pointer (some ⟨4, 63, none⟩)]))) w := by kernel_rfl

theorem Tryd.valueOf59 (t : Addr) (w : World) : (callFunc 56 #[.iface 72 (.pointer (some t))]).run Tryd.prog w
    = .ok (.value (.agg #[.pointer (some ⟨4, 72, none⟩), .pointer (some ⟨w.heap.size, 0, none⟩), .int .u64 150])) (w.alloc (.cells #[.pointer (some t)] 72)) := by kernel_rfl

theorem Tryd.valueOf29 (n : Int) (w : World) : (callFunc 56 #[.iface 46 (.int .i64 n)]).run Tryd.prog w
    = .ok (.value (.agg #[.pointer (some ⟨4, 46, none⟩), .pointer (some ⟨w.heap.size, 0, none⟩), .int .u64 130])) (w.alloc (.cells #[.int .i64 n] 46)) := by kernel_rfl

theorem Tryd.type59 (a : Addr) (w : World) : (callFunc 57 #[.agg #[.pointer (some ⟨4, 72, none⟩), .pointer (some a), .int .u64 150]]).run Tryd.prog w = .ok (.value (.iface 114 (.agg #[.pointer (some ⟨4, 72, none⟩)]))) w := by kernel_rfl

theorem Tryd.kind59 (w : World) : (callFunc 97 #[.pointer (some ⟨4, 72, none⟩)]).run Tryd.prog w = .ok (.value (.int .u8 22)) w := by kernel_rfl

theorem Tryd.kind29 (w : World) : (callFunc 97 #[.pointer (some ⟨4, 46, none⟩)]).run Tryd.prog w = .ok (.value (.int .u8 2)) w := by kernel_rfl

theorem Tryd.elem59 (w : World) : (callFunc 109 #[.agg #[.pointer (some ⟨4, 72, none⟩)]]).run Tryd.prog w = .ok (.value (.iface 114 (.agg #[.pointer (some ⟨4, 46, none⟩)]))) w := by kernel_rfl

theorem Tryd.implements29 (w : World) : (callFunc 110 #[.agg #[.pointer (some ⟨4, 46, none⟩)], .iface 114 (.agg #[.pointer (some ⟨4, 27, none⟩)])]).run Tryd.prog w = .ok (.value (.bool true)) w := by kernel_rfl

theorem Tryd.assignable29 (w : World) : (callFunc 107 #[.agg #[.pointer (some ⟨4, 46, none⟩)], .iface 114 (.agg #[.pointer (some ⟨4, 46, none⟩)])]).run Tryd.prog w = .ok (.value (.bool true)) w := by kernel_rfl

theorem Tryd.assignable36 (w : World) : (callFunc 107 #[.agg #[.pointer (some ⟨4, 63, none⟩)], .iface 114 (.agg #[.pointer (some ⟨4, 46, none⟩)])]).run Tryd.prog w = .ok (.value (.bool false)) w := by kernel_rfl

theorem Tryd.methodKind (h : Value) (w : World) : (Go.method 263 114 (.agg #[h]) "Kind").run Tryd.prog w = .ok (97, h) w := by kernel_rfl

theorem Tryd.methodElem (h : Value) (w : World) : (Go.method 263 114 (.agg #[h]) "Elem").run Tryd.prog w = .ok (109, .agg #[h]) w := by kernel_rfl

theorem Tryd.methodImplements (h : Value) (w : World) : (Go.method 263 114 (.agg #[h]) "Implements").run Tryd.prog w = .ok (110, .agg #[h]) w := by kernel_rfl

theorem Tryd.methodAssignableTo (h : Value) (w : World) : (Go.method 263 114 (.agg #[h]) "AssignableTo").run Tryd.prog w = .ok (107, .agg #[h]) w := by kernel_rfl

theorem Tryd.elemOf59 (w : World) : (Rtype.elem? 72).run Tryd.prog w = .ok (some 46) w := by kernel_rfl

theorem Tryd.mk29 (p : Addr) (w : World) : (ReflectliteValue.mk 46 p ReflectliteValue.flagAddr).run Tryd.prog w = .ok (.agg #[.pointer (some ⟨4, 46, none⟩), .pointer (some p), .int .u64 386]) w := by kernel_rfl

theorem Tryd.isNil59_eq (z : Sem Value) (a : Addr) (W : World) :
    (ReflectliteValue.method z ReflectliteValue.isNil #[.agg #[.pointer (some ⟨4, 72, none⟩), .pointer (some a), .int .u64 150]]).run Tryd.prog W = (ReflectliteValue.isNil 72 a 150 22).run Tryd.prog W := by kernel_rfl

theorem Tryd.isNil59 (a p : Addr) (W : World) (ha : W.cell? a = some (.pointer (some p))) :
    (callFunc 58 #[.agg #[.pointer (some ⟨4, 72, none⟩), .pointer (some a), .int .u64 150]]).run Tryd.prog W = .ok (.value (.bool false)) W := by
  rw [@run_callFunc_extern Tryd.prog 58 _ (ReflectliteValue.method (ReflectliteValue.valueError "reflectlite.Value.IsNil" 0) ReflectliteValue.isNil) Tryd.func58 (by kernel_rfl) (by kernel_rfl) (by kernel_rfl) (by kernel_rfl), Tryd.isNil59_eq]
  simp [ReflectliteValue.isNil, loadVar, isAgg, underlying, Tryd.underlying72, ha, Result.andThen]

theorem Tryd.elemV59_eq (z : Sem Value) (a : Addr) (W : World) :
    (ReflectliteValue.method z ReflectliteValue.elem #[.agg #[.pointer (some ⟨4, 72, none⟩), .pointer (some a), .int .u64 150]]).run Tryd.prog W = (ReflectliteValue.elem 72 a 150 22).run Tryd.prog W := by kernel_rfl

theorem Tryd.elemV59 (a p : Addr) (W : World) (ha : W.cell? a = some (.pointer (some p))) :
    (callFunc 71 #[.agg #[.pointer (some ⟨4, 72, none⟩), .pointer (some a), .int .u64 150]]).run Tryd.prog W
      = .ok (.value (.agg #[.pointer (some ⟨4, 46, none⟩), .pointer (some p), .int .u64 386])) W := by
  rw [@run_callFunc_extern Tryd.prog 71 _ (ReflectliteValue.method (ReflectliteValue.valueError "reflectlite.Value.Elem" 0) ReflectliteValue.elem) Tryd.func71 (by kernel_rfl) (by kernel_rfl) (by kernel_rfl) (by kernel_rfl), Tryd.elemV59_eq]
  simp [ReflectliteValue.elem, loadVar, isAgg, underlying, Tryd.underlying72, ha, Result.andThen, Tryd.elemOf59, Tryd.mk29]

theorem Tryd.set29_eq (ta b : Addr) (W : World) :
    (ReflectliteValue.set #[.agg #[.pointer (some ⟨4, 46, none⟩), .pointer (some ta), .int .u64 386], .agg #[.pointer (some ⟨4, 46, none⟩), .pointer (some b), .int .u64 130]]).run Tryd.prog W
      = (do storeVar 46 ta (← loadVar 46 b); pure (Value.tuple #[]) : Sem Value).run Tryd.prog W := by kernel_rfl

theorem Tryd.set29 (ta b : Addr) (n : Int) (old : Value) (W : World) (hb : W.cell? b = some (.int .i64 n)) (ht : W.cell? ta = some old) (hf : W.frozen? ta = false) :
    (callFunc 72 #[.agg #[.pointer (some ⟨4, 46, none⟩), .pointer (some ta), .int .u64 386], .agg #[.pointer (some ⟨4, 46, none⟩), .pointer (some b), .int .u64 130]]).run Tryd.prog W
      = .ok (.value (.tuple #[])) (W.setCell ta (.int .i64 n)) := by
  rw [@run_callFunc_extern Tryd.prog 72 _ ReflectliteValue.set Tryd.func72 (by kernel_rfl) (by kernel_rfl) (by kernel_rfl) (by kernel_rfl), Tryd.set29_eq]
  simp [loadVar, isAgg, underlying, Tryd.underlying46, hb, Result.andThen, storeVar, Value.cells, storeCells, Addr.add]
  rw [run_store Tryd.prog W ta _ _ (by rfl)]
  simp [ht, hf]

theorem Tryd.noAs36 (v : Value) (xT : TypeId) (w : World) : (Instr.typeAssert (.iface 63 v) xT 119 true).run Tryd.prog w = .ok (.tuple #[.nilIface, .bool false]) w := run_typeAssert_lacksB Tryd.underlying119 (by kernel_rfl) (by kernel_rfl) v xT w

theorem Tryd.hasUnwrap36 (v : Value) (xT : TypeId) (w : World) : (Instr.typeAssert (.iface 63 v) xT 122 true).run Tryd.prog w = .ok (.tuple #[.iface 63 v, .bool true]) w := run_typeAssert_hasB Tryd.underlying122 (by kernel_rfl) v xT w

theorem Tryd.methodUnwrap (h : Value) (w : World) : (Go.method 263 63 h "Unwrap").run Tryd.prog w = .ok (102, h) w := by kernel_rfl

inductive Chain (w : World) (n : Int) : Value → List ByteArray → Prop
  | base : Chain w n (.iface 46 (.int .i64 n)) []
  | tag (b : Nat) (s : ByteArray) (t : TypeId) (x : Value) (l : List ByteArray) : w.cell? ⟨b, 0, none⟩ = some (.string s) → w.cell? ⟨b, 1, none⟩ = some (.iface t x) → b < w.heap.size →
      Chain w n (.iface t x) l → Chain w n (.iface 63 (.pointer (some ⟨b, 0, none⟩))) (s :: l)

theorem Chain.form {w : World} {n : Int} {v : Value} {l : List ByteArray} (h : Chain w n v l) : ∃ t x, v = .iface t x := by
  cases h <;> exact ⟨_, _, rfl⟩

theorem Chain.carry {w w' : World} {n : Int} {v : Value} {l : List ByteArray} (h : Chain w n v l) {B : Nat} (hB : B = w.heap.size) (hb : Below B w w') : Chain w' n v l := by
  subst hB
  induction h with
  | base => exact .base
  | tag b s t x l h0 h1 hlt _ ih => exact .tag b s t x l ((hb.cell (p := ⟨b, 0, none⟩) hlt).trans h0) ((hb.cell (p := ⟨b, 1, none⟩) hlt).trans h1) (Nat.lt_of_lt_of_le hlt hb.size) ih

theorem unwrap_some (b : Nat) (v : Value) (w : World) (h1 : w.cell? ⟨b, 1, none⟩ = some v) :
    Calls Tryd.prog 102 #[.pointer (some ⟨b, 0, none⟩)] w fun e w' => e = .returned v ∧ w = w' := by
  go_enter Tryd.func102, Tryd.ntmps102
  go_wp2
  go_ret
  exact ⟨rfl, rfl⟩

/-- the reflectlite Value of a *Errno whose own variable lies at block k -/
abbrev valAgg (k : Nat) : Value := .agg #[.pointer (some ⟨4, 72, none⟩), .pointer (some ⟨k, 0, none⟩), .int .u64 150]

def AsPost (B : Nat) (t : Addr) (n : Int) (w : World) (e : Ending) (w' : World) : Prop :=
  e = .returned (.bool true) ∧ w'.cell? t = some (.int .i64 n) ∧ w'.frozen? t = false ∧ Below B w w'

theorem lt_of_cell {w : World} {p : Addr} {v : Value} (h : w.cell? p = some v) : p.block < w.heap.size := by
  rcases Nat.lt_or_ge p.block w.heap.size with h1 | h1
  · exact h1
  · simp [World.cell?, Array.getElem?_eq_none h1] at h

set_option maxHeartbeats 4000000 in
theorem as_chain (B : Nat) (t : Addr) (k : Nat) (old : Value) (n : Int) (v : Value) (l : List ByteArray) (w : World) (hc : Chain w n v l) (ha : w.cell? ⟨k, 0, none⟩ = some (.pointer (some t))) (ht : w.cell? t = some old) (hf : w.frozen? t = false)
    (hB : B ≤ w.heap.size) (hBt : B ≤ t.block) :
    Calls Tryd.prog 59 #[v, .iface 72 (.pointer (some t)), valAgg k, .iface 114 (.agg #[.pointer (some ⟨4, 46, none⟩)])] w (AsPost B t n w) := by
  have hk : k < w.heap.size := lt_of_cell ha
  have htl : t.block < w.heap.size := lt_of_cell ht
  have tO := Tryd.typeOf29
  have tP := Tryd.typeOf36
  have mA := Tryd.methodAssignableTo
  have a29 := Tryd.assignable29
  have a36 := Tryd.assignable36
  have v29 := Tryd.valueOf29
  have a2 := Tryd.noAs36
  have a5 := Tryd.hasUnwrap36
  have m1 := Tryd.methodUnwrap
  have el := Tryd.elemV59 ⟨k, 0, none⟩ t (w.alloc (.cells #[.pointer (some ⟨4, 72, none⟩), .pointer (some ⟨k, 0, none⟩), .int .u64 150] 93)) (by rw [World.cell?_alloc_lt _ _ ⟨k, 0, none⟩ hk]; exact ha)
  have st := Tryd.set29 t ⟨w.heap.size + 1, 0, none⟩ n old ((w.alloc (.cells #[.pointer (some ⟨4, 72, none⟩), .pointer (some ⟨k, 0, none⟩), .int .u64 150] 93)).alloc (.cells #[.int .i64 n] 46))
    (by rw [World.cell?_alloc_at _ _ _ _ (by simp)]; rfl)
    (by rw [World.cell?_alloc_lt _ _ t (by simp; omega), World.cell?_alloc_lt _ _ t htl]; exact ht)
    (by rw [World.frozen?_alloc_old _ _ t (by simp; omega), World.frozen?_alloc_old _ _ t (Nat.ne_of_lt htl)]; exact hf)
  have HC := Lib.hid (hc.carry rfl ((Below.refl w.heap.size w).alloc (Nat.le_refl _) (.cells #[.pointer (some ⟨4, 72, none⟩), .pointer (some ⟨k, 0, none⟩), .int .u64 150] 93)))
  clear hc
  go_enter Tryd.func59, Tryd.ntmps59
  go_wp2
  go_loopg [0] (l.length + 1) (fun q v wr => ∃ l', q = l'.length + 1 ∧ Chain (w.alloc (.cells #[.pointer (some ⟨4, 72, none⟩), .pointer (some ⟨k, 0, none⟩), .int .u64 150] 93)) n v l' ∧ wr = w.alloc (.cells #[.pointer (some ⟨4, 72, none⟩), .pointer (some ⟨k, 0, none⟩), .int .u64 150] 93))
  case atStart => exact ⟨l, rfl, HC.out, rfl⟩
  case round =>
    obtain ⟨l', rfl, hch, rfl⟩ := hrel
    cases hch with
    | base =>
      go_wp2
      go_ret
      refine ⟨rfl, ?_, ?_, ?_⟩
      · exact World.cell?_setCell_same' _ _ _ (by rw [World.cell?_alloc_lt _ _ t (by simp; omega), World.cell?_alloc_lt _ _ t htl, ht]; rfl)
      · simp; rw [World.frozen?_alloc_old _ _ t (by simp; omega), World.frozen?_alloc_old _ _ t (Nat.ne_of_lt htl)]; exact hf
      · exact (((Below.refl B w).alloc hB _).alloc (by simp; omega) _).setCell hBt _
    | tag b s t' x l2 h0 h1 hlt hch2 =>
      have H2 := Lib.hid hch2
      clear hch2
      go_wp2_with (go_at_call 102; refine (unwrap_some b _ _ h1).mono ?_; rintro e w' ⟨rfl, rfl⟩)
      go_roundg (l2.length + 1)
      case measure => simp
      case rel => exact ⟨l2, rfl, H2.out, rfl⟩

/-- what the package variable errors.errorType holds -/
abbrev Laid (w : World) : Prop := w.cell? ⟨0, 0, none⟩ = some (.iface 114 (.agg #[.pointer (some ⟨4, 27, none⟩)]))

set_option maxHeartbeats 4000000 in
theorem As_chain (B : Nat) (t : Addr) (old : Value) (n : Int) (v : Value) (l : List ByteArray) (w : World) (hc : Chain w n v l) (hg : Laid w) (ht : w.cell? t = some old) (hf : w.frozen? t = false)
    (hB : B ≤ w.heap.size) (hBt : B ≤ t.block) :
    Calls Tryd.prog 39 #[v, .iface 72 (.pointer (some t))] w (AsPost B t n w) := by
  have hlt : 0 < w.heap.size := lt_of_cell hg
  have htl : t.block < w.heap.size := lt_of_cell ht
  have f6 := Tryd.valueOf59
  have f7 := Tryd.type59
  have mK := Tryd.methodKind
  have mE := Tryd.methodElem
  have k59 := Tryd.kind59
  have k29 := Tryd.kind29
  have e59 := Tryd.elem59
  have i29 := Tryd.implements29
  have mI := Tryd.methodImplements
  have n8 := Tryd.isNil59 ⟨w.heap.size, 0, none⟩ t ((w.alloc (.cells #[.pointer (some t)] 72)).alloc (.cells #[.pointer (some ⟨4, 72, none⟩), .pointer (some ⟨w.heap.size, 0, none⟩), .int .u64 150] 93)) (by simp)
  have hg2 : ((w.alloc (.cells #[.pointer (some t)] 72)).alloc (.cells #[.pointer (some ⟨4, 72, none⟩), .pointer (some ⟨w.heap.size, 0, none⟩), .int .u64 150] 93)).cell? ⟨0, 0, none⟩ = some (.iface 114 (.agg #[.pointer (some ⟨4, 27, none⟩)])) := by
    rw [World.cell?_alloc_lt _ _ ⟨0, 0, none⟩ (by simp), World.cell?_alloc_lt _ _ ⟨0, 0, none⟩ hlt]; exact hg
  have hbw : Below w.heap.size w ((w.alloc (.cells #[.pointer (some t)] 72)).alloc (.cells #[.pointer (some ⟨4, 72, none⟩), .pointer (some ⟨w.heap.size, 0, none⟩), .int .u64 150] 93)) := ((Below.refl _ _).alloc (Nat.le_refl _) _).alloc (by simp) _
  have HC := Lib.hid (as_chain B t w.heap.size old n v l _ (hc.carry rfl hbw) (by rw [World.cell?_alloc_lt _ _ ⟨w.heap.size, 0, none⟩ (by simp), World.cell?_alloc_at _ _ _ _ (by simp)]; rfl) ((hbw.cell htl).trans ht) ((hbw.frozen htl).trans hf) (by simp; omega) hBt)
  have HB := Lib.hid hbw
  obtain ⟨t0, x0, rfl⟩ := hc.form
  clear hc hbw
  go_enter Tryd.func39, Tryd.ntmps39
  go_wp2_with (go_at_call 59; refine HC.out.mono ?_; rintro e w' ⟨rfl, h1, h2, h3⟩)
  go_ret
  exact ⟨rfl, h1, h2, (HB.out.mono hB).trans h3⟩

theorem idle27 (w : World) : CallsD Tryd.prog 38 #[] .returning w fun e u' w' => e = .returned (.tuple #[]) ∧ u' = .returning ∧ w' = w := by
  refine callsD_of_wpS Tryd.func38 rfl fun c₀ cs hu => ?_
  apply wpS_region
  simp [wpOpsS, go_sem, recoverD, hu, Tryd.ntmps38, bodyPostS, results, Tryd.results38]
  cases c₀
  simp_all

set_option maxHeartbeats 4000000 in
theorem first_chain (n : Int) (v : Value) (l : List ByteArray) (w : World) (hc : Chain w n v l) (hg : Laid w) :
    Calls Tryd.prog 28 #[v] w fun e w' => e = .returned (.tuple #[.int .i64 n, .bool true]) ∧ Below w.heap.size w w' := by
  have hbw : Below w.heap.size w (w.alloc (.cells #[.int .i64 0] 46)) := (Below.refl _ _).alloc (Nat.le_refl _) _
  have HC := Lib.hid (As_chain w.heap.size ⟨w.heap.size, 0, none⟩ (.int .i64 0) n v l (w.alloc (.cells #[.int .i64 0] 46)) (hc.carry rfl hbw) ((hbw.cell (lt_of_cell hg)).trans hg) (by simp) (by simp) (by simp) (Nat.le_refl _))
  have HB := Lib.hid hbw
  clear hc hbw hg
  go_enter_defers Tryd.func28, Tryd.ntmps28
  go_wp2_with (go_at_call 39; refine HC.out.mono ?_; rintro e w' ⟨rfl, h1, h2, h3⟩)
  refine leaves_cons (f := 38) (args := #[]) (by simp) (by simp [go_sem]) ?_
  refine (idle27 _).mono ?_
  rintro e u' w'' ⟨rfl, rfl, rfl⟩
  have hb := (HB.out.trans h3).setCell (p := ⟨w.heap.size, 0, none⟩) (Nat.le_refl _) (.int .i64 n)
  have hcell : (w'.setCell ⟨w.heap.size, 0, none⟩ (.int .i64 n)).cell? ⟨w.heap.size, 0, none⟩ = some (.int .i64 n) := World.cell?_setCell_same' _ _ _ (by rw [h1]; rfl)
  simp [Leaves, settle, results, Tryd.results28, go_sem, hcell, hb]

set_option maxHeartbeats 4000000 in
theorem Num_chain (n : Int) (v : Value) (l : List ByteArray) (w : World) (hc : Chain w n v l) (hg : Laid w) :
    Calls Tryd.prog 13 #[v] w fun e w' => e = .returned (.int .i64 n) ∧ Below w.heap.size w w' := by
  have HC := Lib.hid (first_chain n v l w hc hg)
  obtain ⟨t0, x0, rfl⟩ := hc.form
  clear hc hg
  go_enter Tryd.func13, Tryd.ntmps13
  go_wp2_with (go_at_call 28; refine HC.out.mono ?_; rintro e w' ⟨rfl, h1⟩)
  go_ret
  exact ⟨rfl, h1⟩

theorem Num_nil (w : World) : Calls Tryd.prog 13 #[.nilIface] w fun e w' => e = .returned (.int .i64 0) ∧ w = w' := by
  go_enter Tryd.func13, Tryd.ntmps13
  go_wp2
  go_ret
  exact ⟨rfl, rfl⟩

theorem Tag_nil (s : ByteArray) (w : World) : Calls Tryd.prog 22 #[.string s, .nilIface] w fun e w' => e = .returned .nilIface ∧ w = w' := by
  go_enter Tryd.func22, Tryd.ntmps22
  go_wp2
  go_ret
  exact ⟨rfl, rfl⟩

theorem Tag_some (s : ByteArray) (t : TypeId) (x : Value) (w : World) :
    Calls Tryd.prog 22 #[.string s, .iface t x] w fun e w' => e = .returned (.iface 63 (.pointer (some ⟨w.heap.size, 0, none⟩))) ∧ w.alloc (.cells #[.string s, .iface t x] 65) = w' := by
  go_enter Tryd.func22, Tryd.ntmps22
  go_wp2
  go_ret
  exact ⟨rfl, rfl⟩

/-- a tag around a number with tags -/
theorem Tag_chain (s : ByteArray) (n : Int) (v : Value) (l : List ByteArray) (w : World) (hc : Chain w n v l) :
    Calls Tryd.prog 22 #[.string s, v] w fun e w' => e = .returned (.iface 63 (.pointer (some ⟨w.heap.size, 0, none⟩))) ∧ Chain w' n (.iface 63 (.pointer (some ⟨w.heap.size, 0, none⟩))) (s :: l) ∧ Below w.heap.size w w' := by
  obtain ⟨t, x, rfl⟩ := hc.form
  refine (Tag_some s t x w).mono ?_
  rintro e w' ⟨rfl, rfl⟩
  have hb : Below w.heap.size w (w.alloc (.cells #[.string s, .iface t x] 65)) := (Below.refl _ _).alloc (Nat.le_refl _) _
  exact ⟨rfl, .tag _ s t x l (by simp) (by simp) (by simp) (hc.carry rfl hb), hb⟩

theorem Laid.carry {w w' : World} (hg : Laid w) (hb : Below w.heap.size w w') : Laid w' := (hb.cell (lt_of_cell hg)).trans hg
end Go.Proofs.YtiffgmgefpoblaaDoor
