/-
  Closed facts of the program for layer 1 (tag), and the contracts of errors.Is and errors.As at an error that is a number with tags around it. Condition: the package variable errors.errorType holds the handle of the type error.
-/
import Derived.Test.YtbngcempcihgoaaDoorRows
import Derived.WalkKit
import Derived.WalkSpells
import Derived.WalkLawsBesides
import Derived.LaidEql
import Derived.Stop.Asserts
import Derived.RowKitTokens
import Derived.Deep.LoopGhost
import Derived.Defers
import Derived.Recover
import Derived.Lib.Hide
namespace Go.Proofs.YtbngcempcihgoaaDoor
open Go.RowKit Go.Extern.Stop Go.Stop Go.Extern

/-! ### '==' between two interface values of one integer type -/
theorem run_equalIn_iface_int {P : Program} (w : World) (d : Nat) {ti tn : TypeId} {ms : Array (String × TypeId)} {i : TypeInfo} {k : IntKind} (a b : Int)
    (hi : P.underlying ti = some (.interface ms)) (hn : P.underlying tn = some (.int k)) (hinfo : P.info? tn = some i) (hcomp : i.comparable = true) :
    (Op.equalIn (d + 2) ti (.iface tn (.int k a)) (.iface tn (.int k b))).run P w = .ok (a == b) w := by
  simp [Op.equalIn, run_underlying hi, run_underlying hn, typeInfo, hinfo, hcomp]
theorem run_eql_iface_int {P : Program} (w : World) {ti tn : TypeId} {ms : Array (String × TypeId)} {i : TypeInfo} {k : IntKind} (a b : Int)
    (hi : P.underlying ti = some (.interface ms)) (hn : P.underlying tn = some (.int k)) (hinfo : P.info? tn = some i) (hcomp : i.comparable = true) :
    (binOp .eql ti (.iface tn (.int k a)) (.iface tn (.int k b))).run P w = .ok (.bool (a == b)) w := by
  simp only [binOp]
  simp [Op.equal, Op.maxDepth, run_equalIn_iface_int w 9998 a b hi hn hinfo hcomp]

/-! ### closed facts -/
theorem Tryd.comp29 : (Tryd.prog.info? 29).map (·.comparable) = some true := by kernel_rfl
theorem Tryd.eq29 (a b : Int) (w : World) : (binOp .eql 25 (.iface 29 (.int .i64 a)) (.iface 29 (.int .i64 b))).run Tryd.prog w = .ok (.bool (a == b)) w := by
  obtain ⟨i, hi, hc⟩ := Option.map_eq_some_iff.1 Tryd.comp29
  exact run_eql_iface_int w a b Tryd.underlying25 Tryd.underlying29 hi hc
theorem Tryd.eqTag (v : Value) (b : Int) (w : World) : (binOp .eql 25 (.iface 36 v) (.iface 29 (.int .i64 b))).run Tryd.prog w = .ok (.bool false) w :=
  run_eql_iface_types (P := Tryd.prog) 36 29 v (.int .i64 b) Tryd.underlying25 (by decide) w

/-! the model's entries for internal/reflectlite, at this program's types (29: Errno, 36: *Tagged, 59: *Errno, 25: error, 81: rtype) -/
theorem Tryd.typeOf29 (v : Value) (w : World) : (callFunc 29 #[.iface 29 v]).run Tryd.prog w = .ok (.value (.iface 81 (.agg #[.pointer (some ⟨1, 29, none⟩)]))) w := by kernel_rfl
theorem Tryd.typeOf36 (v : Value) (w : World) : (callFunc 29 #[.iface 36 v]).run Tryd.prog w = .ok (.value (.iface 81 (.agg #[.pointer (some ⟨1, 36, none⟩)]))) w := by kernel_rfl
theorem Tryd.comparable29 (w : World) : (callFunc 65 #[.agg #[.pointer (some ⟨1, 29, none⟩)]]).run Tryd.prog w = .ok (.value (.bool true)) w := by kernel_rfl
theorem Tryd.valueOf59 (t : Addr) (w : World) : (callFunc 35 #[.iface 59 (.pointer (some t))]).run Tryd.prog w
    = .ok (.value (.agg #[.pointer (some ⟨1, 59, none⟩), .pointer (some ⟨w.heap.size, 0, none⟩), .int .u64 150])) (w.alloc (.cells #[.pointer (some t)] 59)) := by kernel_rfl
theorem Tryd.valueOf29 (n : Int) (w : World) : (callFunc 35 #[.iface 29 (.int .i64 n)]).run Tryd.prog w
    = .ok (.value (.agg #[.pointer (some ⟨1, 29, none⟩), .pointer (some ⟨w.heap.size, 0, none⟩), .int .u64 130])) (w.alloc (.cells #[.int .i64 n] 29)) := by kernel_rfl
theorem Tryd.type59 (a : Addr) (w : World) : (callFunc 36 #[.agg #[.pointer (some ⟨1, 59, none⟩), .pointer (some a), .int .u64 150]]).run Tryd.prog w = .ok (.value (.iface 81 (.agg #[.pointer (some ⟨1, 59, none⟩)]))) w := by kernel_rfl
theorem Tryd.kind59 (w : World) : (callFunc 56 #[.pointer (some ⟨1, 59, none⟩)]).run Tryd.prog w = .ok (.value (.int .u8 22)) w := by kernel_rfl
theorem Tryd.kind29 (w : World) : (callFunc 56 #[.pointer (some ⟨1, 29, none⟩)]).run Tryd.prog w = .ok (.value (.int .u8 2)) w := by kernel_rfl
theorem Tryd.elem59 (w : World) : (callFunc 66 #[.agg #[.pointer (some ⟨1, 59, none⟩)]]).run Tryd.prog w = .ok (.value (.iface 81 (.agg #[.pointer (some ⟨1, 29, none⟩)]))) w := by kernel_rfl
theorem Tryd.implements29 (w : World) : (callFunc 67 #[.agg #[.pointer (some ⟨1, 29, none⟩)], .iface 81 (.agg #[.pointer (some ⟨1, 25, none⟩)])]).run Tryd.prog w = .ok (.value (.bool true)) w := by kernel_rfl
theorem Tryd.assignable29 (w : World) : (callFunc 64 #[.agg #[.pointer (some ⟨1, 29, none⟩)], .iface 81 (.agg #[.pointer (some ⟨1, 29, none⟩)])]).run Tryd.prog w = .ok (.value (.bool true)) w := by kernel_rfl
theorem Tryd.assignable36 (w : World) : (callFunc 64 #[.agg #[.pointer (some ⟨1, 36, none⟩)], .iface 81 (.agg #[.pointer (some ⟨1, 29, none⟩)])]).run Tryd.prog w = .ok (.value (.bool false)) w := by kernel_rfl
theorem Tryd.methodKind (h : Value) (w : World) : (Go.method 222 81 (.agg #[h]) "Kind").run Tryd.prog w = .ok (56, h) w := by kernel_rfl
theorem Tryd.methodElem (h : Value) (w : World) : (Go.method 222 81 (.agg #[h]) "Elem").run Tryd.prog w = .ok (66, .agg #[h]) w := by kernel_rfl
theorem Tryd.methodImplements (h : Value) (w : World) : (Go.method 222 81 (.agg #[h]) "Implements").run Tryd.prog w = .ok (67, .agg #[h]) w := by kernel_rfl
theorem Tryd.methodAssignableTo (h : Value) (w : World) : (Go.method 222 81 (.agg #[h]) "AssignableTo").run Tryd.prog w = .ok (64, .agg #[h]) w := by kernel_rfl
theorem Tryd.methodErrno (h : Value) (w : World) : (Go.method 222 29 h "Error").run Tryd.prog w = .ok (18, h) w := by kernel_rfl

/-! the entries that read or write memory: laws with a premise on the cell -/
theorem Tryd.elemOf59 (w : World) : (Rtype.elem? 59).run Tryd.prog w = .ok (some 29) w := by kernel_rfl
theorem Tryd.mk29 (p : Addr) (w : World) : (ReflectliteValue.mk 29 p ReflectliteValue.flagAddr).run Tryd.prog w = .ok (.agg #[.pointer (some ⟨1, 29, none⟩), .pointer (some p), .int .u64 386]) w := by kernel_rfl
theorem Tryd.isNil59_eq (z : Sem Value) (a : Addr) (W : World) :
    (ReflectliteValue.method z ReflectliteValue.isNil #[.agg #[.pointer (some ⟨1, 59, none⟩), .pointer (some a), .int .u64 150]]).run Tryd.prog W = (ReflectliteValue.isNil 59 a 150 22).run Tryd.prog W := by kernel_rfl
theorem Tryd.isNil59 (a p : Addr) (W : World) (ha : W.cell? a = some (.pointer (some p))) :
    (callFunc 37 #[.agg #[.pointer (some ⟨1, 59, none⟩), .pointer (some a), .int .u64 150]]).run Tryd.prog W = .ok (.value (.bool false)) W := by
  rw [@run_callFunc_extern Tryd.prog 37 _ (ReflectliteValue.method (ReflectliteValue.valueError "reflectlite.Value.IsNil" 0) ReflectliteValue.isNil) Tryd.func37 (by kernel_rfl) (by kernel_rfl) (by kernel_rfl) (by kernel_rfl), Tryd.isNil59_eq]
  simp [ReflectliteValue.isNil, loadVar, isAgg, underlying, Tryd.underlying59, ha, Result.andThen]
theorem Tryd.elemV59_eq (z : Sem Value) (a : Addr) (W : World) :
    (ReflectliteValue.method z ReflectliteValue.elem #[.agg #[.pointer (some ⟨1, 59, none⟩), .pointer (some a), .int .u64 150]]).run Tryd.prog W = (ReflectliteValue.elem 59 a 150 22).run Tryd.prog W := by kernel_rfl
theorem Tryd.elemV59 (a p : Addr) (W : World) (ha : W.cell? a = some (.pointer (some p))) :
    (callFunc 40 #[.agg #[.pointer (some ⟨1, 59, none⟩), .pointer (some a), .int .u64 150]]).run Tryd.prog W
      = .ok (.value (.agg #[.pointer (some ⟨1, 29, none⟩), .pointer (some p), .int .u64 386])) W := by
  rw [@run_callFunc_extern Tryd.prog 40 _ (ReflectliteValue.method (ReflectliteValue.valueError "reflectlite.Value.Elem" 0) ReflectliteValue.elem) Tryd.func40 (by kernel_rfl) (by kernel_rfl) (by kernel_rfl) (by kernel_rfl), Tryd.elemV59_eq]
  simp [ReflectliteValue.elem, loadVar, isAgg, underlying, Tryd.underlying59, ha, Result.andThen, Tryd.elemOf59, Tryd.mk29]
theorem Tryd.set29_eq (ta b : Addr) (W : World) :
    (ReflectliteValue.set #[.agg #[.pointer (some ⟨1, 29, none⟩), .pointer (some ta), .int .u64 386], .agg #[.pointer (some ⟨1, 29, none⟩), .pointer (some b), .int .u64 130]]).run Tryd.prog W
      = (do storeVar 29 ta (← loadVar 29 b); pure (Value.tuple #[]) : Sem Value).run Tryd.prog W := by kernel_rfl
theorem Tryd.set29 (ta b : Addr) (n : Int) (old : Value) (W : World) (hb : W.cell? b = some (.int .i64 n)) (ht : W.cell? ta = some old) (hf : W.frozen? ta = false) :
    (callFunc 41 #[.agg #[.pointer (some ⟨1, 29, none⟩), .pointer (some ta), .int .u64 386], .agg #[.pointer (some ⟨1, 29, none⟩), .pointer (some b), .int .u64 130]]).run Tryd.prog W
      = .ok (.value (.tuple #[])) (W.setCell ta (.int .i64 n)) := by
  rw [@run_callFunc_extern Tryd.prog 41 _ ReflectliteValue.set Tryd.func41 (by kernel_rfl) (by kernel_rfl) (by kernel_rfl) (by kernel_rfl), Tryd.set29_eq]
  simp [loadVar, isAgg, underlying, Tryd.underlying29, hb, Result.andThen, storeVar, Value.cells, storeCells, Addr.add]
  rw [run_store Tryd.prog W ta _ _ (by rfl)]
  simp [ht, hf]

theorem Tryd.noIs29 (v : Value) (xT : TypeId) (w : World) : (Instr.typeAssert (.iface 29 v) xT 83 true).run Tryd.prog w = .ok (.tuple #[.nilIface, .bool false]) w := run_typeAssert_lacksB Tryd.underlying83 (by kernel_rfl) (by kernel_rfl) v xT w
theorem Tryd.noIs36 (v : Value) (xT : TypeId) (w : World) : (Instr.typeAssert (.iface 36 v) xT 83 true).run Tryd.prog w = .ok (.tuple #[.nilIface, .bool false]) w := run_typeAssert_lacksB Tryd.underlying83 (by kernel_rfl) (by kernel_rfl) v xT w
theorem Tryd.noAs36 (v : Value) (xT : TypeId) (w : World) : (Instr.typeAssert (.iface 36 v) xT 91 true).run Tryd.prog w = .ok (.tuple #[.nilIface, .bool false]) w := run_typeAssert_lacksB Tryd.underlying91 (by kernel_rfl) (by kernel_rfl) v xT w
theorem Tryd.noUnwrap29 (v : Value) (xT : TypeId) (w : World) : (Instr.typeAssert (.iface 29 v) xT 86 true).run Tryd.prog w = .ok (.tuple #[.nilIface, .bool false]) w := run_typeAssert_lacksB Tryd.underlying86 (by kernel_rfl) (by kernel_rfl) v xT w
theorem Tryd.noUnwraps29 (v : Value) (xT : TypeId) (w : World) : (Instr.typeAssert (.iface 29 v) xT 64 true).run Tryd.prog w = .ok (.tuple #[.nilIface, .bool false]) w := run_typeAssert_lacksB Tryd.underlying64 (by kernel_rfl) (by kernel_rfl) v xT w
theorem Tryd.noUnwraps36 (v : Value) (xT : TypeId) (w : World) : (Instr.typeAssert (.iface 36 v) xT 64 true).run Tryd.prog w = .ok (.tuple #[.nilIface, .bool false]) w := run_typeAssert_lacksB Tryd.underlying64 (by kernel_rfl) (by kernel_rfl) v xT w
theorem Tryd.hasUnwrap36 (v : Value) (xT : TypeId) (w : World) : (Instr.typeAssert (.iface 36 v) xT 86 true).run Tryd.prog w = .ok (.tuple #[.iface 36 v, .bool true]) w := run_typeAssert_hasB Tryd.underlying86 (by kernel_rfl) v xT w
theorem Tryd.isTag36 (v : Value) (xT : TypeId) (w : World) : (Instr.typeAssert (.iface 36 v) xT 36 true).run Tryd.prog w = .ok (.tuple #[v, .bool true]) w := by kernel_rfl
theorem Tryd.isTag29 (v : Value) (xT : TypeId) (w : World) : (Instr.typeAssert (.iface 29 v) xT 36 true).run Tryd.prog w = .ok (.tuple #[.pointer none, .bool false]) w := by kernel_rfl
theorem Tryd.isTagNil (xT : TypeId) (w : World) : (Instr.typeAssert .nilIface xT 36 true).run Tryd.prog w = .ok (.tuple #[.pointer none, .bool false]) w := by kernel_rfl


theorem Tryd.methodComparable (h : Value) (w : World) : (Go.method 222 81 (.agg #[h]) "Comparable").run Tryd.prog w = .ok (65, .agg #[h]) w := by kernel_rfl
theorem Tryd.methodUnwrap (h : Value) (w : World) : (Go.method 222 36 h "Unwrap").run Tryd.prog w = .ok (17, h) w := by kernel_rfl

/-! ### a number with tags around it, in memory: the list holds the tags' texts, the outermost first -/
inductive Chain (w : World) (n : Int) : Value → List ByteArray → Prop
  | base : Chain w n (.iface 29 (.int .i64 n)) []
  | tag (b : Nat) (s : ByteArray) (t : TypeId) (x : Value) (l : List ByteArray) : w.cell? ⟨b, 0, none⟩ = some (.string s) → w.cell? ⟨b, 1, none⟩ = some (.iface t x) → b < w.heap.size →
      Chain w n (.iface t x) l → Chain w n (.iface 36 (.pointer (some ⟨b, 0, none⟩))) (s :: l)
theorem Chain.form {w : World} {n : Int} {v : Value} {l : List ByteArray} (h : Chain w n v l) : ∃ t x, v = .iface t x := by
  cases h <;> exact ⟨_, _, rfl⟩
theorem Chain.carry {w w' : World} {n : Int} {v : Value} {l : List ByteArray} (h : Chain w n v l) {B : Nat} (hB : B = w.heap.size) (hb : Below B w w') : Chain w' n v l := by
  subst hB
  induction h with
  | base => exact .base
  | tag b s t x l h0 h1 hlt _ ih => exact .tag b s t x l ((hb.cell (p := ⟨b, 0, none⟩) hlt).trans h0) ((hb.cell (p := ⟨b, 1, none⟩) hlt).trans h1) (Nat.lt_of_lt_of_le hlt hb.size) ih

end Go.Proofs.YtbngcempcihgoaaDoor
