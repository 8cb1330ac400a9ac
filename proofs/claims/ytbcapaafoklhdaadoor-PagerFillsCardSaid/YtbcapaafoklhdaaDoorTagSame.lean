/-
  The contracts of errors.Is and tag.Same at an error that is a number with tags around it: whether the number is the one asked for. Conditions: none beyond that the error lies in memory so.
-/
import Derived.Test.YtbcapaafoklhdaaDoorTagNum
namespace Go.Proofs.YtbcapaafoklhdaaDoor
open Go.RowKit Go.Extern.Stop Go.Stop Go.Extern

theorem run_equalIn_iface_int {P : Program} (w : World) (d : Nat) {ti tn : TypeId} {ms : Array (String × TypeId)} {i : TypeInfo} {k : IntKind} (a b : Int)
    (hi : P.underlying ti = some (.interface ms)) (hn : P.underlying tn = some (.int k)) (hinfo : P.info? tn = some i) (hcomp : i.comparable = true) :
    (Op.equalIn (d + 2) ti (.iface tn (.int k a)) (.iface tn (.int k b))).run P w = .ok (a == b) w := by
  simp [Op.equalIn, run_underlying hi, run_underlying hn, typeInfo, hinfo, hcomp]
theorem run_eql_iface_int {P : Program} (w : World) {ti tn : TypeId} {ms : Array (String × TypeId)} {i : TypeInfo} {k : IntKind} (a b : Int)
    (hi : P.underlying ti = some (.interface ms)) (hn : P.underlying tn = some (.int k)) (hinfo : P.info? tn = some i) (hcomp : i.comparable = true) :
    (binOp .eql ti (.iface tn (.int k a)) (.iface tn (.int k b))).run P w = .ok (.bool (a == b)) w := by
  simp only [binOp]
  simp [Op.equal, Op.maxDepth, run_equalIn_iface_int w 9998 a b hi hn hinfo hcomp]
theorem Tryd.comp29 : (Tryd.prog.info? 65).map (·.comparable) = some true := by kernel_rfl
theorem Tryd.eq29 (a b : Int) (w : World) : (binOp .eql 27 (.iface 65 (.int .i64 a)) (.iface 65 (.int .i64 b))).run Tryd.prog w = .ok (.bool (a == b)) w := by
  obtain ⟨i, hi, hc⟩ := Option.map_eq_some_iff.1 Tryd.comp29
  exact run_eql_iface_int w a b Tryd.underlying27 Tryd.underlying65 hi hc
theorem Tryd.eqTag (v : Value) (b : Int) (w : World) : (binOp .eql 27 (.iface 97 v) (.iface 65 (.int .i64 b))).run Tryd.prog w = .ok (.bool false) w :=
  run_eql_iface_types (P := Tryd.prog) 97 65 v (.int .i64 b) Tryd.underlying27 (by decide) w
theorem Tryd.comparable29 (w : World) : (callFunc 113 #[.agg #[.pointer (some ⟨2, 65, none⟩)]]).run Tryd.prog w = .ok (.value (.bool true)) w := by kernel_rfl
theorem Tryd.methodComparable (h : Value) (w : World) : (Go.method 284 133 (.agg #[h]) "Comparable").run Tryd.prog w = .ok (113, .agg #[h]) w := by kernel_rfl
theorem Tryd.noIs29 (v : Value) (xT : TypeId) (w : World) : (Instr.typeAssert (.iface 65 v) xT 135 true).run Tryd.prog w = .ok (.tuple #[.nilIface, .bool false]) w := run_typeAssert_lacksB Tryd.underlying135 (by kernel_rfl) (by kernel_rfl) v xT w
theorem Tryd.noIs36 (v : Value) (xT : TypeId) (w : World) : (Instr.typeAssert (.iface 97 v) xT 135 true).run Tryd.prog w = .ok (.tuple #[.nilIface, .bool false]) w := run_typeAssert_lacksB Tryd.underlying135 (by kernel_rfl) (by kernel_rfl) v xT w
theorem Tryd.noUnwrap29 (v : Value) (xT : TypeId) (w : World) : (Instr.typeAssert (.iface 65 v) xT 138 true).run Tryd.prog w = .ok (.tuple #[.nilIface, .bool false]) w := run_typeAssert_lacksB Tryd.underlying138 (by kernel_rfl) (by kernel_rfl) v xT w
theorem Tryd.noUnwraps29 (v : Value) (xT : TypeId) (w : World) : (Instr.typeAssert (.iface 65 v) xT 139 true).run Tryd.prog w = .ok (.tuple #[.nilIface, .bool false]) w := run_typeAssert_lacksB Tryd.underlying139 (by kernel_rfl) (by kernel_rfl) v xT w

set_option maxHeartbeats 4000000 in
theorem is_chain (m n : Int) (v : Value) (l : List ByteArray) (w : World) (hc : Chain w n v l) (r : Bool) (hr : (n == m) = r) :
    Calls Tryd.prog 64 #[v, .iface 65 (.int .i64 m), .bool true] w fun e w' => e = .returned (.bool r) ∧ w = w' := by
  have e1 := Tryd.eqTag
  have e2 := Tryd.eq29
  have a1 := Tryd.noIs29
  have a2 := Tryd.noIs36
  have a3 := Tryd.noUnwrap29
  have a4 := Tryd.noUnwraps29
  have a5 := Tryd.hasUnwrap36
  have m1 := Tryd.methodUnwrap
  have HC := Lib.hid hc
  clear hc
  go_enter Tryd.func64, Tryd.ntmps64
  go_wp2
  go_loopg [0] (l.length + 1) (fun k v wr => ∃ l', k = l'.length + 1 ∧ Chain w n v l' ∧ w = wr)
  case atStart => exact ⟨l, rfl, HC.out, rfl⟩
  case round =>
    obtain ⟨l', rfl, hch, rfl⟩ := hrel
    cases hch with
    | base =>
      cases r
      · go_wp2
        go_ret
        exact ⟨rfl, rfl⟩
      · go_wp2
        go_ret
        exact ⟨rfl, rfl⟩
    | tag b s t x l2 h0 h1 hlt hch2 =>
      have HR := Lib.hid hr
      clear hr
      have H2 := Lib.hid hch2
      clear hch2
      go_wp2_with (go_at_call 107; refine (unwrap_some b _ _ h1).mono ?_; rintro e w' ⟨rfl, rfl⟩)
      go_roundg (l2.length + 1)
      case measure => simp
      case rel => exact ⟨l2, rfl, H2.out, rfl⟩
set_option maxHeartbeats 4000000 in
theorem Is_chain (m n : Int) (v : Value) (l : List ByteArray) (w : World) (hc : Chain w n v l) (r : Bool) (hr : (n == m) = r) :
    Calls Tryd.prog 52 #[v, .iface 65 (.int .i64 m)] w fun e w' => e = .returned (.bool r) ∧ w = w' := by
  have tT := Tryd.typeOf29
  have cT := Tryd.comparable29
  have mR := Tryd.methodComparable
  obtain ⟨t, x, rfl⟩ := hc.form
  have HC := Lib.hid (is_chain m n _ l w hc r hr)
  clear hc hr
  go_enter Tryd.func52, Tryd.ntmps52
  go_wp2_with (go_at_call 64; refine HC.out.mono ?_; rintro e w' ⟨rfl, rfl⟩)
  go_ret
  exact ⟨rfl, rfl⟩
theorem idleSame (w : World) : CallsD Tryd.prog 51 #[] .returning w fun e u' w' => e = .returned (.tuple #[]) ∧ u' = .returning ∧ w' = w := by
  refine callsD_of_wpS Tryd.func51 rfl fun c₀ cs hu => ?_
  apply wpS_region
  simp [wpOpsS, go_sem, recoverD, hu, Tryd.ntmps51, bodyPostS, results, Tryd.results51]
  cases c₀
  simp_all
theorem Same_chain (m n : Int) (v : Value) (l : List ByteArray) (w : World) (hc : Chain w n v l) (r : Bool) (hr : (n == m) = r) :
    Calls Tryd.prog 35 #[v, .int .i64 m] w fun e w' => e = .returned (.bool r) ∧ w = w' := by
  have hmf : ∀ (fn : Fn) (first cap : Array Value) (w : World), (Instr.makeFunc fn first cap).run Tryd.prog w = .ok (.func fn first cap) w := fun _ _ _ _ => rfl
  have HC := Lib.hid (Is_chain m n _ l w hc r hr)
  clear hc hr
  go_enter_defers Tryd.func35, Tryd.ntmps35
  go_wp2_with (go_at_call 52; refine HC.out.mono ?_; rintro e w' ⟨rfl, rfl⟩)
  refine leaves_cons (f := 51) (args := #[]) (by simp) (by simp [go_sem]) ?_
  refine (idleSame _).mono ?_
  rintro e u' w'' ⟨rfl, rfl, rfl⟩
  simp [Leaves, settle, results, Tryd.results35, go_sem]
end Go.Proofs.YtbcapaafoklhdaaDoor
