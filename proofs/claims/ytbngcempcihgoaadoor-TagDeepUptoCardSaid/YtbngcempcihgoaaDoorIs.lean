/-
  The contracts of (*Tagged).Unwrap, errors.is, errors.Is and tag.Same at an error that is a number with tags around it, and at nil: whether the number is the one asked for. No condition beyond that the error lies in memory so.
-/
import Derived.Test.YtbngcempcihgoaaDoorFact
namespace Go.Proofs.YtbngcempcihgoaaDoor
open Go.RowKit Go.Extern.Stop Go.Stop Go.Extern

theorem unwrap_some (b : Nat) (v : Value) (w : World) (h1 : w.cell? ⟨b, 1, none⟩ = some v) :
    Calls Tryd.prog 17 #[.pointer (some ⟨b, 0, none⟩)] w fun e w' => e = .returned v ∧ w = w' := by
  go_enter Tryd.func17, Tryd.ntmps17
  go_wp2
  go_ret
  exact ⟨rfl, rfl⟩

set_option maxHeartbeats 4000000 in
theorem is_chain (m n : Int) (v : Value) (l : List ByteArray) (w : World) (hc : Chain w n v l) (r : Bool) (hr : (n == m) = r) :
    Calls Tryd.prog 30 #[v, .iface 29 (.int .i64 m), .bool true] w fun e w' => e = .returned (.bool r) ∧ w = w' := by
  have e1 := Tryd.eqTag
  have e2 := Tryd.eq29
  have a1 := Tryd.noIs29
  have a2 := Tryd.noIs36
  have a3 := Tryd.noUnwrap29
  have a4 := Tryd.noUnwraps29
  have a5 := Tryd.hasUnwrap36
  have m1 := Tryd.methodUnwrap
  have HC := Lib.hid hc
  clear hc
  go_enter Tryd.func30, Tryd.ntmps30
  go_wp2
  go_loopg [0] (l.length + 1) (fun k v wr => ∃ l', k = l'.length + 1 ∧ Chain w n v l' ∧ w = wr)
  case atStart => exact ⟨l, rfl, HC.out, rfl⟩
  case round =>
    obtain ⟨l', rfl, hch, rfl⟩ := hrel
    cases hch with
    | base =>
      cases r
      · go_wp2
        go_ret
        exact ⟨rfl, rfl⟩
      · go_wp2
        go_ret
        exact ⟨rfl, rfl⟩
    | tag b s t x l2 h0 h1 hlt hch2 =>
      have HR := Lib.hid hr
      clear hr
      have H2 := Lib.hid hch2
      clear hch2
      go_wp2_with (go_at_call 17; refine (unwrap_some b _ _ h1).mono ?_; rintro e w' ⟨rfl, rfl⟩)
      go_roundg (l2.length + 1)
      case measure => simp
      case rel => exact ⟨l2, rfl, H2.out, rfl⟩

set_option maxHeartbeats 4000000 in
theorem Is_chain (m n : Int) (v : Value) (l : List ByteArray) (w : World) (hc : Chain w n v l) (r : Bool) (hr : (n == m) = r) :
    Calls Tryd.prog 21 #[v, .iface 29 (.int .i64 m)] w fun e w' => e = .returned (.bool r) ∧ w = w' := by
  have tT := Tryd.typeOf29
  have cT := Tryd.comparable29
  have mR := Tryd.methodComparable
  obtain ⟨t, x, rfl⟩ := hc.form
  have HC := Lib.hid (is_chain m n _ l w hc r hr)
  clear hc hr
  go_enter Tryd.func21, Tryd.ntmps21
  go_wp2_with (go_at_call 30; refine HC.out.mono ?_; rintro e w' ⟨rfl, rfl⟩)
  go_ret
  exact ⟨rfl, rfl⟩

theorem Is_nil (m : Int) (w : World) :
    Calls Tryd.prog 21 #[.nilIface, .iface 29 (.int .i64 m)] w fun e w' => e = .returned (.bool false) ∧ w = w' := by
  have hn := run_eql_iface_nil_left (P := Tryd.prog) w 29 (.int .i64 m) Tryd.underlying25
  go_enter Tryd.func21, Tryd.ntmps21
  go_wp2
  go_ret
  exact ⟨rfl, rfl⟩

/-! ### the deferred closures: recover finds nothing in a frame that returns -/
theorem idle20 (w : World) : CallsD Tryd.prog 20 #[] .returning w fun e u' w' => e = .returned (.tuple #[]) ∧ u' = .returning ∧ w' = w := by
  refine callsD_of_wpS Tryd.func20 rfl fun c₀ cs hu => ?_
  apply wpS_region
  simp [wpOpsS, go_sem, recoverD, hu, Tryd.ntmps20, bodyPostS, results, Tryd.results20]
  cases c₀
  simp_all
theorem Same_chain (m n : Int) (v : Value) (l : List ByteArray) (w : World) (hc : Chain w n v l) (r : Bool) (hr : (n == m) = r) :
    Calls Tryd.prog 12 #[v, .int .i64 m] w fun e w' => e = .returned (.bool r) ∧ w = w' := by
  have hmf : ∀ (fn : Fn) (first cap : Array Value) (w : World), (Instr.makeFunc fn first cap).run Tryd.prog w = .ok (.func fn first cap) w := fun _ _ _ _ => rfl
  have HC := Lib.hid (Is_chain m n _ l w hc r hr)
  clear hc hr
  go_enter_defers Tryd.func12, Tryd.ntmps12
  go_wp2_with (go_at_call 21; refine HC.out.mono ?_; rintro e w' ⟨rfl, rfl⟩)
  refine leaves_cons (f := 20) (args := #[]) (by simp) (by simp [go_sem]) ?_
  refine (idle20 _).mono ?_
  rintro e u' w'' ⟨rfl, rfl, rfl⟩
  simp [Leaves, settle, results, Tryd.results12, go_sem]
end Go.Proofs.YtbngcempcihgoaaDoor
