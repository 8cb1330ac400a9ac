/-
  The contracts of errors.as, errors.As, tag.first and tag.Num at an error that is a number with tags around it, and at nil: the number is found. Condition: the package variable errors.errorType holds the handle of the type error.
-/
import Derived.Test.YtbngcempcihgoaaDoorIs
namespace Go.Proofs.YtbngcempcihgoaaDoor
open Go.RowKit Go.Extern.Stop Go.Stop Go.Extern

/-- the reflectlite Value of a *Errno whose own variable lies at block k -/
abbrev valAgg (k : Nat) : Value := .agg #[.pointer (some ⟨1, 59, none⟩), .pointer (some ⟨k, 0, none⟩), .int .u64 150]

def AsPost (B : Nat) (t : Addr) (n : Int) (w : World) (e : Ending) (w' : World) : Prop :=
  e = .returned (.bool true) ∧ w'.cell? t = some (.int .i64 n) ∧ w'.frozen? t = false ∧ Below B w w'

theorem lt_of_cell {w : World} {p : Addr} {v : Value} (h : w.cell? p = some v) : p.block < w.heap.size := by
  rcases Nat.lt_or_ge p.block w.heap.size with h1 | h1
  · exact h1
  · simp [World.cell?, Array.getElem?_eq_none h1] at h

set_option maxHeartbeats 4000000 in
theorem as_chain (B : Nat) (t : Addr) (k : Nat) (old : Value) (n : Int) (v : Value) (l : List ByteArray) (w : World) (hc : Chain w n v l) (ha : w.cell? ⟨k, 0, none⟩ = some (.pointer (some t))) (ht : w.cell? t = some old) (hf : w.frozen? t = false)
    (hB : B ≤ w.heap.size) (hBt : B ≤ t.block) :
    Calls Tryd.prog 38 #[v, .iface 59 (.pointer (some t)), valAgg k, .iface 81 (.agg #[.pointer (some ⟨1, 29, none⟩)])] w (AsPost B t n w) := by
  have hk : k < w.heap.size := lt_of_cell ha
  have htl : t.block < w.heap.size := lt_of_cell ht
  have tO := Tryd.typeOf29
  have tP := Tryd.typeOf36
  have mA := Tryd.methodAssignableTo
  have a29 := Tryd.assignable29
  have a36 := Tryd.assignable36
  have v29 := Tryd.valueOf29
  have a2 := Tryd.noAs36
  have a5 := Tryd.hasUnwrap36
  have m1 := Tryd.methodUnwrap
  have el := Tryd.elemV59 ⟨k, 0, none⟩ t (w.alloc (.cells #[.pointer (some ⟨1, 59, none⟩), .pointer (some ⟨k, 0, none⟩), .int .u64 150] 73)) (by rw [World.cell?_alloc_lt _ _ ⟨k, 0, none⟩ hk]; exact ha)
  have st := Tryd.set29 t ⟨w.heap.size + 1, 0, none⟩ n old ((w.alloc (.cells #[.pointer (some ⟨1, 59, none⟩), .pointer (some ⟨k, 0, none⟩), .int .u64 150] 73)).alloc (.cells #[.int .i64 n] 29))
    (by rw [World.cell?_alloc_at _ _ _ _ (by simp)]; rfl)
    (by rw [World.cell?_alloc_lt _ _ t (by simp; omega), World.cell?_alloc_lt _ _ t htl]; exact ht)
    (by rw [World.frozen?_alloc_old _ _ t (by simp; omega), World.frozen?_alloc_old _ _ t (Nat.ne_of_lt htl)]; exact hf)
  have HC := Lib.hid (hc.carry rfl ((Below.refl w.heap.size w).alloc (Nat.le_refl _) (.cells #[.pointer (some ⟨1, 59, none⟩), .pointer (some ⟨k, 0, none⟩), .int .u64 150] 73)))
  clear hc
  go_enter Tryd.func38, Tryd.ntmps38
  go_wp2
  go_loopg [0] (l.length + 1) (fun q v wr => ∃ l', q = l'.length + 1 ∧ Chain (w.alloc (.cells #[.pointer (some ⟨1, 59, none⟩), .pointer (some ⟨k, 0, none⟩), .int .u64 150] 73)) n v l' ∧ wr = w.alloc (.cells #[.pointer (some ⟨1, 59, none⟩), .pointer (some ⟨k, 0, none⟩), .int .u64 150] 73))
  case atStart => exact ⟨l, rfl, HC.out, rfl⟩
  case round =>
    obtain ⟨l', rfl, hch, rfl⟩ := hrel
    cases hch with
    | base =>
      go_wp2
      go_ret
      refine ⟨rfl, ?_, ?_, ?_⟩
      · exact World.cell?_setCell_same' _ _ _ (by rw [World.cell?_alloc_lt _ _ t (by simp; omega), World.cell?_alloc_lt _ _ t htl, ht]; rfl)
      · simp; rw [World.frozen?_alloc_old _ _ t (by simp; omega), World.frozen?_alloc_old _ _ t (Nat.ne_of_lt htl)]; exact hf
      · exact (((Below.refl B w).alloc hB _).alloc (by simp; omega) _).setCell hBt _
    | tag b s t' x l2 h0 h1 hlt hch2 =>
      have H2 := Lib.hid hch2
      clear hch2
      go_wp2_with (go_at_call 17; refine (unwrap_some b _ _ h1).mono ?_; rintro e w' ⟨rfl, rfl⟩)
      go_roundg (l2.length + 1)
      case measure => simp
      case rel => exact ⟨l2, rfl, H2.out, rfl⟩

/-- what the package variable errors.errorType holds -/
abbrev Laid (w : World) : Prop := w.cell? ⟨0, 0, none⟩ = some (.iface 81 (.agg #[.pointer (some ⟨1, 25, none⟩)]))

set_option maxHeartbeats 4000000 in
theorem As_chain (B : Nat) (t : Addr) (old : Value) (n : Int) (v : Value) (l : List ByteArray) (w : World) (hc : Chain w n v l) (hg : Laid w) (ht : w.cell? t = some old) (hf : w.frozen? t = false)
    (hB : B ≤ w.heap.size) (hBt : B ≤ t.block) :
    Calls Tryd.prog 28 #[v, .iface 59 (.pointer (some t))] w (AsPost B t n w) := by
  have hlt : 0 < w.heap.size := lt_of_cell hg
  have htl : t.block < w.heap.size := lt_of_cell ht
  have f6 := Tryd.valueOf59
  have f7 := Tryd.type59
  have mK := Tryd.methodKind
  have mE := Tryd.methodElem
  have k59 := Tryd.kind59
  have k29 := Tryd.kind29
  have e59 := Tryd.elem59
  have i29 := Tryd.implements29
  have mI := Tryd.methodImplements
  have n8 := Tryd.isNil59 ⟨w.heap.size, 0, none⟩ t ((w.alloc (.cells #[.pointer (some t)] 59)).alloc (.cells #[.pointer (some ⟨1, 59, none⟩), .pointer (some ⟨w.heap.size, 0, none⟩), .int .u64 150] 73)) (by simp)
  have hg2 : ((w.alloc (.cells #[.pointer (some t)] 59)).alloc (.cells #[.pointer (some ⟨1, 59, none⟩), .pointer (some ⟨w.heap.size, 0, none⟩), .int .u64 150] 73)).cell? ⟨0, 0, none⟩ = some (.iface 81 (.agg #[.pointer (some ⟨1, 25, none⟩)])) := by
    rw [World.cell?_alloc_lt _ _ ⟨0, 0, none⟩ (by simp), World.cell?_alloc_lt _ _ ⟨0, 0, none⟩ hlt]; exact hg
  have hbw : Below w.heap.size w ((w.alloc (.cells #[.pointer (some t)] 59)).alloc (.cells #[.pointer (some ⟨1, 59, none⟩), .pointer (some ⟨w.heap.size, 0, none⟩), .int .u64 150] 73)) := ((Below.refl _ _).alloc (Nat.le_refl _) _).alloc (by simp) _
  have HC := Lib.hid (as_chain B t w.heap.size old n v l _ (hc.carry rfl hbw) (by rw [World.cell?_alloc_lt _ _ ⟨w.heap.size, 0, none⟩ (by simp), World.cell?_alloc_at _ _ _ _ (by simp)]; rfl) ((hbw.cell htl).trans ht) ((hbw.frozen htl).trans hf) (by simp; omega) hBt)
  have HB := Lib.hid hbw
  obtain ⟨t0, x0, rfl⟩ := hc.form
  clear hc hbw
  go_enter Tryd.func28, Tryd.ntmps28
  go_wp2_with (go_at_call 38; refine HC.out.mono ?_; rintro e w' ⟨rfl, h1, h2, h3⟩)
  go_ret
  exact ⟨rfl, h1, h2, (HB.out.mono hB).trans h3⟩

theorem idle27 (w : World) : CallsD Tryd.prog 27 #[] .returning w fun e u' w' => e = .returned (.tuple #[]) ∧ u' = .returning ∧ w' = w := by
  refine callsD_of_wpS Tryd.func27 rfl fun c₀ cs hu => ?_
  apply wpS_region
  simp [wpOpsS, go_sem, recoverD, hu, Tryd.ntmps27, bodyPostS, results, Tryd.results27]
  cases c₀
  simp_all

set_option maxHeartbeats 4000000 in
theorem first_chain (n : Int) (v : Value) (l : List ByteArray) (w : World) (hc : Chain w n v l) (hg : Laid w) :
    Calls Tryd.prog 19 #[v] w fun e w' => e = .returned (.tuple #[.int .i64 n, .bool true]) ∧ Below w.heap.size w w' := by
  have hbw : Below w.heap.size w (w.alloc (.cells #[.int .i64 0] 29)) := (Below.refl _ _).alloc (Nat.le_refl _) _
  have HC := Lib.hid (As_chain w.heap.size ⟨w.heap.size, 0, none⟩ (.int .i64 0) n v l (w.alloc (.cells #[.int .i64 0] 29)) (hc.carry rfl hbw) ((hbw.cell (lt_of_cell hg)).trans hg) (by simp) (by simp) (by simp) (Nat.le_refl _))
  have HB := Lib.hid hbw
  clear hc hbw hg
  go_enter_defers Tryd.func19, Tryd.ntmps19
  go_wp2_with (go_at_call 28; refine HC.out.mono ?_; rintro e w' ⟨rfl, h1, h2, h3⟩)
  refine leaves_cons (f := 27) (args := #[]) (by simp) (by simp [go_sem]) ?_
  refine (idle27 _).mono ?_
  rintro e u' w'' ⟨rfl, rfl, rfl⟩
  have hb := (HB.out.trans h3).setCell (p := ⟨w.heap.size, 0, none⟩) (Nat.le_refl _) (.int .i64 n)
  have hcell : (w'.setCell ⟨w.heap.size, 0, none⟩ (.int .i64 n)).cell? ⟨w.heap.size, 0, none⟩ = some (.int .i64 n) := World.cell?_setCell_same' _ _ _ (by rw [h1]; rfl)
  simp [Leaves, settle, results, Tryd.results19, go_sem, hcell, hb]

set_option maxHeartbeats 4000000 in
theorem Num_chain (n : Int) (v : Value) (l : List ByteArray) (w : World) (hc : Chain w n v l) (hg : Laid w) :
    Calls Tryd.prog 11 #[v] w fun e w' => e = .returned (.int .i64 n) ∧ Below w.heap.size w w' := by
  have HC := Lib.hid (first_chain n v l w hc hg)
  obtain ⟨t0, x0, rfl⟩ := hc.form
  clear hc hg
  go_enter Tryd.func11, Tryd.ntmps11
  go_wp2_with (go_at_call 19; refine HC.out.mono ?_; rintro e w' ⟨rfl, h1⟩)
  go_ret
  exact ⟨rfl, h1⟩

theorem Num_nil (w : World) : Calls Tryd.prog 11 #[.nilIface] w fun e w' => e = .returned (.int .i64 0) ∧ w = w' := by
  go_enter Tryd.func11, Tryd.ntmps11
  go_wp2
  go_ret
  exact ⟨rfl, rfl⟩
end Go.Proofs.YtbngcempcihgoaaDoor
