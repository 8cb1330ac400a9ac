/-
  What a law of layer 14 holds in its variables; the contract of Of. Conditions: none beyond the premises of each theorem.
-/
import Derived.Test.YtiffgmgefpoblaaDoorGridCalls
namespace Go.Proofs.YtiffgmgefpoblaaDoor
open Go.RowKit

/-- the document's map in a variable -/
def RefAt (w : World) (b : Nat) (W H : Int) (s : ByteArray) : Prop := w.heap[b]? = some (.cells #[.int .i64 W, .int .i64 H, .string s] 23 (0, 0))
theorem RefAt.w_ {w : World} {b : Nat} {W H : Int} {s : ByteArray} (h : RefAt w b W H s) : w.cell? ⟨b, 0, none⟩ = some (.int .i64 W) := by simp [World.cell?, show w.heap[b]? = _ from h]
theorem RefAt.h_ {w : World} {b : Nat} {W H : Int} {s : ByteArray} (h : RefAt w b W H s) : w.cell? ⟨b, 1, none⟩ = some (.int .i64 H) := by simp [World.cell?, show w.heap[b]? = _ from h]
theorem RefAt.s_ {w : World} {b : Nat} {W H : Int} {s : ByteArray} (h : RefAt w b W H s) : w.cell? ⟨b, 2, none⟩ = some (.string s) := by simp [World.cell?, show w.heap[b]? = _ from h]
theorem RefAt.lt {w : World} {b : Nat} {W H : Int} {s : ByteArray} (h : RefAt w b W H s) : b < w.heap.size := (Array.getElem?_eq_some_iff.1 h).1
theorem MapAt.carry {w w' : World} {b : Nat} {W H : Int} {s : ByteArray} (h : MapAt w b W H s) (hb : Below w.heap.size w w') : MapAt w' b W H s := (hb.block b h.lt).trans h
theorem RefAt.carry {w w' : World} {b : Nat} {W H : Int} {s : ByteArray} (h : RefAt w b W H s) (hb : Below w.heap.size w w') : RefAt w' b W H s := (hb.block b h.lt).trans h
/-- p: the law's map, of the document's type; q: the program's -/
structure LSt (w0 : World) (p q : Nat) (W H : Int) (s : ByteArray) (w : World) : Prop where
  ref : RefAt w p W H s
  at_ : MapAt w q W H s
  below : Below w0.heap.size w0 w
theorem LSt.carry {w0 w w' : World} {p q : Nat} {W H : Int} {s : ByteArray} (h : LSt w0 p q W H s w) (hb : Below w.heap.size w w') : LSt w0 p q W H s w' :=
  ⟨h.ref.carry hb, h.at_.carry hb, h.below.trans (hb.mono h.below.size)⟩
theorem LSt.drew {w0 w : World} {p q : Nat} {W H : Int} {s : ByteArray} (h : LSt w0 p q W H s w) : LSt w0 p q W H s w.drew := ⟨h.ref, h.at_, h.below.drew⟩
set_option maxRecDepth 100000 in
theorem Of_any (W H : Int) (s : ByteArray) (w : World) : Calls Tryd.prog 11 #[.agg #[.int .i64 W, .int .i64 H, .string s]] w fun e w' => e = .returned (.agg #[.int .i64 W, .int .i64 H, .string s]) ∧ Below w.heap.size w w' := by
  go_enter Tryd.func11, Tryd.ntmps11
  go_wp2_with fail
  have hm : MapAt ((w.alloc (.cells #[.int .i64 W, .int .i64 H, .string s] 23)).alloc (.cells #[.int .i64 W, .int .i64 H, .string s] 30)) (w.heap.size + 1) W H s := by
    have := heap_alloc_new (w.alloc (.cells #[.int .i64 W, .int .i64 H, .string s] 23)) (.cells #[.int .i64 W, .int .i64 H, .string s] 30)
    rwa [World.size_alloc] at this
  refine bodyPost_ret (v := .agg #[.int .i64 W, .int .i64 H, .string s]) ?_ rfl ⟨rfl, ((Below.refl _ w).alloc (Nat.le_refl _) _).alloc (by simp) _⟩
  have c0 := hm.w_
  have c1 := hm.h_
  have c2 := hm.s_
  simp only [results, Tryd.f11]
  simp [go_sem, c0, c1, c2]
end Go.Proofs.YtiffgmgefpoblaaDoor
