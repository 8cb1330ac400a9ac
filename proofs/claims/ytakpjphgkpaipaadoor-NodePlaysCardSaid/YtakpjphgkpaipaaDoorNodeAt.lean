/-
  A node as a value, of either of its two types, and its lists in memory; the copy of a node that a call lays. Conditions: none beyond the premises of each theorem.
-/
import Derived.Test.YtakpjphgkpaipaaDoorNodeMath
import Derived.Test.YtakpjphgkpaipaaDoorNums
import Derived.Test.YtakpjphgkpaipaaDoorStrs
import Derived.Deep.MidRow
import Derived.Lib.Hide
namespace Go.Proofs.YtakpjphgkpaipaaDoor
open Go.RowKit

/-- where a node's lists lie -/
structure Lay3 where
  A : Option Addr
  B : Option Addr
  C : Option Addr
  ca : Nat
  cb : Nat
  cc : Nat
def ndCells (l : Lay3) (x : Nd) : List Value := [.slice l.A x.keys.length l.ca, .slice l.B x.vals.length l.cb, .slice l.C x.kids.length l.cc]
abbrev ndV (l : Lay3) (x : Nd) : Value := .agg #[.slice l.A x.keys.length l.ca, .slice l.B x.vals.length l.cb, .slice l.C x.kids.length l.cc]
/-- the node's lists -/
structure NdIs (w : World) (l : Lay3) (x : Nd) : Prop where
  keys : Nums w .i64 l.A x.keys
  vals : Strs w l.B x.vals.length x.vals
  kids : Nums w .i64 l.C x.kids
  kl : x.keys.length ≤ maxLen
  vl : x.vals.length ≤ maxLen
  cl : x.kids.length ≤ maxLen
  kw : ∀ z ∈ x.keys, -9223372036854775808 ≤ z ∧ z ≤ 9223372036854775807
  vw : ∀ v ∈ x.vals, v.size ≤ maxLen
  cw : ∀ z ∈ x.kids, -9223372036854775808 ≤ z ∧ z ≤ 9223372036854775807
theorem NdIs.carry {w w' : World} {l : Lay3} {x : Nd} (h : NdIs w l x) (hb : Below w.heap.size w w') : NdIs w' l x :=
  ⟨h.keys.carry hb, h.vals.below hb, h.kids.carry hb, h.kl, h.vl, h.cl, h.kw, h.vw, h.cw⟩
def Lay3.none_ : Lay3 := ⟨none, none, none, 0, 0, 0⟩
theorem Strs.none_ (w : World) (A : Option Addr) : Strs w A 0 [] := ⟨rfl, fun h => absurd h (by decide)⟩
theorem NdIs.empty (w : World) : NdIs w Lay3.none_ Nd.empty :=
  ⟨Nums.none_ _ _ _, Strs.none_ _ _, Nums.none_ _ _ _, Nat.zero_le _, Nat.zero_le _, Nat.zero_le _, by simp [Nd.empty], by simp [Nd.empty], by simp [Nd.empty]⟩
/-- a copy of a node, of the call's own, at block b -/
structure NdBox (w : World) (b : Nat) (l : Lay3) (x : Nd) : Prop where
  c0 : w.cell? ⟨b, 0, none⟩ = some (.slice l.A x.keys.length l.ca)
  c1 : w.cell? ⟨b, 1, none⟩ = some (.slice l.B x.vals.length l.cb)
  c2 : w.cell? ⟨b, 2, none⟩ = some (.slice l.C x.kids.length l.cc)
theorem NdBox.new {w : World} {l : Lay3} {x : Nd} (t : TypeId) : NdBox (w.alloc (.cells #[.slice l.A x.keys.length l.ca, .slice l.B x.vals.length l.cb, .slice l.C x.kids.length l.cc] t)) w.heap.size l x := ⟨by simp, by simp, by simp⟩
theorem NdBox.lt {w : World} {b : Nat} {l : Lay3} {x : Nd} (h : NdBox w b l x) : b < w.heap.size := below_block h.c0
theorem NdBox.carry {w w' : World} {b : Nat} {l : Lay3} {x : Nd} (h : NdBox w b l x) {B : Nat} (hb : Below B w w') (hB : b < B) : NdBox w' b l x :=
  ⟨(hb.cell (p := ⟨b, 0, none⟩) hB).trans h.c0, (hb.cell (p := ⟨b, 1, none⟩) hB).trans h.c1, (hb.cell (p := ⟨b, 2, none⟩) hB).trans h.c2⟩
end Go.Proofs.YtakpjphgkpaipaaDoor
