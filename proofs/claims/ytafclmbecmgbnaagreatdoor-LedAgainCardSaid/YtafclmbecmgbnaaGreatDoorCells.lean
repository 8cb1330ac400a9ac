/-
 Cells. Conditions: as each theorem says.
-/
import Derived.Test.YtafclmbecmgbnaaGreatDoorFillRows
import Derived.Deep.MidRow
import Derived.Lib.LazyBuf
import Derived.Laws.ResultCell
namespace Go.Proofs.YtafclmbecmgbnaaGreatDoor
open Go.RowKit
structure wP (w:World) (b:Nat) (cs:List Value):Prop where
 at_:w.rangeAt b 0 cs
 free:∀ j,w.frozen? ⟨b,j,none⟩ = false
theorem wP.cell {w:World} {b:Nat} {cs:List Value} (h:wP w b cs) {j:Nat} {v:Value} (hj:cs[j]? = some v):w.cell? ⟨b,j,none⟩ = some v:=by
 have:=h.at_ j v hj
 rwa [Nat.zero_add] at this
theorem wP.new {w:World} (cs:List Value) (t:TypeId):wP (w.alloc (.cells cs.toArray t)) w.1.size cs:=by
 have hh:(w.alloc (.cells cs.toArray t)).1[w.1.size]? = some (.cells cs.toArray t (0,0)):=heap_alloc_new w _;refine ⟨fun j u hu=>?_,fun j=>frozen_of_row _ _ j _ _ hh⟩;rw [cell_of_row _ w.1.size (0 + j) _ _ _ hh,Nat.zero_add];simpa using hu
theorem wP.block {w w':World} {b:Nat} {cs:List Value} (h:wP w b cs) (hb:w'.1[b]? = w.1[b]?):wP w' b cs :=
 ⟨fun j v hv=>(World.cell?_of_block (w:=w) (a:=⟨b,0 + j,none⟩) hb).trans (h.at_ j v hv),fun j=>(World.frozen?_of_block (w:=w) (a:=⟨b,j,none⟩) hb).trans (h.free j)⟩
theorem wP.lt {w:World} {b:Nat} {cs:List Value} (h:wP w b cs) (hl:0 < cs.length):b < w.1.size:=zt (h.at_ 0 _ (List.getElem?_eq_getElem hl))
theorem wP.below {w w':World} {b B:Nat} {cs:List Value} (h:wP w b cs) (hb:Below B w w') (hB:b < B):wP w' b cs:=h.block (hb.block b hB)
theorem wP.carry {w w':World} {b:Nat} {cs:List Value} (h:wP w b cs) (hb:Below w.1.size w w') (hl:0 < cs.length):wP w' b cs:=h.below hb (h.lt hl)
theorem wP.there {w:World} {b:Nat} {cs:List Value} (h:wP w b cs):w.there b 0 cs.length:=fun j hj=>⟨by rw [h.at_ j _ (List.getElem?_eq_getElem hj)]; rfl,h.free _⟩
theorem wP.lay {w:World} {b:Nat} {cs ds:List Value} (h:wP w b cs) (hl:ds.length = cs.length):wP (w.setCells b 0 ds) b ds :=
 ⟨World.rangeAt_setCells_same w b 0 _ (by rw [hl]; exact h.there),fun j=>by rw [World.frozen?_setCells]; exact h.free j⟩
theorem Zs (b:Nat) {k:Nat} (hk:k ≠ b):∀ (vs:List Value) (o:Nat) (w:World),(w.setCells b o vs).heap[k]? = w.1[k]?
 | [],_,_=>rfl
 | v :: r,o,w=>by rw [World.setCells,Zs b hk r (o + 1),Below.heap_setCell _ _ _ _ hk]
structure zd6 (P:Program) (T:TypeId) (k:Nat):Prop where
 und:∃ d,P.underlying T = some d /\ d.isRow = true
 size:(P.info? T).map (·.size) = some k
section
variable {P:Program} {T:TypeId} {k:Nat} (hT:zd6 P T k)
include hT
theorem zbg {op:Oper} {a:Act} {w:World} {K:Act -> World -> Prop} {Q:Exit -> Act -> World -> Prop} (x:Operand) (ho:op.op = .load T x) (b o:Nat) (hx:a.eval x = .pointer (some ⟨b,o,none⟩)) (cs:List Value) (hl:cs.length = k) (hc:w.rangeAt b o cs)
  (h:K (a.put op.dst (.agg cs.toArray)) w):op.wp P a w K Q:=by
 obtain ⟨d,hu,hd⟩:=hT.und;exact wp_load_mid T x ho b o hx cs _ hc hu hd (by rw [hl]; exact hT.size) h
theorem vX {ops:Array Oper} {rest:List Oper} {op:Oper} {a:Act} {w:World} {Q:Exit -> Act -> World -> Prop} (hw:Region.wanted op (yielded ops a.tmps) = true) (x:Operand) (ho:op.op = .load T x)
  (b o:Nat) (hx:a.eval x = .pointer (some ⟨b,o,none⟩)) (cs:List Value) (hl:cs.length = k) (hc:w.rangeAt b o cs)
  (h:wpList P ops Q rest (a.put op.dst (.agg cs.toArray)) w):wpList P ops Q (op :: rest) a w :=
 wpList_step fun _ hK=>by
  rw [if_pos hw];exact zbg hT x ho b o hx cs hl hc (hK _ _ h)
theorem QD {op:Oper} {a:Act} {w:World} {K:Act -> World -> Prop} {Q:Exit -> Act -> World -> Prop} (x y:Operand) (ho:op.op = .store T x y) (b:Nat) (cs ds:List Value) (hl:ds.length = k) (hcl:cs.length = k) (h1:∀ v ∈ ds,v.oneCell' = true)
  (hx:a.eval x = .pointer (some ⟨b,0,none⟩)) (hy:a.eval y = .agg ds.toArray) (hb:wP w b cs)
  (h:∀ w2,Hid (w2 = w.setCells b 0 ds) -> Hid (wP w2 b ds) -> K (a.put op.dst undef) w2):op.wp P a w K Q :=
 wp_store_mid T x y ho b 0 ds.toArray hx hy (by have:=hb.there; rw [hcl,<- hl] at this; simpa using this) (by simpa [hl] using hT.size) (all_oneCell_toArray h1) (h _ (Hi rfl) (Hi (hb.lay (by rw [hl,hcl]))))
theorem Wr {ops:Array Oper} {rest:List Oper} {op:Oper} {a:Act} {w:World} {Q:Exit -> Act -> World -> Prop} (hgd:op.guard = none) (x y:Operand) (ho:op.op = .store T x y) (b:Nat) (cs ds:List Value) (hl:ds.length = k) (hcl:cs.length = k) (h1:∀ v ∈ ds,v.oneCell' = true)
  (hx:a.eval x = .pointer (some ⟨b,0,none⟩)) (hy:a.eval y = .agg ds.toArray) (hb:wP w b cs)
  (h:∀ w2,Hid (w2 = w.setCells b 0 ds) -> Hid (wP w2 b ds) -> wpList P ops Q rest (a.put op.dst undef) w2):wpList P ops Q (op :: rest) a w :=
 wpList_plain hgd fun _ hK=>QD hT x y ho b cs ds hl hcl h1 hx hy hb fun w2 h2 h3=>hK _ _ (h w2 h2 h3)
end
theorem Vv {B b:Nat} {w w2 w0:World} {vs:List Value} {o:Nat} (h:Below B w0 w) (hw:w2 = w.setCells b o vs) (hb:B <= b):Below B w0 w2:=by
 subst hw;exact below_setCells hb vs o w h
