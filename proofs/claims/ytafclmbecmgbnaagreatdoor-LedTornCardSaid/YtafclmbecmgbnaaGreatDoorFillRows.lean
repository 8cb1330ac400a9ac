/-
 FillRows. Conditions: as each theorem says.
-/
import Derived.Test.YtafclmbecmgbnaaGreatDoorPacks
import Derived.Great.BuildSlice
open Nat renaming add_mul -> zfW
open List renaming drop_length_add_append -> zfX
namespace Go.Proofs.YtafclmbecmgbnaaGreatDoor
open Go.RowKit
theorem Q0 {α:Type} (L:List α) (i:Nat) (v:α) (h:i < L.length):L.set i v = L.take i ++ v :: L.drop (i + 1):=by
 induction L generalizing i with
 | nil=>simp at h
 | cons a r ih =>
  cases i with
  | zero=>simp
  | succ i=>simp only [List.set_cons_succ,List.take_succ_cons,List.drop_succ_cons,List.cons_append]; rw [ih i (by simpa using h)]
theorem Yu (off:Nat):∀ (l:List Value) (k:Nat) (cs:Array Value),off + k + l.length <= cs.size ->
  ((l.zipIdx k).foldl (fun (cs:Array Value) (x:Value × Nat)=>cs.setIfInBounds (off + x.2) x.1) cs).toList = cs.toList.take (off + k) ++ (l ++ cs.toList.drop (off + k + l.length))
 | [],k,cs,_=>by simp
 | v :: r,k,cs,h=>by
  have hl:cs.toList.length = cs.size:=by simp
  simp only [List.length_cons] at h;rw [List.zipIdx_cons,List.foldl_cons,Yu off r (k + 1) _ (by simp; omega),Array.toList_setIfInBounds];show (cs.toList.set (off + k) v).take (off + (k + 1)) ++ (r ++ (cs.toList.set (off + k) v).drop (off + (k + 1) + r.length)) = _;rw [Q0 _ _ _ (by rw [hl]; omega)];have hT:(cs.toList.take (off + k)).length = off + k:=by rw [List.length_take]; omega
  rw [show off + (k + 1) = (cs.toList.take (off + k)).length + 1 by rw [hT]; omega,List.take_length_add_append,
   show (cs.toList.take (off + k)).length + 1 + r.length = (cs.toList.take (off + k)).length + (r.length + 1) by omega,zfX]
  simp only [List.take_succ_cons,List.take_zero,List.drop_succ_cons,List.append_assoc,List.cons_append,List.nil_append,List.drop_drop,List.length_cons];congr 4;omega
theorem Qj (place:Nat -> Option (Nat × Nat)) (cells:Array Value) (i:Nat) (v:Value) (rest:List (Nat × Value)) (off size:Nat) (hp:place i = some (off,size)) (hs:v.cells.size = size) (hl:off + size <= cells.size) :
  Instr.fill place cells ((i,v) :: rest) = Instr.fill place (cells.toList.take off ++ (v.cells.toList ++ cells.toList.drop (off + size))).toArray rest:=by
 rw [Instr.fill,hp];simp only;rw [if_neg (by simp; omega)];congr 1;have h:=Yu off v.cells.toList 0 cells (by simp; omega);rw [Nat.add_zero,show off + v.cells.toList.length = off + size by simp; omega] at h;rw [<- Array.toList_inj];rw [show (v.cells.zipIdx.foldl (fun cs (x:Value × Nat)=>cs.setIfInBounds (off + x.2) x.1) cells).toList = ((v.cells.toList.zipIdx 0).foldl (fun cs (x:Value × Nat)=>cs.setIfInBounds (off + x.2) x.1) cells).toList by rw [<- Array.foldl_toList,Array.toList_zipIdx]];exact h
theorem ZY (k:Nat):∀ (rows:List (List Value)) (i0:Nat) (cells:Array Value),(∀ r ∈ rows,r.length = k) -> (i0 + rows.length) * k <= cells.size ->
  Instr.fill (fun i=>some (i * k,k)) cells ((rows.zipIdx i0).map fun x=>(x.2,Value.agg x.1.toArray)) = some (cells.toList.take (i0 * k) ++ (rows.flatten ++ cells.toList.drop ((i0 + rows.length) * k))).toArray
 | [],i0,cells,_,_=>by simp [Instr.fill]
 | r :: rest,i0,cells,hr,hl=>by
  have hk:r.length = k:=hr r (by simp);simp only [List.length_cons] at hl;have e0:(i0 + (rest.length + 1)) * k = i0 * k + k + rest.length * k:=by rw [zfW,zfW]; omega
  have h1:i0 * k + k <= cells.size:=by rw [e0] at hl; omega
  rw [List.zipIdx_cons,List.map_cons,Qj _ _ i0 _ _ (i0 * k) k rfl (by simp [Value.cells,hk]) h1];have hT:(cells.toList.take (i0 * k)).length = i0 * k:=by rw [List.length_take]; simp; omega
  have hsz:(i0 + 1 + rest.length) * k <= (cells.toList.take (i0 * k) ++ ((Value.agg r.toArray).cells.toList ++ cells.toList.drop (i0 * k + k))).toArray.size:=by
   rw [e0] at hl;have e1:(i0 + 1 + rest.length) * k = i0 * k + k + rest.length * k:=by rw [zfW,zfW]; omega
   rw [e1,List.size_toArray,List.length_append,hT,List.length_append,List.length_drop];simp only [Value.cells,Array.length_toList,hk];omega
  rw [ZY k rest (i0 + 1) _ (fun x hx=>hr x (by simp [hx])) hsz];congr 2;have e2:(i0 + 1) * k = (cells.toList.take (i0 * k)).length + k:=by rw [hT,zfW]; omega
  have e3:(i0 + 1 + rest.length) * k = (cells.toList.take (i0 * k)).length + (k + rest.length * k):=by rw [hT,zfW,zfW]; omega
  show (cells.toList.take (i0 * k) ++ (r ++ cells.toList.drop (i0 * k + k))).take ((i0 + 1) * k) ++ (rest.flatten ++ (cells.toList.take (i0 * k) ++ (r ++ cells.toList.drop (i0 * k + k))).drop ((i0 + 1 + rest.length) * k)) = _;rw [e2,List.take_length_add_append,e3,zfX];have e4:(r ++ cells.toList.drop (i0 * k + k)).take k = r:=by rw [<- hk,List.take_left']; rfl
  have e5:(r ++ cells.toList.drop (i0 * k + k)).drop (k + rest.length * k) = cells.toList.drop ((i0 + (rest.length + 1)) * k):=by
   rw [show k + rest.length * k = r.length + rest.length * k by rw [hk],zfX,List.drop_drop,e0]
  rw [e4,e5,List.append_assoc,List.flatten_cons,List.append_assoc];rfl
def V3 (w:World) (b k:Nat) (rows:List (List Value)):Prop:=∀ (j i:Nat) (r:List Value) (v:Value),rows[j]? = some r -> r[i]? = some v -> w.cell? ⟨b,j * k + i,none⟩ = some v
theorem Wt {k:Nat}:∀ {rows:List (List Value)} {j i:Nat} {r:List Value} {v:Value},(∀ r ∈ rows,r.length = k) -> rows[j]? = some r -> r[i]? = some v -> rows.flatten[j * k + i]? = some v
 | [],j,i,r,v,_,h1,_=>by simp at h1
 | x :: rest,0,i,r,v,hk,h1,h2=>by
  obtain rfl:x = r:=by simpa using h1
  have hi:=(List.getElem?_eq_some_iff.1 h2).1;rw [List.flatten_cons,Nat.zero_mul,Nat.zero_add,List.getElem?_append_left hi,h2]
 | x :: rest,j + 1,i,r,v,hk,h1,h2=>by
  have hx:x.length = k:=hk x (by simp);rw [List.flatten_cons,List.getElem?_append_right (by rw [hx,zfW]; omega),show (j + 1) * k + i - x.length = j * k + i by rw [hx,zfW]; omega];exact Wt (fun r hr=>hk r (by simp [hr])) (by simpa using h1) h2
theorem V3.new {w:World} {k:Nat} {rows:List (List Value)} (hk:∀ r ∈ rows,r.length = k) (t:TypeId):V3 (w.alloc (.cells rows.flatten.toArray t)) w.1.size k rows:=fun j i r v h1 h2=>by
 have hh:(w.alloc (.cells rows.flatten.toArray t)).1[w.1.size]? = some (.cells rows.flatten.toArray t (0,0)):=heap_alloc_new w _;rw [cell_of_row _ w.1.size _ _ _ _ hh];simpa using Wt hk h1 h2
theorem Zr {P:Program} {ops:Array Oper} {rest:List Oper} {o:Oper} {a:Act} {w:World} {Q:Exit -> Act -> World -> Prop} (hg:o.guard = none) (t e:TypeId) (k n:Nat) (parts:Array (Nat × Operand)) (ho:o.op = .buildSlice t n parts) (rows:List (List Value))
  (hu:P.underlying t = some (.slice e)) (hi:(P.info? e).map (·.size) = some k) (hz:((P.info? e).bind (·.zero)).isSome = true) (hn:rows.length = n) (h0:0 < n * k) (h24:n * k <= 2 ^ 24) (hk:∀ r ∈ rows,r.length = k)
  (hp:(parts.toList.map fun x=>(x.1,a.eval x.2)) = (rows.zipIdx 0).map fun x=>(x.2,Value.agg x.1.toArray))
  (h:∀ w2 B,Hid (B = w.1.size) -> Hid (V3 w2 B k rows) -> Hid (Below w.1.size w w2) -> Hid (B < w2.1.size) -> wpList P ops Q rest (a.put o.dst (.slice (some ⟨B,0,none⟩) n n)) w2):wpList P ops Q (o :: rest) a w:=by
 cases hie:P.info? e with
 | none=>simp [hie] at hi
 | some ie =>
  simp only [hie,Option.map_some,Option.some.injEq,Option.bind_some] at hi hz;obtain ⟨z,hzz⟩:=Option.isSome_iff_exists.1 hz;refine wpList_buildSlice hg t e n parts ho rows.flatten.toArray ie z hu hie hzz (by rw [hi]; omega) (by rw [hi]; omega) ?_ ?_
  ·rw [Array.toList_map];rw [show (parts.toList.map fun (i,x)=>(i,a.eval x)) = parts.toList.map fun x=>(x.1,a.eval x.2) from rfl,hp,hi,ZY k rows 0 _ hk (by simp [hn])];congr 2;rw [Nat.zero_mul,List.take_zero,List.nil_append,Nat.zero_add,List.drop_of_length_le (by simp [hn]),List.append_nil]
  ·exact h _ _ (Hi rfl) (Hi (V3.new hk e)) (Hi ((Below.refl _ _).alloc (Nat.le_refl _) _)) (Hi (by simp))
