/-
  What the law PagerPlays holds in memory between two calls. Conditions: none beyond the premises of each theorem.
-/
import Derived.Test.YtbcapaafoklhdaaDoorPgLaw
import Derived.Test.YtbcapaafoklhdaaDoorPgActs
import Derived.Test.YtbcapaafoklhdaaDoorPgRefs
import Derived.Test.YtbcapaafoklhdaaDoorSets
import Derived.Deep.AppendLies
import Derived.Laws.OwnMore
namespace Go.Proofs.YtbcapaafoklhdaaDoor
open Go.RowKit

/-- an act as a value and in a block of the law's own -/
def actArr (x : ActP) : Array Value := #[.int .u8 x.what, .int .i64 x.at_, .string x.data, .int .u32 x.mask, .int .i64 x.torn]
theorem Tryd.actSize : (Tryd.prog.info? 41).map (·.size) = some 5 := by kernel_rfl
theorem actOne (x : ActP) : ∀ v ∈ (actArr x).toList, v.oneCell' = true := by
  intro v hv
  simp only [actArr, List.mem_cons, List.not_mem_nil, or_false] at hv
  rcases hv with rfl | rfl | rfl | rfl | rfl <;> rfl
theorem actAll (x : ActP) : (actArr x).all (·.oneCell') = true := all_oneCell_toArray (cs := (actArr x).toList) (actOne x)
theorem ActAtP.range {w : World} {b q : Nat} {x : ActP} (h : ActAtP w b q x) : w.rangeAt b q (actArr x).toList := fun j v hv => by
  match j, hv with
  | 0, hv => obtain rfl := Option.some.inj hv; exact h.c0
  | 1, hv => obtain rfl := Option.some.inj hv; exact h.c1
  | 2, hv => obtain rfl := Option.some.inj hv; exact h.c2
  | 3, hv => obtain rfl := Option.some.inj hv; exact h.c3
  | 4, hv => obtain rfl := Option.some.inj hv; exact h.c4
theorem wpList_load_act {ops : Array Oper} {rest : List Oper} {op : Oper} {a : Act} {w : World} {Q : Exit → Act → World → Prop} (hw : Region.wanted op (yielded ops a.tmps) = true) (x : Operand) (ho : op.op = .load 41 x)
    {b q : Nat} {y : ActP} (hx : a.eval x = .pointer (some ⟨b, q, none⟩)) (hc : ActAtP w b q y)
    (h : wpList Tryd.prog ops Q rest (a.put op.dst (.agg (actArr y))) w) : wpList Tryd.prog ops Q (op :: rest) a w :=
  wpList_step fun _ hK => by
    rw [if_pos hw]
    exact wp_load_mid 41 x ho b q hx (actArr y).toList _ hc.range Tryd.underlying41 rfl Tryd.actSize (hK _ _ h)
structure ActIn (w : World) (g : Nat) (x : ActP) : Prop where
  c0 : w.cell? ⟨g, 0, none⟩ = some (.int .u8 x.what)
  c1 : w.cell? ⟨g, 1, none⟩ = some (.int .i64 x.at_)
  c2 : w.cell? ⟨g, 2, none⟩ = some (.string x.data)
  c3 : w.cell? ⟨g, 3, none⟩ = some (.int .u32 x.mask)
  c4 : w.cell? ⟨g, 4, none⟩ = some (.int .i64 x.torn)
theorem ActIn.new (w : World) (x : ActP) (t : TypeId) : ActIn (w.alloc (.cells (actArr x) t)) w.heap.size x := by
  have hh := heap_alloc_last w (.cells (actArr x) t)
  exact ⟨by rw [cell_of_row _ _ 0 _ _ _ hh]; rfl, by rw [cell_of_row _ _ 1 _ _ _ hh]; rfl, by rw [cell_of_row _ _ 2 _ _ _ hh]; rfl, by rw [cell_of_row _ _ 3 _ _ _ hh]; rfl, by rw [cell_of_row _ _ 4 _ _ _ hh]; rfl⟩
theorem ActIn.lt {w : World} {g : Nat} {x : ActP} (h : ActIn w g x) : g < w.heap.size := lt_of_cell h.c0
theorem ActIn.block {w w' : World} {g : Nat} {x : ActP} (h : ActIn w g x) (hb : w'.heap[g]? = w.heap[g]?) : ActIn w' g x :=
  have e : ∀ j, w'.cell? ⟨g, j, none⟩ = w.cell? ⟨g, j, none⟩ := fun j => World.cell?_of_block (w := w) (a := ⟨g, j, none⟩) hb
  ⟨(e _).trans h.c0, (e _).trans h.c1, (e _).trans h.c2, (e _).trans h.c3, (e _).trans h.c4⟩
theorem ActIn.carry {w w' : World} {g : Nat} {x : ActP} (h : ActIn w g x) (hb : Below w.heap.size w w') : ActIn w' g x := h.block (hb.block g h.lt)
/-- a row of n strings, that may be written -/
structure SRow (w : World) (g n : Nat) (f : Nat → ByteArray) : Prop where
  at_ : ∀ i, i < n → w.cell? ⟨g, i, none⟩ = some (.string (f i))
  free : ∀ i, w.frozen? ⟨g, i, none⟩ = false
  lt : g < w.heap.size
theorem SRow.block {w w' : World} {g n : Nat} {f : Nat → ByteArray} (h : SRow w g n f) (hb : w'.heap[g]? = w.heap[g]?) (hs : w.heap.size ≤ w'.heap.size) : SRow w' g n f :=
  ⟨fun i hi => (World.cell?_of_block (w := w) (a := ⟨g, i, none⟩) hb).trans (h.at_ i hi), fun i => (World.frozen?_of_block (w := w) (a := ⟨g, i, none⟩) hb).trans (h.free i), Nat.lt_of_lt_of_le h.lt hs⟩
theorem SRow.carry {w w' : World} {g n : Nat} {f : Nat → ByteArray} (h : SRow w g n f) (hb : Below w.heap.size w w') : SRow w' g n f := h.block (hb.block g h.lt) hb.size
theorem SRow.put {w : World} {g n : Nat} {f : Nat → ByteArray} (hr : SRow w g n f) {i : Nat} (hi : i < n) (v : ByteArray) : SRow (w.setCell ⟨g, i, none⟩ (.string v)) g n (fun j => if j = i then v else f j) := by
  refine ⟨fun j hj => ?_, fun j => by rw [World.frozen?_setCell]; exact hr.free j, by rw [setCell_size]; exact hr.lt⟩
  show _ = some (Value.string (if j = i then v else f j))
  by_cases e : j = i
  · subst e
    rw [if_pos rfl]
    exact World.cell?_setCell_same _ _ _ (hr.at_ j hj)
  · rw [if_neg e]
    exact (World.cell?_setCell_other _ _ _ _ (by intro hh; injection hh; omega)).trans (hr.at_ j hj)
theorem SRow.other {w : World} {g n c : Nat} {f : Nat → ByteArray} (hr : SRow w g n f) (hc : c ≠ g) (i : Nat) (v : Value) : SRow (w.setCell ⟨c, i, none⟩ v) g n f :=
  ⟨fun j hj => (World.cell?_setCell_other _ _ _ _ (by intro hh; injection hh; omega)).trans (hr.at_ j hj), fun j => by rw [World.frozen?_setCell]; exact hr.free j, by rw [setCell_size]; exact hr.lt⟩
theorem Tryd.infoStr8 : (Tryd.prog.info? 9).map (fun i => (i.zero, i.size, i.bytes)) = some (some (.string ⟨#[]⟩), 1, 16) := by kernel_rfl
/-- what make lays -/
theorem made_strs {w : World} {g n : Nat} {M : Array Value} (hM : M = madeCells #[Value.string ⟨#[]⟩] (n * 1)) (hb : w.heap[g]? = some (.cells M 9 (0, 0))) : SRow w g n (fun _ => ⟨#[]⟩) := by
  refine ⟨fun i hi => ?_, fun i => frozen_of_row w g i _ _ hb, (Array.getElem?_eq_some_iff.1 hb).1⟩
  rw [cell_of_row w g i M _ _ hb, hM]
  simp [madeCells, hi, Nat.mod_one]
/-- n strings, as cells -/
def stL (n : Nat) (f : Nat → ByteArray) : List Value := (List.range n).map fun i => .string (f i)
theorem stL_length (n : Nat) (f : Nat → ByteArray) : (stL n f).length = n := by simp [stL]
theorem stL_at {n : Nat} {f : Nat → ByteArray} {i : Nat} (h : i < n) : (stL n f)[i]? = some (.string (f i)) := by simp [stL, h]
theorem stL_one (n : Nat) (f : Nat → ByteArray) : ∀ v ∈ stL n f, v.oneCell' = true := by
  intro v hv
  obtain ⟨m, _, rfl⟩ := List.mem_map.1 hv
  rfl
/-- a row of strings, copied behind an empty literal -/
theorem wpList_append_strs {ops : Array Oper} {rest : List Oper} {o : Oper} {a : Act} {w wl : World} {Q : Exit → Act → World → Prop} (hgd : o.guard = none) (x y : Operand)
    (ho : o.op = .call { callee := .builtin .append, args := #[x, y], argTypes := #[39, 39] }) {da n cd : Nat} {f : Nat → ByteArray} (hw : wl = w.alloc (.cells #[] 9)) (hx : a.eval x = .slice (some ⟨w.heap.size, 0, none⟩) 0 0) (hy : a.eval y = .slice (some ⟨da, 0, none⟩) n cd) (hr : SRow w da n f) (hn : 0 < n) (hn2 : n ≤ 240)
    (h : ∀ g cap w', Hid (SRow w' g n f) → Hid (w.heap.size ≤ g) → Hid (Below w.heap.size w w') → wpList Tryd.prog ops Q rest (a.put o.dst (.slice (some ⟨g, 0, none⟩) n cap)) w') : wpList Tryd.prog ops Q (o :: rest) a wl := by
  subst hw
  obtain ⟨i0, hi, hz0, hz1, hz2⟩ := info_parts Tryd.infoStr8
  have hb1 : Below w.heap.size w (w.alloc (.cells #[] 9)) := (Below.refl _ _).alloc (Nat.le_refl _) _
  have hr1 := hr.carry hb1
  have hown : (w.alloc (.cells #[] 9)).ownsRow w.heap.size 9 1 (.slice (some ⟨w.heap.size, 0, none⟩) 0 0) 0 [] := ⟨by simp, .inr ⟨w.heap.size, 0, #[], rfl, Nat.le_refl _, heap_alloc_last w _, Nat.le_refl _, Nat.zero_le _, by simp, by simp⟩⟩
  refine wpList_append_lies _ hgd x y 39 ho w.heap.size 9 i0 (.string ⟨#[]⟩) 1 16 Tryd.underlying39 hi hz0 hz1 hz2 rfl (by decide) _ 0 [] hx hown ⟨da, 0, none⟩ n cd (stL n f) hy (by rw [stL_length, Nat.mul_one]) ?_ (stL_one n f) hn (by unfold maxLen; omega) (by omega) (by simp) _ rfl ?_
  · intro j u hu
    have hj : j < n := by have := (List.getElem?_eq_some_iff.1 hu).1; rwa [stL_length] at this
    rw [stL_at hj] at hu
    obtain rfl := Option.some.inj hu
    have := hr1.at_ j hj
    cases j with
    | zero => simpa [Addr.add] using this
    | succ j => simpa [Addr.add] using this
  · intro g cap w' ho2 hg2 hgg hlt
    rw [Nat.zero_add, List.nil_append] at ho2
    rw [Nat.zero_add]
    refine h g cap w' (Lib.hid ⟨fun i hi => ?_, fun i => ho2.frozenAt i, hlt⟩) (Lib.hid ?_) (Lib.hid ?_)
    · rw [ho2.cellAt i (by omega), stL_at hi]
    · rcases hgg with e | e
      · have : w.heap.size = g := by simpa [Value.ownBlock] using e
        omega
      · rw [e, size_alloc_one]; omega
    · exact hb1.grown hg2 (by rw [size_alloc_one]; omega) fun k hk => by
        have : w.heap.size = k := by simpa [Value.ownBlock] using hk
        omega
/-- the law's own blocks: the document's pager, its rows, two rows of texts -/
structure LM (K : Nat → Prop) (w0 w : World) (g n a b c : Nat) (root : Int) (gen : Nat) (fu fn fg : Nat → Bool) (da df : Nat) (dt ft : Nat → ByteArray) : Prop where
  x : RpAt w g n a b c root gen
  rows : Rows3 w n a b c fu fn fg
  ds : SRow w da n dt
  fs : SRow w df n ft
  k : K g ∧ K a ∧ K b ∧ K c ∧ K da ∧ K df
  ne : g ≠ a ∧ g ≠ b ∧ g ≠ c ∧ g ≠ da ∧ g ≠ df ∧ da ≠ a ∧ da ≠ b ∧ da ≠ c ∧ df ≠ a ∧ df ≠ b ∧ df ≠ c ∧ da ≠ df
  lo : w0.heap.size ≤ g ∧ w0.heap.size ≤ a ∧ w0.heap.size ≤ b ∧ w0.heap.size ≤ c ∧ w0.heap.size ≤ da ∧ w0.heap.size ≤ df
section
variable {K : Nat → Prop} {w0 w w' : World} {g n a b c : Nat} {root : Int} {gen : Nat} {fu fn fg : Nat → Bool} {da df : Nat} {dt ft : Nat → ByteArray}
theorem Rows3.blocks (h : Rows3 w n a b c fu fn fg) (h1 : w'.heap[a]? = w.heap[a]?) (h2 : w'.heap[b]? = w.heap[b]?) (h3 : w'.heap[c]? = w.heap[c]?) (hs : w.heap.size ≤ w'.heap.size) : Rows3 w' n a b c fu fn fg :=
  ⟨h.ru.block h1 hs, h.rn.block h2 hs, h.rg.block h3 hs, h.ab, h.ac, h.bc⟩
theorem LM.kept (h : LM K w0 w g n a b c root gen fu fn fg da df dt ft) (hk : Kept K w w') : LM K w0 w' g n a b c root gen fu fn fg da df dt ft := by
  obtain ⟨k1, k2, k3, k4, k5, k6⟩ := h.k
  exact ⟨h.x.block (hk.block g k1), h.rows.blocks (hk.block a k2) (hk.block b k3) (hk.block c k4) hk.size, h.ds.block (hk.block da k5) hk.size, h.fs.block (hk.block df k6) hk.size, h.k, h.ne, h.lo⟩
theorem LM.carry (h : LM K w0 w g n a b c root gen fu fn fg da df dt ft) (hb : Below w.heap.size w w') : LM K w0 w' g n a b c root gen fu fn fg da df dt ft :=
  ⟨h.x.carry hb, h.rows.carry hb, h.ds.carry hb, h.fs.carry hb, h.k, h.ne, h.lo⟩
theorem LM.more {L : Nat → Prop} (h : LM K w0 w g n a b c root gen fu fn fg da df dt ft) (hKL : ∀ k, K k → L k) : LM L w0 w g n a b c root gen fu fn fg da df dt ft :=
  ⟨h.x, h.rows, h.ds, h.fs, ⟨hKL _ h.k.1, hKL _ h.k.2.1, hKL _ h.k.2.2.1, hKL _ h.k.2.2.2.1, hKL _ h.k.2.2.2.2.1, hKL _ h.k.2.2.2.2.2⟩, h.ne, h.lo⟩
theorem LM.setNew (h : LM K w0 w g n a b c root gen fu fn fg da df dt ft) {k : Nat} (hk : k < n) (v : Bool) : LM K w0 (w.setCell ⟨b, k, none⟩ (.bool v)) g n a b c root gen fu (fun j => if j = k then v else fn j) fg da df dt ft := by
  obtain ⟨_, n2, _, _, _, _, n7, _, _, n10, _, _⟩ := h.ne
  exact ⟨h.x.other (Ne.symm n2) _ _, ⟨h.rows.ru.other (Ne.symm h.rows.ab) _ _, h.rows.rn.put hk v, h.rows.rg.other h.rows.bc _ _, h.rows.ab, h.rows.ac, h.rows.bc⟩, h.ds.other (Ne.symm n7) _ _, h.fs.other (Ne.symm n10) _ _, h.k, h.ne, h.lo⟩
theorem LM.setGone (h : LM K w0 w g n a b c root gen fu fn fg da df dt ft) {k : Nat} (hk : k < n) (v : Bool) : LM K w0 (w.setCell ⟨c, k, none⟩ (.bool v)) g n a b c root gen fu fn (fun j => if j = k then v else fg j) da df dt ft := by
  obtain ⟨_, _, n3, _, _, _, _, n8, _, _, n11, _⟩ := h.ne
  exact ⟨h.x.other (Ne.symm n3) _ _, ⟨h.rows.ru.other (Ne.symm h.rows.ac) _ _, h.rows.rn.other (Ne.symm h.rows.bc) _ _, h.rows.rg.put hk v, h.rows.ab, h.rows.ac, h.rows.bc⟩, h.ds.other (Ne.symm n8) _ _, h.fs.other (Ne.symm n11) _ _, h.k, h.ne, h.lo⟩
theorem LM.setData (h : LM K w0 w g n a b c root gen fu fn fg da df dt ft) {k : Nat} (hk : k < n) (v : ByteArray) : LM K w0 (w.setCell ⟨da, k, none⟩ (.string v)) g n a b c root gen fu fn fg da df (fun j => if j = k then v else dt j) ft := by
  obtain ⟨_, _, _, n4, _, n6, n7, n8, _, _, _, n12⟩ := h.ne
  exact ⟨h.x.other (Ne.symm n4) _ _, ⟨h.rows.ru.other n6 _ _, h.rows.rn.other n7 _ _, h.rows.rg.other n8 _ _, h.rows.ab, h.rows.ac, h.rows.bc⟩, h.ds.put hk v, h.fs.other n12 _ _, h.k, h.ne, h.lo⟩
end
/-- a write to a block of K leaves a pager alone -/
theorem kept_poke {w : World} (b i : Nat) (v : Value) : Kept (fun k => k < w.heap.size ∧ ¬ k = b) w (w.setCell ⟨b, i, none⟩ v) :=
  ⟨rfl, rfl, rfl, by rw [setCell_size]; exact Nat.le_refl _, fun k hk => Below.heap_setCell _ _ _ _ (show k ≠ b from hk.2)⟩
section
variable {O : PgOwn} (H : PgSpec O) {w0 : World} {K : Nat → Prop} {w : World} {P D n : Nat} {d : Dk} {s : Pst} {data firm : Nat → List UInt8}
include H
theorem PgSpec.poke (h : PgrAt O K w P D n d s) {b : Nat} (hb : K b) (i : Nat) (v : Value) : PgrAt O K (w.setCell ⟨b, i, none⟩ v) P D n d s := by
  obtain ⟨B, h1, h2, h3, h4⟩ := h
  have hk := kept_poke (w := w) b i v
  refine ⟨B, H.carry h1 fun x hx => hk.block x ⟨H.lt h1 x hx, fun e => h4 x hx (by rw [e]; exact hb)⟩, h2.off (B := fun x => x = b) (fun x e => .inl (by rw [e]; exact hb)) hk fun k hk => .inl hk, fun k hkk => by rw [setCell_size]; exact h3 k hkk, h4⟩
theorem LawP.poke (h : LawP O w0 K w P D n d s data firm) {b : Nat} (hb : K b) (hlo : w0.heap.size ≤ b) (i : Nat) (v : Value) : LawP O w0 K (w.setCell ⟨b, i, none⟩ v) P D n d s data firm :=
  ⟨H.poke h.pg hb i v, h.inv, h.up, h.below.setCell (by exact hlo) _, h.low⟩
end
theorem kept_pokes {w : World} (b o : Nat) (vs : List Value) : Kept (fun k => k < w.heap.size ∧ ¬ k = b) w (w.setCells b o vs) := by
  have h := below_cells_of (B := 0) (w0 := w) (w := w) ⟨rfl, rfl, rfl, Nat.le_refl _, fun _ h => absurd h (Nat.not_lt_zero _)⟩ (rfl : w.setCells b o vs = w.setCells b o vs) (Nat.zero_le _)
  exact ⟨h.os, h.tape, h.output, h.size, fun k hk => setCells_block b (show k ≠ b from hk.2) _ _ _⟩
section
variable {O : PgOwn} (H : PgSpec O) {w0 : World} {K : Nat → Prop} {w : World} {P D n : Nat} {d : Dk} {s : Pst} {data firm : Nat → List UInt8}
include H
theorem LawP.pokes (h : LawP O w0 K w P D n d s data firm) {b : Nat} (hb : K b) (hlo : w0.heap.size ≤ b) (o : Nat) (vs : List Value) : LawP O w0 K (w.setCells b o vs) P D n d s data firm := by
  have hk := kept_pokes (w := w) b o vs
  obtain ⟨B, h1, h2, h3, h4⟩ := h.pg
  refine ⟨⟨B, H.carry h1 fun x hx => hk.block x ⟨H.lt h1 x hx, fun e => h4 x hx (by rw [e]; exact hb)⟩, h2.off (B := fun x => x = b) (fun x e => .inl (by rw [e]; exact hb)) hk fun k hk => .inl hk, fun k hkk => Nat.lt_of_lt_of_le (h3 k hkk) hk.size, h4⟩, h.inv, h.up, below_cells_of h.below rfl hlo, h.low⟩
/-- the document's pager anew: the pager beside it -/
theorem LawP.anew {w2 w3 : World} {g o : Nat} {vs : List Value} (h : LawP O w0 K w P D n d s data firm) (hb : Below w.heap.size w w2) (hw : w3 = w2.setCells g o vs) (hg : K g) (hlo : w0.heap.size ≤ g) :
    LawP O w0 (fun k => K k ∨ (w.heap.size ≤ k ∧ k < w2.heap.size)) w3 P D n d s data firm := by
  rw [hw]
  exact (h.grow H hb).pokes H (.inl hg) hlo o vs
end
/-- the document's pager anew -/
theorem LM.anew {K : Nat → Prop} {w0 w w2 w3 : World} {g n a b c : Nat} {root : Int} {gen : Nat} {fu fn fg : Nat → Bool} {da df : Nat} {dt ft : Nat → ByteArray} (h : LM K w0 w g n a b c root gen fu fn fg da df dt ft)
    {p q r : Nat} {root2 : Int} {gen2 : Nat} {f : Nat → Bool} (hr : Rows3 w2 n p q r f (fun _ => false) (fun _ => false)) (hp : w.heap.size ≤ p) (hq : w.heap.size ≤ q) (hrr : w.heap.size ≤ r) (hb : Below w.heap.size w w2)
    (hw : w3 = w2.setCells g 0 (rpArr n p q r root2 gen2).toList) (hx : RpAt w3 g n p q r root2 gen2) (hw0 : w0.heap.size ≤ w.heap.size) :
    LM (fun k => K k ∨ (w.heap.size ≤ k ∧ k < w2.heap.size)) w0 w3 g n p q r root2 gen2 f (fun _ => false) (fun _ => false) da df dt ft := by
  have hk := kept_pokes (w := w2) g 0 (rpArr n p q r root2 gen2).toList
  rw [← hw] at hk
  have h1 := h.x.lt
  have h2 := h.ds.lt
  have h3 := h.fs.lt
  have h4 := hr.ru.lt
  have h5 := hr.rn.lt
  have h6 := hr.rg.lt
  obtain ⟨_, _, _, n4, n5, _, _, _, _, _, _, n12⟩ := h.ne
  obtain ⟨l1, _, _, _, l5, l6⟩ := h.lo
  obtain ⟨k1, _, _, _, k5, k6⟩ := h.k
  have hs := hb.size
  refine ⟨hx, hr.blocks (hk.block p ⟨h4, by omega⟩) (hk.block q ⟨h5, by omega⟩) (hk.block r ⟨h6, by omega⟩) hk.size, (h.ds.carry hb).block (hk.block da ⟨by omega, Ne.symm n4⟩) hk.size, (h.fs.carry hb).block (hk.block df ⟨by omega, Ne.symm n5⟩) hk.size,
    ⟨.inl k1, .inr ⟨hp, h4⟩, .inr ⟨hq, h5⟩, .inr ⟨hrr, h6⟩, .inl k5, .inl k6⟩, by omega, by omega⟩
theorem LM.newFirm {K : Nat → Prop} {w0 w w2 : World} {g n a b c : Nat} {root : Int} {gen : Nat} {fu fn fg : Nat → Bool} {da df : Nat} {dt ft : Nat → ByteArray} (h : LM K w0 w g n a b c root gen fu fn fg da df dt ft) (hb : Below w.heap.size w w2)
    {x : Nat} {f : Nat → ByteArray} (hs : SRow w2 x n f) (hx : w.heap.size ≤ x) (hw0 : w0.heap.size ≤ w.heap.size) : LM (fun k => K k ∨ (w.heap.size ≤ k ∧ k < w2.heap.size)) w0 w2 g n a b c root gen fu fn fg da x dt f := by
  have h1 := h.x.lt
  have h2 := h.rows.ru.lt
  have h3 := h.rows.rn.lt
  have h4 := h.rows.rg.lt
  have h5 := h.ds.lt
  have h6 := hs.lt
  obtain ⟨n1, n2, n3, n4, _, n6, n7, n8, _, _, _, _⟩ := h.ne
  obtain ⟨l1, l2, l3, l4, l5, _⟩ := h.lo
  obtain ⟨k1, k2, k3, k4, k5, _⟩ := h.k
  exact ⟨h.x.carry hb, h.rows.carry hb, h.ds.carry hb, hs, ⟨.inl k1, .inl k2, .inl k3, .inl k4, .inl k5, .inr ⟨hx, h6⟩⟩, by omega, by omega⟩
theorem LM.newData {K : Nat → Prop} {w0 w w2 : World} {g n a b c : Nat} {root : Int} {gen : Nat} {fu fn fg : Nat → Bool} {da df : Nat} {dt ft : Nat → ByteArray} (h : LM K w0 w g n a b c root gen fu fn fg da df dt ft) (hb : Below w.heap.size w w2)
    {x : Nat} {f : Nat → ByteArray} (hs : SRow w2 x n f) (hx : w.heap.size ≤ x) (hw0 : w0.heap.size ≤ w.heap.size) : LM (fun k => K k ∨ (w.heap.size ≤ k ∧ k < w2.heap.size)) w0 w2 g n a b c root gen fu fn fg x df f ft := by
  have h1 := h.x.lt
  have h2 := h.rows.ru.lt
  have h3 := h.rows.rn.lt
  have h4 := h.rows.rg.lt
  have h5 := h.fs.lt
  have h6 := hs.lt
  obtain ⟨n1, n2, n3, _, n5, _, _, _, n9, n10, n11, _⟩ := h.ne
  obtain ⟨l1, l2, l3, l4, _, l6⟩ := h.lo
  obtain ⟨k1, k2, k3, k4, _, k6⟩ := h.k
  exact ⟨h.x.carry hb, h.rows.carry hb, hs, h.fs.carry hb, ⟨.inl k1, .inl k2, .inl k3, .inl k4, .inr ⟨hx, h6⟩, .inl k6⟩, by omega, by omega⟩
theorem ActIn.apart {w : World} {g h o : Nat} {vs : List Value} {x : ActP} (hx : ActIn w g x) (hg : h ≠ g) : ActIn (w.setCells h o vs) g x := hx.block (setCells_block h (Ne.symm hg) _ _ _)
/-- all that is held between two acts -/
structure PlSt (O : PgOwn) (w0 : World) (K : Nat → Prop) (w : World) (P D n : Nat) (d : Dk) (s : Pst) (g a b c : Nat) (fu fn fg : Nat → Bool) (da df : Nat) (dt ft : Nat → ByteArray) : Prop where
  lp : LawP O w0 K w P D n d s (fun k => (dt k).data.toList) (fun k => (ft k).data.toList)
  lm : LM K w0 w g n a b c s.sup.root s.sup.gen fu fn fg da df dt ft
  u : ∀ k, k < n → fu k = Bits.has s.sup.used k
  m : ∀ k, k < n → fn k = Bits.has s.new k
  o : ∀ k, k < n → fg k = Bits.has s.gone k
section
variable {O : PgOwn} {w0 : World} {K : Nat → Prop} {w w' : World} {P D n : Nat} {d : Dk} {s : Pst} {g a b c : Nat} {fu fn fg : Nat → Bool} {da df : Nat} {dt ft : Nat → ByteArray}
theorem PlSt.isIn (h : PlSt O w0 K w P D n d s g a b c fu fn fg da df dt ft) {k : Nat} (hk : k < n) : s.isIn k = (fu k || fn k) := by rw [h.u k hk, h.m k hk]; rfl
theorem PlSt.n240 (h : PlSt O w0 K w P D n d s g a b c fu fn fg da df dt ft) : n ≤ 240 := h.lp.inv.le
theorem PlSt.used (h : PlSt O w0 K w P D n d s g a b c fu fn fg da df dt ft) {k : Nat} (hk : k < n) : Bits.has s.used k = ((fu k || fn k) && !fg k) := by
  have := h.n240
  rw [h.lp.inv.has_used (by omega), h.isIn hk, h.o k hk]
theorem PlSt.used_two (h : PlSt O w0 K w P D n d s g a b c fu fn fg da df dt ft) {k : Nat} (hk : k < 240) (hu : Bits.has s.used k = true) : 2 ≤ k ∧ k < n := h.lp.inv.in_range hk (h.lp.inv.used_in hk hu)
/-- is it used? in the document's words, and in the pager's -/
theorem PlSt.now (h : PlSt O w0 K w P D n d s g a b c fu fn fg da df dt ft) (i : Int) : nowZ n fu fn fg i = hasI s.used i := by
  by_cases hi : 2 ≤ i ∧ i < n
  · obtain ⟨k, rfl⟩ : ∃ k : Nat, i = (k : Int) := ⟨i.toNat, by omega⟩
    have := h.n240
    rw [nowZ_in (by omega) (by omega), hasI_nat (by omega), h.used (by omega)]
  · rw [nowZ_out hi]
    unfold hasI
    by_cases h2 : 0 ≤ i ∧ i < 240
    · rw [decide_eq_true h2, Bool.true_and]
      cases hu : Bits.has s.used i.toNat with
      | false => rfl
      | true =>
        have := h.used_two (k := i.toNat) (by omega) hu
        omega
    · rw [decide_eq_false h2]
      rfl
theorem PlSt.next (h : PlSt O w0 K w P D n d s g a b c fu fn fg da df dt ft) {r : Int} (hr : NextIs n fu fn r) : (∃ k : Nat, r = (k : Int) ∧ k < n ∧ s.first n = some k) ∨ (r = -1 ∧ s.first n = none) := by
  have hS : StIs s (Bits.has s.sup.used) (Bits.has s.new) (Bits.has s.gone) := ⟨fun _ _ => rfl, fun _ _ => rfl, fun _ _ => rfl⟩
  rcases hr with ⟨k, rfl, h2, hn, hk, hall⟩ | ⟨rfl, hall⟩
  · refine .inl ⟨k, rfl, hn, hS.first_some h.lp.inv h2 hn (by rw [← h.u k hn, ← h.m k hn]; exact hk) fun m a b => by rw [← h.u m (by omega), ← h.m m (by omega)]; exact hall m a b⟩
  · exact .inr ⟨rfl, hS.first_none h.lp.inv fun m a b => by rw [← h.u m b, ← h.m m b]; exact hall m a b⟩
variable (H : PgSpec O)
include H
theorem PlSt.carry (h : PlSt O w0 K w P D n d s g a b c fu fn fg da df dt ft) (hb : Below w.heap.size w w') : PlSt O w0 K w' P D n d s g a b c fu fn fg da df dt ft := ⟨h.lp.carry H hb, h.lm.carry hb, h.u, h.m, h.o⟩
theorem PlSt.grow (h : PlSt O w0 K w P D n d s g a b c fu fn fg da df dt ft) (hb : Below w.heap.size w w') : PlSt O w0 (fun k => K k ∨ (w.heap.size ≤ k ∧ k < w'.heap.size)) w' P D n d s g a b c fu fn fg da df dt ft :=
  ⟨h.lp.grow H hb, (h.lm.carry hb).more fun _ hk => .inl hk, h.u, h.m, h.o⟩
end
end Go.Proofs.YtbcapaafoklhdaaDoor
