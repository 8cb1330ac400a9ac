/-
  A node that is read part by part: a variable of three slices in memory, each of which grows. Conditions: none beyond the premises of each theorem.
-/
import Derived.Test.YtakpjphgkpaipaaDoorNodeRefLay
import Derived.Test.YtakpjphgkpaipaaDoorStop
import Derived.Deep.AppendLies
import Derived.Laws.OwnMore
namespace Go.Proofs.YtakpjphgkpaipaaDoor
open Go.RowKit

theorem ownsRow_block {w w' : World} {base : Nat} {e : TypeId} {size : Nat} {v : Value} {n : Nat} {xs : List Value} (h : w.ownsRow base e size v n xs) (hb : ∀ g, v.ownBlock = some g → w'.heap[g]? = w.heap[g]?) : w'.ownsRow base e size v n xs := by
  obtain ⟨h1, h2⟩ := h
  refine ⟨h1, ?_⟩
  rcases h2 with h2 | ⟨g, cap, cur, e1, e2, e3, e4⟩
  · exact .inl h2
  · exact .inr ⟨g, cap, cur, e1, e2, by rw [hb g (by rw [e1]; rfl)]; exact e3, e4⟩
theorem owned_nums {w : World} {b : Nat} {e : TypeId} {v : Value} {zs : List Int} (h : w.ownsRow b e 1 v zs.length (zs.map (Value.int .i64))) : ∃ A cap, v = .slice A zs.length cap ∧ Nums w .i64 A zs := by
  obtain ⟨h1, h2⟩ := h
  rcases h2 with ⟨rfl, h2⟩ | ⟨g, cap, cur, rfl, e2, e3, e4, e5, e6, e7⟩
  · obtain rfl := List.length_eq_zero_iff.1 h2
    exact ⟨none, 0, rfl, Nums.none_ _ _ _⟩
  · refine ⟨some ⟨g, 0, none⟩, cap, rfl, fun _ => ⟨⟨g, 0, none⟩, rfl, ?_, fun i z hz => ?_⟩⟩
    · exact (Array.getElem?_eq_some_iff.1 e3).1
    · rw [Addr.add_mid, cell_of_row _ _ _ _ _ _ e3, Nat.zero_add, ← Array.getElem?_toList]
      have hi : i < zs.length := (List.getElem?_eq_some_iff.1 hz).1
      have : (cur.toList.take (zs.length * 1))[i]? = some (.int .i64 z) := by rw [e7, List.getElem?_map, hz]; rfl
      rwa [List.getElem?_take, if_pos (by omega)] at this
theorem owned_strs {w : World} {b : Nat} {e : TypeId} {v : Value} {ss : List ByteArray} (h : w.ownsRow b e 1 v ss.length (ss.map Value.string)) : ∃ A cap, v = .slice A ss.length cap ∧ Strs w A ss.length ss := by
  obtain ⟨h1, h2⟩ := h
  rcases h2 with ⟨rfl, h2⟩ | ⟨g, cap, cur, rfl, e2, e3, e4, e5, e6, e7⟩
  · obtain rfl := List.length_eq_zero_iff.1 h2
    exact ⟨none, 0, rfl, Strs.none_ _ _⟩
  · refine ⟨some ⟨g, 0, none⟩, cap, rfl, rfl, fun _ => ⟨⟨g, 0, none⟩, rfl, ?_, fun i z hz => ?_⟩⟩
    · exact (Array.getElem?_eq_some_iff.1 e3).1
    · rw [Addr.add_mid, cell_of_row _ _ _ _ _ _ e3, Nat.zero_add, ← Array.getElem?_toList]
      have hi : i < ss.length := (List.getElem?_eq_some_iff.1 hz).1
      have : (cur.toList.take (ss.length * 1))[i]? = some (.string z) := by rw [e7, List.getElem?_map, hz]; rfl
      rwa [List.getElem?_take, if_pos (by omega)] at this
theorem World.heap_setCell_far9 (w : World) (a : Addr) (u : Value) {i : Nat} (hi : i ≠ a.block) : (w.setCell a u).heap[i]? = w.heap[i]? := Below.heap_setCell w a u i hi
theorem World.heap_setCell_size9 (w : World) (a : Addr) (u : Value) : (w.setCell a u).heap.size = w.heap.size := by simp
/-- the three lists so far: kv, vv, cv are the slices as values; q is the variable, p the result's place -/
structure Grow (w : World) (p q b : Nat) (kv vv cv : Value) (x : Nd) (wr : World) : Prop where
  res : NdBox wr p Lay3.none_ Nd.empty
  c0 : wr.cell? ⟨q, 0, none⟩ = some kv
  c1 : wr.cell? ⟨q, 1, none⟩ = some vv
  c2 : wr.cell? ⟨q, 2, none⟩ = some cv
  fz : ∀ j, wr.frozen? ⟨q, j, none⟩ = false
  fp : ∀ j, wr.frozen? ⟨p, j, none⟩ = false
  k : wr.ownsRow b 3 1 kv x.keys.length (x.keys.map (Value.int .i64))
  v : wr.ownsRow b 9 1 vv x.vals.length (x.vals.map Value.string)
  c : wr.ownsRow b 3 1 cv x.kids.length (x.kids.map (Value.int .i64))
  akv : ∀ g, kv.ownBlock = some g → vv.ownBlock ≠ some g
  akc : ∀ g, kv.ownBlock = some g → cv.ownBlock ≠ some g
  avc : ∀ g, vv.ownBlock = some g → cv.ownBlock ≠ some g
  lo : w.heap.size ≤ p
  pq : p < q
  qb : q < b
  sz : b ≤ wr.heap.size
  below : Below w.heap.size w wr
theorem Grow.carry {w wr w' : World} {p q b : Nat} {kv vv cv : Value} {x : Nd} (h : Grow w p q b kv vv cv x wr) (hb : Below wr.heap.size wr w') : Grow w p q b kv vv cv x w' := by
  have hq : q < wr.heap.size := Nat.lt_of_lt_of_le h.qb h.sz
  have hp : p < wr.heap.size := Nat.lt_trans h.pq hq
  exact ⟨h.res.carry hb hp, (hb.cell (p := ⟨q, 0, none⟩) hq).trans h.c0, (hb.cell (p := ⟨q, 1, none⟩) hq).trans h.c1, (hb.cell (p := ⟨q, 2, none⟩) hq).trans h.c2,
    fun j => (World.frozen?_of_block (w := wr) (a := ⟨q, j, none⟩) (hb.block q hq)).trans (h.fz j), fun j => (World.frozen?_of_block (w := wr) (a := ⟨p, j, none⟩) (hb.block p hp)).trans (h.fp j),
    ownsRow_block h.k fun g hg => hb.block g (h.k.lt g hg).2, ownsRow_block h.v fun g hg => hb.block g (h.v.lt g hg).2, ownsRow_block h.c fun g hg => hb.block g (h.c.lt g hg).2, h.akv, h.akc, h.avc, h.lo, h.pq, h.qb, Nat.le_trans h.sz hb.size, h.below.trans (hb.mono h.below.size)⟩
/-- one more of the keys -/
theorem Grow.push0 {w wr wo w3 : World} {p q b gg cap H : Nat} {kv vv cv : Value} {x : Nd} {z : Int} (h : Grow w p q b kv vv cv x wr) (hbo : Below wr.heap.size wr wo) (hg : wo.grownBy w3 kv.ownBlock)
    (hown : w3.ownsRow b 3 1 (.slice (some ⟨gg, 0, none⟩) (x.keys.length + 1) cap) (x.keys.length + 1) (x.keys.map (Value.int .i64) ++ [.int .i64 z])) (hat : kv.ownBlock = some gg ∨ gg = H) (hH : wr.heap.size ≤ H) :
    Grow w p q b (.slice (some ⟨gg, 0, none⟩) (x.keys.length + 1) cap) vv cv ⟨x.keys ++ [z], x.vals, x.kids⟩ (w3.setCell ⟨q, 0, none⟩ (.slice (some ⟨gg, 0, none⟩) (x.keys.length + 1) cap)) := by
  have hq : q < wr.heap.size := Nat.lt_of_lt_of_le h.qb h.sz
  have hp : p < wr.heap.size := Nat.lt_trans h.pq hq
  have hqb := h.qb
  have hpq := h.pq
  have hlow : ∀ i, i < b → kv.ownBlock ≠ some i := fun i hi e => by
    have := (h.k.lt i e).1
    omega
  have blk : ∀ i, i < wr.heap.size → kv.ownBlock ≠ some i → w3.heap[i]? = wr.heap[i]? := fun i hi hn => (hg.block i (Nat.lt_of_lt_of_le hi hbo.size) (Ne.symm hn)).trans (hbo.block i hi)
  have bq := blk q hq (hlow q hqb)
  have bp := blk p hp (hlow p (by omega))
  have hgg : b ≤ gg := by
    rcases hat with e | e
    · exact (h.k.lt gg e).1
    · have := h.sz
      omega
  have far : ∀ (u : Value) (i : Nat), i < q → (w3.setCell ⟨q, 0, none⟩ u).heap[i]? = w3.heap[i]? := fun u i hi => World.heap_setCell_far9 _ _ _ (by show i ≠ q; omega)
  have bp2 := (far (.slice (some ⟨gg, 0, none⟩) (x.keys.length + 1) cap) p hpq).trans bp
  refine ⟨⟨(World.cell?_of_block (w := wr) (a := ⟨p, 0, none⟩) bp2).trans h.res.c0, (World.cell?_of_block (w := wr) (a := ⟨p, 1, none⟩) bp2).trans h.res.c1, (World.cell?_of_block (w := wr) (a := ⟨p, 2, none⟩) bp2).trans h.res.c2⟩,
    World.cell?_setCell_same _ _ _ ((World.cell?_of_block (w := wr) (a := ⟨q, 0, none⟩) bq).trans h.c0),
    (World.cell?_setCell_other _ _ _ _ (by simp)).trans ((World.cell?_of_block (w := wr) (a := ⟨q, 1, none⟩) bq).trans h.c1),
    (World.cell?_setCell_other _ _ _ _ (by simp)).trans ((World.cell?_of_block (w := wr) (a := ⟨q, 2, none⟩) bq).trans h.c2),
    (fun i => by rw [World.frozen?_setCell]; exact (World.frozen?_of_block (w := wr) (a := ⟨q, i, none⟩) bq).trans (h.fz i)), (fun i => (World.frozen?_of_block (w := wr) (a := ⟨p, i, none⟩) bp2).trans (h.fp i)),
    (by
    show World.ownsRow _ b 3 1 _ (x.keys ++ [z]).length ((x.keys ++ [z]).map _)
    rw [List.length_append, List.length_singleton, List.map_append]
    exact ownsRow_setCell_below hown (by exact hqb) _),
    (ownsRow_setCell_below (ownsRow_block h.v fun g hg => blk g (h.v.lt g hg).2 (fun e => h.akv g e hg)) (by exact hqb) _),
    (ownsRow_setCell_below (ownsRow_block h.c fun g hg => blk g (h.c.lt g hg).2 (fun e => h.akc g e hg)) (by exact hqb) _),
    (fun g hg e => by
    obtain rfl : gg = g := Option.some.inj hg
    rcases hat with e2 | e2
    · exact h.akv gg e2 e
    · have := (h.v.lt gg e).2
      omega),
    (fun g hg e => by
    obtain rfl : gg = g := Option.some.inj hg
    rcases hat with e2 | e2
    · exact h.akc gg e2 e
    · have := (h.c.lt gg e).2
      omega),
    h.avc,
    h.lo, h.pq, h.qb, Nat.le_trans h.sz (Nat.le_trans hbo.size (by rw [World.heap_setCell_size9]; exact hg.size)), ?below⟩
  have hb3 : Below w.heap.size w w3 := ⟨by rw [hg.os, hbo.os]; exact h.below.os, by rw [hg.tape, hbo.tape]; exact h.below.tape, by rw [hg.output, hbo.output]; exact h.below.output, Nat.le_trans h.below.size (Nat.le_trans hbo.size hg.size), fun i hi => by
    have h1 := h.lo
    exact (blk i (by omega) (hlow i (by omega))).trans (h.below.block i hi)⟩
  exact hb3.setCell (by have := h.lo; show w.heap.size ≤ q; omega) _
/-- one more of the vals -/
theorem Grow.push1 {w wr wo w3 : World} {p q b gg cap H : Nat} {kv vv cv : Value} {x : Nd} {z : ByteArray} (h : Grow w p q b kv vv cv x wr) (hbo : Below wr.heap.size wr wo) (hg : wo.grownBy w3 vv.ownBlock)
    (hown : w3.ownsRow b 9 1 (.slice (some ⟨gg, 0, none⟩) (x.vals.length + 1) cap) (x.vals.length + 1) (x.vals.map (Value.string) ++ [.string z])) (hat : vv.ownBlock = some gg ∨ gg = H) (hH : wr.heap.size ≤ H) :
    Grow w p q b kv (.slice (some ⟨gg, 0, none⟩) (x.vals.length + 1) cap) cv ⟨x.keys, x.vals ++ [z], x.kids⟩ (w3.setCell ⟨q, 1, none⟩ (.slice (some ⟨gg, 0, none⟩) (x.vals.length + 1) cap)) := by
  have hq : q < wr.heap.size := Nat.lt_of_lt_of_le h.qb h.sz
  have hp : p < wr.heap.size := Nat.lt_trans h.pq hq
  have hqb := h.qb
  have hpq := h.pq
  have hlow : ∀ i, i < b → vv.ownBlock ≠ some i := fun i hi e => by
    have := (h.v.lt i e).1
    omega
  have blk : ∀ i, i < wr.heap.size → vv.ownBlock ≠ some i → w3.heap[i]? = wr.heap[i]? := fun i hi hn => (hg.block i (Nat.lt_of_lt_of_le hi hbo.size) (Ne.symm hn)).trans (hbo.block i hi)
  have bq := blk q hq (hlow q hqb)
  have bp := blk p hp (hlow p (by omega))
  have hgg : b ≤ gg := by
    rcases hat with e | e
    · exact (h.v.lt gg e).1
    · have := h.sz
      omega
  have far : ∀ (u : Value) (i : Nat), i < q → (w3.setCell ⟨q, 1, none⟩ u).heap[i]? = w3.heap[i]? := fun u i hi => World.heap_setCell_far9 _ _ _ (by show i ≠ q; omega)
  have bp2 := (far (.slice (some ⟨gg, 0, none⟩) (x.vals.length + 1) cap) p hpq).trans bp
  refine ⟨⟨(World.cell?_of_block (w := wr) (a := ⟨p, 0, none⟩) bp2).trans h.res.c0, (World.cell?_of_block (w := wr) (a := ⟨p, 1, none⟩) bp2).trans h.res.c1, (World.cell?_of_block (w := wr) (a := ⟨p, 2, none⟩) bp2).trans h.res.c2⟩,
    (World.cell?_setCell_other _ _ _ _ (by simp)).trans ((World.cell?_of_block (w := wr) (a := ⟨q, 0, none⟩) bq).trans h.c0),
    World.cell?_setCell_same _ _ _ ((World.cell?_of_block (w := wr) (a := ⟨q, 1, none⟩) bq).trans h.c1),
    (World.cell?_setCell_other _ _ _ _ (by simp)).trans ((World.cell?_of_block (w := wr) (a := ⟨q, 2, none⟩) bq).trans h.c2),
    (fun i => by rw [World.frozen?_setCell]; exact (World.frozen?_of_block (w := wr) (a := ⟨q, i, none⟩) bq).trans (h.fz i)), (fun i => (World.frozen?_of_block (w := wr) (a := ⟨p, i, none⟩) bp2).trans (h.fp i)),
    (ownsRow_setCell_below (ownsRow_block h.k fun g hg => blk g (h.k.lt g hg).2 (h.akv g hg)) (by exact hqb) _),
    (by
    show World.ownsRow _ b 9 1 _ (x.vals ++ [z]).length ((x.vals ++ [z]).map _)
    rw [List.length_append, List.length_singleton, List.map_append]
    exact ownsRow_setCell_below hown (by exact hqb) _),
    (ownsRow_setCell_below (ownsRow_block h.c fun g hg => blk g (h.c.lt g hg).2 (fun e => h.avc g e hg)) (by exact hqb) _),
    (fun g hg e => by
    obtain rfl : gg = g := Option.some.inj e
    rcases hat with e2 | e2
    · exact h.akv gg hg e2
    · have := (h.k.lt gg hg).2
      omega),
    h.akc,
    (fun g hg e => by
    obtain rfl : gg = g := Option.some.inj hg
    rcases hat with e2 | e2
    · exact h.avc gg e2 e
    · have := (h.c.lt gg e).2
      omega),
    h.lo, h.pq, h.qb, Nat.le_trans h.sz (Nat.le_trans hbo.size (by rw [World.heap_setCell_size9]; exact hg.size)), ?below⟩
  have hb3 : Below w.heap.size w w3 := ⟨by rw [hg.os, hbo.os]; exact h.below.os, by rw [hg.tape, hbo.tape]; exact h.below.tape, by rw [hg.output, hbo.output]; exact h.below.output, Nat.le_trans h.below.size (Nat.le_trans hbo.size hg.size), fun i hi => by
    have h1 := h.lo
    exact (blk i (by omega) (hlow i (by omega))).trans (h.below.block i hi)⟩
  exact hb3.setCell (by have := h.lo; show w.heap.size ≤ q; omega) _
/-- one more of the kids -/
theorem Grow.push2 {w wr wo w3 : World} {p q b gg cap H : Nat} {kv vv cv : Value} {x : Nd} {z : Int} (h : Grow w p q b kv vv cv x wr) (hbo : Below wr.heap.size wr wo) (hg : wo.grownBy w3 cv.ownBlock)
    (hown : w3.ownsRow b 3 1 (.slice (some ⟨gg, 0, none⟩) (x.kids.length + 1) cap) (x.kids.length + 1) (x.kids.map (Value.int .i64) ++ [.int .i64 z])) (hat : cv.ownBlock = some gg ∨ gg = H) (hH : wr.heap.size ≤ H) :
    Grow w p q b kv vv (.slice (some ⟨gg, 0, none⟩) (x.kids.length + 1) cap) ⟨x.keys, x.vals, x.kids ++ [z]⟩ (w3.setCell ⟨q, 2, none⟩ (.slice (some ⟨gg, 0, none⟩) (x.kids.length + 1) cap)) := by
  have hq : q < wr.heap.size := Nat.lt_of_lt_of_le h.qb h.sz
  have hp : p < wr.heap.size := Nat.lt_trans h.pq hq
  have hqb := h.qb
  have hpq := h.pq
  have hlow : ∀ i, i < b → cv.ownBlock ≠ some i := fun i hi e => by
    have := (h.c.lt i e).1
    omega
  have blk : ∀ i, i < wr.heap.size → cv.ownBlock ≠ some i → w3.heap[i]? = wr.heap[i]? := fun i hi hn => (hg.block i (Nat.lt_of_lt_of_le hi hbo.size) (Ne.symm hn)).trans (hbo.block i hi)
  have bq := blk q hq (hlow q hqb)
  have bp := blk p hp (hlow p (by omega))
  have hgg : b ≤ gg := by
    rcases hat with e | e
    · exact (h.c.lt gg e).1
    · have := h.sz
      omega
  have far : ∀ (u : Value) (i : Nat), i < q → (w3.setCell ⟨q, 2, none⟩ u).heap[i]? = w3.heap[i]? := fun u i hi => World.heap_setCell_far9 _ _ _ (by show i ≠ q; omega)
  have bp2 := (far (.slice (some ⟨gg, 0, none⟩) (x.kids.length + 1) cap) p hpq).trans bp
  refine ⟨⟨(World.cell?_of_block (w := wr) (a := ⟨p, 0, none⟩) bp2).trans h.res.c0, (World.cell?_of_block (w := wr) (a := ⟨p, 1, none⟩) bp2).trans h.res.c1, (World.cell?_of_block (w := wr) (a := ⟨p, 2, none⟩) bp2).trans h.res.c2⟩,
    (World.cell?_setCell_other _ _ _ _ (by simp)).trans ((World.cell?_of_block (w := wr) (a := ⟨q, 0, none⟩) bq).trans h.c0),
    (World.cell?_setCell_other _ _ _ _ (by simp)).trans ((World.cell?_of_block (w := wr) (a := ⟨q, 1, none⟩) bq).trans h.c1),
    World.cell?_setCell_same _ _ _ ((World.cell?_of_block (w := wr) (a := ⟨q, 2, none⟩) bq).trans h.c2),
    (fun i => by rw [World.frozen?_setCell]; exact (World.frozen?_of_block (w := wr) (a := ⟨q, i, none⟩) bq).trans (h.fz i)), (fun i => (World.frozen?_of_block (w := wr) (a := ⟨p, i, none⟩) bp2).trans (h.fp i)),
    (ownsRow_setCell_below (ownsRow_block h.k fun g hg => blk g (h.k.lt g hg).2 (h.akc g hg)) (by exact hqb) _),
    (ownsRow_setCell_below (ownsRow_block h.v fun g hg => blk g (h.v.lt g hg).2 (h.avc g hg)) (by exact hqb) _),
    (by
    show World.ownsRow _ b 3 1 _ (x.kids ++ [z]).length ((x.kids ++ [z]).map _)
    rw [List.length_append, List.length_singleton, List.map_append]
    exact ownsRow_setCell_below hown (by exact hqb) _),
    h.akv,
    (fun g hg e => by
    obtain rfl : gg = g := Option.some.inj e
    rcases hat with e2 | e2
    · exact h.akc gg hg e2
    · have := (h.k.lt gg hg).2
      omega),
    (fun g hg e => by
    obtain rfl : gg = g := Option.some.inj e
    rcases hat with e2 | e2
    · exact h.avc gg hg e2
    · have := (h.v.lt gg hg).2
      omega),
    h.lo, h.pq, h.qb, Nat.le_trans h.sz (Nat.le_trans hbo.size (by rw [World.heap_setCell_size9]; exact hg.size)), ?below⟩
  have hb3 : Below w.heap.size w w3 := ⟨by rw [hg.os, hbo.os]; exact h.below.os, by rw [hg.tape, hbo.tape]; exact h.below.tape, by rw [hg.output, hbo.output]; exact h.below.output, Nat.le_trans h.below.size (Nat.le_trans hbo.size hg.size), fun i hi => by
    have h1 := h.lo
    exact (blk i (by omega) (hlow i (by omega))).trans (h.below.block i hi)⟩
  exact hb3.setCell (by have := h.lo; show w.heap.size ≤ q; omega) _
end Go.Proofs.YtakpjphgkpaipaaDoor
