/-
 ChkLeaf. Conditions: as each theorem says.
-/
import Derived.Test.YtafclmbecmgbnaaGreatDoorChkAwake
namespace Go.Proofs.YtafclmbecmgbnaaGreatDoor
open Go.RowKit
structure LfS (w : World) (q b : Nat) (kv vv cv : Value) (x : Nd) (wr : World) : Prop where
 c0 : wr.cell? ⟨q, 0, none⟩ = some kv
 c1 : wr.cell? ⟨q, 1, none⟩ = some vv
 c2 : wr.cell? ⟨q, 2, none⟩ = some cv
 fz : ∀ j, wr.frozen? ⟨q, j, none⟩ = false
 k : wr.ownsRow b 3 1 kv x.keys.length (x.keys.map (Value.int .i64))
 v : wr.ownsRow b 9 1 vv x.vals.length (x.vals.map Value.string)
 c : wr.ownsRow b 3 1 cv x.kids.length (x.kids.map (Value.int .i64))
 akv : ∀ g, kv.ownBlock = some g → vv.ownBlock ≠ some g
 akc : ∀ g, kv.ownBlock = some g → cv.ownBlock ≠ some g
 avc : ∀ g, vv.ownBlock = some g → cv.ownBlock ≠ some g
 lo : w.heap.size ≤ q
 qb : q < b
 sz : b ≤ wr.heap.size
 below : Below w.heap.size w wr
theorem LfS.carry {w wr w' : World} {q b : Nat} {kv vv cv : Value} {x : Nd} (h : LfS w q b kv vv cv x wr) (hb : Below wr.heap.size wr w') : LfS w q b kv vv cv x w' := by
 have hq : q < wr.heap.size := Nat.lt_of_lt_of_le h.qb h.sz
 exact ⟨(hb.cell (p := ⟨q, 0, none⟩) hq).trans h.c0, (hb.cell (p := ⟨q, 1, none⟩) hq).trans h.c1, (hb.cell (p := ⟨q, 2, none⟩) hq).trans h.c2,
  fun j => (World.frozen?_of_block (w := wr) (a := ⟨q, j, none⟩) (hb.block q hq)).trans (h.fz j),
  ownsRow_block h.k fun g hg => hb.block g (h.k.lt g hg).2, ownsRow_block h.v fun g hg => hb.block g (h.v.lt g hg).2, ownsRow_block h.c fun g hg => hb.block g (h.c.lt g hg).2, h.akv, h.akc, h.avc, h.lo, h.qb, Nat.le_trans h.sz hb.size, h.below.trans (hb.mono h.below.size)⟩
theorem LfS.push0 {w wr wo w3 : World} {q b gg cap H : Nat} {kv vv cv : Value} {x : Nd} {z : Int} (h : LfS w q b kv vv cv x wr) (hbo : Below wr.heap.size wr wo) (hg : wo.grownBy w3 kv.ownBlock)
  (hown : w3.ownsRow b 3 1 (.slice (some ⟨gg, 0, none⟩) (x.keys.length + 1) cap) (x.keys.length + 1) (x.keys.map (Value.int .i64) ++ [.int .i64 z])) (hat : kv.ownBlock = some gg ∨ gg = H) (hH : wr.heap.size ≤ H) :
  LfS w q b (.slice (some ⟨gg, 0, none⟩) (x.keys.length + 1) cap) vv cv ⟨x.keys ++ [z], x.vals, x.kids⟩ (w3.setCell ⟨q, 0, none⟩ (.slice (some ⟨gg, 0, none⟩) (x.keys.length + 1) cap)) := by
 have hq : q < wr.heap.size := Nat.lt_of_lt_of_le h.qb h.sz
 have hqb := h.qb
 have hlow : ∀ i, i < b → kv.ownBlock ≠ some i := fun i hi e => by
  have := (h.k.lt i e).1
  omega
 have blk : ∀ i, i < wr.heap.size → kv.ownBlock ≠ some i → w3.heap[i]? = wr.heap[i]? := fun i hi hn => (hg.block i (Nat.lt_of_lt_of_le hi hbo.size) (Ne.symm hn)).trans (hbo.block i hi)
 have bq := blk q hq (hlow q hqb)
 refine ⟨World.cell?_setCell_same _ _ _ ((World.cell?_of_block (w := wr) (a := ⟨q, 0, none⟩) bq).trans h.c0),
  (World.cell?_setCell_other _ _ _ _ (by simp)).trans ((World.cell?_of_block (w := wr) (a := ⟨q, 1, none⟩) bq).trans h.c1),
  (World.cell?_setCell_other _ _ _ _ (by simp)).trans ((World.cell?_of_block (w := wr) (a := ⟨q, 2, none⟩) bq).trans h.c2),
  (fun i => by rw [World.frozen?_setCell]; exact (World.frozen?_of_block (w := wr) (a := ⟨q, i, none⟩) bq).trans (h.fz i)),
  (by
  show World.ownsRow _ b 3 1 _ (x.keys ++ [z]).length ((x.keys ++ [z]).map _)
  rw [List.length_append, List.length_singleton, List.map_append]
  exact ownsRow_setCell_below hown (by exact hqb) _),
  (ownsRow_setCell_below (ownsRow_block h.v fun g hg => blk g (h.v.lt g hg).2 (fun e => h.akv g e hg)) (by exact hqb) _),
  (ownsRow_setCell_below (ownsRow_block h.c fun g hg => blk g (h.c.lt g hg).2 (fun e => h.akc g e hg)) (by exact hqb) _),
  (fun g hg e => by
  obtain rfl : gg = g := Option.some.inj hg
  rcases hat with e2 | e2
  ·exact h.akv gg e2 e
  ·have := (h.v.lt gg e).2
   omega),
  (fun g hg e => by
  obtain rfl : gg = g := Option.some.inj hg
  rcases hat with e2 | e2
  ·exact h.akc gg e2 e
  ·have := (h.c.lt gg e).2
   omega),
  h.avc,
  h.lo, h.qb, Nat.le_trans h.sz (Nat.le_trans hbo.size (by rw [World.heap_setCell_size9]; exact hg.size)), ?below⟩
 have hb3 : Below w.heap.size w w3 := ⟨by rw [hg.os, hbo.os]; exact h.below.os, by rw [hg.tape, hbo.tape]; exact h.below.tape, by rw [hg.output, hbo.output]; exact h.below.output, Nat.le_trans h.below.size (Nat.le_trans hbo.size hg.size), fun i hi => by
  have h1 := h.lo
  exact (blk i (by omega) (hlow i (by omega))).trans (h.below.block i hi)⟩
 exact hb3.setCell (by have := h.lo; show w.heap.size ≤ q; omega) _
theorem LfS.push1 {w wr wo w3 : World} {q b gg cap H : Nat} {kv vv cv : Value} {x : Nd} {z : ByteArray} (h : LfS w q b kv vv cv x wr) (hbo : Below wr.heap.size wr wo) (hg : wo.grownBy w3 vv.ownBlock)
  (hown : w3.ownsRow b 9 1 (.slice (some ⟨gg, 0, none⟩) (x.vals.length + 1) cap) (x.vals.length + 1) (x.vals.map (Value.string) ++ [.string z])) (hat : vv.ownBlock = some gg ∨ gg = H) (hH : wr.heap.size ≤ H) :
  LfS w q b kv (.slice (some ⟨gg, 0, none⟩) (x.vals.length + 1) cap) cv ⟨x.keys, x.vals ++ [z], x.kids⟩ (w3.setCell ⟨q, 1, none⟩ (.slice (some ⟨gg, 0, none⟩) (x.vals.length + 1) cap)) := by
 have hq : q < wr.heap.size := Nat.lt_of_lt_of_le h.qb h.sz
 have hqb := h.qb
 have hlow : ∀ i, i < b → vv.ownBlock ≠ some i := fun i hi e => by
  have := (h.v.lt i e).1
  omega
 have blk : ∀ i, i < wr.heap.size → vv.ownBlock ≠ some i → w3.heap[i]? = wr.heap[i]? := fun i hi hn => (hg.block i (Nat.lt_of_lt_of_le hi hbo.size) (Ne.symm hn)).trans (hbo.block i hi)
 have bq := blk q hq (hlow q hqb)
 refine ⟨(World.cell?_setCell_other _ _ _ _ (by simp)).trans ((World.cell?_of_block (w := wr) (a := ⟨q, 0, none⟩) bq).trans h.c0),
  World.cell?_setCell_same _ _ _ ((World.cell?_of_block (w := wr) (a := ⟨q, 1, none⟩) bq).trans h.c1),
  (World.cell?_setCell_other _ _ _ _ (by simp)).trans ((World.cell?_of_block (w := wr) (a := ⟨q, 2, none⟩) bq).trans h.c2),
  (fun i => by rw [World.frozen?_setCell]; exact (World.frozen?_of_block (w := wr) (a := ⟨q, i, none⟩) bq).trans (h.fz i)),
  (ownsRow_setCell_below (ownsRow_block h.k fun g hg => blk g (h.k.lt g hg).2 (h.akv g hg)) (by exact hqb) _),
  (by
  show World.ownsRow _ b 9 1 _ (x.vals ++ [z]).length ((x.vals ++ [z]).map _)
  rw [List.length_append, List.length_singleton, List.map_append]
  exact ownsRow_setCell_below hown (by exact hqb) _),
  (ownsRow_setCell_below (ownsRow_block h.c fun g hg => blk g (h.c.lt g hg).2 (fun e => h.avc g e hg)) (by exact hqb) _),
  (fun g hg e => by
  obtain rfl : gg = g := Option.some.inj e
  rcases hat with e2 | e2
  ·exact h.akv gg hg e2
  ·have := (h.k.lt gg hg).2
   omega),
  h.akc,
  (fun g hg e => by
  obtain rfl : gg = g := Option.some.inj hg
  rcases hat with e2 | e2
  ·exact h.avc gg e2 e
  ·have := (h.c.lt gg e).2
   omega),
  h.lo, h.qb, Nat.le_trans h.sz (Nat.le_trans hbo.size (by rw [World.heap_setCell_size9]; exact hg.size)), ?below⟩
 have hb3 : Below w.heap.size w w3 := ⟨by rw [hg.os, hbo.os]; exact h.below.os, by rw [hg.tape, hbo.tape]; exact h.below.tape, by rw [hg.output, hbo.output]; exact h.below.output, Nat.le_trans h.below.size (Nat.le_trans hbo.size hg.size), fun i hi => by
  have h1 := h.lo
  exact (blk i (by omega) (hlow i (by omega))).trans (h.below.block i hi)⟩
 exact hb3.setCell (by have := h.lo; show w.heap.size ≤ q; omega) _
theorem LfS.new (w : World) (t : TypeId) : LfS w w.heap.size (w.heap.size + 1) (.slice none 0 0) (.slice none 0 0) (.slice none 0 0) Nd.empty (w.alloc (.cells #[.slice none 0 0, .slice none 0 0, .slice none 0 0] t)) :=
 ⟨by simp, by simp, by simp, frozen_new1 w _ t, World.ownsRow_nil _ _ _ _, World.ownsRow_nil _ _ _ _, World.ownsRow_nil _ _ _ _, (by rintro g h; cases h), (by rintro g h; cases h), (by rintro g h; cases h), Nat.le_refl _, Nat.lt_succ_self _, by simp, (Below.refl _ _).alloc (Nat.le_refl _) _⟩
def lvK (x : Nat) (j : Nat) : List Int := (List.range j).map fun i => ((x + i : Nat) : Int)
def lvN (x j : Nat) : Nd := ⟨lvK x j, List.replicate j val12, []⟩
theorem lvK_len (x j : Nat) : (lvK x j).length = j := by simp [lvK]
theorem lvK_succ (x j : Nat) : lvK x (j + 1) = lvK x j ++ [((x + j : Nat) : Int)] := by unfold lvK; rw [List.range_succ, List.map_append]; rfl
theorem lvN_succ (x j : Nat) : lvN x (j + 1) = ⟨(lvN x j).keys ++ [((x + j : Nat) : Int)], (lvN x j).vals ++ [val12], (lvN x j).kids⟩ := by
 unfold lvN
 rw [lvK_succ, List.replicate_succ']
theorem LfS.is {w wr : World} {q b : Nat} {kv vv cv : Value} {x : Nd} (h : LfS w q b kv vv cv x wr) (hk : ∀ z ∈ x.keys, -9223372036854775808 ≤ z ∧ z ≤ 9223372036854775807) (hv : ∀ v ∈ x.vals, v.size ≤ maxLen) (hc : ∀ z ∈ x.kids, -9223372036854775808 ≤ z ∧ z ≤ 9223372036854775807)
  (hl : x.keys.length ≤ maxLen ∧ x.vals.length ≤ maxLen ∧ x.kids.length ≤ maxLen) : ∃ l : Lay3, kv = .slice l.A x.keys.length l.ca ∧ vv = .slice l.B x.vals.length l.cb ∧ cv = .slice l.C x.kids.length l.cc ∧ NdIs wr l x := by
 obtain ⟨A, ca, e1, h1⟩ := owned_nums h.k
 obtain ⟨B, cb, e2, h2⟩ := owned_strs h.v
 obtain ⟨C, cc, e3, h3⟩ := owned_nums h.c
 exact ⟨⟨A, B, C, ca, cb, cc⟩, e1, e2, e3, h1, h2, h3, hl.1, hl.2.1, hl.2.2, hk, hv, hc⟩
end Go.Proofs.YtafclmbecmgbnaaGreatDoor
