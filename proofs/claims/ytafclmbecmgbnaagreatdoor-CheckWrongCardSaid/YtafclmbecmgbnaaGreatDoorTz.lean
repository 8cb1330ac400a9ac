/-
  Tz: several texts in one file. Conditions: as each part says.
-/
import Derived.Test.YtafclmbecmgbnaaGreatDoorTa
import Derived.Test.YtafclmbecmgbnaaGreatDoorTx
import Derived.Test.YtafclmbecmgbnaaGreatDoorTm
import Derived.Test.YtafclmbecmgbnaaGreatDoorSm
/-
 TrChgS. Conditions: as each theorem says.
-/
namespace Go.Proofs.YtafclmbecmgbnaaGreatDoor
open Go.RowKit
theorem addAllM_snoc (n : Nat) (l : List Nd) : ∀ {S S1 : TS} {ks : List Int} (x : Nd), addAllM n S l = (.ok ks, S1) → addAllM n S (l ++ [x]) = match addM n S1 x with
  | (.error c, S2) => (.error c, S2)
  | (.ok k, S2) => (.ok (ks ++ [k]), S2) := by
 induction l with
 | nil =>
  intro S S1 ks x h
  simp only [addAllM, Prod.mk.injEq, Except.ok.injEq] at h
  obtain ⟨rfl, rfl⟩ := h
  simp only [List.nil_append, addAllM]
  cases addM n S x with
  | mk o S2 => cases o <;> rfl
 | cons y l ih =>
  intro S S1 ks x h
  unfold addAllM at h
  rw [List.cons_append]
  unfold addAllM
  cases ha : addM n S y with
  | mk o S2 =>
   rw [ha] at h
   cases o with
   | error c => simp only [Prod.mk.injEq] at h; cases h.1
   | ok k =>
    simp only at h ⊢
    cases hb : addAllM n S2 l with
    | mk o2 S3 =>
     rw [hb] at h
     cases o2 with
     | error c => simp only [Prod.mk.injEq] at h; cases h.1
     | ok ks2 =>
      simp only [Prod.mk.injEq, Except.ok.injEq] at h
      obtain ⟨rfl, rfl⟩ := h
      rw [ih x hb]
      cases addM n S3 x with
      | mk o3 S4 => cases o3 <;> rfl
theorem addAllM_stop (n : Nat) (l : List Nd) : ∀ {S S1 : TS} {c : Int} (r : List Nd), addAllM n S l = (.error c, S1) → addAllM n S (l ++ r) = (.error c, S1) := by
 induction l with
 | nil => intro S S1 c r h; simp [addAllM] at h
 | cons y l ih =>
  intro S S1 c r h
  unfold addAllM at h
  rw [List.cons_append]
  unfold addAllM
  cases ha : addM n S y with
  | mk o S2 =>
   rw [ha] at h
   cases o with
   | error c2 => exact h
   | ok k =>
    simp only at h ⊢
    cases hb : addAllM n S2 l with
    | mk o2 S3 =>
     rw [hb] at h
     cases o2 with
     | error c2 =>
      simp only [Prod.mk.injEq, Except.error.injEq] at h
      obtain ⟨rfl, rfl⟩ := h
      rw [ih r hb]
     | ok ks2 => simp only [Prod.mk.injEq] at h; cases h.1
theorem addM_soft {n : Nat} {S S1 : TS} {x : Nd} {r : Except Int Int} (h : addM n S x = (r, S1)) : S1.d.soft.length ≤ S.d.soft.length + 1 := by
 unfold addM at h
 split at h
 ·simp only [Prod.mk.injEq] at h; rw [← h.2]; omega
 ·split at h
  ·simp only [Prod.mk.injEq] at h; rw [← h.2]; omega
  ·simp only [Prod.mk.injEq] at h; rw [← h.2]; show (S.d.soft ++ [_]).length ≤ _; simp
def ChL (K : Nat → Prop) (w : World) (N : Nat) (C : Option Addr) (g : Nat) : Prop := K g ∨ (w.heap.size ≤ g ∧ g < N) ∨ ∃ a, C = some a ∧ a.block = g
structure ChS (O : PgOwn) (w0 : World) (K : Nat → Prop) (w : World) (P D n : Nat) (firm : Nat → List UInt8) (q r c N : Nat) (B : Option Addr) (bc : Nat) (bt : List Int) (ns : List Nd) (M : Nat → Prop) (C : Option Addr) (cc : Nat) (ks : List Int) (S' : TS) (wr : World) : Prop where
 law : LawT O w0 (ChL K w N C) wr P D n S' firm
 kept : Kept K w wr
 row : NdRow wr q ns M
 res : NdBox wr r Lay3.none_ Nd.empty
 fr : ∀ j, wr.frozen? ⟨r, j, none⟩ = false
 c0 : wr.cell? ⟨c, 0, none⟩ = some (.slice B bt.length bc)
 c1 : wr.cell? ⟨c, 1, none⟩ = some (.slice none 0 0)
 c2 : wr.cell? ⟨c, 2, none⟩ = some (.slice C ks.length cc)
 fc : ∀ j, wr.frozen? ⟨c, j, none⟩ = false
 nb : Nums wr .i64 B bt
 own : wr.ownsRow N 3 1 (.slice C ks.length cc) ks.length (ks.map (Value.int .i64))
 hq : w.heap.size ≤ q
 qN : q < N
 qc : q ≠ c
 hr : w.heap.size ≤ r
 rc : r < c
 hc : c < N
 sz : N ≤ wr.heap.size
 hM : ∀ g, M g → K g
 hB : ∀ a, B = some a → K a.block
 hw : w0.heap.size ≤ w.heap.size
 hK : There K w
section
variable {O : PgOwn} {w0 : World} {K : Nat → Prop} {w : World} {P D n : Nat} {firm : Nat → List UInt8} {q r c N : Nat} {B : Option Addr} {bc : Nat} {bt : List Int} {ns : List Nd} {M : Nat → Prop} {C : Option Addr} {cc : Nat} {ks : List Int} {S1 S2 : TS} {wr w' : World}
theorem NdRow.keep {w w' : World} {q : Nat} {ns : List Nd} {M : Nat → Prop} (h : NdRow w q ns M) (hs : w.heap.size ≤ w'.heap.size) (hq : w'.heap[q]? = w.heap[q]?) (hM : ∀ g, M g → w'.heap[g]? = w.heap[g]?) : NdRow w' q ns M := fun i hi => by
 obtain ⟨l, h1, h2, h3⟩ := h i hi
 exact ⟨l, h1.keep hs fun g hg => hM g (h3 g hg), fun j v hv => (World.cell?_of_block (by exact hq)).trans (h2 j v hv), h3⟩
theorem ChS.blocks (h : ChS O w0 K w P D n firm q r c N B bc bt ns M C cc ks S1 wr) (hl : LawT O w0 (ChL K w N C) w' P D n S2 firm) (hk : Kept (ChL K w N C) wr w') : ChS O w0 K w P D n firm q r c N B bc bt ns M C cc ks S2 w' := by
 have hwq := h.hq
 have hwr := h.hr
 have hrc := h.rc
 have hcN := h.hc
 have bq := hk.block q (.inr (.inl ⟨h.hq, h.qN⟩))
 have br := hk.block r (.inr (.inl ⟨h.hr, by omega⟩))
 have bc' := hk.block c (.inr (.inl ⟨by omega, by omega⟩))
 exact ⟨hl, h.kept.trans (hk.less8 fun g hg => .inl hg), h.row.keep hk.size bq fun g hg => hk.block g (.inl (h.hM g hg)), h.res.keep br, fun j => (World.frozen?_of_block (w := wr) (a := ⟨r, j, none⟩) br).trans (h.fr j),
  (World.cell?_of_block (w := wr) (a := ⟨c, 0, none⟩) bc').trans h.c0, (World.cell?_of_block (w := wr) (a := ⟨c, 1, none⟩) bc').trans h.c1, (World.cell?_of_block (w := wr) (a := ⟨c, 2, none⟩) bc').trans h.c2, fun j => (World.frozen?_of_block (w := wr) (a := ⟨c, j, none⟩) bc').trans (h.fc j),
  nums_keep h.nb hk.size fun a ha => hk.block _ (.inl (h.hB a ha)),
  ownsRow_block h.own fun g hg => hk.block g (.inr (.inr (by cases hC : C with | none => (rw [hC] at hg; cases hg) | some a => (rw [hC] at hg; cases hg; exact ⟨a, rfl, rfl⟩)))),
  h.hq, h.qN, h.qc, h.hr, h.rc, h.hc, Nat.le_trans h.sz hk.size, h.hM, h.hB, h.hw, h.hK⟩
theorem ChS.carry (H : PgSpec O) (h : ChS O w0 K w P D n firm q r c N B bc bt ns M C cc ks S1 wr) (hb : Below wr.heap.size wr w') : ChS O w0 K w P D n firm q r c N B bc bt ns M C cc ks S1 w' := by
 have hth := h.law.there
 refine h.blocks (h.law.off H (M := fun _ => False) (Turn.of_below hb) (fun _ h => h.elim) (fun k hk => .inl hk) (hth.below hb) h.law.low) (Kept.of_below hb hth)
theorem ChS.push (H : PgSpec O) {gg cap : Nat} {z : Int} {w3 : World} (h : ChS O w0 K w P D n firm q r c N B bc bt ns M C cc ks S1 wr) (hg : wr.grownBy w3 (Value.slice C ks.length cc).ownBlock)
  (hown : w3.ownsRow N 3 1 (.slice (some ⟨gg, 0, none⟩) (ks.length + 1) cap) (ks.length + 1) (ks.map (Value.int .i64) ++ [.int .i64 z])) (hat : (Value.slice C ks.length cc).ownBlock = some gg ∨ gg = wr.heap.size) :
  ChS O w0 K w P D n firm q r c N B bc bt ns M (some ⟨gg, 0, none⟩) cap (ks ++ [z]) S1 (w3.setCell ⟨c, 2, none⟩ (.slice (some ⟨gg, 0, none⟩) (ks ++ [z]).length cap)) := by
 have hwq := h.hq
 have hqN := h.qN
 have hqc := h.qc
 have hwr := h.hr
 have hrc := h.rc
 have hcN := h.hc
 have hsz := h.sz
 have hww := h.hw
 have hth := h.law.there
 have hCN : ∀ g, (Value.slice C ks.length cc).ownBlock = some g → N ≤ g ∧ g < wr.heap.size := fun g hg => h.own.lt g hg
 have hCL : ∀ g, (Value.slice C ks.length cc).ownBlock = some g → ∃ a, C = some a ∧ a.block = g := fun g hg => by
  cases hC : C with
  | none => rw [hC] at hg; cases hg
  | some a => rw [hC] at hg; cases hg; exact ⟨a, rfl, rfl⟩
 have hCM : ∀ g, (∃ a, C = some a ∧ a.block = g) → N ≤ g ∧ g < wr.heap.size := fun g ⟨a, ha, hb⟩ => hCN g (by rw [ha, ← hb]; rfl)
 obtain ⟨v, hv⟩ : ∃ v, v = Value.slice (some ⟨gg, 0, none⟩) (ks ++ [z]).length cap := ⟨_, rfl⟩
 rw [← hv]
 have hs2 : (w3.setCell ⟨c, 2, none⟩ v).heap.size = w3.heap.size := World.heap_setCell_size9 _ _ _
 have blk : ∀ i, i < wr.heap.size → i ≠ c → (Value.slice C ks.length cc).ownBlock ≠ some i → (w3.setCell ⟨c, 2, none⟩ v).heap[i]? = wr.heap[i]? := fun i hi hn hm => (World.heap_setCell_far9 _ _ _ (by exact hn)).trans (hg.block i hi (Ne.symm hm))
 have low : ∀ i, i < N → (Value.slice C ks.length cc).ownBlock ≠ some i := fun i hi e => by have := (hCN i e).1; omega
 have hgg : N ≤ gg ∧ gg < w3.heap.size := ⟨by
  rcases hat with e | e
  ·exact (hCN gg e).1
  ·omega, (hown.lt gg rfl).2⟩
 have ht : Turn (fun i => i = c ∨ ∃ a, C = some a ∧ a.block = i) wr (w3.setCell ⟨c, 2, none⟩ v) := by
  refine ⟨?_, ?_, ?_, by rw [hs2]; exact hg.size, fun k hk => blk k hk.1 (fun e => hk.2 (.inl e)) fun e => hk.2 (.inr (hCL k e))⟩
  ·exact hg.os
  ·exact hg.tape
  ·exact hg.output
 have bw3 : ∀ i, i < N → w3.heap[i]? = wr.heap[i]? := fun i hi => hg.block i (by omega) (Ne.symm (low i hi))
 have bw4 : ∀ i, i < N → i ≠ c → (w3.setCell ⟨c, 2, none⟩ v).heap[i]? = wr.heap[i]? := fun i hi hn => blk i (by omega) hn (low i hi)
 have hKN : ∀ g, K g → g < w.heap.size := h.hK
 have hkk : Kept K wr (w3.setCell ⟨c, 2, none⟩ v) := ⟨ht.os, ht.tape, ht.output, ht.size, fun k hk => bw4 k (by have := hKN k hk; omega) (by have := hKN k hk; omega)⟩
 have bc0 := bw3 c hcN
 refine ⟨h.law.off H (M := fun i => i = c ∨ ∃ a, C = some a ∧ a.block = i) ht ?_ ?_ ?_ ?_, h.kept.trans hkk, h.row.keep ht.size (bw4 q hqN hqc) fun g hg => hkk.block g (h.hM g hg), h.res.keep (bw4 r (by omega) (by omega)),
  fun j => (World.frozen?_of_block (w := wr) (a := ⟨r, j, none⟩) (bw4 r (by omega) (by omega))).trans (h.fr j),
  (World.cell?_setCell_other _ _ _ _ (by simp)).trans ((World.cell?_of_block (w := wr) (a := ⟨c, 0, none⟩) bc0).trans h.c0),
  (World.cell?_setCell_other _ _ _ _ (by simp)).trans ((World.cell?_of_block (w := wr) (a := ⟨c, 1, none⟩) bc0).trans h.c1),
  (World.cell?_setCell_same _ _ _ ((World.cell?_of_block (w := wr) (a := ⟨c, 2, none⟩) bc0).trans h.c2)).trans (by rw [hv]),
  fun j => by rw [World.frozen?_setCell]; exact (World.frozen?_of_block (w := wr) (a := ⟨c, j, none⟩) bc0).trans (h.fc j),
  nums_keep h.nb ht.size fun a ha => hkk.block _ (h.hB a ha), ?_,
  h.hq, h.qN, h.qc, h.hr, h.rc, h.hc, Nat.le_trans h.sz ht.size, h.hM, h.hB, h.hw, h.hK⟩
 ·rintro k (rfl | hk)
  ·exact ⟨.inr (.inl ⟨by omega, hcN⟩), by omega⟩
  ·exact ⟨.inr (.inr hk), by have := hCM k hk; omega⟩
 ·rintro k (hk | hk | ⟨a, ha, rfl⟩)
  ·exact .inl (.inl hk)
  ·exact .inl (.inr (.inl hk))
  ·cases ha
   rcases hat with e | e
   ·exact .inl (.inr (.inr (hCL gg e)))
   ·exact .inr (by show wr.heap.size ≤ gg; omega)
 ·rintro k (hk | hk | ⟨a, ha, rfl⟩)
  ·have := hKN k hk; have := ht.size; omega
  ·have := hk.2; have := ht.size; omega
  ·cases ha; rw [hs2]; exact hgg.2
 ·intro k hk
  rcases h.law.low k hk with h1 | h1 | h1
  ·exact .inl h1
  ·exact .inr (.inl h1)
  ·have := hCM k h1; omega
 ·rw [List.map_append, List.length_append, List.length_singleton]
  exact ownsRow_setCell_below hown (by exact hcN) _
theorem ChS.out (H : PgSpec O) (h : ChS O w0 K w P D n firm q r c N B bc bt ns M C cc ks S1 wr) (l : Lay3) (x : Nd) {L : Nat → Prop} (hL : ∀ k, L k → ChL K w N C k) (hlow : ∀ k, k < w0.heap.size → L k) :
  LawT O w0 L (store3 wr r l x) P D n S1 firm ∧ Kept K w (store3 wr r l x) ∧ NdBox (store3 wr r l x) r l x := by
 have hwr := h.hr
 have hrc := h.rc
 have hcN := h.hc
 have hww := h.hw
 have ht : Turn (fun i => i = r) wr (store3 wr r l x) := ⟨by unfold store3; rfl, by unfold store3; rfl, by unfold store3; rfl, by rw [store3_size]; exact Nat.le_refl _, fun k hk => store3_far hk.2⟩
 have hkk : Kept K wr (store3 wr r l x) := ⟨ht.os, ht.tape, ht.output, ht.size, fun k hk => store3_far (by have := h.hK k hk; omega)⟩
 refine ⟨h.law.off H ht ?_ (fun k hk => .inl (hL k hk)) ?_ hlow, h.kept.trans hkk, store3_box h.res⟩
 ·rintro k rfl
  exact ⟨.inr (.inl ⟨h.hr, by omega⟩), by omega⟩
 ·intro k hk
  have := h.law.there k (hL k hk)
  rw [store3_size]
  exact this
end
end Go.Proofs.YtafclmbecmgbnaaGreatDoor

/-
 TrChg. Conditions: as each theorem says.
-/
namespace Go.Proofs.YtafclmbecmgbnaaGreatDoor
open Go.RowKit
theorem wpList_load_nd_at {T : TypeId} (hT : NdType T) {ops : Array Oper} {rest : List Oper} {op : Oper} {a : Act} {w : World} {Q : Exit → Act → World → Prop} (hw : Region.wanted op (yielded ops a.tmps) = true) (y : Operand) (ho : op.op = .load T y)
  (b j : Nat) (hx : a.eval y = .pointer (some ⟨b, j, none⟩)) (l : Lay3) (x : Nd) (hc : w.rangeAt b j (ndCells l x))
  (h : wpList Tryz.prog ops Q rest (a.put op.dst (ndV l x)) w) : wpList Tryz.prog ops Q (op :: rest) a w :=
 wpList_step fun _ hK => by
  obtain ⟨d, hu, hd⟩ := hT.und
  rw [if_pos hw]
  exact wp_load_mid T y ho b j hx (ndCells l x) _ hc hu hd hT.size (hK _ _ h)
theorem own_base {w : World} {b b' : Nat} {e : TypeId} {v : Value} {n : Nat} {xs : List Value} (h : w.ownsRow b e 1 v n xs) (hb : b' ≤ b) : w.ownsRow b' e 1 v n xs :=
 ⟨h.1, h.2.imp id fun ⟨g, cap, cur, e1, e2, r⟩ => ⟨g, cap, cur, e1, Nat.le_trans hb e2, r⟩⟩
structure ChR (O : PgOwn) (w0 : World) (K : Nat → Prop) (w : World) (P D n : Nat) (firm : Nat → List UInt8) (q r c N : Nat) (B : Option Addr) (bc : Nat) (bt : List Int) (ns : List Nd) (M : Nat → Prop) (S : TS) (i : Value) (wr : World) : Prop where
 ex : ∃ k ks S1 C cc, k ≤ ns.length ∧ i = .int .i64 (k : Int) ∧ addAllM n S (ns.take k) = (.ok ks, S1) ∧ ks.length = k ∧ S1.d.soft.length ≤ S.d.soft.length + k ∧ ChS O w0 K w P D n firm q r c N B bc bt ns M C cc ks S1 wr
structure ChQ (O : PgOwn) (w0 : World) (K : Nat → Prop) (w : World) (P D n : Nat) (firm : Nat → List UInt8) (q r c N : Nat) (B : Option Addr) (bc : Nat) (bt : List Int) (ns : List Nd) (M : Nat → Prop) (C : Option Addr) (cc : Nat) (ks : List Int) (S1 : TS) (old : List Int) (i : Value) (wr : World) : Prop where
 ex : ∃ j S2, j ≤ old.length ∧ i = .int .i64 (j : Int) ∧ dropAllM S1 (old.take j) = (0, S2) ∧ ChS O w0 K w P D n firm q r c N B bc bt ns M C cc ks S2 wr
theorem dropAllM_snoc (l : List Int) : ∀ {S S1 : TS} (x : Int), dropAllM S l = (0, S1) → dropAllM S (l ++ [x]) = dropM S1 x := by
 induction l with
 | nil =>
  intro S S1 x h
  simp only [dropAllM, Prod.mk.injEq, true_and] at h
  subst h
  simp only [List.nil_append, dropAllM]
  split
  ·next h => exact Prod.ext h.symm rfl
  ·rfl
 | cons y l ih =>
  intro S S1 x h
  simp only [dropAllM, List.cons_append] at h ⊢
  split at h
  ·next h2 => rw [if_pos h2]; exact ih x h
  ·next h2 => exact absurd (congrArg Prod.fst h) h2
theorem dropAllM_stop (l : List Int) : ∀ {S S1 : TS} {c : Int} (r : List Int), c ≠ 0 → dropAllM S l = (c, S1) → dropAllM S (l ++ r) = (c, S1) := by
 induction l with
 | nil =>
  intro S S1 c r hc h
  simp only [dropAllM, Prod.mk.injEq] at h
  exact absurd h.1.symm hc
 | cons y l ih =>
  intro S S1 c r hc h
  simp only [dropAllM, List.cons_append] at h ⊢
  split at h
  ·next h2 => rw [if_pos h2]; exact ih r hc h
  ·next h2 => rw [if_neg h2]; exact h
def ChangePost (O : PgOwn) (w0 : World) (K : Nat → Prop) (w : World) (P D n : Nat) (firm : Nat → List UInt8) (l : Lay3) (R : Except Int (List Int × List Int) × TS) (e : Ending) (w' : World) : Prop :=
 Kept K w w' ∧ match R.1 with
 | .error c => LawT O w0 K w' P D n R.2 firm ∧ c ≠ 0 ∧ ∃ v, e = .returned (.tuple #[ndV Lay3.none_ Nd.empty, v]) ∧ ErrFrom w' w.heap.size c v
 | .ok (bk, ks) => ∃ l', LawT O w0 (fun g => K g ∨ l'.has g) w' P D n R.2 firm ∧ e = .returned (.tuple #[ndV l' ⟨bk, [], ks⟩, .nilIface]) ∧ Nums w' .i64 l'.A bk ∧ l'.B = none ∧ w'.ownsRow w.heap.size 3 1 (.slice l'.C ks.length l'.cc) ks.length (ks.map (Value.int .i64)) ∧ (∀ a, l'.A = some a → (∃ c, l.A = some c ∧ c.block = a.block) ∧ ∃ g o, a = ⟨g, o, none⟩) ∧ (bk = [] → l'.A = none ∧ l'.ca = 0)
section
variable {O : PgOwn} (H : PgSpec O)
include H
set_option maxRecDepth 100000 in
set_option maxHeartbeats 1000000 in
theorem change_any {w0 : World} {K : Nat → Prop} {w : World} {P D n : Nat} {S : TS} {firm : Nat → List UInt8} (hl : LawT O w0 K w P D n S firm) (hg : Laid2 w0) (hs : S.d.soft.length ≤ 99990) {b : Nat} {l : Lay3} {x : Nd} (hx : NdMine w b l x) (hxK : ∀ g, l.has g → K g) (hsh : NdShape x)
  {oA : Option Addr} {oc : Nat} {old : List Int} (ho : Nums w .i64 oA old) (hoK : ∀ a, oA = some a → 0 < old.length → K a.block) (hol : old.length ≤ 2) :
  Calls Tryz.prog 64 #[ptr P, ndV l x, .slice oA old.length oc] w (ChangePost O w0 K w P D n firm l (changeM n S x old)) := by
 have hbn := Tryz.nodeNone
 have hz := Tryz.zeroNode
 obtain ⟨ii, hi0, hi1, hi2, hi3⟩ := info_parts Tryz.infoInt9
 obtain ⟨p, HPP⟩ : ∃ p, Hid (p = w.heap.size) := Hy
 obtain ⟨r, HRR⟩ : ∃ r, Hid (r = p + 1) := Hy
 obtain ⟨w1, HW1⟩ : ∃ w1, Hid (w1 = (w.alloc (.cells #[.slice l.A x.keys.length l.ca, .slice l.B x.vals.length l.cb, .slice l.C x.kids.length l.cc] 48)).alloc (.cells #[.slice none 0 0, .slice none 0 0, .slice none 0 0] 48)) := Hy
 have HB1 : Hid (Below w.heap.size w w1) := Hi (by rw [HW1.out]; exact ((Below.refl _ _).alloc (Nat.le_refl _) _).alloc (by simp) _)
 have HX1 : Hid (NdBox w1 p l x) := Hi (by
  rw [HW1.out, HPP.out]
  exact (NdBox.new (l := l) (x := x) _).carry ((Below.refl _ _).alloc (Nat.le_refl _) _) (NdBox.new (l := l) (x := x) _).lt)
 have HR1 : Hid (NdBox w1 r Lay3.none_ Nd.empty ∧ ∀ j, w1.frozen? ⟨r, j, none⟩ = false) := Hi (by
  rw [HW1.out, HRR.out, HPP.out]
  have h := NdBox.new (w := w.alloc (.cells #[.slice l.A x.keys.length l.ca, .slice l.B x.vals.length l.cb, .slice l.C x.kids.length l.cc] 48)) (l := Lay3.none_) (x := Nd.empty) 48
  have h2 := frozen_new1 (w.alloc (.cells #[.slice l.A x.keys.length l.ca, .slice l.B x.vals.length l.cb, .slice l.C x.kids.length l.cc] 48)) #[.slice none 0 0, .slice none 0 0, .slice none 0 0] 48
  rw [show (w.alloc (.cells #[.slice l.A x.keys.length l.ca, .slice l.B x.vals.length l.cb, .slice l.C x.kids.length l.cc] 48)).heap.size = w.heap.size + 1 by simp] at h h2
  exact ⟨h, h2⟩)
 have HM1 : Hid (NdMine w1 b l x) := Hi (hx.carry HB1.out)
 have HPA := Hi (parts_any HM1.out hsh)
 have HO := Hi ho
 have HL := Hi hl
 obtain ⟨ns, HNS⟩ : ∃ ns, Hid (ns = (partsN x).1) := Hy
 obtain ⟨bt, HBT⟩ : ∃ bt, Hid (bt = (partsN x).2) := Hy
 unfold PartsPost at HPA
 rw [← HNS.out, ← HBT.out] at HPA
 have HNL : Hid (ns.length ≤ 2) := Hi (by rw [HNS.out]; exact partsN_few x)
 obtain ⟨R, HRS⟩ : ∃ R, Hid (R = changeM n S x old) := Hy
 rw [← HRS.out]
 unfold changeM at HRS
 rw [← HNS.out, ← HBT.out] at HRS
 have HXK := Hi hxK
 have HOK := Hi hoK
 have HOL := Hi hol
 have HSS := Hi hs
 clear hx hxK hsh ho hoK hol hl hs
 go_enter Tryz.func64, Tryz.ntmps64
 go_upto_region 1 with (fail)
 rw [← HW1.out, ← HPP.out, ← HRR.out]
 clear HW1
 go_wp2_with (with_reducible refine stop_at (o := ⟨some 19, _, _, _, _, _⟩) ?_)
 refine wpList_load_nd Tryz.ndProg (by rfl) _ rfl p rfl l x HX1.out ?_
 go_wp2_with fail
 refine HPA.out.mono ?_
 rintro e w2 ⟨q, B, bc, rfl, hrow, hnb, hq1, hq2, hb, hB, hB0⟩
 obtain ⟨c, HCC⟩ : ∃ c, Hid (c = w2.heap.size) := Hy
 obtain ⟨N, HNN⟩ : ∃ N, Hid (N = c + 1) := Hy
 obtain ⟨w3, HW3⟩ : ∃ w3, Hid (w3 = w2.alloc (.cells #[.slice B bt.length bc, .slice none 0 0, .slice none 0 0] 48)) := Hy
 have HS3 : Hid (ChS O w0 K w P D n firm q r c N B bc bt ns l.has none 0 [] S w3) := Hi (by
  have h23 : Below w2.heap.size w2 w3 := by rw [HW3.out]; exact (Below.refl _ _).alloc (Nat.le_refl _) _
  have hw2 := HB1.out.trans (hb.mono HB1.out.size)
  have hw3 := hw2.trans (h23.mono hw2.size)
  have hth := HL.out.there
  have hs3 : w3.heap.size = N := by rw [HW3.out, HNN.out, HCC.out]; simp
  have hr2 : r < w2.heap.size := Nat.lt_of_lt_of_le HR1.out.1.lt hb.size
  have hbx := (HR1.out.1.carry hb HR1.out.1.lt).carry h23 (HR1.out.1.carry hb HR1.out.1.lt).lt
  have hc3 := NdBox.new (w := w2) (l := ⟨B, none, none, bc, 0, 0⟩) (x := ⟨bt, [], []⟩) 48
  have hc4 := frozen_new1 w2 #[.slice B bt.length bc, .slice none 0 0, .slice none 0 0] 48
  have e3 : w3 = w2.alloc (.cells #[.slice B bt.length bc, .slice none 0 0, .slice none 0 0] 48) := HW3.out
  have eh : ∀ a, B = some a → K a.block := fun a ha => by
   obtain ⟨⟨c', h1, h2⟩, _⟩ := hB a ha
   exact HXK.out _ (.inl ⟨c', h1, h2⟩)
  have hw1s := HB1.out.size
  have hw2s := hb.size
  refine ⟨HL.out.off H (M := fun _ => False) (Turn.of_below hw3) (fun _ h => h.elim) ?_ ?_ (fun k hk => .inl (HL.out.low k hk)), Kept.of_below hw3 hth, hrow.keep h23.size (h23.block q hq2) (fun g hg => h23.block g ?_), hbx, frozen_below h23 hr2 (frozen_below hb HR1.out.1.lt HR1.out.2), ?_, ?_, ?_, ?_, hnb.carry h23, World.ownsRow_nil _ _ _ _, by omega, by rw [HNN.out, HCC.out]; omega, by rw [HCC.out]; omega, by rw [HRR.out, HPP.out]; omega, by rw [HCC.out]; exact hr2, by rw [HNN.out]; omega, by rw [hs3]; exact Nat.le_refl _, HXK.out, eh, HL.out.below.size, hth⟩
  ·rintro k (hk | hk | ⟨a, ha, _⟩)
   ·exact .inl hk
   ·exact .inr hk.1
   ·cases ha
  ·rintro k (hk | hk | ⟨a, ha, _⟩)
   ·have := hth k hk; have := hw3.size; omega
   ·rw [hs3]; exact hk.2
   ·cases ha
  ·have := hth g (HXK.out g hg); have := hw2.size; omega
  ·rw [e3, HCC.out]; exact hc3.c0
  ·rw [e3, HCC.out]; exact hc3.c1
  ·rw [e3, HCC.out]; exact hc3.c2
  ·intro j; rw [e3, HCC.out]; exact hc4 j)
 have HBA := Hi hB
 have HB0 := Hi hB0
 clear hrow hnb hq1 hq2 hb hB hB0 HPA HX1 HR1 HM1
 go_upto_region 3 with (fail)
 rw [← HW3.out, ← HCC.out]
 clear HW3
 go_wp2_with fail
 go_loopw [27] (fun i wr => ChR O w0 K w P D n firm q r c N B bc bt ns l.has S i wr) (fun i _ => ns.length - (intOf i).toNat)
 case atStart => exact ⟨0, [], S, none, 0, Nat.zero_le _, rfl, by rw [List.take_zero]; rfl, rfl, by omega, HS3.out⟩
 case round =>
  clear HS3
  obtain ⟨k, ks, S1, C, cc, hk, rfl, hadd, hkl, hsf, hst⟩ := hrel.ex
  have HADD := Hi hadd
  have HKL := Hi hkl
  have HSF := Hi hsf
  have HST := Hi hst
  clear hrel hadd hkl hsf hst
  by_cases hlt : k < ns.length
  ·obtain ⟨ln, hn1, hn2, hn3⟩ := HST.out.row k hlt
   obtain ⟨y, HY⟩ : ∃ y, Hid (y = ns[k]) := Hy
   rw [← HY.out] at hn1 hn2
   have HN1 := Hi hn1
   have HN2 := Hi hn2
   have HN3 := Hi hn3
   clear hn1 hn2 hn3
   go_wp2_with (with_reducible refine stop_at (o := ⟨some 30, _, _, _, _, _⟩) ?_)
   refine wpList_load_nd_at Tryz.ndProg (by rfl) _ rfl q (k * 3) rfl ln y (by rw [Nat.mul_comm]; exact HN2.out) ?_
   obtain ⟨v, HVV⟩ : ∃ v, Hid (v = wr.heap.size) := Hy
   obtain ⟨w4, HW4⟩ : ∃ w4, Hid (w4 = wr.alloc (.cells #[.slice ln.A y.keys.length ln.ca, .slice ln.B y.vals.length ln.cb, .slice ln.C y.kids.length ln.cc] 48)) := Hy
   have hb4 : Below wr.heap.size wr w4 := by rw [HW4.out]; exact (Below.refl _ _).alloc (Nat.le_refl _) _
   have HS4 := Hi (HST.out.carry H hb4)
   have HX4 : Hid (NdBox w4 v ln y) := Hi (by rw [HW4.out, HVV.out]; exact NdBox.new _)
   have HAD := Hi (add_any H HS4.out.law hg (by have := HSF.out; have := HSS.out; have := HNL.out; omega) (HN1.out.carry hb4))
   obtain ⟨RA, HRA⟩ : ∃ RA, Hid (RA = addM n S1 y) := Hy
   rw [← HRA.out] at HAD
   have HSZ : Hid (w.heap.size ≤ w4.heap.size) := Hi HS4.out.kept.size
   have HRL : Hid (r < w4.heap.size) := Hi (by have := HS4.out.rc; have := HS4.out.hc; have := HS4.out.sz; omega)
   clear hb4 HST
   go_upto_region 6 with (fail)
   rw [← HW4.out, ← HVV.out]
   clear HW4 HVV
   go_wp2_with (with_reducible refine stop_at (o := ⟨some 33, _, _, _, _, _⟩) ?_)
   refine wpList_load_nd Tryz.ndProg (by rfl) _ rfl v rfl ln y HX4.out ?_
   go_wp2_with fail
   refine HAD.out.mono ?_
   rintro e w5 ⟨hlaw, hkept, hm⟩
   clear HAD HX4
   obtain ⟨o, S2⟩ := RA
   have HS5 := Hi (HS4.out.blocks hlaw hkept)
   clear hlaw hkept HS4
   cases o with
   | error cd =>
    obtain ⟨hc, v, rfl, he⟩ := hm
    obtain ⟨tt, xx, rfl⟩ := he.some hc
    have HE := Hi he
    have HC0 := Hi hc
    clear he hc
    have HR2 : Hid (R = (.error cd, S2)) := Hi (by
     have h := addAllM_snoc n (ns.take k) y HADD.out
     rw [← HRA.out] at h
     have h2 := addAllM_stop n (ns.take k ++ [y]) (ns.drop (k + 1)) h
     rw [show ns.take k ++ [y] ++ ns.drop (k + 1) = ns by rw [HY.out, List.append_assoc, List.singleton_append, List.getElem_cons_drop, List.take_append_drop]] at h2
     have h3 := HRS.out
     rw [h2] at h3
     exact h3)
    have d0 := HS5.out.res.c0
    have d1 := HS5.out.res.c1
    have d2 := HS5.out.res.c2
    have f0 := HS5.out.fr 0
    have f1 := HS5.out.fr 1
    have f2 := HS5.out.fr 2
    go_wp2_with fail
    obtain ⟨w6, HW6⟩ : ∃ w6, Hid (w6 = ((w5.setCell ⟨r, 0, none⟩ (.slice none 0 0)).setCell ⟨r, 1, none⟩ (.slice none 0 0)).setCell ⟨r, 2, none⟩ (.slice none 0 0)) := Hy
    rw [← HW6.out]
    have HF6 : Hid (LawT O w0 K w6 P D n S2 firm ∧ Kept K w w6 ∧ NdBox w6 r Lay3.none_ Nd.empty ∧ ErrFrom w6 w.heap.size cd (.iface tt xx)) := Hi (by
     have e : w6 = store3 w5 r Lay3.none_ Nd.empty := by rw [HW6.out]; unfold store3; rfl
     obtain ⟨h1, h2, h3⟩ := HS5.out.out H Lay3.none_ Nd.empty (L := K) (fun _ hk => .inl hk) HL.out.low
     rw [e]
     exact ⟨h1, h2, h3, (store3_err HE.out HRL.out).mono HSZ.out⟩)
    have HCP : Hid (ChangePost O w0 K w P D n firm l R (.returned (.tuple #[ndV Lay3.none_ Nd.empty, .iface tt xx])) w6) := Hi (by
     unfold ChangePost
     rw [HR2.out]
     exact ⟨HF6.out.2.1, HF6.out.1, HC0.out, _, rfl, HF6.out.2.2.2⟩)
    exact bodyPost_ret (results_nd2 Tryz.ndProg rfl _ _ r Lay3.none_ Nd.empty (.iface tt xx) rfl rfl HF6.out.2.2.1) rfl HCP.out
   | ok kk =>
    obtain rfl := hm
    have HR2 : Hid (addAllM n S (ns.take (k + 1)) = (.ok (ks ++ [kk]), S2)) := Hi (by
     have h := addAllM_snoc n (ns.take k) y HADD.out
     rw [← HRA.out] at h
     rw [show ns.take k ++ [y] = ns.take (k + 1) by rw [HY.out, List.take_append_getElem]] at h
     exact h)
    have HSF2 : Hid (S2.d.soft.length ≤ S.d.soft.length + (k + 1)) := Hi (by
     have := addM_soft HRA.out.symm
     have := HSF.out
     omega)
    clear HRA
    have c2 := HS5.out.c2
    have fc2 := HS5.out.fc 2
    go_wp2_with (with_reducible refine stop_at (o := ⟨some 45, _, _, _, _, _⟩) ?_)
    obtain ⟨g6, HG6⟩ : ∃ g6, Hid (g6 = w5.heap.size) := Hy
    obtain ⟨w6, HW6⟩ : ∃ w6, Hid (w6 = w5.alloc (.cells #[.int .i64 kk] 3)) := Hy
    rw [← HG6.out, ← HW6.out]
    have HS6 := Hi (HS5.out.carry H (w' := w6) (by rw [HW6.out]; exact (Below.refl _ _).alloc (Nat.le_refl _) _))
    have hn6 : ∀ (j : Nat) u, ([.int .i64 kk] : List Value)[j]? = some u → w6.cell? ((⟨g6, 0, none⟩ : Addr).add j) = some u := by rw [HW6.out, HG6.out]; exact World.news_of_block (cs := #[.int .i64 kk]) (heap_alloc_last w5 _)
    clear HG6 HW6 HS5 c2 fc2
    refine wpList_append_lies (P := Tryz.prog) w6 rfl _ _ 45 rfl N 3 ii _ 1 8 Tryz.underlying45 hi0 hi1 hi2 hi3 rfl (by decide) (.slice C ks.length cc) ks.length (ks.map (Value.int .i64)) rfl HS6.out.own ⟨g6, 0, none⟩ 1 1 [.int .i64 kk] rfl rfl hn6 (fun u hu => by rw [List.mem_singleton.1 hu]; rfl) (by decide) (by have := HKL.out; have := HNL.out; unfold maxLen; omega) (by have := HKL.out; have := HNL.out; omega) HS6.out.sz w6.heap.size rfl ?_
    intro gg cap w7 hown hgrow hat _
    have HP7 := Hi (HS6.out.push H hgrow hown hat)
    have c2 : w7.cell? ⟨c, 2, none⟩ = some (.slice C ks.length cc) := (hgrow.cell_far _ (by have := HS6.out.hc; have := HS6.out.sz; show c < _; omega) (fun e => by have := (HS6.out.own.lt c e.symm).1; have := HS6.out.hc; omega)).trans HS6.out.c2
    have fc2 : w7.frozen? ⟨c, 2, none⟩ = false := (hgrow.frozen_far _ (by have := HS6.out.hc; have := HS6.out.sz; show c < _; omega) (fun e => by have := (HS6.out.own.lt c e.symm).1; have := HS6.out.hc; omega)).trans (HS6.out.fc 2)
    rw [List.length_append, List.length_singleton] at HP7
    have HWK : Hid (wrap64 ((k : Int) + 1) = ((k + 1 : Nat) : Int)) := Hi (by have := HNL.out; unfold wrap64; omega)
    clear hown hgrow hat hn6 HS6
    go_wp2_with fail
    go_roundw
    case rel =>
     refine ⟨k + 1, ks ++ [kk], S2, some ⟨gg, 0, none⟩, cap, hlt, by rw [HWK.out], HR2.out, by rw [List.length_append, HKL.out]; rfl, HSF2.out, ?_⟩
     exact HP7.out
    case measure => rw [HWK.out]; simp only [intOf, Int.toNat_natCast]; omega
  ·have HAL : Hid (addAllM n S ns = (.ok ks, S1)) := Hi (by have := HADD.out; rwa [List.take_of_length_le (by omega)] at this)
   have HR3 : Hid (R = if (dropAllM S1 old).1 = 0 then (Except.ok (bt, ks), (dropAllM S1 old).2) else (Except.error (dropAllM S1 old).1, (dropAllM S1 old).2)) := Hi (by
    have h := HRS.out
    rw [HAL.out] at h
    exact h)
   clear HRS HADD
   go_wp2_with fail
   go_loopw [50] (fun i wr => ChQ O w0 K w P D n firm q r c N B bc bt ns l.has C cc ks S1 old i wr) (fun i _ => old.length - (intOf i).toNat)
   case atStart => exact ⟨0, S1, Nat.zero_le _, rfl, by rw [List.take_zero]; rfl, HST.out⟩
   case round =>
    clear HST
    obtain ⟨j, S2, hj, rfl, hdr, hst⟩ := hrel.ex
    have HDR := Hi hdr
    have HST := Hi hst
    clear hrel hdr hst
    by_cases hlj : j < old.length
    ·obtain ⟨a, ha, halt, hcell⟩ := (nums_keep HO.out HST.out.kept.size fun a ha => HST.out.kept.block _ (HOK.out a ha (by omega))) (by omega)
     have c3 := hcell j old[j] (by simp [hlj])
     obtain ⟨z, HZ⟩ : ∃ z, Hid (z = old[j]) := Hy
     rw [← HZ.out] at c3
     subst ha
     have HDP := Hi (drop_any H HST.out.law z)
     obtain ⟨RD, HRD⟩ : ∃ RD, Hid (RD = dropM S2 z) := Hy
     rw [← HRD.out] at HDP
     obtain ⟨cd, S3⟩ := RD
     have HRL : Hid (r < wr.heap.size) := Hi (by have := HST.out.rc; have := HST.out.hc; have := HST.out.sz; omega)
     have HSZ : Hid (w.heap.size ≤ wr.heap.size) := Hi HST.out.kept.size
     clear hcell halt
     go_wp2_with fail
     refine HDP.out.mono ?_
     rintro e w5 ⟨v, rfl, he, hlaw, hkept⟩
     have HS5 := Hi (HST.out.blocks hlaw hkept)
     clear hlaw hkept HST HDP
     by_cases hc : cd = 0
     ·obtain rfl : v = .nilIface := by
       rcases he with ⟨_, h⟩ | ⟨h, _⟩
       ·exact h
       ·exact absurd hc h
      have HDR2 : Hid (dropAllM S1 (old.take (j + 1)) = (0, S3)) := Hi (by
       have h := dropAllM_snoc (old.take j) z HDR.out
       rw [← HRD.out, hc] at h
       rwa [show old.take j ++ [z] = old.take (j + 1) by rw [HZ.out, List.take_append_getElem]] at h)
      have HWJ : Hid (wrap64 ((j : Int) + 1) = ((j + 1 : Nat) : Int)) := Hi (by have := HOL.out; unfold wrap64; omega)
      clear he c3 hc HRD
      go_wp2_with fail
      go_roundw
      case rel => exact ⟨j + 1, S3, hlj, by rw [HWJ.out], HDR2.out, HS5.out⟩
      case measure => rw [HWJ.out]; simp only [intOf, Int.toNat_natCast]; omega
     ·obtain ⟨tt, xx, rfl⟩ := he.some hc
      have HE := Hi he
      have HC0 := Hi hc
      have HR2 : Hid (R = (.error cd, S3)) := Hi (by
       have h := dropAllM_snoc (old.take j) z HDR.out
       rw [← HRD.out] at h
       have h2 := dropAllM_stop (old.take j ++ [z]) (old.drop (j + 1)) hc h
       rw [show old.take j ++ [z] ++ old.drop (j + 1) = old by rw [HZ.out, List.append_assoc, List.singleton_append, List.getElem_cons_drop, List.take_append_drop]] at h2
       have h3 := HR3.out
       rw [h2] at h3
       rw [h3]
       exact if_neg hc)
      clear he hc c3
      have d0 := HS5.out.res.c0
      have d1 := HS5.out.res.c1
      have d2 := HS5.out.res.c2
      have f0 := HS5.out.fr 0
      have f1 := HS5.out.fr 1
      have f2 := HS5.out.fr 2
      go_wp2_with fail
      obtain ⟨w6, HW6⟩ : ∃ w6, Hid (w6 = ((w5.setCell ⟨r, 0, none⟩ (.slice none 0 0)).setCell ⟨r, 1, none⟩ (.slice none 0 0)).setCell ⟨r, 2, none⟩ (.slice none 0 0)) := Hy
      rw [← HW6.out]
      have HF6 : Hid (LawT O w0 K w6 P D n S3 firm ∧ Kept K w w6 ∧ NdBox w6 r Lay3.none_ Nd.empty ∧ ErrFrom w6 w.heap.size cd (.iface tt xx)) := Hi (by
       have e : w6 = store3 w5 r Lay3.none_ Nd.empty := by rw [HW6.out]; unfold store3; rfl
       obtain ⟨h1, h2, h3⟩ := HS5.out.out H Lay3.none_ Nd.empty (L := K) (fun _ hk => .inl hk) HL.out.low
       rw [e]
       exact ⟨h1, h2, h3, (store3_err HE.out HRL.out).mono HSZ.out⟩)
      have HCP : Hid (ChangePost O w0 K w P D n firm l R (.returned (.tuple #[ndV Lay3.none_ Nd.empty, .iface tt xx])) w6) := Hi (by
       unfold ChangePost
       rw [HR2.out]
       exact ⟨HF6.out.2.1, HF6.out.1, HC0.out, _, rfl, HF6.out.2.2.2⟩)
      exact bodyPost_ret (results_nd2 Tryz.ndProg rfl _ _ r Lay3.none_ Nd.empty (.iface tt xx) rfl rfl HF6.out.2.2.1) rfl HCP.out
    ·have HR2 : Hid (R = (.ok (bt, ks), S2)) := Hi (by
      have h := HDR.out
      rw [List.take_of_length_le (by omega)] at h
      have h3 := HR3.out
      rw [h] at h3
      exact h3)
     obtain ⟨lr, HLR⟩ : ∃ lr : Lay3, Hid (lr = ⟨B, none, C, bc, 0, cc⟩) := Hy
     obtain ⟨xr, HXR⟩ : ∃ xr : Nd, Hid (xr = ⟨bt, [], ks⟩) := Hy
     have HBX : Hid (NdBox wr c lr xr) := Hi (by rw [HLR.out, HXR.out]; exact ⟨HST.out.c0, HST.out.c1, HST.out.c2⟩)
     have d0 := HST.out.res.c0
     have d1 := HST.out.res.c1
     have d2 := HST.out.res.c2
     have f0 := HST.out.fr 0
     have f1 := HST.out.fr 1
     have f2 := HST.out.fr 2
     go_wp2_with (with_reducible refine stop_at (o := ⟨some 62, _, _, _, _, _⟩) ?_)
     refine wpList_load_nd Tryz.ndProg (by rfl) _ rfl c rfl lr xr HBX.out ?_
     go_wp2_with fail
     obtain ⟨w6, HW6⟩ : ∃ w6, Hid (w6 = store3 wr r lr xr) := Hy
     unfold store3 at HW6
     rw [← HW6.out]
     have HF6 : Hid (LawT O w0 (fun g => K g ∨ lr.has g) w6 P D n S2 firm ∧ Kept K w w6 ∧ NdBox w6 r lr xr ∧ Nums w6 .i64 lr.A bt ∧ w6.ownsRow w.heap.size 3 1 (.slice lr.C ks.length lr.cc) ks.length (ks.map (Value.int .i64))) := Hi (by
      have e : w6 = store3 wr r lr xr := by unfold store3; exact HW6.out
      have hwr := HST.out.hr
      have hrN := HST.out.rc
      have hcN := HST.out.hc
      have hwq := HST.out.hq
      obtain ⟨h1, h2, h3⟩ := HST.out.out H lr xr (L := fun g => K g ∨ lr.has g) (fun k hk => by
       rcases hk with hk | hk
       ·exact .inl hk
       ·rw [HLR.out] at hk
        rcases hk with ⟨a, ha, rfl⟩ | ⟨a, ha, rfl⟩ | ⟨a, ha, rfl⟩
        ·exact .inl (HST.out.hB a ha)
        ·cases ha
        ·exact .inr (.inr ⟨a, ha, rfl⟩)) (fun k hk => .inl (HL.out.low k hk))
      rw [e]
      refine ⟨h1, h2, h3, ?_, ?_⟩
      ·rw [HLR.out]
       refine nums_keep HST.out.nb (by rw [store3_size]; exact Nat.le_refl _) fun a ha => store3_far ?_
       have := HST.out.hK _ (HST.out.hB a ha)
       omega
      ·rw [show lr.C = C by rw [HLR.out], show lr.cc = cc by rw [HLR.out]]
       refine ownsRow_block (own_base HST.out.own (by omega)) fun g hg => store3_far ?_
       have := (HST.out.own.lt g hg).1
       omega)
     have HCP : Hid (ChangePost O w0 K w P D n firm l R (.returned (.tuple #[ndV lr xr, .nilIface])) w6) := Hi (by
      unfold ChangePost
      rw [HR2.out, HXR.out]
      exact ⟨HF6.out.2.1, lr, HF6.out.1, rfl, HF6.out.2.2.2.1, by rw [HLR.out], HF6.out.2.2.2.2, fun a ha => HBA.out a (by rw [HLR.out] at ha; exact ha), fun h9 => by rw [HLR.out]; exact HB0.out h9⟩)
     exact bodyPost_ret (results_nd2 Tryz.ndProg rfl _ _ r lr xr .nilIface rfl rfl HF6.out.2.2.1) rfl HCP.out
end
end Go.Proofs.YtafclmbecmgbnaaGreatDoor
