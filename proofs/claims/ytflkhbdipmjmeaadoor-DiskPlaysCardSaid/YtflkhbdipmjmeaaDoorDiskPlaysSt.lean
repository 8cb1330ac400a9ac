/-
  What DiskPlays holds in memory between its calls: the disk, and the document's own one. Conditions: none beyond the premises of each theorem.
-/
import Derived.Test.YtflkhbdipmjmeaaDoorDiskRefCrash
import Derived.Test.YtflkhbdipmjmeaaDoorDiskActs
namespace Go.Proofs.YtflkhbdipmjmeaaDoor
open Go.RowKit

theorem DiskAt.near {K : Nat → Prop} {w w' : World} {D n : Nat} {d : Dk} (h : DiskAt K w D n d) (hb : ∀ k, ¬ K k → k < w.heap.size → w'.heap[k]? = w.heap[k]?) : DiskAt K w' D n d := by
  obtain ⟨F, S, v, h⟩ := h
  have hD := hb D h.kd (lt_of_cell h.c0)
  have hF := hb F h.kf (h.firm.lt (by rw [h.ok.firm]; exact h.pos))
  have hS := hb S h.ks (h.seen.lt (by rw [h.ok.seen]; exact h.pos))
  refine ⟨F, S, v, h.ok, h.pos, (World.cell?_of_block (w := w) (a := ⟨D, 0, none⟩) hD).trans h.c0, (World.cell?_of_block (w := w) (a := ⟨D, 1, none⟩) hD).trans h.c1, (World.cell?_of_block (w := w) (a := ⟨D, 2, none⟩) hD).trans h.c2, (World.cell?_of_block (w := w) (a := ⟨D, 3, none⟩) hD).trans h.c3,
    fun j => (World.frozen?_of_block (w := w) (a := ⟨D, j, none⟩) hD).trans (h.fz j), fun j => (World.frozen?_of_block (w := w) (a := ⟨F, j, none⟩) hF).trans (h.ff j), fun j => (World.frozen?_of_block (w := w) (a := ⟨S, j, none⟩) hS).trans (h.fs j),
    h.firm.carry hF, h.seen.carry hS, ?_, h.kd, h.kf, h.ks, h.kv, h.df, h.ds, h.fsn⟩
  obtain ⟨h1, h2⟩ := h.soft
  refine ⟨h1, ?_⟩
  rcases h2 with h2 | ⟨g, cap, cur, e1, e2, e3, e4⟩
  · exact .inl h2
  · exact .inr ⟨g, cap, cur, e1, e2, by rw [hb g (h.kv g (by rw [e1]; rfl)).1 (Array.getElem?_eq_some_iff.1 e3).1]; exact e3, e4⟩
theorem ownsRow_block {w w' : World} {B : Nat} {t : TypeId} {s n : Nat} {v : Value} {xs : List Value} (h : w.ownsRow B t s v n xs) (hb : ∀ g, v.ownBlock = some g → w'.heap[g]? = w.heap[g]?) : w'.ownsRow B t s v n xs := by
  obtain ⟨h1, h2⟩ := h
  refine ⟨h1, ?_⟩
  rcases h2 with h2 | ⟨g, cap, cur, e1, e2, e3, e4⟩
  · exact .inl h2
  · exact .inr ⟨g, cap, cur, e1, e2, by rw [hb g (by rw [e1]; rfl)]; exact e3, e4⟩
theorem ownsRow_slice {w : World} {B : Nat} {t : TypeId} {s n : Nat} {v : Value} {xs : List Value} (h : w.ownsRow B t s v n xs) : ∃ A c, v = .slice A n c ∧ (0 < n → ∃ g, A = some ⟨g, 0, none⟩ ∧ v.ownBlock = some g) := by
  obtain ⟨_, h2⟩ := h
  rcases h2 with ⟨rfl, h2⟩ | ⟨g, cap, cur, rfl, _⟩
  · exact ⟨none, 0, by rw [h2], fun h => by omega⟩
  · exact ⟨_, cap, rfl, fun _ => ⟨g, rfl, rfl⟩⟩
/-- where the writes went, as cells -/
def atCells (s : Soft) : List Value := s.map fun x => .int .i64 (x.1 : Int)
/-- the document's own disk in block b7: its rows -/
structure RefIs (K : Nat → Prop) (N : Nat) (w : World) (b7 F cF : Nat) (va vw : Value) (n : Nat) (firm : List Pg) (ats : List Value) (pgs : List Pg) : Prop where
  c0 : w.cell? ⟨b7, 0, none⟩ = some (.slice (some ⟨F, 0, none⟩) n cF)
  c1 : w.cell? ⟨b7, 1, none⟩ = some va
  c2 : w.cell? ⟨b7, 2, none⟩ = some vw
  fz : ∀ j, w.frozen? ⟨b7, j, none⟩ = false
  pages : Pages w F firm
  at_ : w.ownsRow N 3 1 va ats.length ats
  what : w.ownsRow N 35 128 vw pgs.length (pgsCells pgs)
  k7 : K b7
  kF : K F
  n7 : N ≤ b7
  nF : N ≤ F
  f7 : F ≠ b7
  ka : ∀ g, va.ownBlock = some g → K g ∧ g ≠ b7 ∧ g ≠ F ∧ vw.ownBlock ≠ some g
  kw : ∀ g, vw.ownBlock = some g → K g ∧ g ≠ b7 ∧ g ≠ F
/-- all of it, between two calls -/
structure PlSt (X : Nat → Prop) (N : Nat) (w2 : World) (D b7 n : Nat) (d : Dk) (firm : List Pg) (ats : List Value) (pgs : List Pg) (K : Nat → Prop) (F cF : Nat) (va vw : Value) (wr : World) : Prop where
  sub : ∀ j, X j → K j ∧ j ≠ b7 ∧ va.ownBlock ≠ some j ∧ vw.ownBlock ≠ some j
  low : ∀ j, j < N → K j
  there : There K wr
  disk : DiskAt K wr D n d
  ref : RefIs K N wr b7 F cF va vw n firm ats pgs
  kept : Kept (· < N) w2 wr
/-- .. whatever its blocks -/
def PlAt (X : Nat → Prop) (N : Nat) (w2 : World) (D b7 n : Nat) (d : Dk) (firm : List Pg) (soft : Soft) (wr : World) : Prop := ∃ K F cF va vw, PlSt X N w2 D b7 n d firm (atCells soft) (soft.map Prod.snd) K F cF va vw wr
theorem RefIs.keep {K K' : Nat → Prop} {N : Nat} {w w' : World} {b7 F cF : Nat} {va vw : Value} {n : Nat} {firm : List Pg} {ats : List Value} {pgs : List Pg} (h : RefIs K N w b7 F cF va vw n firm ats pgs) (hb : ∀ k, K k → w'.heap[k]? = w.heap[k]?) (hK : ∀ k, K k → K' k) : RefIs K' N w' b7 F cF va vw n firm ats pgs :=
  have h7 := hb b7 h.k7
  ⟨(World.cell?_of_block (w := w) (a := ⟨b7, 0, none⟩) h7).trans h.c0, (World.cell?_of_block (w := w) (a := ⟨b7, 1, none⟩) h7).trans h.c1, (World.cell?_of_block (w := w) (a := ⟨b7, 2, none⟩) h7).trans h.c2, fun j => (World.frozen?_of_block (w := w) (a := ⟨b7, j, none⟩) h7).trans (h.fz j),
    h.pages.carry (hb F h.kF), ownsRow_block h.at_ fun g hg => hb g (h.ka g hg).1, ownsRow_block h.what fun g hg => hb g (h.kw g hg).1, hK _ h.k7, hK _ h.kF, h.n7, h.nF, h.f7, fun g hg => ⟨hK g (h.ka g hg).1, (h.ka g hg).2⟩, fun g hg => ⟨hK g (h.kw g hg).1, (h.kw g hg).2⟩⟩
theorem RefIs.rd {K : Nat → Prop} {N : Nat} {w : World} {b7 F cF : Nat} {va vw : Value} {n : Nat} {firm : List Pg} {soft : Soft} (h : RefIs K N w b7 F cF va vw n firm (atCells soft) (soft.map Prod.snd)) (hl : firm.length = n) (hw : Whole firm) (hf : Fits n soft) :
    ∃ A cA W cW, va = .slice A soft.length cA ∧ vw = .slice W soft.length cW ∧ RefRd w F cF A cA W cW n firm soft := by
  have ha := h.at_
  have hb := h.what
  rw [show (atCells soft).length = soft.length by simp [atCells]] at ha
  rw [List.length_map] at hb
  obtain ⟨A, cA, e1, h1⟩ := ownsRow_slice ha
  obtain ⟨W, cW, e2, h2⟩ := ownsRow_slice hb
  refine ⟨A, cA, W, cW, e1, e2, h.pages, hl, hw, hf, fun i x hx => ?_, fun i x hx => ?_⟩
  · have hlt : i < soft.length := (List.getElem?_eq_some_iff.1 hx).1
    obtain ⟨g, eg, hg⟩ := h1 (by omega)
    refine ⟨g, eg, ?_⟩
    have := ha.cells hg i (.int .i64 (x.1 : Int)) (by simp [atCells, hx])
    rw [Addr.add_mid, Nat.zero_add] at this
    exact this
  · have hlt : i < soft.length := (List.getElem?_eq_some_iff.1 hx).1
    obtain ⟨g, eg, hg⟩ := h2 (by omega)
    refine ⟨g, eg, fun j v hv => ?_⟩
    have hxl : x.2.length = 128 := by
      obtain ⟨_, e⟩ := List.getElem?_eq_some_iff.1 hx
      rw [← e]; exact (hf.at_ hlt).2
    have hj : j < 128 := by
      have := (List.getElem?_eq_some_iff.1 hv).1
      rwa [pgCells_length, hxl] at this
    have hm : (soft.map Prod.snd)[i]? = some x.2 := by simp [hx]
    have := hb.cells hg (i * 128 + j) v (by
      rw [pgsCells, flat_at (c := 128) (fun q hq => by
        obtain ⟨y, hy, rfl⟩ := List.mem_map.1 hq
        rw [pgCells_length, (hf y hy).2]) hm hj]
      exact hv)
    rw [Addr.add_mid, Nat.zero_add] at this
    exact this
section
variable {X X' : Nat → Prop} {N : Nat} {w2 : World} {D b7 n : Nat} {d d' : Dk} {firm firm' : List Pg} {ats : List Value} {pgs : List Pg} {soft : Soft} {K : Nat → Prop} {F cF F' cF' : Nat} {va vw : Value} {wr w' : World}
/-- new memory -/
theorem PlSt.below (h : PlSt X N w2 D b7 n d firm ats pgs K F cF va vw wr) (hb : Below wr.heap.size wr w') (hX : ∀ j, X' j → X j ∨ (wr.heap.size ≤ j ∧ j < w'.heap.size)) :
    PlSt X' N w2 D b7 n d firm ats pgs (fun j => K j ∨ (wr.heap.size ≤ j ∧ j < w'.heap.size)) F cF va vw w' :=
  ⟨fun j hj => by
      rcases hX j hj with hj | hj
      · exact ⟨.inl (h.sub j hj).1, (h.sub j hj).2⟩
      · refine ⟨.inr hj, fun e => ?_, fun e => ?_, fun e => ?_⟩
        · have := h.there b7 h.ref.k7
          omega
        · have := h.there j (h.ref.ka j e).1
          omega
        · have := h.there j (h.ref.kw j e).1
          omega,
    fun j hj => .inl (h.low j hj), fun j hj => by
      rcases hj with hj | hj
      · exact Nat.lt_of_lt_of_le (h.there j hj) hb.size
      · exact hj.2,
    h.disk.more hb fun j hj => hj.imp id And.left, h.ref.keep (fun k hk => hb.block k (h.there k hk)) (fun k hk => .inl hk), h.kept.trans (Kept.of_below hb fun j hj => h.there j (h.low j hj))⟩
theorem PlAt.below (h : PlAt X N w2 D b7 n d firm soft wr) (hb : Below wr.heap.size wr w') (hX : ∀ j, X' j → X j ∨ (wr.heap.size ≤ j ∧ j < w'.heap.size)) : PlAt X' N w2 D b7 n d firm soft w' := by
  obtain ⟨K, F, cF, va, vw, h⟩ := h
  exact ⟨_, F, cF, va, vw, h.below hb hX⟩
/-- a call of the disk -/
theorem PlSt.call (h : PlSt X N w2 D b7 n d firm ats pgs K F cF va vw wr) (hd : DiskAt K w' D n d') (hk : Kept K wr w') : PlSt X N w2 D b7 n d' firm ats pgs K F cF va vw w' :=
  ⟨h.sub, h.low, h.there.kept hk, hd, h.ref.keep hk.block fun _ hk => hk, h.kept.trans (hk.mono h.low)⟩
/-- the document's disk anew -/
theorem PlSt.anew (h : PlSt X N w2 D b7 n d firm ats pgs K F cF va vw wr) (hp : Pages wr F' firm') (hF : K F') (hN : N ≤ F') (h7 : F' ≠ b7) (hw : w' = ((wr.setCell ⟨b7, 0, none⟩ (.slice (some ⟨F', 0, none⟩) n cF')).setCell ⟨b7, 1, none⟩ (.slice none 0 0)).setCell ⟨b7, 2, none⟩ (.slice none 0 0)) :
    PlSt X N w2 D b7 n d firm' [] [] K F' cF' (.slice none 0 0) (.slice none 0 0) w' := by
  subst hw
  have hr := three_cells (x0 := .slice (some ⟨F', 0, none⟩) n cF') (x1 := .slice none 0 0) (x2 := .slice none 0 0) h.ref.c0 h.ref.c1 h.ref.c2
  have ho : ∀ k, k ≠ b7 → (((wr.setCell ⟨b7, 0, none⟩ (.slice (some ⟨F', 0, none⟩) n cF')).setCell ⟨b7, 1, none⟩ (.slice none 0 0)).setCell ⟨b7, 2, none⟩ (.slice none 0 0)).heap[k]? = wr.heap[k]? := fun k hk => by
    rw [setCell_heap_other _ b7 2 _ k hk, setCell_heap_other _ b7 1 _ k hk, setCell_heap_other _ b7 0 _ k hk]
  have hs : (((wr.setCell ⟨b7, 0, none⟩ (.slice (some ⟨F', 0, none⟩) n cF')).setCell ⟨b7, 1, none⟩ (.slice none 0 0)).setCell ⟨b7, 2, none⟩ (.slice none 0 0)).heap.size = wr.heap.size := by simp [World.setCell]
  have n7 : ¬ b7 < N := by have := h.ref.n7; omega
  refine ⟨fun j hj => ⟨(h.sub j hj).1, (h.sub j hj).2.1, nofun, nofun⟩, h.low, fun k hk => by rw [hs]; exact h.there k hk, h.disk.near fun k hk _ => ho k fun e => hk (e ▸ h.ref.k7), ?_, ((h.kept.setCell n7 _).setCell n7 _).setCell n7 _⟩
  refine ⟨?_, ?_, ?_, fun j => ?_, hp.carry (ho F' h7), World.ownsRow_nil _ _ _ _, World.ownsRow_nil _ _ _ _, h.ref.k7, hF, h.ref.n7, hN, h7, fun g hg => (by cases hg), fun g hg => (by cases hg)⟩
  · simpa using hr 0 _ rfl
  · simpa using hr 1 _ rfl
  · simpa using hr 2 _ rfl
  · rw [World.frozen?_setCell, World.frozen?_setCell, World.frozen?_setCell]; exact h.ref.fz j
/-- a write's sector, behind the others -/
theorem PlSt.pushAt {w w1 : World} {g cap : Nat} {u : Value} (h : PlSt X N w2 D b7 n d firm ats pgs K F cF va vw w) (hg : w.grownBy w1 va.ownBlock)
    (hown : w1.ownsRow N 3 1 (.slice (some ⟨g, 0, none⟩) (ats.length + 1) cap) (ats.length + 1) (ats ++ [u])) (hat : va.ownBlock = some g ∨ g = w.heap.size) (hlt : g < w1.heap.size) :
    PlSt X N w2 D b7 n d firm (ats ++ [u]) pgs (fun j => K j ∨ (w.heap.size ≤ j ∧ j < w1.heap.size)) F cF (.slice (some ⟨g, 0, none⟩) (ats.length + 1) cap) vw (w1.setCell ⟨b7, 1, none⟩ (.slice (some ⟨g, 0, none⟩) (ats.length + 1) cap)) := by
  have l7 := h.there b7 h.ref.k7
  have lF := h.there F h.ref.kF
  have n7 : va.ownBlock ≠ some b7 := fun e => (h.ref.ka _ e).2.1 rfl
  have nF : va.ownBlock ≠ some F := fun e => (h.ref.ka _ e).2.2.1 rfl
  have hs : (w1.setCell ⟨b7, 1, none⟩ (.slice (some ⟨g, 0, none⟩) (ats.length + 1) cap)).heap.size = w1.heap.size := by simp [World.setCell]
  have hb : ∀ k, k < w.heap.size → va.ownBlock ≠ some k → k ≠ b7 → (w1.setCell ⟨b7, 1, none⟩ (.slice (some ⟨g, 0, none⟩) (ats.length + 1) cap)).heap[k]? = w.heap[k]? := fun k hk hn h7 =>
    (setCell_heap_other w1 b7 1 _ k h7).trans (hg.block k hk (Ne.symm hn))
  have hgg : (K g ∨ (w.heap.size ≤ g ∧ g < w1.heap.size)) ∧ g ≠ b7 ∧ g ≠ F ∧ vw.ownBlock ≠ some g := by
    rcases hat with e | e
    · exact ⟨.inl (h.ref.ka g e).1, (h.ref.ka g e).2⟩
    · refine ⟨.inr ⟨by omega, hlt⟩, by omega, by omega, fun e' => ?_⟩
      have := h.there g (h.ref.kw g e').1
      omega
  have c7 : ∀ j, w1.cell? ⟨b7, j, none⟩ = w.cell? ⟨b7, j, none⟩ := fun j => hg.cell_far ⟨b7, j, none⟩ l7 (Ne.symm n7)
  have hN : ¬ b7 < N := by have := h.ref.n7; omega
  refine ⟨fun j hj => ⟨.inl (h.sub j hj).1, (h.sub j hj).2.1, fun e => ?_, (h.sub j hj).2.2.2⟩, fun j hj => .inl (h.low j hj), fun j hj => ?_, ?_, ?_, (h.kept.grown (fun j hj => h.there j (h.low j hj)) hg fun k e hk => ?_).setCell hN _⟩
  · obtain rfl : g = j := by injection e
    rcases hat with e' | e'
    · exact (h.sub g hj).2.2.1 e'
    · have := h.there g (h.sub g hj).1
      omega
  · rw [hs]
    rcases hj with hj | hj
    · exact Nat.lt_of_lt_of_le (h.there j hj) hg.size
    · exact hj.2
  · refine (h.disk.more (L := fun j => K j ∨ (w.heap.size ≤ j ∧ j < w1.heap.size)) (Below.refl _ _) fun k hk => hk.imp id And.left).near fun k hk hl => hb k hl (fun e => hk (.inl (h.ref.ka k e).1)) fun e => hk (.inl (e ▸ h.ref.k7))
  · refine ⟨?_, ?_, ?_, fun j => ?_, h.ref.pages.carry (hb F lF nF h.ref.f7), ?_, ?_, .inl h.ref.k7, .inl h.ref.kF, h.ref.n7, h.ref.nF, h.ref.f7, fun q hq => ?_, fun q hq => ⟨.inl (h.ref.kw q hq).1, (h.ref.kw q hq).2⟩⟩
    · rw [World.cell?_setCell_other _ _ _ _ (by simp), c7]; exact h.ref.c0
    · exact World.cell?_setCell_same _ _ _ ((c7 1).trans h.ref.c1)
    · rw [World.cell?_setCell_other _ _ _ _ (by simp), c7]; exact h.ref.c2
    · rw [World.frozen?_setCell, hg.frozen_far ⟨b7, j, none⟩ l7 (Ne.symm n7)]; exact h.ref.fz j
    · rw [List.length_append, List.length_singleton]
      refine ownsRow_block hown fun q hq => setCell_heap_other w1 b7 1 _ q ?_
      obtain rfl : g = q := by injection hq
      exact hgg.2.1
    · refine ownsRow_block h.ref.what fun q hq => hb q (h.there q (h.ref.kw q hq).1) (fun e => (h.ref.ka q e).2.2.2 hq) (h.ref.kw q hq).2.1
    · obtain rfl : g = q := by injection hq
      exact hgg
  · have := (h.ref.at_.lt k e).1
    omega
/-- .. and its page -/
theorem PlSt.pushWhat {w w1 : World} {g cap : Nat} {p : Pg} (h : PlSt X N w2 D b7 n d firm ats pgs K F cF va vw w) (hg : w.grownBy w1 vw.ownBlock)
    (hown : w1.ownsRow N 35 128 (.slice (some ⟨g, 0, none⟩) (pgs.length + 1) cap) (pgs.length + 1) (pgsCells pgs ++ pgCells p)) (hat : vw.ownBlock = some g ∨ g = w.heap.size) (hlt : g < w1.heap.size) :
    PlSt X N w2 D b7 n d firm ats (pgs ++ [p]) (fun j => K j ∨ (w.heap.size ≤ j ∧ j < w1.heap.size)) F cF va (.slice (some ⟨g, 0, none⟩) (pgs.length + 1) cap) (w1.setCell ⟨b7, 2, none⟩ (.slice (some ⟨g, 0, none⟩) (pgs.length + 1) cap)) := by
  have l7 := h.there b7 h.ref.k7
  have lF := h.there F h.ref.kF
  have n7 : vw.ownBlock ≠ some b7 := fun e => (h.ref.kw _ e).2.1 rfl
  have nF : vw.ownBlock ≠ some F := fun e => (h.ref.kw _ e).2.2 rfl
  have hs : (w1.setCell ⟨b7, 2, none⟩ (.slice (some ⟨g, 0, none⟩) (pgs.length + 1) cap)).heap.size = w1.heap.size := by simp [World.setCell]
  have hb : ∀ k, k < w.heap.size → vw.ownBlock ≠ some k → k ≠ b7 → (w1.setCell ⟨b7, 2, none⟩ (.slice (some ⟨g, 0, none⟩) (pgs.length + 1) cap)).heap[k]? = w.heap[k]? := fun k hk hn h7 =>
    (setCell_heap_other w1 b7 2 _ k h7).trans (hg.block k hk (Ne.symm hn))
  have hgg : (K g ∨ (w.heap.size ≤ g ∧ g < w1.heap.size)) ∧ g ≠ b7 ∧ g ≠ F ∧ va.ownBlock ≠ some g := by
    rcases hat with e | e
    · exact ⟨.inl (h.ref.kw g e).1, (h.ref.kw g e).2.1, (h.ref.kw g e).2.2, fun e' => (h.ref.ka g e').2.2.2 e⟩
    · refine ⟨.inr ⟨by omega, hlt⟩, by omega, by omega, fun e' => ?_⟩
      have := h.there g (h.ref.ka g e').1
      omega
  have c7 : ∀ j, w1.cell? ⟨b7, j, none⟩ = w.cell? ⟨b7, j, none⟩ := fun j => hg.cell_far ⟨b7, j, none⟩ l7 (Ne.symm n7)
  have hN : ¬ b7 < N := by have := h.ref.n7; omega
  refine ⟨fun j hj => ⟨.inl (h.sub j hj).1, (h.sub j hj).2.1, (h.sub j hj).2.2.1, fun e => ?_⟩, fun j hj => .inl (h.low j hj), fun j hj => ?_, ?_, ?_, (h.kept.grown (fun j hj => h.there j (h.low j hj)) hg fun k e hk => ?_).setCell hN _⟩
  · obtain rfl : g = j := by injection e
    rcases hat with e' | e'
    · exact (h.sub g hj).2.2.2 e'
    · have := h.there g (h.sub g hj).1
      omega
  · rw [hs]
    rcases hj with hj | hj
    · exact Nat.lt_of_lt_of_le (h.there j hj) hg.size
    · exact hj.2
  · refine (h.disk.more (L := fun j => K j ∨ (w.heap.size ≤ j ∧ j < w1.heap.size)) (Below.refl _ _) fun k hk => hk.imp id And.left).near fun k hk hl => hb k hl (fun e => hk (.inl (h.ref.kw k e).1)) fun e => hk (.inl (e ▸ h.ref.k7))
  · refine ⟨?_, ?_, ?_, fun j => ?_, h.ref.pages.carry (hb F lF nF h.ref.f7), ?_, ?_, .inl h.ref.k7, .inl h.ref.kF, h.ref.n7, h.ref.nF, h.ref.f7, fun q hq => ⟨.inl (h.ref.ka q hq).1, (h.ref.ka q hq).2.1, (h.ref.ka q hq).2.2.1, fun e => ?_⟩, fun q hq => ?_⟩
    · rw [World.cell?_setCell_other _ _ _ _ (by simp), c7]; exact h.ref.c0
    · rw [World.cell?_setCell_other _ _ _ _ (by simp), c7]; exact h.ref.c1
    · exact World.cell?_setCell_same _ _ _ ((c7 2).trans h.ref.c2)
    · rw [World.frozen?_setCell, hg.frozen_far ⟨b7, j, none⟩ l7 (Ne.symm n7)]; exact h.ref.fz j
    · refine ownsRow_block h.ref.at_ fun q hq => hb q (h.there q (h.ref.ka q hq).1) (h.ref.ka q hq).2.2.2 (h.ref.ka q hq).2.1
    · rw [List.length_append, List.length_singleton, pgsCells_snoc]
      refine ownsRow_block hown fun q hq => setCell_heap_other w1 b7 2 _ q ?_
      obtain rfl : g = q := by injection hq
      exact hgg.2.1
    · obtain rfl : g = q := by injection e
      exact hgg.2.2.2 hq
    · obtain rfl : g = q := by injection hq
      exact ⟨hgg.1, hgg.2.1, hgg.2.2.1⟩
  · have := (h.ref.what.lt k e).1
    omega
theorem PlSt.wrote {i : Nat} {p : Pg} (h : PlSt X N w2 D b7 n d firm (atCells soft ++ [.int .i64 (i : Int)]) (soft.map Prod.snd ++ [p]) K F cF va vw wr) : PlAt X N w2 D b7 n d firm (soft ++ [(i, p)]) wr :=
  ⟨K, F, cF, va, vw, by simpa [atCells] using h⟩
theorem PlAt.weak (h : PlAt X N w2 D b7 n d firm soft wr) (hX : ∀ j, X' j → X j) : PlAt X' N w2 D b7 n d firm soft wr := by
  obtain ⟨K, F, cF, va, vw, h⟩ := h
  exact ⟨K, F, cF, va, vw, fun j hj => h.sub j (hX j hj), h.low, h.there, h.disk, h.ref, h.kept⟩
end
/-- an act's cells -/
def actCells (x : ActD) : List Value := .int .u8 x.what :: .int .i64 x.at_ :: (pgCells x.page ++ [.int .u32 x.mask, .int .i64 x.torn])
theorem actCells_length {x : ActD} (h : x.page.length = 128) : (actCells x).length = 132 := by simp [actCells, pgCells_length, h]
theorem actCells_one (x : ActD) : (actCells x).toArray.all (·.oneCell') = true := by
  refine all_oneCell_toArray fun v hv => ?_
  simp only [actCells, List.mem_cons, List.mem_append, List.not_mem_nil, or_false] at hv
  rcases hv with rfl | rfl | hv | rfl | rfl
  · rfl
  · rfl
  · exact pgCells_one _ v hv
  · rfl
  · rfl
theorem ActAt.range {w : World} {b q : Nat} {x : ActD} (h : ActAt w b q x) : w.rangeAt b q (actCells x) := fun j v hv => by
  match j, hv with
  | 0, hv =>
    obtain rfl := Option.some.inj hv
    exact h.c0
  | 1, hv =>
    obtain rfl := Option.some.inj hv
    exact h.c1
  | j + 2, hv =>
    have hv' : (pgCells x.page ++ [.int .u32 x.mask, .int .i64 x.torn])[j]? = some v := hv
    by_cases hj : j < 128
    · rw [List.getElem?_append_left (by rw [pgCells_length, h.len]; exact hj)] at hv'
      have := h.c2 j v hv'
      rwa [show q + (j + 2) = q + 2 + j by omega]
    · rw [List.getElem?_append_right (by rw [pgCells_length, h.len]; omega), pgCells_length, h.len] at hv'
      match e : j - 128, hv' with
      | 0, hv' =>
        obtain rfl := Option.some.inj hv'
        rw [show q + (j + 2) = q + 130 by omega]
        exact h.c3
      | 1, hv' =>
        obtain rfl := Option.some.inj hv'
        rw [show q + (j + 2) = q + 131 by omega]
        exact h.c4
      | i + 2, hv' => exact absurd hv' (by simp)
theorem ActAt.of_range {w w' : World} {b b' q q' : Nat} {x : ActD} (h : ActAt w b q x) (hr : w'.rangeAt b' q' (actCells x)) : ActAt w' b' q' x := by
  have e : ∀ j, (pgCells x.page ++ [.int .u32 x.mask, .int .i64 x.torn])[j]? = (actCells x)[j + 2]? := fun j => rfl
  refine { c0 := hr 0 _ rfl, c1 := hr 1 _ rfl, c2 := fun j v hv => ?_, c3 := ?_, c4 := ?_, len := h.len, w0 := h.w0, w1 := h.w1, w3 := h.w3, w4 := h.w4 }
  · have hj : j < 128 := by
      have := (List.getElem?_eq_some_iff.1 hv).1
      rwa [pgCells_length, h.len] at this
    have := hr (j + 2) v (by rw [← e, List.getElem?_append_left (by rw [pgCells_length, h.len]; exact hj)]; exact hv)
    rwa [show q' + (j + 2) = q' + 2 + j by omega] at this
  · have := hr 130 (.int .u32 x.mask) (by rw [← e 128, List.getElem?_append_right (by rw [pgCells_length, h.len]; exact Nat.le_refl _), pgCells_length, h.len]; rfl)
    exact this
  · have := hr 131 (.int .i64 x.torn) (by rw [← e 129, List.getElem?_append_right (by rw [pgCells_length, h.len]; decide), pgCells_length, h.len]; rfl)
    exact this
theorem wpList_buildSlice_one {P : Program} {w : World} {ops : Array Oper} {rest : List Oper} {o : Oper} {a : Act} {Q : Exit → Act → World → Prop} (hgd : o.guard = none) (t e : TypeId) (x : Operand) (ho : o.op = .buildSlice t 1 #[(0, x)])
    (c : Array Value) (hx : a.eval x = .agg c) (hu : P.underlying t = some (.slice e)) (hz : ((P.info? e).bind (·.zero)).isSome = true) (hi : (P.info? e).map (·.size) = some c.size) (h0 : 0 < c.size) (h24 : c.size ≤ 2 ^ 24)
    (h : wpList P ops Q rest (a.put o.dst (.slice (some ⟨w.heap.size, 0, none⟩) 1 1)) (w.alloc (.cells c e))) : wpList P ops Q (o :: rest) a w :=
  wpList_plain hgd fun _ hK => by
    unfold Oper.wp execOp
    simp only [ho, List.map_toArray, List.map_cons, List.map_nil, hx, Sem.run_bind, run_buildSlice_one w t e c hu hz hi h0 h24, Result.andThen_ok]
    exact hK _ _ h
theorem Tryd.infoInt : (Tryd.prog.info? 3).map (fun i => (i.zero, i.size, i.bytes)) = some (some (.int .i64 0), 1, 8) := by kernel_rfl
def zeroAct : Array Value := (actCells ⟨0, 0, zeroPg, 0, 0⟩).toArray
theorem Tryd.infoAct : (Tryd.prog.info? 39).map (fun i => (i.zero, i.size)) = some (some (.agg zeroAct), 132) := by kernel_rfl
theorem Tryd.actSize : (Tryd.prog.info? 39).map (·.size) = some 132 := by kernel_rfl
end Go.Proofs.YtflkhbdipmjmeaaDoor
