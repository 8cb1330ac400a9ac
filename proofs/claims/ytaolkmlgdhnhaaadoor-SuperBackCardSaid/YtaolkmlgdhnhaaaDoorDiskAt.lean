/-
  A disk in memory: its four cells, its two rows of sectors, its row of writes; what keeps it. Conditions: none beyond the premises of each theorem.
-/
import Derived.Test.YtaolkmlgdhnhaaaDoorTagNum
import Derived.Test.YtaolkmlgdhnhaaaDoorDiskMath
import Derived.Test.YtaolkmlgdhnhaaaDoorNums
import Derived.Deep.MidRow
import Derived.OwnWalk
import Derived.Deep.AppendLies
import Derived.Deep.DeepAppendWide
import Derived.Laws.OwnMore
namespace Go.Proofs.YtaolkmlgdhnhaaaDoor
open Go.RowKit

/-- of the blocks in K none has turned -/
structure Kept (K : Nat → Prop) (w w' : World) : Prop where
  os : w'.os = w.os
  tape : w'.tape = w.tape
  output : w'.output = w.output
  size : w.heap.size ≤ w'.heap.size
  block : ∀ k, K k → w'.heap[k]? = w.heap[k]?
/-- K's blocks are there -/
def There (K : Nat → Prop) (w : World) : Prop := ∀ k, K k → k < w.heap.size
theorem Kept.refl (K : Nat → Prop) (w : World) : Kept K w w := ⟨rfl, rfl, rfl, Nat.le_refl _, fun _ _ => rfl⟩
theorem Kept.trans {K : Nat → Prop} {a b c : World} (h : Kept K a b) (k : Kept K b c) : Kept K a c :=
  ⟨k.os.trans h.os, k.tape.trans h.tape, k.output.trans h.output, Nat.le_trans h.size k.size, fun i hi => (k.block i hi).trans (h.block i hi)⟩
theorem Kept.of_below {K : Nat → Prop} {B : Nat} {w w' : World} (h : Below B w w') (hK : ∀ k, K k → k < B) : Kept K w w' := ⟨h.os, h.tape, h.output, h.size, fun k hk => h.block k (hK k hk)⟩
theorem Kept.below {K : Nat → Prop} {B : Nat} {w w' : World} (h : Kept K w w') (hK : ∀ k, k < B → K k) : Below B w w' := ⟨h.os, h.tape, h.output, h.size, fun k hk => h.block k (hK k hk)⟩
theorem Kept.mono {K L : Nat → Prop} {w w' : World} (h : Kept K w w') (hK : ∀ k, L k → K k) : Kept L w w' := ⟨h.os, h.tape, h.output, h.size, fun k hk => h.block k (hK k hk)⟩
theorem Kept.drew {K : Nat → Prop} {a w : World} (h : Kept K a w) : Kept K a w.drew := ⟨h.os, h.tape, h.output, h.size, h.block⟩
theorem Kept.drewN {K : Nat → Prop} {a w : World} (h : Kept K a w) (n : Nat) : Kept K a (w.drewN n) := ⟨h.os, h.tape, h.output, h.size, h.block⟩
theorem Kept.setCell {K : Nat → Prop} {a w : World} (h : Kept K a w) {p : Addr} (hp : ¬ K p.block) (u : Value) : Kept K a (w.setCell p u) :=
  h.trans ⟨rfl, rfl, rfl, by simp [World.setCell], fun k hk => Below.heap_setCell _ _ _ _ (fun e => hp (e ▸ hk))⟩
theorem setCells_size (b : Nat) : ∀ (vs : List Value) (o : Nat) (w : World), (w.setCells b o vs).heap.size = w.heap.size
  | [], _, _ => rfl
  | v :: r, o, w => by rw [World.setCells, setCells_size b r (o + 1)]; simp [World.setCell]
theorem setCells_block (b : Nat) {k : Nat} (hk : k ≠ b) : ∀ (vs : List Value) (o : Nat) (w : World), (w.setCells b o vs).heap[k]? = w.heap[k]?
  | [], _, _ => rfl
  | v :: r, o, w => by rw [World.setCells, setCells_block b hk r (o + 1), Below.heap_setCell _ _ _ _ hk]
theorem setCells_same (b : Nat) : ∀ (vs : List Value) (o : Nat) (w : World), (w.setCells b o vs).os = w.os ∧ (w.setCells b o vs).tape = w.tape ∧ (w.setCells b o vs).output = w.output
  | [], _, _ => ⟨rfl, rfl, rfl⟩
  | v :: r, o, w => by rw [World.setCells]; exact setCells_same b r (o + 1) (w.setCell ⟨b, o, none⟩ v)
theorem kept_setCells (K : Nat → Prop) (w : World) {b : Nat} (hb : ¬ K b) (o : Nat) (vs : List Value) : Kept K w (w.setCells b o vs) :=
  have h := setCells_same b vs o w
  ⟨h.1, h.2.1, h.2.2, Nat.le_of_eq (setCells_size b vs o w).symm, fun _ hk => setCells_block b (fun e => hb (e ▸ hk)) vs o w⟩
theorem Kept.setCells {K : Nat → Prop} {a w : World} (h : Kept K a w) {b : Nat} (hb : ¬ K b) (o : Nat) (vs : List Value) : Kept K a (w.setCells b o vs) := h.trans (kept_setCells K w hb o vs)
theorem Kept.alloc {K : Nat → Prop} {a w : World} (h : Kept K a w) (ht : There K w) (o : Obj) : Kept K a (w.alloc o) :=
  h.trans ⟨rfl, rfl, rfl, by simp, fun k hk => Below.heap_alloc _ _ _ (ht k hk)⟩
theorem Kept.grown {K : Nat → Prop} {a w w' : World} {row : Option Nat} (h : Kept K a w) (ht : There K w) (hg : w.grownBy w' row) (hr : ∀ k, row = some k → ¬ K k) : Kept K a w' :=
  h.trans ⟨hg.os, hg.tape, hg.output, hg.size, fun k hk => hg.block k (ht k hk) (fun e => hr k e.symm hk)⟩
theorem Kept.cell {K : Nat → Prop} {w w' : World} (h : Kept K w w') {p : Addr} (hp : K p.block) : w'.cell? p = w.cell? p := World.cell?_of_block (w := w) (h.block p.block hp)
theorem Kept.frozen {K : Nat → Prop} {w w' : World} (h : Kept K w w') {p : Addr} (hp : K p.block) : w'.frozen? p = w.frozen? p := World.frozen?_of_block (w := w) (h.block p.block hp)
theorem There.kept {K : Nat → Prop} {w w' : World} (h : There K w) (hk : Kept K w w') : There K w' := fun k hk' => Nat.lt_of_lt_of_le (h k hk') hk.size
theorem There.below {K : Nat → Prop} {B : Nat} {w w' : World} (h : There K w) (hb : Below B w w') : There K w' := fun k hk' => Nat.lt_of_lt_of_le (h k hk') hb.size

/-- a sector's cells, and its value -/
def pgCells (p : Pg) : List Value := p.map (Value.int .u8)
def pgArr (p : Pg) : Array Value := (pgCells p).toArray
abbrev pgV (p : Pg) : Value := .agg (pgArr p)
theorem pgArr_size (p : Pg) : (pgArr p).size = p.length := by simp [pgArr, pgCells]
theorem pgCells_length (p : Pg) : (pgCells p).length = p.length := by simp [pgCells]
theorem pgCells_at {p : Pg} {j : Nat} {z : Int} (h : p[j]? = some z) : (pgCells p)[j]? = some (.int .u8 z) := by simp [pgCells, h]
theorem pgCells_one (p : Pg) : ∀ v ∈ pgCells p, v.oneCell' = true := by
  intro v hv
  obtain ⟨z, _, rfl⟩ := List.mem_map.1 hv
  rfl
theorem pgArr_list (p : Pg) : (pgArr p).toList = pgCells p := rfl
theorem pgArr_all (p : Pg) : (pgArr p).all (·.oneCell') = true := all_oneCell_toArray (pgCells_one p)

/-- block b begins with these sectors -/
def Pages (w : World) (b : Nat) (ps : List Pg) : Prop := ∀ i p, ps[i]? = some p → p.length = 128 ∧ w.rangeAt b (i * 128) (pgCells p)
theorem Pages.at_ {w : World} {b : Nat} {ps : List Pg} (h : Pages w b ps) {i : Nat} (hi : i < ps.length) : (pgAt ps i).length = 128 ∧ w.rangeAt b (i * 128) (pgCells (pgAt ps i)) := h i _ (pgAt_eq hi)
theorem Pages.carry {w w' : World} {b : Nat} {ps : List Pg} (h : Pages w b ps) (hb : w'.heap[b]? = w.heap[b]?) : Pages w' b ps := fun i p hp =>
  ⟨(h i p hp).1, fun j v hv => (World.cell?_of_block (w := w) (a := ⟨b, i * 128 + j, none⟩) hb).trans ((h i p hp).2 j v hv)⟩
theorem Pages.lt {w : World} {b : Nat} {ps : List Pg} (h : Pages w b ps) (hp : 0 < ps.length) : b < w.heap.size := by
  obtain ⟨h1, h2⟩ := h.at_ hp
  have hl : 0 < (pgCells (pgAt ps 0)).length := by rw [pgCells_length]; omega
  have := h2 0 _ (List.getElem?_eq_getElem hl)
  exact lt_of_cell this
theorem Pages.there {w : World} {b : Nat} {ps : List Pg} (h : Pages w b ps) (hf : ∀ j, w.frozen? ⟨b, j, none⟩ = false) {i : Nat} (hi : i < ps.length) : w.there b (i * 128) 128 := fun j hj => by
  obtain ⟨h1, h2⟩ := h.at_ hi
  refine ⟨?_, hf _⟩
  exact World.rangeAt.isSome h2 j (by rw [pgCells_length]; omega)
/-- a sector is laid -/
theorem Pages.store {w : World} {b : Nat} {ps : List Pg} (h : Pages w b ps) (hf : ∀ j, w.frozen? ⟨b, j, none⟩ = false) {i : Nat} (hi : i < ps.length) {q : Pg} (hq : q.length = 128) :
    Pages (w.setCells b (i * 128) (pgCells q)) b (ps.set i q) := fun j p hp => by
  rw [List.getElem?_set] at hp
  split at hp
  · rename_i e
    subst e
    obtain rfl : q = p := by simpa [hi] using hp
    refine ⟨hq, World.rangeAt_setCells_same w b _ _ ?_⟩
    rw [pgCells_length, hq]
    exact h.there hf hi
  · rename_i e
    refine ⟨(h j p hp).1, World.rangeAt_setCells_apart (h j p hp).2 _ _ _ (.inr ?_)⟩
    rw [pgCells_length, pgCells_length, hq, (h j p hp).1]
    omega
theorem frozen_setCells {w : World} {b : Nat} (hf : ∀ j, w.frozen? ⟨b, j, none⟩ = false) (c o : Nat) (vs : List Value) : ∀ j, (w.setCells c o vs).frozen? ⟨b, j, none⟩ = false := fun j => by rw [World.frozen?_setCells]; exact hf j

/-- writes, as cells: where, and the sector -/
def wrCells (x : Nat × Pg) : List Value := .int .i64 (x.1 : Int) :: pgCells x.2
def softCells (s : Soft) : List Value := s.flatMap wrCells
theorem flat_length {α β : Type} {f : α → List β} {c : Nat} : ∀ {l : List α}, (∀ x ∈ l, (f x).length = c) → (l.flatMap f).length = l.length * c
  | [], _ => by simp
  | x :: r, h => by
    rw [List.flatMap_cons, List.length_append, h x (by simp), flat_length fun y hy => h y (by simp [hy]), List.length_cons, Nat.add_mul]
    omega
theorem flat_at {α β : Type} {f : α → List β} {c : Nat} : ∀ {l : List α} (_ : ∀ x ∈ l, (f x).length = c) {k j : Nat} {x : α} (_ : l[k]? = some x) (_ : j < c), (l.flatMap f)[k * c + j]? = (f x)[j]?
  | [], _, k, j, x, hx, _ => by simp at hx
  | y :: r, h, 0, j, x, hx, hj => by
    obtain rfl : y = x := by simpa using hx
    rw [List.flatMap_cons, Nat.zero_mul, Nat.zero_add, List.getElem?_append_left (by rw [h y (by simp)]; exact hj)]
  | y :: r, h, k + 1, j, x, hx, hj => by
    have hy := h y (by simp)
    rw [List.flatMap_cons, List.getElem?_append_right (by rw [hy, Nat.add_mul]; omega), hy, show (k + 1) * c + j - c = k * c + j by rw [Nat.add_mul]; omega]
    exact flat_at (fun z hz => h z (by simp [hz])) (by simpa using hx) hj
theorem wrCells_length {x : Nat × Pg} (h : x.2.length = 128) : (wrCells x).length = 129 := by simp [wrCells, pgCells, h]
theorem softCells_length {n : Nat} {s : Soft} (h : Fits n s) : (softCells s).length = s.length * 129 := flat_length fun x hx => wrCells_length (h x hx).2
theorem softCells_snoc (s : Soft) (x : Nat × Pg) : softCells (s ++ [x]) = softCells s ++ wrCells x := by simp [softCells]

/-- a disk at block D, none of whose blocks is in K -/
structure DiskIs (K : Nat → Prop) (w : World) (D F S : Nat) (v : Value) (n : Nat) (d : Dk) : Prop where
  ok : d.Ok n
  pos : 1 ≤ n
  c0 : w.cell? ⟨D, 0, none⟩ = some (.slice (some ⟨F, 0, none⟩) n n)
  c1 : w.cell? ⟨D, 1, none⟩ = some (.slice (some ⟨S, 0, none⟩) n n)
  c2 : w.cell? ⟨D, 2, none⟩ = some v
  c3 : w.cell? ⟨D, 3, none⟩ = some (.bool d.down)
  fz : ∀ j, w.frozen? ⟨D, j, none⟩ = false
  ff : ∀ j, w.frozen? ⟨F, j, none⟩ = false
  fs : ∀ j, w.frozen? ⟨S, j, none⟩ = false
  firm : Pages w F d.firm
  seen : Pages w S d.seen
  soft : w.ownsRow 0 80 129 v d.soft.length (softCells d.soft)
  kd : ¬ K D
  kf : ¬ K F
  ks : ¬ K S
  kv : ∀ g, v.ownBlock = some g → ¬ K g ∧ g ≠ D ∧ g ≠ F ∧ g ≠ S
  df : D ≠ F
  ds : D ≠ S
  fsn : F ≠ S
def DiskAt (K : Nat → Prop) (w : World) (D n : Nat) (d : Dk) : Prop := ∃ F S v, DiskIs K w D F S v n d

theorem DiskIs.carry {K : Nat → Prop} {w w' : World} {D F S : Nat} {v : Value} {n : Nat} {d : Dk} (h : DiskIs K w D F S v n d) (hb : Below w.heap.size w w') : DiskIs K w' D F S v n d := by
  have hD : D < w.heap.size := lt_of_cell h.c0
  have hF := h.firm.lt (by rw [h.ok.firm]; exact h.pos)
  have hS := h.seen.lt (by rw [h.ok.seen]; exact h.pos)
  refine ⟨h.ok, h.pos, (hb.cell (p := ⟨D, 0, none⟩) hD).trans h.c0, (hb.cell (p := ⟨D, 1, none⟩) hD).trans h.c1, (hb.cell (p := ⟨D, 2, none⟩) hD).trans h.c2, (hb.cell (p := ⟨D, 3, none⟩) hD).trans h.c3,
    fun j => (hb.frozen (p := ⟨D, j, none⟩) hD).trans (h.fz j), fun j => (hb.frozen (p := ⟨F, j, none⟩) hF).trans (h.ff j), fun j => (hb.frozen (p := ⟨S, j, none⟩) hS).trans (h.fs j),
    h.firm.carry (hb.block F hF), h.seen.carry (hb.block S hS), ?_, h.kd, h.kf, h.ks, h.kv, h.df, h.ds, h.fsn⟩
  obtain ⟨h1, h2⟩ := h.soft
  refine ⟨h1, ?_⟩
  rcases h2 with h2 | ⟨g, cap, cur, e1, e2, e3, e4⟩
  · exact .inl h2
  · exact .inr ⟨g, cap, cur, e1, e2, by rw [hb.block g (Array.getElem?_eq_some_iff.1 e3).1]; exact e3, e4⟩
theorem DiskAt.carry {K : Nat → Prop} {w w' : World} {D n : Nat} {d : Dk} (h : DiskAt K w D n d) (hb : Below w.heap.size w w') : DiskAt K w' D n d := by
  obtain ⟨F, S, v, h⟩ := h
  exact ⟨F, S, v, h.carry hb⟩
/-- blocks that are there beside it -/
theorem DiskIs.more {K L : Nat → Prop} {w w' : World} {D F S : Nat} {v : Value} {n : Nat} {d : Dk} (h : DiskIs K w D F S v n d) (hb : Below w.heap.size w w') (hL : ∀ k, L k → K k ∨ w.heap.size ≤ k) : DiskIs L w' D F S v n d := by
  have h' := h.carry hb
  have hD : D < w.heap.size := lt_of_cell h.c0
  have hF := h.firm.lt (by rw [h.ok.firm]; exact h.pos)
  have hS := h.seen.lt (by rw [h.ok.seen]; exact h.pos)
  have hn : ∀ k, k < w.heap.size → ¬ K k → ¬ L k := fun k h1 h2 h3 => by
    rcases hL k h3 with h4 | h4
    · exact h2 h4
    · omega
  exact { h' with kd := hn D hD h.kd, kf := hn F hF h.kf, ks := hn S hS h.ks, kv := fun g hg => ⟨hn g (h.soft.lt g hg).2 (h.kv g hg).1, (h.kv g hg).2⟩ }
theorem DiskAt.more {K L : Nat → Prop} {w w' : World} {D n : Nat} {d : Dk} (h : DiskAt K w D n d) (hb : Below w.heap.size w w') (hL : ∀ k, L k → K k ∨ w.heap.size ≤ k) : DiskAt L w' D n d := by
  obtain ⟨F, S, v, h⟩ := h
  exact ⟨F, S, v, h.more hb hL⟩
theorem DiskAt.ok {K : Nat → Prop} {w : World} {D n : Nat} {d : Dk} (h : DiskAt K w D n d) : d.Ok n := by
  obtain ⟨F, S, v, h⟩ := h
  exact h.ok

/-- an error that has this number; nil has 0 -/
def ErrIs (w : World) (c : Int) (v : Value) : Prop := (c = 0 ∧ v = .nilIface) ∨ ∃ l, Chain w c v l
theorem ErrIs.nil (w : World) : ErrIs w 0 .nilIface := .inl ⟨rfl, rfl⟩
theorem ErrIs.carry {w w' : World} {c : Int} {v : Value} (h : ErrIs w c v) (hb : Below w.heap.size w w') : ErrIs w' c v := by
  rcases h with h | ⟨l, h⟩
  · exact .inl h
  · exact .inr ⟨l, h.carry rfl hb⟩
theorem Num_any (c : Int) (v : Value) (w : World) (h : ErrIs w c v) (hg : Laid w) : Calls Tryd.prog 11 #[v] w fun e w' => e = .returned (.int .i64 c) ∧ Below w.heap.size w w' := by
  rcases h with ⟨rfl, rfl⟩ | ⟨l, h⟩
  · exact (Num_nil w).mono fun _ _ h => ⟨h.1, by rw [← h.2]; exact Below.refl _ _⟩
  · exact Num_chain c v l w h hg
theorem Num_zero (v : Value) (w : World) (h : v = .nilIface) : Calls Tryd.prog 11 #[v] w fun e w' => e = .returned (.int .i64 0) ∧ w = w' := by
  subst h
  exact Num_nil w
end Go.Proofs.YtaolkmlgdhnhaaaDoor
