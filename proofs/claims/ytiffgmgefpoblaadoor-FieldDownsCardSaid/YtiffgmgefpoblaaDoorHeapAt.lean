/-
  A heap of pairs in memory: its items, one behind the other; what stores and new memory leave of it. Conditions: none beyond the premises of each theorem.
-/
import Derived.Test.YtiffgmgefpoblaaDoorHeapMath
import Derived.Test.YtiffgmgefpoblaaDoorCells
import Derived.OneCell
import Derived.Laws.OwnMore
namespace Go.Proofs.YtiffgmgefpoblaaDoor
open Go.RowKit Hp

abbrev itC (x : Itm) : List Value := [.int .i64 x.1, .int .i64 x.2]
abbrev itV (x : Itm) : Value := .agg #[.int .i64 x.1, .int .i64 x.2]
abbrev ptr9 (b : Nat) : Value := .pointer (some ⟨b, 0, none⟩)
def flat2 : List Itm → List Value
  | [] => []
  | x :: r => .int .i64 x.1 :: .int .i64 x.2 :: flat2 r
theorem flat2_length : ∀ L : List Itm, (flat2 L).length = L.length * 2
  | [] => rfl
  | x :: r => by simp only [flat2, List.length_cons, flat2_length r]; omega
theorem flat2_append : ∀ L M : List Itm, flat2 (L ++ M) = flat2 L ++ flat2 M
  | [], _ => rfl
  | x :: r, M => by simp only [List.cons_append, flat2, flat2_append r M]
theorem flat2_one (x : Itm) : flat2 [x] = itC x := rfl
theorem flat2_fst : ∀ {L : List Itm} {i : Nat}, i < L.length → (flat2 L)[i * 2]? = some (.int .i64 (at2 L i).1)
  | x :: r, 0, _ => rfl
  | x :: r, i + 1, h => by
    rw [show (i + 1) * 2 = i * 2 + 2 by omega]
    exact flat2_fst (L := r) (by simpa using h)
theorem flat2_snd : ∀ {L : List Itm} {i : Nat}, i < L.length → (flat2 L)[i * 2 + 1]? = some (.int .i64 (at2 L i).2)
  | x :: r, 0, _ => rfl
  | x :: r, i + 1, h => by
    rw [show (i + 1) * 2 + 1 = i * 2 + 1 + 2 by omega]
    exact flat2_snd (L := r) (by simpa using h)
theorem flat2_set : ∀ {L : List Itm} {i : Nat} {x : Itm}, ((flat2 L).set (i * 2) (.int .i64 x.1)).set (i * 2 + 1) (.int .i64 x.2) = flat2 (L.set i x)
  | [], _, _ => rfl
  | y :: r, 0, x => rfl
  | y :: r, i + 1, x => by
    rw [show (i + 1) * 2 = i * 2 + 1 + 1 by omega, show i * 2 + 1 + 1 + 1 = (i * 2 + 1) + 1 + 1 by omega]
    simp only [flat2, List.set_cons_succ, flat2_set (L := r) (i := i) (x := x)]
theorem flat2_take : ∀ (L : List Itm) (k : Nat), (flat2 L).take (k * 2) = flat2 (L.take k)
  | [], k => by simp [flat2]
  | x :: r, 0 => rfl
  | x :: r, k + 1 => by
    rw [show (k + 1) * 2 = k * 2 + 1 + 1 by omega]
    simp only [flat2, List.take_succ_cons, flat2_take r k]
theorem flat2_drop : ∀ (L : List Itm) (k : Nat), (flat2 L).drop (k * 2) = flat2 (L.drop k)
  | [], k => by simp [flat2]
  | x :: r, 0 => rfl
  | x :: r, k + 1 => by
    rw [show (k + 1) * 2 = k * 2 + 1 + 1 by omega]
    simp only [flat2, List.drop_succ_cons, flat2_drop r k]
theorem flat2_one_cell (L : List Itm) : ∀ u ∈ flat2 L, u.oneCell' = true := by
  induction L with
  | nil => intro u hu; cases hu
  | cons x r ih =>
    intro u hu
    simp only [flat2, List.mem_cons] at hu
    rcases hu with rfl | rfl | hu
    · rfl
    · rfl
    · exact ih u hu

/-- all blocks but two are as they were -/
structure But2 (p q : Option Nat) (w w' : World) : Prop where
  os : w'.os = w.os
  tape : w'.tape = w.tape
  output : w'.output = w.output
  size : w.heap.size ≤ w'.heap.size
  block : ∀ k, k < w.heap.size → some k ≠ p → some k ≠ q → w'.heap[k]? = w.heap[k]?
theorem But2.refl (p q : Option Nat) (w : World) : But2 p q w w := ⟨rfl, rfl, rfl, Nat.le_refl _, fun _ _ _ _ => rfl⟩
theorem But2.of_below {p q : Option Nat} {w w' : World} (h : Below w.heap.size w w') : But2 p q w w' := ⟨h.os, h.tape, h.output, h.size, fun k hk _ _ => h.block k hk⟩
theorem But2.of_grown {p q r : Option Nat} {w w' : World} (h : w.grownBy w' r) (hr : r = p ∨ r = q) : But2 p q w w' := ⟨h.os, h.tape, h.output, h.size, fun k hk h1 h2 => h.block k hk (by rcases hr with rfl | rfl; exact h1; exact h2)⟩
theorem But2.trans {p q r : Option Nat} {a b c : World} (h : But2 p q a b) (k : But2 p r b c) (hr : r = q ∨ ∀ g, r = some g → a.heap.size ≤ g) : But2 p q a c :=
  ⟨k.os.trans h.os, k.tape.trans h.tape, k.output.trans h.output, Nat.le_trans h.size k.size, fun i hi h1 h2 => (k.block i (Nat.lt_of_lt_of_le hi h.size) h1 (by
    rcases hr with rfl | hr
    · exact h2
    · intro e; have := hr i e.symm; omega)).trans (h.block i hi h1 h2)⟩
theorem But2.drew {p q : Option Nat} {w w' : World} (h : But2 p q w w') : But2 p q w w'.drew := ⟨h.os, h.tape, h.output, h.size, h.block⟩
/-- what is below both -/
theorem But2.below {p q : Option Nat} {w w' : World} {B : Nat} (h : But2 p q w w') (hB : B ≤ w.heap.size) (hp : ∀ k, p = some k → B ≤ k) (hq : ∀ k, q = some k → B ≤ k) : Below B w w' :=
  ⟨h.os, h.tape, h.output, h.size, fun k hk => h.block k (by omega) (fun e => by have := hp k e.symm; omega) (fun e => by have := hq k e.symm; omega)⟩

theorem dueTy : RowTy Tryd.prog 52 2 := ⟨⟨_, Tryd.underlying52, rfl⟩, by kernel_rfl⟩

/-- the heap at block hb; its row at g -/
structure HpS (w : World) (B hb g n cap : Nat) (L : List Itm) : Prop where
  head : w.heap[hb]? = some (.cells #[.slice (some ⟨g, 0, none⟩) n cap] 67 (0, 0))
  row : w.ownsRow B 52 2 (.slice (some ⟨g, 0, none⟩) n cap) n (flat2 L)
  far : B ≤ hb
  ne : g ≠ hb
/-- the heap at block hb, whatever its row -/
structure HpAt (w : World) (B hb : Nat) (v : Value) (L : List Itm) : Prop where
  head : w.heap[hb]? = some (.cells #[v] 67 (0, 0))
  row : w.ownsRow B 52 2 v L.length (flat2 L)
  far : B ≤ hb
  ne : v.ownBlock ≠ some hb
section
variable {w w' : World} {B hb g n cap : Nat} {L : List Itm} {v : Value}
theorem HpS.len (h : HpS w B hb g n cap L) : L.length = n := by
  have := h.row.1
  rw [flat2_length] at this
  omega
theorem HpS.cell (h : HpS w B hb g n cap L) : w.cell? ⟨hb, 0, none⟩ = some (.slice (some ⟨g, 0, none⟩) n cap) := cell_of_one h.head
theorem HpAt.cell (h : HpAt w B hb v L) : w.cell? ⟨hb, 0, none⟩ = some v := cell_of_one h.head
theorem HpAt.free (h : HpAt w B hb v L) : w.frozen? ⟨hb, 0, none⟩ = false := free_of_one h.head
theorem HpS.free (h : HpS w B hb g n cap L) : w.frozen? ⟨hb, 0, none⟩ = false := free_of_one h.head
theorem HpS.rowLt (h : HpS w B hb g n cap L) : B ≤ g ∧ g < w.heap.size := h.row.lt g rfl
theorem HpAt.lt (h : HpAt w B hb v L) : hb < w.heap.size := lt_of_block h.head
theorem HpS.lt (h : HpS w B hb g n cap L) : hb < w.heap.size := lt_of_block h.head
theorem HpS.at_ (h : HpS w B hb g n cap L) : HpAt w B hb (.slice (some ⟨g, 0, none⟩) n cap) L :=
  ⟨h.head, by rw [h.len]; exact h.row, h.far, by intro e; exact h.ne (Option.some.inj e)⟩
theorem HpAt.some_ (h : HpAt w B hb v L) (h0 : 0 < L.length) : ∃ g cap, v = .slice (some ⟨g, 0, none⟩) L.length cap ∧ HpS w B hb g L.length cap L := by
  obtain ⟨g, cap, rfl, _, _⟩ := h.row.form h0
  exact ⟨g, cap, rfl, h.head, h.row, h.far, fun e => h.ne (by rw [e]; rfl)⟩
/-- an item's cells -/
theorem HpS.item (h : HpS w B hb g n cap L) {i : Nat} (hi : i < n) : w.rangeAt g (i * 2) (itC (at2 L i)) := by
  have hl : i < L.length := by rw [h.len]; exact hi
  have hc := h.row.cells (g := g) rfl
  have e : ∀ j, (⟨g, 0, none⟩ : Addr).add j = ⟨g, j, none⟩ := fun j => by rw [Addr.add_mid, Nat.zero_add]
  intro j u hu
  match j, hu with
  | 0, hu =>
    obtain rfl := Option.some.inj hu
    have := hc _ _ (flat2_fst hl)
    rwa [e] at this
  | 1, hu =>
    obtain rfl := Option.some.inj hu
    have := hc _ _ (flat2_snd hl)
    rwa [e] at this
theorem HpS.there (h : HpS w B hb g n cap L) {i : Nat} (hi : i < n) : w.there g (i * 2) 2 := fun j hj => by
  refine ⟨?_, h.row.frozenAt _⟩
  have := h.item hi j (itC (at2 L i))[j] (List.getElem?_eq_getElem (by simpa using hj))
  rw [this]; rfl
/-- new memory -/
theorem HpS.carry (h : HpS w B hb g n cap L) (hb' : Below w.heap.size w w') : HpS w' B hb g n cap L := by
  refine ⟨(hb'.block hb h.lt).trans h.head, h.row.kept (row := none) ⟨hb'.os, hb'.tape, hb'.output, hb'.size, fun k hk _ => hb'.block k hk⟩ (.inr (by simp [Value.ownBlock])), h.far, h.ne⟩
theorem HpAt.carry (h : HpAt w B hb v L) (hb' : Below w.heap.size w w') : HpAt w' B hb v L := by
  refine ⟨(hb'.block hb h.lt).trans h.head, h.row.kept (row := none) ⟨hb'.os, hb'.tape, hb'.output, hb'.size, fun k hk _ => hb'.block k hk⟩ (by cases v.ownBlock <;> simp), h.far, h.ne⟩
theorem HpS.drew (h : HpS w B hb g n cap L) : HpS w.drew B hb g n cap L := ⟨h.head, h.row.drew, h.far, h.ne⟩
theorem HpAt.drew (h : HpAt w B hb v L) : HpAt w.drew B hb v L := ⟨h.head, h.row.drew, h.far, h.ne⟩
/-- an item is laid anew -/
theorem HpS.put (h : HpS w B hb g n cap L) (i : Nat) (x : Itm) : HpS (w.setCells g (i * 2) (itC x)) B hb g n cap (L.set i x) := by
  refine ⟨(setCells_far9 g h.ne.symm _ _ _).trans h.head, ?_, h.far, h.ne⟩
  have h1 := (h.row.stored (i * 2) (.int .i64 x.1)).1
  have h2 := (h1.stored (i * 2 + 1) (.int .i64 x.2)).1
  rw [flat2_set] at h2
  exact h2
theorem But2.setCell {p q : Option Nat} {w0 : World} (h : But2 p q w0 w) {a : Addr} (hg : some a.block = p ∨ some a.block = q) (u : Value) : But2 p q w0 (w.setCell a u) :=
  ⟨h.os, h.tape, h.output, by simpa [World.setCell] using h.size, fun k hk h1 h2 => (Below.heap_setCell _ _ _ _ (by rintro rfl; rcases hg with e | e; exact h1 e; exact h2 e)).trans (h.block k hk h1 h2)⟩
theorem But2.put {p q : Option Nat} {w0 : World} {b : Nat} (hg : some b = p ∨ some b = q) : ∀ (vs : List Value) (o : Nat) (w : World), But2 p q w0 w → But2 p q w0 (w.setCells b o vs)
  | [], _, _, h => h
  | v :: r, o, w, h => by
    rw [World.setCells]
    exact But2.put hg r (o + 1) _ (h.setCell (a := ⟨b, o, none⟩) hg v)
/-- a store into memory that was made since -/
theorem But2.far {p q : Option Nat} {w0 : World} {b : Nat} (h : But2 p q w0 w) (hb : w0.heap.size ≤ b) (o : Nat) (vs : List Value) : But2 p q w0 (w.setCells b o vs) := by
  have h1 := below_setCells (B := b) (b := b) (a := w) (Nat.le_refl _) vs o w (Below.refl _ _)
  exact ⟨h1.os.trans h.os, h1.tape.trans h.tape, h1.output.trans h.output, Nat.le_trans h.size h1.size, fun k hk h2 h3 => (h1.block k (by omega)).trans (h.block k hk h2 h3)⟩
end
end Go.Proofs.YtiffgmgefpoblaaDoor
