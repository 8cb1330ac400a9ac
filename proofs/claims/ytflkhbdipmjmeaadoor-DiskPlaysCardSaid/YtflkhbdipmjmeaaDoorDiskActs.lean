/-
  What an argument that is a slice of acts gives a walk; '& 7' on whole numbers. Conditions: none beyond the premises of each theorem.
-/
import Derived.Test.YtflkhbdipmjmeaaDoorDiskOpen
import Derived.Deep.Slices
import Derived.Laws.BitsAllLaws
namespace Go.Proofs.YtflkhbdipmjmeaaDoor
open Go.ChangeShapes Go.WideShapes Go.ChangeAt Go.RowKit Go.Deep

/-- an act, as data -/
structure ActD where
  what : Int
  at_ : Int
  page : Pg
  mask : Int
  torn : Int
structure ActAt (w : World) (b q : Nat) (x : ActD) : Prop where
  c0 : w.cell? ⟨b, q, none⟩ = some (.int .u8 x.what)
  c1 : w.cell? ⟨b, q + 1, none⟩ = some (.int .i64 x.at_)
  c2 : w.rangeAt b (q + 2) (pgCells x.page)
  c3 : w.cell? ⟨b, q + 130, none⟩ = some (.int .u32 x.mask)
  c4 : w.cell? ⟨b, q + 131, none⟩ = some (.int .i64 x.torn)
  len : x.page.length = 128
  w0 : (Lit.int .u8 x.what).wf = true
  w1 : (Lit.int .i64 x.at_).wf = true
  w3 : (Lit.int .u32 x.mask).wf = true
  w4 : (Lit.int .i64 x.torn).wf = true
def Acts (w : World) (A : Option Addr) (l : List ActD) : Prop := 0 < l.length → ∃ b o, A = some ⟨b, o, none⟩ ∧ b < w.heap.size ∧ ∀ i x, l[i]? = some x → ActAt w b (o + i * 132) x
theorem ActAt.carry {w w' : World} {b q : Nat} {x : ActD} (h : ActAt w b q x) (hb : w'.heap[b]? = w.heap[b]?) : ActAt w' b q x :=
  have e : ∀ j, w'.cell? ⟨b, j, none⟩ = w.cell? ⟨b, j, none⟩ := fun j => World.cell?_of_block (w := w) (a := ⟨b, j, none⟩) hb
  { c0 := (e _).trans h.c0, c1 := (e _).trans h.c1, c2 := fun j v hv => (e _).trans (h.c2 j v hv), c3 := (e _).trans h.c3, c4 := (e _).trans h.c4, len := h.len, w0 := h.w0, w1 := h.w1, w3 := h.w3, w4 := h.w4 }
theorem Acts.kept {K : Nat → Prop} {w w' : World} {A : Option Addr} {l : List ActD} (h : Acts w A l) (hk : Kept K w w') (hK : ∀ k, k < w.heap.size → K k) : Acts w' A l := fun hp => by
  obtain ⟨b, o, e, hb, hc⟩ := h hp
  exact ⟨b, o, e, Nat.lt_of_lt_of_le hb hk.size, fun i x hx => (hc i x hx).carry (hk.block b (hK b hb))⟩
theorem Acts.below {w w' : World} {A : Option Addr} {l : List ActD} (h : Acts w A l) (hk : Below w.heap.size w w') : Acts w' A l := h.kept (K := (· < w.heap.size)) (Kept.of_below hk fun _ h => h) fun _ h => h
theorem Acts.at_ {w : World} {A : Option Addr} {l : List ActD} (h : Acts w A l) {i : Nat} (hi : i < l.length) : ∃ b o, A = some ⟨b, o, none⟩ ∧ b < w.heap.size ∧ ActAt w b (o + i * 132) l[i] := by
  obtain ⟨b, o, e, hb, hc⟩ := h (by omega)
  exact ⟨b, o, e, hb, hc i _ (List.getElem?_eq_getElem hi)⟩

theorem Tryd.cellsAct : Tryd.prog.cellsOf 39 = 132 := by kernel_rfl
theorem Tryd.cellsInt : Tryd.prog.cellsOf 3 = 1 := by kernel_rfl
theorem Tryd.cellsU32 : Tryd.prog.cellsOf 37 = 1 := by kernel_rfl
theorem drop_one {l : List Value} {j : Nat} (h : j < l.length) : (l.drop j).take 1 = [l[j]] := by
  rw [List.drop_eq_getElem_cons h]; rfl
set_option maxRecDepth 100000 in
/-- a slice of acts that is read as data -/
theorem open_acts {H : Type} {enc : TypeId × Value → H} {W : World} {v : Value} {d : DataW H} {ps : List MemPlace} {r : Reach} {b0 : Nat} (hval : Value.okWide Tryd.prog W r b0 22 v)
    (h : DataW.Trod enc Tryd.prog W 0 (fun _ => true) true 22 v d ps) : ∃ (A : Option Addr) (cap : Nat) (l : List ActD), v = .slice A l.length cap ∧ Acts W A l ∧ l.length ≤ cap ∧ cap ≤ maxLen := by
  obtain ⟨A, len, cap, rfl⟩ := okWide_slice Tryd.underlying22 hval
  obtain ⟨fuel, hf⟩ := h
  rcases open_slice Tryd.underlying22 hf with ⟨hcs, _⟩ | ⟨a, len', cap', m, n, D, Pl, hcs, _, hl, hm, hmm, _, hi⟩
  · simp [Value.cells] at hcs
    obtain ⟨rfl, rfl, rfl⟩ := hcs
    exact ⟨none, 0, [], rfl, fun h => absurd h (by simp), Nat.le_refl _, by unfold maxLen; omega⟩
  · simp [Value.cells] at hcs
    obtain ⟨rfl, rfl, rfl⟩ := hcs
    rw [if_pos rfl] at hmm
    subst hmm
    have key : ∀ i, i < len → ∃ x : ActD, ∃ b o, a = ⟨b, o, none⟩ ∧ b < W.heap.size ∧ ActAt W b (o + i * 132) x := by
      intro i hlt
      obtain ⟨cs, hc, ht⟩ := hi i (by omega)
      rw [Tryd.cellsAct] at hc
      obtain ⟨_, hcl, hat⟩ := World.cells?_some hc
      obtain ⟨xs, n', _, _, hlen, hxl, hfd⟩ := DataW.trod_struct Tryd.underlying39 ht
      have hx5 : xs.length = 5 := hxl
      have at1 : ∀ k (hk : k < 5), xs[k]? = some (xs[k]'(by omega)) := fun k hk => List.getElem?_eq_getElem (by omega)
      have g0 : DataW.trod enc Tryd.prog W 0 (fun _ => true) true n' 5 ((cs.drop 0).take (Tryd.prog.cellsOf 5)) = xs[0]? := hfd 0 _ rfl
      have g1 : DataW.trod enc Tryd.prog W 0 (fun _ => true) true n' 3 ((cs.drop 1).take (Tryd.prog.cellsOf 3)) = xs[1]? := hfd 1 _ rfl
      have g2 : DataW.trod enc Tryd.prog W 0 (fun _ => true) true n' 36 ((cs.drop 2).take (Tryd.prog.cellsOf 36)) = xs[2]? := hfd 2 _ rfl
      have g3 : DataW.trod enc Tryd.prog W 0 (fun _ => true) true n' 37 ((cs.drop 130).take (Tryd.prog.cellsOf 37)) = xs[3]? := hfd 3 _ rfl
      have g4 : DataW.trod enc Tryd.prog W 0 (fun _ => true) true n' 3 ((cs.drop 131).take (Tryd.prog.cellsOf 3)) = xs[4]? := hfd 4 _ rfl
      rw [Tryd.cellsByte, drop_one (by omega), at1 0 (by omega)] at g0
      rw [Tryd.cellsInt, drop_one (by omega), at1 1 (by omega)] at g1
      rw [Tryd.cellsPage, at1 2 (by omega)] at g2
      rw [Tryd.cellsU32, drop_one (by omega), at1 3 (by omega)] at g3
      rw [Tryd.cellsInt, drop_one (by omega), at1 4 (by omega)] at g4
      obtain ⟨z0, e0, _, w0⟩ := int_of_trod1 Tryd.underlying5 g0
      obtain ⟨z1, e1, _, w1⟩ := int_of_trod1 Tryd.underlying3 g1
      obtain ⟨p, e2, hpl, _⟩ := bytes_of_trod (n := 128) Tryd.underlying36 Tryd.underlying5 Tryd.cellsByte Tryd.cellsPage g2
      obtain ⟨z3, e3, _, w3⟩ := int_of_trod1 Tryd.underlying37 g3
      obtain ⟨z4, e4, _, w4⟩ := int_of_trod1 Tryd.underlying3 g4
      have c0 := hat 0 (by omega)
      have hs : (a.add (i * 132)).add 0 = a.add (i * 132) := by simp [Addr.add]
      rw [hs, List.getElem?_eq_getElem (by omega)] at c0
      have hblk := lt_of_cell c0
      rw [block_of_add] at hblk
      have hsp0 : a.spot = none := by
        obtain ⟨cs0, hc0, _⟩ := hi 0 (by omega)
        rw [Tryd.cellsAct] at hc0
        obtain ⟨_, hcl0, hat0⟩ := World.cells?_some hc0
        have h00 := hat0 0 (by omega)
        have hs0 : (a.add (0 * 132)).add 0 = a := by simp [Addr.add]
        rw [hs0, List.getElem?_eq_getElem (by omega)] at h00
        exact World.cell?_spot h00
      obtain ⟨b, o, sp⟩ := a
      have hsp : sp = none := hsp0
      subst hsp
      have ha : ∀ j, (Addr.add ⟨b, o, none⟩ (i * 132)).add j = ⟨b, o + i * 132 + j, none⟩ := fun j => by rw [add_of_add, Addr.add_mid, Nat.add_assoc]
      have hat' : ∀ j (hj : j < 132), W.cell? ⟨b, o + i * 132 + j, none⟩ = some (cs[j]'(by omega)) := fun j hj => by
        have := hat j hj
        rw [ha, List.getElem?_eq_getElem (by omega)] at this
        exact this
      refine ⟨⟨z0, z1, p, z3, z4⟩, b, o, rfl, hblk, ?_, ?_, ?_, ?_, ?_, hpl, w0, w1, w3, w4⟩
      · have := hat' 0 (by omega)
        rw [e0] at this
        exact this
      · rw [hat' 1 (by omega), e1]
      · intro j u hu
        have hj : j < 128 := by have := (List.getElem?_eq_some_iff.1 hu).1; rw [pgCells_length, hpl] at this; exact this
        rw [Nat.add_assoc, hat' (2 + j) (by omega)]
        rw [← e2, List.getElem?_take, if_pos hj, List.getElem?_drop] at hu
        rw [← hu]
        exact (List.getElem?_eq_getElem _).symm
      · rw [hat' 130 (by omega), e3]
      · rw [hat' 131 (by omega), e4]
    have hex : ∃ f : Nat → ActD, ∀ i, i < len → ∃ b o, a = ⟨b, o, none⟩ ∧ b < W.heap.size ∧ ActAt W b (o + i * 132) (f i) :=
      ⟨fun i => if h : i < len then Classical.choose (key i h) else ⟨0, 0, [], 0, 0⟩, fun i hi => by simp only [dif_pos hi]; exact Classical.choose_spec (key i hi)⟩
    obtain ⟨f, hf'⟩ := hex
    refine ⟨some a, m, (List.range len).map f, by simp, fun hp => ?_, by simpa using hl, hm⟩
    have hp' : 0 < len := by simpa using hp
    obtain ⟨b, o, rfl, hb, _⟩ := hf' 0 hp'
    refine ⟨b, o, rfl, hb, fun i x hx => ?_⟩
    have hi' : i < len := by have := (List.getElem?_eq_some_iff.1 hx).1; simpa using this
    obtain rfl : f i = x := by simpa [hi'] using hx
    obtain ⟨b', o', e, _, hc⟩ := hf' i hi'
    injection e with e1 e2
    subst e1
    subst e2
    exact hc

theorem i64_and7 (n : Int) : bits .and .i64 n 7 = n % 8 := by
  have h7 : (BitVec.ofInt 64 7).toNat = 2 ^ 3 - 1 := by decide
  have key : (BitVec.ofInt 64 n &&& BitVec.ofInt 64 7).toNat = (n % ((2 ^ 64 : Nat) : Int)).toNat % 2 ^ 3 := by
    rw [BitVec.toNat_and, BitVec.toNat_ofInt, h7, Nat.and_two_pow_sub_one_eq_mod]
  show IntKind.i64.wrap ((BitVec.ofInt 64 n &&& BitVec.ofInt 64 7).toNat : Nat) = n % 8
  rw [key, IntKind.wrap_i64]
  omega
/-- the sector of an act of the laws on eight sectors -/
def secZ (n : Int) : Nat := (n % 8).toNat
theorem secZ_lt (n : Int) : secZ n < 8 := by unfold secZ; omega
theorem secZ_and (n : Int) : bits .and .i64 n 7 = (secZ n : Int) := by rw [i64_and7]; unfold secZ; omega
end Go.Proofs.YtflkhbdipmjmeaaDoor
