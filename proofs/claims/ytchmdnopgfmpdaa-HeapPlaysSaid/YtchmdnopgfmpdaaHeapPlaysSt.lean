/-
  What HeapPlays holds in its variables: the arguments, the heap, the plain list. Conditions: none beyond the premises of each theorem.
-/
import Derived.Test.YtchmdnopgfmpdaaHeapRef
namespace Go.Proofs.Ytchmdnopgfmpdaa
open Go.RowKit Hp

theorem refTy : RowTy Try.prog 29 2 := ⟨⟨_, Try.underlying29, rfl⟩, by kernel_rfl⟩
theorem its_range9 {w : World} {B b o : Nat} {L : List Itm} (h : ItmsAt w B (some ⟨b, o, none⟩) L) {i : Nat} (hi : i < L.length) : w.rangeAt b (o + i * 2) (itC (at2 L i)) := by
  obtain ⟨b', o', e, _, hc⟩ := h (by omega)
  cases e
  exact hc i hi
theorem its_of_row {w : World} {C n c : Nat} {A : Option Addr} {X : List Itm} {e : TypeId} (h : w.ownsRow C e 2 (.slice A n c) X.length (flat2 X)) : ItmsAt w w.heap.size A X := by
  obtain ⟨A', c', h1, h2, -⟩ := ItmsAt.own9 h (Nat.le_refl _)
  injection h1 with h1
  rw [h1]
  exact h2
/-- an item's two cells -/
structure YcS (b o : Nat) (y : Itm) (wr : World) : Prop where
  c0 : wr.cell? ⟨b, o, none⟩ = some (.int .i64 y.1)
  c1 : wr.cell? ⟨b, o + 1, none⟩ = some (.int .i64 y.2)
theorem yc_of {wr : World} {B b1 o1 k : Nat} {L : List Itm} {y : Itm} (h : ItmsAt wr B (some ⟨b1, o1, none⟩) L) (hk : k < L.length) (hy : y = at2 L k) : YcS b1 (o1 + k * 2) y wr := by
  have h1 := its_range9 h hk
  rw [← hy] at h1
  exact ⟨h1 0 _ rfl, h1 1 _ rfl⟩
theorem own_but9 {w w' : World} {B n k : Nat} {v : Value} {xs : List Value} {e : TypeId} {p q : Option Nat} (h : w.ownsRow B e k v n xs) (hb : But2 p q w w') (h1 : ∀ g, v.ownBlock = some g → p ≠ some g) (h2 : ∀ g, v.ownBlock = some g → q ≠ some g) : w'.ownsRow B e k v n xs := by
  obtain ⟨hl, h3⟩ := h
  refine ⟨hl, ?_⟩
  rcases h3 with h3 | ⟨g, cap, cur, rfl, hg, hh, r⟩
  · exact .inl h3
  · exact .inr ⟨g, cap, cur, rfl, hg, (hb.block g (lt_of_block hh) (fun e => h1 g rfl e.symm) (fun e => h2 g rfl e.symm)).trans hh, r⟩
theorem row_more {w : World} {B C n k : Nat} {v : Value} {xs : List Value} {e : TypeId} (h : w.ownsRow C e k v n xs) (hBC : B ≤ C) : w.ownsRow B e k v n xs := by
  obtain ⟨hl, h3⟩ := h
  refine ⟨hl, ?_⟩
  rcases h3 with h3 | ⟨g, cap, cur, rfl, hg, hh, r⟩
  · exact .inl h3
  · exact .inr ⟨g, cap, cur, rfl, by omega, hh, r⟩
/-- X: the plain list; E: what only the heap has as yet; F: what was popped, and the plain list has still -/
structure PlI (B C hb : Nat) (A1 A2 : Option Addr) (L : List Itm) (Ps : List Bool) (w : World) (k : Nat) (v : Value) (M : List Itm) (u6 : Value) (X E F : List Itm) (wr : World) : Prop where
  l : ItmsAt wr B A1 L
  p : BlsAt wr B A2 Ps
  hp : HpAt wr C hb v M
  isHp : IsHp M
  row : wr.ownsRow C 29 2 u6 X.length (flat2 X)
  perm : (X ++ E).Perm (F ++ M)
  rh : u6.ownBlock ≠ some hb
  rv : ∀ g, u6.ownBlock = some g → v.ownBlock ≠ some g
  below : Below B w wr
  csz : C ≤ wr.heap.size
  bc : B ≤ C
  len : X.length ≤ k
section
variable {B C hb k : Nat} {A1 A2 : Option Addr} {L : List Itm} {Ps : List Bool} {w wr w' : World} {v u6 : Value} {M X E F : List Itm}
theorem PlI.carry (h : PlI B C hb A1 A2 L Ps w k v M u6 X E F wr) (hb' : Below wr.heap.size wr w') : PlI B C hb A1 A2 L Ps w k v M u6 X E F w' :=
  ⟨h.l.below (hb'.mono (Nat.le_trans h.bc h.csz)), h.p.below (hb'.mono (Nat.le_trans h.bc h.csz)), h.hp.carry hb', h.isHp, row_carry h.row hb', h.perm, h.rh, h.rv, h.below.trans (hb'.mono (Nat.le_trans h.bc h.csz)), Nat.le_trans h.csz hb'.size, h.bc, h.len⟩
theorem PlI.drew (h : PlI B C hb A1 A2 L Ps w k v M u6 X E F wr) : PlI B C hb A1 A2 L Ps w k v M u6 X E F wr.drew :=
  ⟨h.l, h.p, h.hp.drew, h.isHp, h.row.drew, h.perm, h.rh, h.rv, h.below.drew, h.csz, h.bc, h.len⟩
/-- the heap has turned -/
theorem PlI.heap {v' : Value} {M' E' F' : List Itm} (h : PlI B C hb A1 A2 L Ps w k v M u6 X E F wr) (h1 : HpAt w' C hb v' M') (h2 : IsHp M') (h3 : But2 (some hb) v.ownBlock wr w') (h4 : v'.ownBlock = v.ownBlock ∨ ∀ g, v'.ownBlock = some g → wr.heap.size ≤ g) (hp : (X ++ E').Perm (F' ++ M')) :
    PlI B C hb A1 A2 L Ps w k v' M' u6 X E' F' w' := by
  have hbl : Below C wr w' := h3.below h.csz (fun k hk => by cases hk; exact h.hp.far) (fun k hk => (h.hp.row.lt k hk).1)
  refine ⟨h.l.below (hbl.mono h.bc), h.p.below (hbl.mono h.bc), h1, h2, own_but9 h.row h3 (fun g hg e => h.rh (by rw [hg, e])) (fun g hg e => h.rv g hg e), hp, h.rh, fun g hg e => ?_, h.below.trans (hbl.mono h.bc), Nat.le_trans h.csz h3.size, h.bc, h.len⟩
  rcases h4 with h4 | h4
  · exact h.rv g hg (by rw [← h4, e])
  · have h5 := h4 g e
    have h6 := (h.row.lt g hg).2
    omega
/-- the plain list is made anew -/
theorem PlI.list {k' : Nat} {u' : Value} {X' E' F' : List Itm} {D : Nat} (h : PlI B C hb A1 A2 L Ps w k v M u6 X E F wr) (hD : wr.heap.size ≤ D) (hb' : Below wr.heap.size wr w') (hr : w'.ownsRow D 29 2 u' X'.length (flat2 X')) (hp : (X' ++ E').Perm (F' ++ M)) (hl : X'.length ≤ k') :
    PlI B C hb A1 A2 L Ps w k' v M u' X' E' F' w' := by
  have h0 := h.carry hb'
  refine ⟨h0.l, h0.p, h0.hp, h0.isHp, row_more hr (Nat.le_trans h.csz hD), hp, fun e => ?_, fun g hg e => ?_, h0.below, h0.csz, h0.bc, hl⟩
  · have := (hr.lt _ e).1; have := h.hp.lt; omega
  · have := (hr.lt _ hg).1; have := (h.hp.row.lt _ e).2; omega
end
/-- of the plain list that is taken which the heap popped -/
theorem pop_same {X M M' : List Itm} (hp : X.Perm M) (hh : IsHp M) (h0 : 0 < M.length) (h1 : M.Perm (at2 M 0 :: M')) :
    ∃ j : Nat, lst X X.length = (j : Int) ∧ j < X.length ∧ at2 X j = at2 M 0 ∧ (X.eraseIdx j).Perm M' := by
  have hl : X.length = M.length := hp.length_eq
  obtain ⟨h2, h3, h4⟩ := lst_spec X X.length (by omega)
  obtain ⟨j, hj⟩ : ∃ j : Nat, lst X X.length = (j : Int) := ⟨(lst X X.length).toNat, by omega⟩
  rw [hj, Int.toNat_natCast] at h4
  have hjl : j < X.length := by omega
  have e : at2 X j = at2 M 0 := by
    refine le2_antisymm ?_ (hh.least_mem (hp.mem_iff.1 (at2_mem hjl)))
    obtain ⟨i, hi, e⟩ := mem_at2 (hp.mem_iff.2 (at2_mem (L := M) h0))
    rw [← e]
    exact h4 i hi
  refine ⟨j, hj, hjl, e, ?_⟩
  have h5 : X.Perm (at2 X j :: X.eraseIdx j) := by
    have h6 : X = X.take j ++ at2 X j :: X.drop (j + 1) := by
      rw [← at2_get hjl, ← List.drop_eq_getElem_cons hjl, List.take_append_drop]
    rw [List.eraseIdx_eq_take_drop_succ]
    refine (List.Perm.of_eq h6).trans ?_
    exact List.perm_middle
  rw [e] at h5
  exact List.Perm.cons_inv ((h5.symm.trans hp).trans h1)
/-- four cells: an item in a box, one in the list -/
structure PoS (b b1 o1 : Nat) (x : Itm) (wr0 wr : World) : Prop where
  b0 : wr.cell? ⟨b, 0, none⟩ = some (.int .i64 x.1)
  b1' : wr.cell? ⟨b, 1, none⟩ = some (.int .i64 x.2)
  m0 : wr.cell? ⟨b1, o1, none⟩ = some (.int .i64 x.1)
  m1 : wr.cell? ⟨b1, o1 + 1, none⟩ = some (.int .i64 x.2)
  below : Below wr0.heap.size wr0 wr
end Go.Proofs.Ytchmdnopgfmpdaa
