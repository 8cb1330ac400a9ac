/-
  The contract of Parse (layer 14). Conditions: none beyond the premises of each theorem.
-/
import Derived.Test.YtoempilmofbhdaaDoorGridKind
import Derived.Test.YtoempilmofbhdaaDoorGridLines
import Derived.Test.YtoempilmofbhdaaDoorRow
import Derived.Lib.AppendStr
namespace Go.Proofs.YtoempilmofbhdaaDoor
open Go Go.RowKit Go.Shelf

attribute [local go_sem] Oper.semAt_some

/-- a line of a short text -/
abbrev Line := { x : ByteArray // x.size ≤ 72 }
theorem lines_stops (q : Nat) (s : ByteArray) (hs : s.size ≤ 72) (w : World) (hq : Boxed w q 9 (.string s)) :
    SeqBox Fence.wide 3 Tryd.prog 36 #[.pointer (some ⟨q, 0, none⟩)] (fun x : Line => #[.string x.1]) (KeepBox q) (fun ys => ys.map (·.1) = texts (lines s.data.toList)) (fun pre => pre.map (·.1) <+: texts (lines s.data.toList)) s.size q w := by
  intro l J Jx V hV hJ hJs hY h0
  refine (lines_in l q s (by unfold maxLen; omega) (fun p U => ∃ p' : List Line, p'.map (·.1) = p ∧ J p' U) (fun p U => ∃ p' : List Line, p'.map (·.1) = p ∧ Jx p' U) ?_ ?_ ?_ V ((hV.block q hq.lt).trans hq) ⟨[], rfl, h0⟩).mono ?_
  · rintro p U v ⟨p', e, h⟩
    exact ⟨p', e, hJs _ _ _ h⟩
  · rintro p U ⟨p', e, h⟩
    exact ⟨p', e, hJ p' U U.drew none h ⟨rfl, rfl, rfl, Nat.le_refl _, fun _ _ _ => rfl⟩ (fun r e => by cases e)⟩
  · rintro pre x U ⟨p', e, h⟩ hl hx
    obtain ⟨fn, tmps, assign, body, hy, hR⟩ := hY p' ⟨x, by omega⟩ U h (by rw [← e] at hl; simpa using hl)
    refine ⟨fn, tmps, assign, body, hy, hR.mono ?_⟩
    rintro e2 U' (⟨h1, h2, h3⟩ | ⟨h1, h2⟩)
    · exact .inl ⟨h1, ⟨_, by rw [List.map_append, e]; rfl, h2⟩, h3⟩
    · exact .inr ⟨h1, ⟨_, by rw [List.map_append, e]; rfl, h2⟩⟩
  · rintro e U ⟨h1, ⟨ys, h2, p', h3, h4⟩ | ⟨pre, h2, p', h3, h4⟩⟩
    · exact ⟨h1, .inl ⟨p', h3.trans h2, h4⟩⟩
    · exact ⟨h1, .inr ⟨p', by show _ <+: _; rw [h3]; exact h2, h4⟩⟩
/-- the rows of lines -/
def ended (l : List (List UInt8)) : List (List UInt8) := l.map (· ++ [10])
theorem rows_lines : ∀ {s : List UInt8} {l : List (List UInt8)}, Grid.rows s = some l ↔ lines s = ended l ∧ ∀ r ∈ l, ∀ c ∈ r, c ≠ 10 := by
  intro s
  induction s with
  | nil =>
    intro l
    constructor
    · intro h; cases h; exact ⟨rfl, fun r hr => by cases hr⟩
    · rintro ⟨h, _⟩
      cases l with
      | nil => rfl
      | cons r l => unfold lines ended at h; simp at h
  | cons c s ih =>
    intro l
    constructor
    · intro h
      have h2 := (Grid.rows_some h).2
      refine ⟨?_, h2⟩
      rw [Grid.rows] at h
      rw [lines]
      by_cases e : c = 10
      · rw [if_pos e] at h ⊢
        cases hr : Grid.rows s with
        | none => rw [hr] at h; cases h
        | some m =>
          rw [hr] at h
          cases h
          rw [(ih.1 hr).1]
          rfl
      · rw [if_neg e] at h ⊢
        cases hr : Grid.rows s with
        | none => rw [hr] at h; cases h
        | some m =>
          rw [hr] at h
          cases m with
          | nil => cases h
          | cons r m =>
            cases h
            rw [(ih.1 hr).1]
            rfl
    · rintro ⟨h, h2⟩
      rw [lines] at h
      rw [Grid.rows]
      by_cases e : c = 10
      · rw [if_pos e] at h ⊢
        cases l with
        | nil => cases h
        | cons r l =>
          unfold ended at h
          rw [List.map_cons] at h
          injection h with h1 h3
          have hr : r = [] := by
            cases r with
            | nil => rfl
            | cons d r =>
              have := congrArg List.length h1
              simp at this
          subst hr
          rw [ih.2 ⟨h3, fun r hr => h2 r (by simp [hr])⟩]
          rfl
      · rw [if_neg e] at h ⊢
        cases l with
        | nil => split at h <;> cases h
        | cons r l =>
          unfold ended at h
          rw [List.map_cons] at h
          cases hl : lines s with
          | nil =>
            rw [hl] at h
            injection h with h1 h3
            cases r with
            | nil => injection h1 with h4; exact absurd h4 e
            | cons d r =>
              have := congrArg List.length h1
              simp at this
          | cons x m =>
            rw [hl] at h
            injection h with h1 h3
            cases r with
            | nil => injection h1 with h4; exact absurd h4 e
            | cons d r =>
              injection h1 with h4 h5
              subst h4
              have hih := (@ih (r :: l)).2 ⟨by rw [hl, h5, h3]; rfl, fun q hq => by
                rcases List.mem_cons.1 hq with rfl | hq
                · exact fun e he => h2 (c :: q) (by simp) e (by simp [he])
                · exact h2 q (by simp [hq])⟩
              rw [hih]
/-- the length of the first row -/
def wid (l : List (List UInt8)) : Nat := (l.head?.map List.length).getD 0
def Even (l : List (List UInt8)) : Prop := ∀ r ∈ l, r.length = wid l
/-- lines that all have ends, and one length -/
def Good (L : List (List UInt8)) : Prop := ∃ l, L = ended l ∧ Even l
theorem wid_append (l : List (List UInt8)) (m : List (List UInt8)) (h : l ≠ []) : wid (l ++ m) = wid l := by
  cases l with
  | nil => exact absurd rfl h
  | cons r l => rfl
theorem Good.prefix_ {L M : List (List UInt8)} (h : Good (L ++ M)) : Good L := by
  obtain ⟨l, he, hev⟩ := h
  refine ⟨l.take L.length, ?_, ?_⟩
  · have := congrArg (List.take L.length) he
    rw [List.take_left] at this
    unfold ended at this ⊢
    rw [List.map_take]
    exact this
  · intro r hr
    have h1 := hev r (List.mem_of_mem_take hr)
    rw [h1]
    have hne : l.take L.length ≠ [] := List.ne_nil_of_mem hr
    have := wid_append (l.take L.length) (l.drop L.length) hne
    rw [List.take_append_drop] at this
    exact this
open Classical in
/-- what Parse answers: the sides and the cells -/
noncomputable def parseM (s : List UInt8) : Option (Nat × Nat × List UInt8) := if s.length ≤ 72 then match Grid.rows s with
  | none => none
  | some l => if Even l ∧ Grid.Right (wid l) l.length l.flatten then some (wid l, l.length, l.flatten) else none
  else none
def ofBytes (l : List UInt8) : ByteArray := ⟨l.toArray⟩
theorem ofBytes_size (l : List UInt8) : (ofBytes l).size = l.length := by simp [ofBytes, ByteArray.size]
/-- an answer of Parse -/
def ParsePost (o : Option (Nat × Nat × List UInt8)) (w : World) (e : Ending) (w' : World) : Prop :=
  Below w.heap.size w w' ∧ match o with
  | some (a, h, c) => e = .returned (.tuple #[.agg #[.int .i64 (a : Int), .int .i64 (h : Int), .string (ofBytes c)], .nilIface])
  | none => ∃ v, e = .returned (.tuple #[.agg #[.int .i64 0, .int .i64 0, .string ⟨#[]⟩], v]) ∧ ErrFrom w' w.heap.size 2 v
def byteCells (l : List UInt8) : List Value := l.map fun c => Value.int .u8 (c.toNat : Int)
/-- between two lines: l, the rows so far -/
structure PSt (w0 : World) (b2 b3 b4 b5 q : Nat) (l : List (List UInt8)) (v u : Value) (W : World) : Prop where
  even : Even l
  r2 : MapAt W b2 0 0 ⟨#[]⟩
  r3 : Boxed W b3 26 .nilIface
  m : MapAt W b4 (wid l : Int) (l.length : Int) ⟨#[]⟩
  c : Boxed W b5 46 v
  row : W.ownsRow w0.heap.size 5 1 v l.flatten.length (byteCells l.flatten)
  q_ : Boxed W q 9 u
  below : Below w0.heap.size w0 W
  l2 : w0.heap.size ≤ b2
  l3 : w0.heap.size ≤ b3
  l4 : w0.heap.size ≤ b4
  l5 : w0.heap.size ≤ b5
  lq : w0.heap.size ≤ q
  ne : b2 ≠ b3 ∧ b2 ≠ b4 ∧ b2 ≠ b5 ∧ b3 ≠ b4 ∧ b3 ≠ b5 ∧ b4 ≠ b5 ∧ q ≠ b2 ∧ q ≠ b3 ∧ q ≠ b4 ∧ q ≠ b5
def PI (w0 : World) (b2 b3 b4 b5 q : Nat) (pre : List Line) (W : World) : Prop := ∃ l v u, pre.map (·.1) = texts (ended l) ∧ PSt w0 b2 b3 b4 b5 q l v u W
def PX (w0 : World) (b2 b3 : Nat) (pre : List Line) (W : World) : Prop := ¬ Good (pre.map fun x => x.1.data.toList) ∧ MapAt W b2 0 0 ⟨#[]⟩ ∧ ∃ v, Boxed W b3 26 v ∧ ErrFrom W w0.heap.size 2 v ∧ Below w0.heap.size w0 W
theorem cells_kept {W W' : World} {b : Nat} {c : Array Value} {t : TypeId} {x : Nat × Nat} {row : Option Nat} (h : W.heap[b]? = some (.cells c t x)) (hg : W.grownBy W' row) (hr : ∀ r, row = some r → ∃ o : Obj, W.heap[r]? = some o ∧ o.isCells = false) : W'.heap[b]? = some (.cells c t x) := by
  refine (hg.block b (Array.getElem?_eq_some_iff.1 h).1 fun e => ?_).trans h
  obtain ⟨o, ho, hc⟩ := hr b e.symm
  rw [h] at ho
  cases ho
  cases hc
theorem ownsRow_cells {W W' : World} {base e size k : Nat} {v : Value} {xs : List Value} {row : Option Nat} (h : W.ownsRow base e size v k xs) (hg : W.grownBy W' row) (hr : ∀ r, row = some r → ∃ o : Obj, W.heap[r]? = some o ∧ o.isCells = false) : W'.ownsRow base e size v k xs := by
  refine h.kept hg ?_
  rcases h.2 with ⟨rfl, _⟩ | ⟨g, cap, cur, rfl, _, hgb, _⟩
  · exact .inl rfl
  · refine .inr fun e' => ?_
    obtain ⟨o, ho, hc⟩ := hr g (by simpa [Value.ownBlock] using e'.symm)
    rw [hgb] at ho; cases ho; cases hc
theorem chain_kept {W W' : World} {lo : Nat} {c : Int} {v : Value} {row : Option Nat} (h : ChainFrom W lo c v) (hg : W.grownBy W' row) (hr : ∀ r, row = some r → ∃ o : Obj, W.heap[r]? = some o ∧ o.isCells = false) : ChainFrom W' lo c v := by
  induction h with
  | base => exact .base
  | tag b s t x h0 h1 h2 h3 _ ih => exact .tag b s t x h0 (Nat.lt_of_lt_of_le h1 hg.size) (cell_kept h2 hg hr) (cell_kept h3 hg hr) ih
theorem err_kept {W W' : World} {lo : Nat} {c : Int} {v : Value} {row : Option Nat} (h : ErrFrom W lo c v) (hg : W.grownBy W' row) (hr : ∀ r, row = some r → ∃ o : Obj, W.heap[r]? = some o ∧ o.isCells = false) : ErrFrom W' lo c v := by
  rcases h with h | ⟨hc, h⟩
  · exact .inl h
  · exact .inr ⟨hc, chain_kept h hg hr⟩
theorem PI_own {w0 : World} {b2 b3 b4 b5 q B : Nat} (hB : w0.heap.size ≤ B) : OwnFrom B (PI w0 b2 b3 b4 b5 q) := by
  rintro pre W W' row ⟨l, v, u, he, h⟩ hg hr
  have hr' : ∀ r, row = some r → ∃ o : Obj, W.heap[r]? = some o ∧ o.isCells = false := fun r e => (hr r e).2
  exact ⟨l, v, u, he, h.even, cells_kept h.r2 hg hr', cells_kept h.r3 hg hr', cells_kept h.m hg hr', cells_kept h.c hg hr', ownsRow_cells h.row hg hr', cells_kept h.q_ hg hr',
    h.below.grown hg h.below.size (fun j e => Nat.le_trans hB (hr j e).1), h.l2, h.l3, h.l4, h.l5, h.lq, h.ne⟩
theorem PX_own {w0 : World} {b2 b3 B : Nat} (hB : w0.heap.size ≤ B) : OwnFrom B (PX w0 b2 b3) := by
  rintro pre W W' row ⟨hn, h2, v, h3, he, hb⟩ hg hr
  have hr' : ∀ r, row = some r → ∃ o : Obj, W.heap[r]? = some o ∧ o.isCells = false := fun r e => (hr r e).2
  exact ⟨hn, cells_kept h2 hg hr', v, cells_kept h3 hg hr', err_kept he hg hr', hb.grown hg hb.size (fun j e => Nat.le_trans hB (hr j e).1)⟩
theorem PI_set {w0 : World} {b2 b3 b4 b5 q : Nat} (pre : List Line) (U : World) (v : Value) (h : PI w0 b2 b3 b4 b5 q pre U) : PI w0 b2 b3 b4 b5 q pre (U.setCell ⟨q, 0, none⟩ v) := by
  obtain ⟨l, v0, u, he, h⟩ := h
  obtain ⟨_, _, _, _, _, _, n2, n3, n4, n5⟩ := h.ne
  have hset := grownBy_setCell' U q v
  have hq := h.q_.lt
  refine ⟨l, v0, v, he, h.even, h.r2.set (Ne.symm n2) v, (Below.heap_setCell _ _ _ _ (by show b3 ≠ q; exact Ne.symm n3)).trans h.r3, h.m.set (Ne.symm n4) v, (Below.heap_setCell _ _ _ _ (by show b5 ≠ q; exact Ne.symm n5)).trans h.c, ?_, h.q_.set v, ?_, h.l2, h.l3, h.l4, h.l5, h.lq, h.ne⟩
  · refine h.row.kept hset ?_
    rcases h.row.2 with ⟨rfl, _⟩ | ⟨g, cap, cur, rfl, _, hgb, _⟩
    · exact .inl rfl
    · refine .inr fun e => ?_
      obtain rfl : q = g := by simpa [Value.ownBlock] using e.symm
      rw [show U.heap[q]? = _ from h.q_] at hgb
      injection hgb with hgb
      injection hgb with _ e2
      exact absurd e2 (by decide)
  · exact h.below.setCell (p := ⟨q, 0, none⟩) h.lq v
theorem heap_set_same {W : World} {b : Nat} {c : Array Value} {t : TypeId} {x : Nat × Nat} (h : W.heap[b]? = some (.cells c t x)) (j : Nat) (v : Value) : (W.setCell ⟨b, j, none⟩ v).heap[b]? = some (.cells (c.setIfInBounds j v) t x) := by
  obtain ⟨hlt, hk⟩ := Array.getElem?_eq_some_iff.1 h
  show (W.heap.modify b _)[b]? = _
  rw [Array.getElem?_eq_getElem (by rw [Array.size_modify]; exact hlt), Array.getElem_modify_self, hk]
  rfl
theorem size_set9 (W : World) (a : Addr) (v : Value) : (W.setCell a v).heap.size = W.heap.size := by simp [World.setCell]
/-- the world behind 'return Map{}, fault' -/
theorem err_exit {w0 w3 W : World} {b2 b3 lo : Nat} {v u : Value} (h2 : MapAt w3 b2 0 0 ⟨#[]⟩) (h3 : Boxed w3 b3 26 u) (he : ErrFrom w3 lo 2 v) (l2 : b2 < lo) (l3 : b3 < lo) (ll : w0.heap.size ≤ lo) (k2 : w0.heap.size ≤ b2) (k3 : w0.heap.size ≤ b3) (hne : b2 ≠ b3) (hb : Below w0.heap.size w0 w3)
    (hW : W = (((w3.setCell ⟨b2, 0, none⟩ (.int .i64 0)).setCell ⟨b2, 1, none⟩ (.int .i64 0)).setCell ⟨b2, 2, none⟩ (.string ⟨#[]⟩)).setCell ⟨b3, 0, none⟩ v) :
    MapAt W b2 0 0 ⟨#[]⟩ ∧ Boxed W b3 26 v ∧ ErrFrom W w0.heap.size 2 v ∧ Below w0.heap.size w0 W := by
  subst hW
  have o3 : ∀ (X : World) (j : Nat) (y : Value), (X.setCell ⟨b2, j, none⟩ y).heap[b3]? = X.heap[b3]? := fun X j y => Below.heap_setCell _ _ _ _ (by show b3 ≠ b2; exact Ne.symm hne)
  refine ⟨?_, ?_, ?_, ?_⟩
  · have a := heap_set_same (heap_set_same (heap_set_same h2 0 (.int .i64 0)) 1 (.int .i64 0)) 2 (.string ⟨#[]⟩)
    exact (Below.heap_setCell _ _ _ _ (by show b2 ≠ b3; exact hne)).trans a
  · have a : Boxed (((w3.setCell ⟨b2, 0, none⟩ (.int .i64 0)).setCell ⟨b2, 1, none⟩ (.int .i64 0)).setCell ⟨b2, 2, none⟩ (.string ⟨#[]⟩)) b3 26 u := by
      exact (o3 _ _ _).trans ((o3 _ _ _).trans ((o3 _ _ _).trans h3))
    exact a.set v
  · refine (ErrFrom.carry he (by simp only [size_set9]; exact Nat.le_refl _) fun b hl _ => ?_).mono ll
    refine (Below.heap_setCell _ _ _ _ (by show b ≠ b3; omega)).trans ?_
    exact (Below.heap_setCell _ _ _ _ (by show b ≠ b2; omega)).trans ((Below.heap_setCell _ _ _ _ (by show b ≠ b2; omega)).trans (Below.heap_setCell _ _ _ _ (by show b ≠ b2; omega)))
  · exact (((hb.setCell (p := ⟨b2, 0, none⟩) k2 _).setCell (p := ⟨b2, 1, none⟩) k2 _).setCell (p := ⟨b2, 2, none⟩) k2 _).setCell (p := ⟨b3, 0, none⟩) k3 _
theorem parse_results {tmps : Array Value} {W : World} {b2 b3 : Nat} {a h : Int} {c : ByteArray} {v : Value} (t2 : tmps.getD 2 undef = .pointer (some ⟨b2, 0, none⟩)) (t3 : tmps.getD 3 undef = .pointer (some ⟨b3, 0, none⟩)) (hm : MapAt W b2 a h c) (hx : Boxed W b3 26 v) :
    (results Tryd.f13 tmps).run Tryd.prog W = .ok (.tuple #[.agg #[.int .i64 a, .int .i64 h, .string c], v]) W := by
  have c0 := hm.w_
  have c1 := hm.h_
  have c2 := hm.s_
  have c3 := hx.cell
  have t2' : tmps[2]?.getD undef = .pointer (some ⟨b2, 0, none⟩) := by simpa using t2
  have t3' : tmps[3]?.getD undef = .pointer (some ⟨b3, 0, none⟩) := by simpa using t3
  simp [results, Tryd.f13, go_sem, t2', t3', c0, c1, c2, c3]
set_option maxRecDepth 100000 in
theorem Parse_long (s : ByteArray) (hs : 72 < s.size) (hs2 : s.size ≤ maxLen) (w : World) : Calls Tryd.prog 13 #[.string s] w (ParsePost none w) := by
  unfold maxLen at hs2
  obtain ⟨w1, HW1⟩ : ∃ w1, Hid (w1 = w.alloc (.cells #[.int .i64 0, .int .i64 0, .string ⟨#[]⟩] 29)) := ⟨_, Lib.hid rfl⟩
  obtain ⟨w2, HW2⟩ : ∃ w2, Hid (w2 = w1.alloc (.cells #[.nilIface] 26)) := ⟨_, Lib.hid rfl⟩
  obtain ⟨b2, HB2⟩ : ∃ b, Hid (b = w.heap.size) := ⟨_, Lib.hid rfl⟩
  obtain ⟨b3, HB3⟩ : ∃ b, Hid (b = w.heap.size + 1) := ⟨_, Lib.hid rfl⟩
  have HM2 : Hid (MapAt w2 b2 0 0 ⟨#[]⟩) := Lib.hid (by rw [HW2.out, HW1.out, HB2.out]; exact MapAt.alloc (heap_alloc_new w _) _)
  have HX2 : Hid (Boxed w2 b3 26 .nilIface) := Lib.hid (by
    have := Boxed.new w1 26 .nilIface
    rw [← HW2.out] at this
    rwa [HB3.out, show w.heap.size + 1 = w1.heap.size by rw [HW1.out]; simp])
  have HBL : Hid (Below w.heap.size w w2) := Lib.hid (by rw [HW2.out, HW1.out]; exact ((Below.refl _ w).alloc (Nat.le_refl _) _).alloc (by simp) _)
  have HNE : Hid (b2 ≠ b3 ∧ w.heap.size ≤ b2 ∧ w.heap.size ≤ b3) := Lib.hid (by rw [HB2.out, HB3.out]; omega)
  go_enter Tryd.func13, Tryd.ntmps13
  go_upto_region 1 with (fail)
  rw [← HB3.out, ← HB2.out, ← HW1.out, ← HW2.out]
  clear HB3 HB2 HW1 HW2
  go_wp2_with fail
  refine (GridFault_any 2 (by decide) _).mono ?_
  rintro e w3 ⟨v, rfl, hv, hb⟩
  obtain ⟨ty, x, rfl⟩ := hv.some (by decide)
  have HV := Lib.hid hv
  have HB := Lib.hid hb
  have hm3 : MapAt w3 b2 0 0 ⟨#[]⟩ := (hb.block b2 HM2.out.lt).trans HM2.out
  have hx3 : Boxed w3 b3 26 .nilIface := (hb.block b3 HX2.out.lt).trans HX2.out
  clear hv hb
  have c0 := hm3.w_
  have c1 := hm3.h_
  have c2 := hm3.s_
  have c3 := hx3.cell
  have f0 : ∀ j, w3.frozen? ⟨b2, j, none⟩ = false := fun j => by simp [World.frozen?, show w3.heap[b2]? = _ from hm3]
  have f3 := hx3.frozen
  have fn0 := f0 0
  have fn1 := f0 1
  have fn2 := f0 2
  obtain ⟨n1, n2, n3⟩ := HNE.out
  have n1' := Ne.symm n1
  go_wp2_with fail
  obtain ⟨e1, e2, e3, e4⟩ := err_exit (w0 := w) hm3 hx3 HV.out HM2.out.lt HX2.out.lt HBL.out.size n2 n3 n1 (HBL.out.trans (HB.out.mono HBL.out.size)) rfl
  exact bodyPost_ret (parse_results rfl rfl e1 e2) rfl ⟨e4, _, rfl, e3⟩
theorem grown_set (W : World) (b j : Nat) (v : Value) : W.grownBy (W.setCell ⟨b, j, none⟩ v) (some b) :=
  ⟨rfl, rfl, rfl, by rw [size_set9]; exact Nat.le_refl _, fun k _ hk => Below.heap_setCell _ _ _ k (fun e => hk (by rw [e]))⟩
theorem wpListIn_append_str {F : Fence} {m : Nat} {P : Program} (w : World) {ops : Array Oper} {rest : List Oper} {o : Oper} {a : Act} {Q : Exit → Act → World → Prop} (hgd : o.guard = none) (sl x : Operand) (t u : TypeId)
    (ho : o.op = .call { callee := .builtin .append, args := #[sl, x], argTypes := #[t, u] })
    (base : Nat) (e : TypeId) (i : TypeInfo) (ht : P.underlying t = some (.slice e)) (hu : P.underlying u = some .string) (hi : P.info? e = some i) (hz : i.zero = some (.int .u8 0))
    (hsize : i.size = 1) (hby : i.bytes = 1)
    (v : Value) (n : Nat) (xs : List Value) (hs : a.eval sl = v) (hown : w.ownsRow base e 1 v n xs) (s : ByteArray) (hx : a.eval x = .string s)
    (h63 : n + s.size ≤ maxLen) (hbytes : n + s.size ≤ 140737488355328) (hbase : base ≤ w.heap.size)
    (h : ∀ v' w', w'.ownsRow base e 1 v' (n + s.size) (xs ++ Lib.strCells s) → w.grownBy w' v.ownBlock → wpListIn F m P ops Q rest (a.put o.dst v') w') : wpListIn F m P ops Q (o :: rest) a w := by
  refine wpListIn_plain hgd fun K hK => ?_
  obtain ⟨v', w', hr, h2, h3, _⟩ := Lib.run_append_own_string (P := P) w base t u o.type e i ht hu hi hz hsize hby v n xs hown s h63 hbytes hbase
  unfold Oper.wpIn
  refine ⟨?_, ?_⟩
  · simp [Oper.about, ho, resolve, Target.leads, Sem.run_pure]
  · rw [Oper.semAt_plain F _ _ (by rw [ho]; intro c hc'; cases hc')]
    simp [execOp, ho, resolve, invoke, builtin, hs, hx, hr, Result.andThen]
    exact hK _ _ (h v' w' h2 h3)
theorem row_form {w : World} {base e k : Nat} {v : Value} {xs : List Value} (h : w.ownsRow base e 1 v k xs) : ∃ A cap, v = .slice A k cap := by
  rcases h.2 with ⟨rfl, rfl⟩ | ⟨g, cap, cur, rfl, _⟩
  · exact ⟨_, _, rfl⟩
  · exact ⟨_, _, rfl⟩
theorem not_rowB {W : World} {B base k : Nat} {t : TypeId} {u v : Value} {xs : List Value} (ht : t ≠ 5) (hb : W.heap[B]? = some (.cells #[u] t (0, 0))) (h : W.ownsRow base 5 1 v k xs) : some B ≠ v.ownBlock := fun e => by
  rcases h.2 with ⟨rfl, _⟩ | ⟨g, cap, cur, rfl, _, hgb, _⟩
  · simp [Value.ownBlock] at e
  · obtain rfl : B = g := by simpa [Value.ownBlock] using e
    rw [hb] at hgb
    injection hgb with hgb
    injection hgb with _ e2
    exact ht e2
theorem not_rowM {W : World} {B base k : Nat} {a h : Int} {c : ByteArray} {v : Value} {xs : List Value} (hb : MapAt W B a h c) (hr : W.ownsRow base 5 1 v k xs) : some B ≠ v.ownBlock := fun e => by
  rcases hr.2 with ⟨rfl, _⟩ | ⟨g, cap, cur, rfl, _, hgb, _⟩
  · simp [Value.ownBlock] at e
  · obtain rfl : B = g := by simpa [Value.ownBlock] using e
    rw [show W.heap[B]? = _ from hb] at hgb
    injection hgb with hgb
    injection hgb with _ e2
    exact absurd e2 (by decide)
theorem ended_snoc (l : List (List UInt8)) (r : List UInt8) : ended (l ++ [r]) = ended l ++ [r ++ [10]] := by unfold ended; simp
theorem map_free {W : World} {b : Nat} {a h : Int} {c : ByteArray} (hm : MapAt W b a h c) (j : Nat) : W.frozen? ⟨b, j, none⟩ = false := by simp [World.frozen?, show W.heap[b]? = _ from hm]
/-- one line more -/
theorem PSt.next {w0 : World} {b2 b3 b4 b5 q : Nat} {rows : List (List UInt8)} {v v' u : Value} {W W2 w1 : World} {pre : List Line} {x : Line} {row : List UInt8} (h : PSt w0 b2 b3 b4 b5 q rows v u W) (he : pre.map (·.1) = texts (ended rows)) (hx : x.1.data.toList = row ++ [10])
    (hc : rows = [] ∨ row.length = wid rows) (hm : MapAt W2 b4 (wid (rows ++ [row]) : Int) ((rows ++ [row]).length : Int) ⟨#[]⟩) (hg : W.grownBy W2 (some b4))
    (hown : w1.ownsRow w0.heap.size 5 1 v' (rows.flatten.length + (ofBytes row).size) (byteCells rows.flatten ++ Lib.strCells (ofBytes row))) (hgr : W2.grownBy w1 v.ownBlock) :
    seqEnd (KeepBox q) (PI w0 b2 b3 b4 b5 q) (PX w0 b2 b3) (pre ++ [x]) W .normal (w1.setCell ⟨b5, 0, none⟩ v') := by
  obtain ⟨n23, n24, n25, n34, n35, n45, q2, q3, q4, q5⟩ := h.ne
  have k2 : ∀ k, k < W.heap.size → k ≠ b4 → W2.heap[k]? = W.heap[k]? := fun k hk hne => hg.block k hk (fun e => hne (by injection e with e))
  have l2 := h.r2.lt
  have l3 := h.r3.lt
  have l4 := h.m.lt
  have l5 := h.c.lt
  have lq := h.q_.lt
  have s2 := hg.size
  have r2 : MapAt W2 b2 0 0 ⟨#[]⟩ := (k2 _ l2 n24).trans h.r2
  have r3 : Boxed W2 b3 26 .nilIface := (k2 _ l3 n34).trans h.r3
  have r5 : Boxed W2 b5 46 v := (k2 _ l5 (Ne.symm n45)).trans h.c
  have rq : Boxed W2 q 9 u := (k2 _ lq q4).trans h.q_
  have rr : W2.ownsRow w0.heap.size 5 1 v rows.flatten.length (byteCells rows.flatten) := h.row.kept hg (.inr (not_rowM h.m h.row).symm)
  have k1 : ∀ k, k < W2.heap.size → some k ≠ v.ownBlock → w1.heap[k]? = W2.heap[k]? := fun k hk hne => hgr.block k hk hne
  have t2 : MapAt w1 b2 0 0 ⟨#[]⟩ := (k1 _ r2.lt (not_rowM r2 rr)).trans r2
  have t3 : Boxed w1 b3 26 .nilIface := (k1 _ r3.lt (not_rowB (by decide) r3 rr)).trans r3
  have t4 : MapAt w1 b4 (wid (rows ++ [row]) : Int) ((rows ++ [row]).length : Int) ⟨#[]⟩ := (k1 _ hm.lt (not_rowM hm rr)).trans hm
  have t5 : Boxed w1 b5 46 v := (k1 _ r5.lt (not_rowB (by decide) r5 rr)).trans r5
  have tq : Boxed w1 q 9 u := (k1 _ rq.lt (not_rowB (by decide) rq rr)).trans rq
  have o5 : ∀ k, k ≠ b5 → (w1.setCell ⟨b5, 0, none⟩ v').heap[k]? = w1.heap[k]? := fun k hk => Below.heap_setCell _ _ _ _ hk
  refine ⟨?_, .inl ⟨rfl, ?_, rows ++ [row], v', u, ?_, ?_⟩⟩
  · refine ((KeepsOthers.of_grownBy hg fun j o ej hj => ?_).trans (KeepsOthers.of_grownBy hgr fun j o ej hj => ?_)).trans (KeepsOthers.setCell _ _ _)
    · injection ej with ej; subst ej
      rw [show W.heap[b4]? = _ from h.m] at hj; cases hj; rfl
    · rcases rr.2 with ⟨rfl, _⟩ | ⟨g, cap, cur, rfl, _, hgb, _⟩
      · simp [Value.ownBlock] at ej
      · obtain rfl : g = j := by simpa [Value.ownBlock] using ej
        rw [hgb] at hj; cases hj; rfl
  · exact (o5 q q5).trans ((k1 _ rq.lt (not_rowB (by decide) rq rr)).trans (k2 _ lq q4))
  · rw [List.map_append, he, ended_snoc]
    unfold texts
    rw [List.map_append]
    congr 1
    simp only [List.map_cons, List.map_nil]
    rw [← hx]
  · refine ⟨?_, (o5 b2 n25).trans t2, (o5 b3 n35).trans t3, (o5 b4 n45).trans t4, t5.set v', ?_, (o5 q q5).trans tq, ?_, h.l2, h.l3, h.l4, h.l5, h.lq, h.ne⟩
    · intro r hr
      rcases hc with rfl | hc
      · rw [List.nil_append, List.mem_singleton] at hr
        subst hr
        rfl
      · by_cases hn : rows = []
        · subst hn
          rw [List.nil_append, List.mem_singleton] at hr
          subst hr
          rfl
        · rw [wid_append _ _ hn]
          rcases List.mem_append.1 hr with hr | hr
          · exact h.even r hr
          · rw [List.mem_singleton.1 hr]; exact hc
    · have hset := grownBy_setCell' w1 b5 v'
      have h1 := hown.kept hset (.inr (not_rowB (by decide) t5 hown).symm)
      have e1 : (rows ++ [row]).flatten = rows.flatten ++ row := by simp
      have e2 : (ofBytes row).size = row.length := by simp [ofBytes, ByteArray.size]
      rw [e1, List.length_append]
      rw [e2] at h1
      have e3 : byteCells rows.flatten ++ Lib.strCells (ofBytes row) = byteCells (rows.flatten ++ row) := by
        unfold byteCells Lib.strCells ofBytes
        simp
      rw [e3] at h1
      exact h1
    · refine ((h.below.grown hg h.below.size fun j e => ?_).grown hgr ?_ fun j e => (rr.lt j e).1).setCell (p := ⟨b5, 0, none⟩) h.l5 v'
      · cases e; exact h.l4
      · exact Nat.le_trans h.below.size s2
theorem Tryd.infoByte9 : (Tryd.prog.info? 5).map (fun i => (i.zero, i.size, i.bytes)) = some (some (.int .u8 0), 1, 1) := by kernel_rfl
theorem suffix_yes {x : List UInt8} (h : Lib.hasSuffix x [10] = true) : ∃ row, x = row ++ [10] ∧ Lib.trimSuffix x [10] = row := by
  unfold Lib.hasSuffix at h
  obtain ⟨row, rfl⟩ := List.isSuffixOf_iff_suffix.1 h
  refine ⟨row, rfl, ?_⟩
  unfold Lib.trimSuffix Lib.hasSuffix
  rw [if_pos h]
  simp
theorem suffix_no {x : List UInt8} (h : Lib.hasSuffix x [10] = false) (row : List UInt8) : x ≠ row ++ [10] := by
  rintro rfl
  unfold Lib.hasSuffix at h
  rw [Bool.eq_false_iff] at h
  exact h (List.isSuffixOf_iff_suffix.2 ⟨row, rfl⟩)
theorem ended_inj : ∀ {l m : List (List UInt8)}, ended l = ended m → l = m
  | [], [], _ => rfl
  | [], r :: m, h => by unfold ended at h; simp at h
  | r :: l, [], h => by unfold ended at h; simp at h
  | r :: l, q :: m, h => by
    unfold ended at h
    rw [List.map_cons, List.map_cons] at h
    injection h with h1 h2
    rw [List.append_cancel_right h1, ended_inj (l := l) (m := m) h2]
theorem flat_bound : ∀ {pre : List Line} {rows : List (List UInt8)}, pre.map (·.1) = texts (ended rows) → rows.flatten.length ≤ 72 * pre.length
  | [], [], _ => by simp
  | [], r :: rows, h => by unfold texts ended at h; simp at h
  | x :: pre, [], h => by unfold texts ended at h; simp at h
  | x :: pre, r :: rows, h => by
    unfold texts ended at h
    rw [List.map_cons, List.map_cons, List.map_cons] at h
    injection h with h1 h2
    have ih := flat_bound (pre := pre) (rows := rows) h2
    have hx := x.2
    rw [h1] at hx
    simp [ByteArray.size] at hx
    simp only [List.flatten_cons, List.length_append, List.length_cons]
    omega
theorem line_lists {pre : List Line} {rows : List (List UInt8)} (he : pre.map (·.1) = texts (ended rows)) : pre.map (fun x => x.1.data.toList) = ended rows := by
  have := congrArg (List.map fun b : ByteArray => b.data.toList) he
  unfold texts at this
  simp only [List.map_map] at this
  have e2 : (ended rows).map ((fun b : ByteArray => b.data.toList) ∘ fun r : List UInt8 => (⟨r.toArray⟩ : ByteArray)) = ended rows := by
    exact (List.map_congr_left (g := id) (fun _ _ => rfl)).trans (List.map_id _)
  rw [e2] at this
  exact this
theorem PSt.box {w0 : World} {b2 b3 b4 b5 q : Nat} {rows : List (List UInt8)} {v u : Value} {W W2 w1 : World} (h : PSt w0 b2 b3 b4 b5 q rows v u W) (hg : W.grownBy W2 (some b4)) (hgr : W2.grownBy w1 v.ownBlock) : Boxed w1 b5 46 v := by
  obtain ⟨n23, n24, n25, n34, n35, n45, q2, q3, q4, q5⟩ := h.ne
  have r5 : Boxed W2 b5 46 v := h.c.kept hg (fun e => n45 (by injection e with e; exact e.symm))
  have rr : W2.ownsRow w0.heap.size 5 1 v rows.flatten.length (byteCells rows.flatten) := h.row.kept hg (.inr (not_rowM h.m h.row).symm)
  exact r5.kept hgr (not_rowB (by decide) r5 rr)
/-- a line without an end -/
theorem bad_end {pre : List Line} {x : Line} (h : Lib.hasSuffix x.1.data.toList [10] = false) : ¬ Good ((pre ++ [x]).map fun x => x.1.data.toList) := by
  rintro ⟨l, he, _⟩
  rw [List.map_append] at he
  have hm : x.1.data.toList ∈ ended l := by rw [← he]; simp
  unfold ended at hm
  obtain ⟨r, _, hr⟩ := List.mem_map.1 hm
  exact suffix_no h r hr.symm
/-- a line of another length -/
theorem bad_len {pre : List Line} {x : Line} {rows : List (List UInt8)} {row : List UInt8} (he : pre.map (·.1) = texts (ended rows)) (hx : x.1.data.toList = row ++ [10]) (hn : rows ≠ []) (hl : row.length ≠ wid rows) : ¬ Good ((pre ++ [x]).map fun x => x.1.data.toList) := by
  rintro ⟨l, h, hev⟩
  rw [List.map_append, line_lists he] at h
  have h2 : ended l = ended (rows ++ [row]) := by rw [ended_snoc, ← h]; simp [hx]
  have h3 := ended_inj h2
  subst h3
  have := hev row (by simp)
  rw [wid_append _ _ hn] at this
  exact hl this
/-- a round that returns an error -/
theorem err_round {w0 W W9 : World} {b2 b3 b4 b5 q : Nat} {rows : List (List UInt8)} {v u v9 : Value} {pre : List Line} {x : Line} {W2 : World} (h : PSt w0 b2 b3 b4 b5 q rows v u W) (hbad : ¬ Good ((pre ++ [x]).map fun x => x.1.data.toList))
    (hg : W.grownBy W2 (some b4)) (hv : ErrFrom W9 W2.heap.size 2 v9) (hb : Below W2.heap.size W2 W9) :
    seqEnd (KeepBox q) (PI w0 b2 b3 b4 b5 q) (PX w0 b2 b3) (pre ++ [x]) W .ret ((((W9.setCell ⟨b2, 0, none⟩ (.int .i64 0)).setCell ⟨b2, 1, none⟩ (.int .i64 0)).setCell ⟨b2, 2, none⟩ (.string ⟨#[]⟩)).setCell ⟨b3, 0, none⟩ v9) := by
  obtain ⟨n23, n24, n25, n34, n35, n45, q2, q3, q4, q5⟩ := h.ne
  have k2 : ∀ k, k < W.heap.size → k ≠ b4 → W2.heap[k]? = W.heap[k]? := fun k hk hne => hg.block k hk (fun e => hne (by injection e with e))
  have r2 : MapAt W2 b2 0 0 ⟨#[]⟩ := (k2 _ h.r2.lt n24).trans h.r2
  have r3 : Boxed W2 b3 26 .nilIface := (k2 _ h.r3.lt n34).trans h.r3
  have hb2 : Below w0.heap.size w0 W2 := h.below.grown hg h.below.size (fun j e => by cases e; exact h.l4)
  obtain ⟨e1, e2, e3, e4⟩ := err_exit (w0 := w0) ((hb.block b2 r2.lt).trans r2) ((hb.block b3 r3.lt).trans r3) hv r2.lt r3.lt hb2.size h.l2 h.l3 n23 (hb2.trans (hb.mono hb2.size)) rfl
  refine ⟨?_, .inr ⟨rfl, hbad, e1, _, e2, e3, e4⟩⟩
  have hk9 : KeepsOthers W2 W9 := ⟨hb.size, fun k o hk _ => (hb.block k (Array.getElem?_eq_some_iff.1 hk).1).trans hk⟩
  refine ((KeepsOthers.of_grownBy hg fun j o ej hj => ?_).trans hk9).trans ((((KeepsOthers.setCell _ _ _).trans (KeepsOthers.setCell _ _ _)).trans (KeepsOthers.setCell _ _ _)).trans (KeepsOthers.setCell _ _ _))
  injection ej with ej; subst ej
  rw [show W.heap[b4]? = _ from h.m] at hj; cases hj; rfl
theorem parse_bad {s : List UInt8} (h : ¬ Good (lines s)) : parseM s = none := by
  unfold parseM
  split
  · split
    · rfl
    · rename_i l hl
      rw [if_neg]
      rintro ⟨he, _⟩
      exact h ⟨l, (rows_lines.1 hl).1, he⟩
  · rfl
open Classical in
theorem parse_good {s : List UInt8} {l : List (List UInt8)} (h72 : s.length ≤ 72) (hl : lines s = ended l) (hn : ∀ r ∈ l, ∀ c ∈ r, c ≠ 10) (he : Even l) : parseM s = if Grid.rightB (wid l) l.length l.flatten = true then some (wid l, l.length, l.flatten) else none := by
  unfold parseM
  rw [if_pos h72, rows_lines.2 ⟨hl, hn⟩]
  show (if Even l ∧ Grid.Right (wid l) l.length l.flatten then some (wid l, l.length, l.flatten) else none) = _
  by_cases hr : Grid.Right (wid l) l.length l.flatten
  · rw [if_pos ⟨he, hr⟩, if_pos (Grid.rightB_iff.2 hr)]
  · rw [if_neg (fun h => hr h.2), if_neg (fun h => hr (Grid.rightB_iff.1 h))]
/-- rows of lines have no line end -/
theorem lines_plain : ∀ {s : List UInt8} {r : List UInt8}, r ++ [10] ∈ lines s → ∀ c ∈ r, c ≠ 10
  | [], r, h => by unfold lines at h; simp at h
  | d :: s, r, h => by
    rw [lines] at h
    by_cases e : d = 10
    · rw [if_pos e] at h
      rcases List.mem_cons.1 h with h | h
      · have : r = [] := by
          cases r with
          | nil => rfl
          | cons x r => have := congrArg List.length h; simp at this
        subst this
        intro c hc; cases hc
      · exact lines_plain (s := s) h
    · rw [if_neg e] at h
      cases hl : lines s with
      | nil =>
        rw [hl] at h
        rcases List.mem_cons.1 h with h | h
        · cases r with
          | nil => intro c hc; cases hc
          | cons x r => have := congrArg List.length h; simp at this
        · cases h
      | cons x m =>
        rw [hl] at h
        rcases List.mem_cons.1 h with h | h
        · cases r with
          | nil => intro c hc; cases hc
          | cons y r =>
            injection h with h1 h2
            subst h1
            intro c hc
            rcases List.mem_cons.1 hc with rfl | hc
            · exact e
            · exact lines_plain (s := s) (r := r) (by rw [hl, ← h2]; exact List.mem_cons_self) c hc
        · exact lines_plain (s := s) (r := r) (by rw [hl]; simp [h])
/-- the text of a row of bytes of the call's own -/
theorem text_own {W : World} {base : Nat} {v : Value} {xs : List UInt8} (h : W.ownsRow base 5 1 v xs.length (byteCells xs)) : (convert 46 9 v).run Tryd.prog W = .ok (.string (ofBytes xs)) W := by
  rcases h.2 with ⟨rfl, h0⟩ | ⟨g, cap, cur, rfl, _⟩
  · obtain rfl := List.eq_nil_of_length_eq_zero h0
    kernel_rfl
  · refine Row.text (B := g) (xs := xs) (fun i hi => ⟨?_, h.frozenAt i⟩) cap xs.length rfl
    rw [h.cellAt i (by simpa using hi)]
    unfold byteCells
    simp [hi]
set_option maxRecDepth 100000 in
set_option maxHeartbeats 4000000 in
theorem Parse_short (s : ByteArray) (hs : s.size ≤ 72) (w : World) : Calls Tryd.prog 13 #[.string s] w (ParsePost (parseM s.data.toList) w) := by
  obtain ⟨w1, HW1⟩ : ∃ w1, Hid (w1 = w.alloc (.cells #[.int .i64 0, .int .i64 0, .string ⟨#[]⟩] 29)) := ⟨_, Lib.hid rfl⟩
  obtain ⟨w2, HW2⟩ : ∃ w2, Hid (w2 = w1.alloc (.cells #[.nilIface] 26)) := ⟨_, Lib.hid rfl⟩
  obtain ⟨w3, HW3⟩ : ∃ w3, Hid (w3 = w2.alloc (.cells #[.int .i64 0, .int .i64 0, .string ⟨#[]⟩] 29)) := ⟨_, Lib.hid rfl⟩
  obtain ⟨w4, HW4⟩ : ∃ w4, Hid (w4 = w3.alloc (.cells #[.slice none 0 0] 46)) := ⟨_, Lib.hid rfl⟩
  obtain ⟨w5, HW5⟩ : ∃ w5, Hid (w5 = w4.alloc (.cells #[.string s] 9)) := ⟨_, Lib.hid rfl⟩
  obtain ⟨b2, HB2⟩ : ∃ b, Hid (b = w.heap.size) := ⟨_, Lib.hid rfl⟩
  obtain ⟨b3, HB3⟩ : ∃ b, Hid (b = w.heap.size + 1) := ⟨_, Lib.hid rfl⟩
  obtain ⟨b4, HB4⟩ : ∃ b, Hid (b = w.heap.size + 1 + 1) := ⟨_, Lib.hid rfl⟩
  obtain ⟨b5, HB5⟩ : ∃ b, Hid (b = w.heap.size + 1 + 1 + 1) := ⟨_, Lib.hid rfl⟩
  obtain ⟨q, HQ⟩ : ∃ b, Hid (b = w4.heap.size) := ⟨_, Lib.hid rfl⟩
  have HST : Hid (PSt w b2 b3 b4 b5 q [] (.slice none 0 0) (.string s) w5) := Lib.hid (by
    have s1 : w1.heap.size = w.heap.size + 1 := by rw [HW1.out]; simp
    have s2 : w2.heap.size = w.heap.size + 1 + 1 := by rw [HW2.out]; simp [s1]
    have s3 : w3.heap.size = w.heap.size + 1 + 1 + 1 := by rw [HW3.out]; simp [s2]
    have s4 : w4.heap.size = w.heap.size + 1 + 1 + 1 + 1 := by rw [HW4.out]; simp [s3]
    have n1 := heap_alloc_new w (.cells #[.int .i64 0, .int .i64 0, .string ⟨#[]⟩] 29)
    have n2 := heap_alloc_new w1 (.cells #[.nilIface] 26)
    have n3 := heap_alloc_new w2 (.cells #[.int .i64 0, .int .i64 0, .string ⟨#[]⟩] 29)
    have n4 := heap_alloc_new w3 (.cells #[.slice none 0 0] 46)
    have n5 := heap_alloc_new w4 (.cells #[.string s] 9)
    rw [← HW1.out] at n1
    rw [← HW2.out, s1] at n2
    rw [← HW3.out, s2] at n3
    rw [← HW4.out, s3] at n4
    rw [← HW5.out] at n5
    have k2 : ∀ b, b < w1.heap.size → w2.heap[b]? = w1.heap[b]? := fun b hb => by rw [HW2.out]; exact Below.heap_alloc _ _ _ hb
    have k3 : ∀ b, b < w2.heap.size → w3.heap[b]? = w2.heap[b]? := fun b hb => by rw [HW3.out]; exact Below.heap_alloc _ _ _ hb
    have k4 : ∀ b, b < w3.heap.size → w4.heap[b]? = w3.heap[b]? := fun b hb => by rw [HW4.out]; exact Below.heap_alloc _ _ _ hb
    have k5 : ∀ b, b < w4.heap.size → w5.heap[b]? = w4.heap[b]? := fun b hb => by rw [HW5.out]; exact Below.heap_alloc _ _ _ hb
    refine ⟨(fun r hr => by cases hr), ?_, ?_, ?_, ?_, World.ownsRow_nil _ _ _ _, ?_, ?_, ?_, ?_, ?_, ?_, ?_, ?_⟩
    · rw [HB2.out]; exact (k5 _ (by omega)).trans ((k4 _ (by omega)).trans ((k3 _ (by omega)).trans ((k2 _ (by omega)).trans n1)))
    · rw [HB3.out]; exact (k5 _ (by omega)).trans ((k4 _ (by omega)).trans ((k3 _ (by omega)).trans n2))
    · rw [HB4.out]; exact (k5 _ (by omega)).trans ((k4 _ (by omega)).trans n3)
    · rw [HB5.out]; exact (k5 _ (by omega)).trans n4
    · rw [HQ.out]; exact n5
    · rw [HW5.out, HW4.out, HW3.out, HW2.out, HW1.out]
      exact (((((Below.refl _ w).alloc (Nat.le_refl _) _).alloc (by simp) _).alloc (by simp; omega) _).alloc (by simp; omega) _).alloc (by simp; omega) _
    · rw [HB2.out]; exact Nat.le_refl _
    · rw [HB3.out]; omega
    · rw [HB4.out]; omega
    · rw [HB5.out]; omega
    · rw [HQ.out]; omega
    · rw [HB2.out, HB3.out, HB4.out, HB5.out, HQ.out, s4]; omega)
  have HBX : Hid (Boxed w5 q 9 (.string s)) := Lib.hid (HST.out.q_)
  refine (callsIn_wide (n := 4)).1 ?_
  refine callsIn_of_wp_marks Tryd.func13 rfl trivial ?_ rfl
  simp only [Tryd.ntmps13, List.size_toArray, List.length_cons, List.length_nil, Nat.reduceAdd, Nat.reduceSub, Array.replicate_succ, Array.replicate_zero, List.push_toArray, List.append_toArray, List.nil_append, List.cons_append]
  refine wpIn_wide.2 ?_
  go_upto_region 5 with (fail)
  rw [← HB5.out, ← HB4.out, ← HB3.out, ← HB2.out, ← HW1.out, ← HW2.out, ← HW3.out, ← HW4.out]
  go_wp2_with (go_at_call 25; refine (Lines_any s _).mono ?_; rintro e w9 ⟨rfl, rfl⟩)
  rw [← HQ.out, ← HW5.out]
  have HLO : Hid (w.heap.size ≤ w5.heap.size ∧ q < w5.heap.size) := Lib.hid ⟨HST.out.below.size, HST.out.q_.lt⟩
  clear HB5 HB4 HB3 HB2 HW1 HW2 HW3 HW4 HQ HW5
  rename_i hKc
  have HKC := Lib.hid hKc
  clear hKc
  refine (wpIn_wide (n := 4)).1 ?_
  refine wpIn_seqBox rfl (by decide) (gf := 36) (lb := #[.pointer (some ⟨q, 0, none⟩)]) rfl trivial (enters_of Tryd.func36 (by kernel_rfl) rfl) (lines_stops q s hs w5 HBX.out) HLO.out.2 (Below.refl _ _) (fun _ => rfl)
    (fun h1 h2 => Eq.trans h2 h1) (fun W l o o' hl ho _ => World.putObj_heap_other (by have := HLO.out.2; omega)) (PI w b2 b3 b4 b5 q) (PX w b2 b3) (PI_own HLO.out.1) (PX_own HLO.out.1) (fun p U v h => PI_set p U v h)
    ⟨[], _, _, rfl, HST.out⟩
    (fun x => { tmps := #[.string s, undef, .pointer (some ⟨b2, 0, none⟩), .pointer (some ⟨b3, 0, none⟩), .pointer (some ⟨b4, 0, none⟩), .pointer (some ⟨b5, 0, none⟩), .string x.1, undef, undef, .string s, .int .i64 (s.size : Int), .bool (decide (72 < (s.size : Int))), undef, undef, .string s, .func (.func 36) #[] #[.pointer (some ⟨q, 0, none⟩)], .string x.1, undef, undef, undef, undef, undef, undef, undef, undef, undef, undef, undef, undef, undef, undef, undef, undef, undef, undef, undef, undef, undef, undef, undef, undef, undef, undef, undef, undef, undef, undef, undef, undef, undef, undef, undef, undef, undef, undef], defers := [] }) ?assign ?body ?done ?stop
  case assign =>
    intro l x W K hK
    gi_wp2
    exact hK
  case body =>
    rintro l pre x W ⟨rows, v, u, he, hst⟩ hlen
    have hxs : x.1.size ≤ 9223372036854775807 := by have := x.2; omega
    obtain ⟨r, HR⟩ : ∃ r : ByteArray, Hid (r = ⟨(Lib.trimSuffix x.1.data.toList [10]).toArray⟩) := ⟨_, Lib.hid rfl⟩
    obtain ⟨nd, HND⟩ : ∃ nd, Hid (nd = Lib.hasSuffix x.1.data.toList [10]) := ⟨_, Lib.hid rfl⟩
    have HCUT : Hid (∀ w9, Calls Tryd.prog 26 #[.string x.1, .string ⟨#[10]⟩] w9 fun e w' => e = .returned (.tuple #[.string r, .bool nd]) ∧ w' = w9) := Lib.hid (fun w9 => by
      rw [HR.out, HND.out]
      exact Any.strings_CutSuffix cutL x.1 ⟨#[10]⟩ w9 hxs)
    have c0 := hst.m.w_
    have c1 := hst.m.h_
    have f0 : W.frozen? ⟨b4, 0, none⟩ = false := by simp [World.frozen?, show W.heap[b4]? = _ from hst.m]
    have f1 : W.frozen? ⟨b4, 1, none⟩ = false := by simp [World.frozen?, show W.heap[b4]? = _ from hst.m]
    have c5 := hst.c.cell
    have f5 := hst.c.frozen
    have HSTR := Lib.hid hst
    have HE := Lib.hid he
    obtain ⟨_, _, _, _, _, n45, _, _, _, _⟩ := hst.ne
    have n54 := Ne.symm n45
    clear hst he
    have HGA : ∀ j y, Hid (W.grownBy (W.setCell ⟨b4, j, none⟩ y) (some b4)) := fun j y => Lib.hid (grown_set W b4 j y)
    have hGB : ∀ j y j' y', W.grownBy ((W.setCell ⟨b4, j, none⟩ y).setCell ⟨b4, j', none⟩ y') (some b4) := fun j y j' y' => ⟨rfl, rfl, rfl, by simp only [size_set9]; exact Nat.le_refl _, fun k _ hk => (Below.heap_setCell _ _ _ k (fun e => hk (by rw [e]))).trans (Below.heap_setCell _ _ _ k (fun e => hk (by rw [e])))⟩
    have HGB := Lib.hid hGB
    clear hGB
    obtain ⟨i8, g1, g2, g3, g4⟩ := info_parts Tryd.infoByte9
    cases nd with
    | true =>
      obtain ⟨row, hrow, htr⟩ := suffix_yes HND.out.symm
      have hr : r = ofBytes row := by rw [HR.out, htr]; rfl
      have HRS : Hid (r.size = row.length) := Lib.hid (by rw [hr]; simp [ofBytes, ByteArray.size])
      have HRW := Lib.hid hrow
      have HRO := Lib.hid hr
      have hr72 : r.size ≤ 72 := by
        have := congrArg List.length hrow
        rw [Array.length_toList, List.length_append] at this
        have h2 := x.2
        have h3 : x.1.data.size = x.1.size := rfl
        have := HRS.out
        omega
      have HFL : Hid (rows.flatten.length ≤ 72 * 72) := Lib.hid (Nat.le_trans (flat_bound HE.out) (Nat.mul_le_mul_left _ (by omega)))
      cases rows with
      | nil =>
        have hrow0 := HSTR.out.row
        have HROW0 : Hid (((W.setCell ⟨b4, 0, none⟩ (.int .i64 (r.size : Int))).setCell ⟨b4, 1, none⟩ (.int .i64 1)).ownsRow w.heap.size 5 1 v ([] : List (List UInt8)).flatten.length (byteCells ([] : List (List UInt8)).flatten)) := Lib.hid (hrow0.kept (HGB.out _ _ _ _) (.inr (not_rowM HSTR.out.m hrow0).symm))
        clear hrow0 hrow htr hr
        gi_wp2_with (first
          | (refine ⟨trivial, ?_⟩; gi_at_call 26; refine (CallsIn.inRound l (callsIn_wide.2 (HCUT.out _))).mono ?_; rintro e w9 ⟨rfl, hw⟩; have hw := hw.symm; subst hw)
          | (gi_at_builtin; refine wpListIn_append_str _ rfl _ _ 46 9 rfl w.heap.size 5 i8 Tryd.underlying46 Tryd.underlying9 g1 g2 g3 g4 _ _ _ rfl HROW0.out _ rfl (by have := HFL.out; simp at *; unfold maxLen; omega) (by have := HFL.out; simp at *; omega) (by simp only [size_set9]; exact HSTR.out.below.size) ?_; intro v1 w9 hown9 hgr9; obtain ⟨A9, cap9, rfl⟩ := row_form hown9; have HOWN9 := Lib.hid hown9; have HGR9 := Lib.hid hgr9; have hb9 := HSTR.out.box (HGB.out 0 (.int .i64 (r.size : Int)) 1 (.int .i64 1)) hgr9; have c59 := hb9.cell; have f59 := hb9.frozen; clear hown9 hgr9 hb9 c5 f5))
        have hw2 : MapAt ((W.setCell ⟨b4, 0, none⟩ (.int .i64 (r.size : Int))).setCell ⟨b4, 1, none⟩ (.int .i64 1)) b4 (wid ([] ++ [row]) : Int) ((([] : List (List UInt8)) ++ [row]).length : Int) ⟨#[]⟩ := by
          have := heap_set_same (heap_set_same HSTR.out.m 0 (.int .i64 (r.size : Int))) 1 (.int .i64 1)
          rw [HRS.out] at this ⊢
          exact this
        exact PSt.next HSTR.out HE.out HRW.out (.inl rfl) hw2 (HGB.out _ _ _ _) (by have := HOWN9.out; rw [HRO.out] at this ⊢; simpa using this) HGR9.out
      | cons r0 rows =>
        obtain ⟨k, HKK⟩ : ∃ k, Hid (k = (r0 :: rows).length) := ⟨_, Lib.hid rfl⟩
        obtain ⟨wd, HWD⟩ : ∃ k, Hid (k = wid (r0 :: rows)) := ⟨_, Lib.hid rfl⟩
        rw [← HKK.out] at c1
        rw [← HWD.out] at c0
        have hk0 : ¬ k = 0 := by rw [HKK.out]; simp
        have hk72 : k ≤ 72 := by
          have := congrArg List.length HE.out
          unfold texts ended at this
          rw [List.length_map, List.length_map, List.length_map, ← HKK.out] at this
          omega
        have HM2 : Hid (MapAt W b2 0 0 ⟨#[]⟩) := Lib.hid HSTR.out.r2
        have HM3 : Hid (Boxed W b3 26 .nilIface) := Lib.hid HSTR.out.r3
        have hrow0 := HSTR.out.row
        obtain ⟨fl, HFF⟩ : ∃ fl, Hid (fl = (r0 :: rows).flatten) := ⟨_, Lib.hid rfl⟩
        rw [← HFF.out] at HFL hrow0
        have HROW1 : Hid ((W.setCell ⟨b4, 1, none⟩ (.int .i64 ((k : Int) + 1))).ownsRow w.heap.size 5 1 v fl.length (byteCells fl)) := Lib.hid (hrow0.kept (HGA 1 _).out (.inr (not_rowM HSTR.out.m hrow0).symm))
        clear hrow0 hrow htr hr
        by_cases hlen2 : r.size = wd
        · subst hlen2
          gi_wp2_with (first
            | (refine ⟨trivial, ?_⟩; gi_at_call 26; refine (CallsIn.inRound l (callsIn_wide.2 (HCUT.out _))).mono ?_; rintro e w9 ⟨rfl, hw⟩; have hw := hw.symm; subst hw)
            | (gi_at_builtin; refine wpListIn_append_str _ rfl _ _ 46 9 rfl w.heap.size 5 i8 Tryd.underlying46 Tryd.underlying9 g1 g2 g3 g4 _ _ _ rfl HROW1.out _ rfl (by have := HFL.out; simp at *; unfold maxLen; omega) (by have := HFL.out; simp at *; omega) (by simp only [size_set9]; exact HSTR.out.below.size) ?_; intro v1 w9 hown9 hgr9; obtain ⟨A9, cap9, rfl⟩ := row_form hown9; have HOWN9 := Lib.hid hown9; have HGR9 := Lib.hid hgr9; have hb9 := HSTR.out.box (HGA 1 (.int .i64 ((k : Int) + 1))).out hgr9; have c59 := hb9.cell; have f59 := hb9.frozen; clear hown9 hgr9 hb9 c5 f5))
          have hw2 : MapAt (W.setCell ⟨b4, 1, none⟩ (.int .i64 ((k : Int) + 1))) b4 (wid (r0 :: rows ++ [row]) : Int) ((r0 :: rows ++ [row]).length : Int) ⟨#[]⟩ := by
            have := heap_set_same HSTR.out.m 1 (.int .i64 ((k : Int) + 1))
            rw [wid_append _ _ (by simp), List.length_append, ← HKK.out]
            exact this
          exact PSt.next HSTR.out HE.out HRW.out (.inr (by rw [← HWD.out, HRS.out])) hw2 (HGA 1 _).out (by have := HOWN9.out; rw [HRO.out] at this ⊢; rw [← HFF.out]; exact this) HGR9.out
        · have HNL := Lib.hid hlen2
          gi_wp2_with (first
            | (refine ⟨trivial, ?_⟩; gi_at_call 26; refine (CallsIn.inRound l (callsIn_wide.2 (HCUT.out _))).mono ?_; rintro e w9 ⟨rfl, hw⟩; have hw := hw.symm; subst hw)
            | (refine ⟨trivial, ?_⟩; gi_at_call 22; refine (CallsIn.inRound l (callsIn_wide.2 (GridFault_any 2 (by decide) _))).mono ?_; rintro e w9 ⟨v9, rfl, hv9, hb9⟩; obtain ⟨ty9, x9, rfl⟩ := hv9.some (by decide); have HV9 := Lib.hid hv9; have HBB9 := Lib.hid hb9; have hm9 : MapAt w9 b2 0 0 ⟨#[]⟩ := (hb9.block b2 (MapAt.lt HM2.out)).trans HM2.out; have hx9 : Boxed w9 b3 26 .nilIface := (hb9.block b3 (Boxed.lt HM3.out)).trans HM3.out; have c20 := hm9.w_; have c21 := hm9.h_; have c22 := hm9.s_; have c23 := hx9.cell; have f23 := hx9.frozen; have f20 : w9.frozen? ⟨b2, 0, none⟩ = false := map_free hm9 0; have f21 : w9.frozen? ⟨b2, 1, none⟩ = false := map_free hm9 1; have f22 : w9.frozen? ⟨b2, 2, none⟩ = false := map_free hm9 2; clear hv9 hb9 hm9 hx9))
          exact err_round (W2 := W) HSTR.out (bad_len HE.out HRW.out (by simp) (by rw [← HWD.out, ← HRS.out]; exact HNL.out)) ⟨rfl, rfl, rfl, Nat.le_refl _, fun _ _ _ => rfl⟩ HV9.out HBB9.out
    | false =>
      have hbad := bad_end (pre := pre) (x := x) HND.out.symm
      have HBAD := Lib.hid hbad
      clear hbad
      cases rows with
      | nil =>
        obtain ⟨_, n24, _, n34, _, _, _, _, _, _⟩ := HSTR.out.ne
        have HM2 : Hid (MapAt (W.setCell ⟨b4, 0, none⟩ (.int .i64 (r.size : Int))) b2 0 0 ⟨#[]⟩) := Lib.hid (HSTR.out.r2.set n24 _)
        have HM3 : Hid (Boxed (W.setCell ⟨b4, 0, none⟩ (.int .i64 (r.size : Int))) b3 26 .nilIface) := Lib.hid ((Below.heap_setCell _ _ _ _ (by show b3 ≠ b4; exact n34)).trans HSTR.out.r3)
        gi_wp2_with (first
          | (refine ⟨trivial, ?_⟩; gi_at_call 26; refine (CallsIn.inRound l (callsIn_wide.2 (HCUT.out _))).mono ?_; rintro e w9 ⟨rfl, hw⟩; have hw := hw.symm; subst hw)
          | (refine ⟨trivial, ?_⟩; gi_at_call 22; refine (CallsIn.inRound l (callsIn_wide.2 (GridFault_any 2 (by decide) _))).mono ?_; rintro e w9 ⟨v9, rfl, hv9, hb9⟩; obtain ⟨ty9, x9, rfl⟩ := hv9.some (by decide); have HV9 := Lib.hid hv9; have HBB9 := Lib.hid hb9; have hm9 : MapAt w9 b2 0 0 ⟨#[]⟩ := (hb9.block b2 (MapAt.lt HM2.out)).trans HM2.out; have hx9 : Boxed w9 b3 26 .nilIface := (hb9.block b3 (Boxed.lt HM3.out)).trans HM3.out; have c20 := hm9.w_; have c21 := hm9.h_; have c22 := hm9.s_; have c23 := hx9.cell; have f23 := hx9.frozen; have f20 : w9.frozen? ⟨b2, 0, none⟩ = false := map_free hm9 0; have f21 : w9.frozen? ⟨b2, 1, none⟩ = false := map_free hm9 1; have f22 : w9.frozen? ⟨b2, 2, none⟩ = false := map_free hm9 2; clear hv9 hb9 hm9 hx9))
        exact err_round (W2 := W.setCell ⟨b4, 0, none⟩ (.int .i64 (r.size : Int))) HSTR.out HBAD.out (HGA 0 _).out HV9.out HBB9.out
      | cons r0 rows =>
        obtain ⟨k, HKK⟩ : ∃ k, Hid (k = (r0 :: rows).length) := ⟨_, Lib.hid rfl⟩
        rw [← HKK.out] at c1
        have hk0 : ¬ k = 0 := by rw [HKK.out]; simp
        have HM2 : Hid (MapAt W b2 0 0 ⟨#[]⟩) := Lib.hid HSTR.out.r2
        have HM3 : Hid (Boxed W b3 26 .nilIface) := Lib.hid HSTR.out.r3
        gi_wp2_with (first
          | (refine ⟨trivial, ?_⟩; gi_at_call 26; refine (CallsIn.inRound l (callsIn_wide.2 (HCUT.out _))).mono ?_; rintro e w9 ⟨rfl, hw⟩; have hw := hw.symm; subst hw)
          | (refine ⟨trivial, ?_⟩; gi_at_call 22; refine (CallsIn.inRound l (callsIn_wide.2 (GridFault_any 2 (by decide) _))).mono ?_; rintro e w9 ⟨v9, rfl, hv9, hb9⟩; obtain ⟨ty9, x9, rfl⟩ := hv9.some (by decide); have HV9 := Lib.hid hv9; have HBB9 := Lib.hid hb9; have hm9 : MapAt w9 b2 0 0 ⟨#[]⟩ := (hb9.block b2 (MapAt.lt HM2.out)).trans HM2.out; have hx9 : Boxed w9 b3 26 .nilIface := (hb9.block b3 (Boxed.lt HM3.out)).trans HM3.out; have c20 := hm9.w_; have c21 := hm9.h_; have c22 := hm9.s_; have c23 := hx9.cell; have f23 := hx9.frozen; have f20 : w9.frozen? ⟨b2, 0, none⟩ = false := map_free hm9 0; have f21 : w9.frozen? ⟨b2, 1, none⟩ = false := map_free hm9 1; have f22 : w9.frozen? ⟨b2, 2, none⟩ = false := map_free hm9 2; clear hv9 hb9 hm9 hx9))
        exact err_round (W2 := W) HSTR.out HBAD.out ⟨rfl, rfl, rfl, Nat.le_refl _, fun _ _ _ => rfl⟩ HV9.out HBB9.out
  case done =>
    rintro D xs W hD hxs ⟨rows, v, u, he, hst⟩ hK
    have hll : lines s.data.toList = ended rows := by
      have h1 := line_lists he
      have h2 : texts (lines s.data.toList) = texts (ended rows) := hxs.symm.trans he
      have h3 := congrArg (List.map fun b : ByteArray => b.data.toList) h2
      unfold texts at h3
      simp only [List.map_map] at h3
      have e3 : ∀ m : List (List UInt8), m.map ((fun b : ByteArray => b.data.toList) ∘ fun r : List UInt8 => (⟨r.toArray⟩ : ByteArray)) = m := fun m => (List.map_congr_left (g := id) (fun _ _ => rfl)).trans (List.map_id _)
      rw [e3, e3] at h3
      exact h3
    have hpl : ∀ r ∈ rows, ∀ c ∈ r, c ≠ 10 := fun r hr => lines_plain (s := s.data.toList) (by rw [hll]; unfold ended; exact List.mem_map.2 ⟨r, hr, rfl⟩)
    have hpg := parse_good (by rw [size_list]; exact hs) hll hpl hst.even
    obtain ⟨n23, n24, n25, n34, n35, n45, q2, q3, q4, q5⟩ := hst.ne
    have hcell : ∀ {b : Nat} {c : Array Value} {t : TypeId} {y : Nat × Nat}, W.heap[b]? = some (.cells c t y) → D ≠ b := fun h e => by subst e; rw [hK] at h; cases h
    have HD : Hid (D ≠ b2 ∧ D ≠ b3 ∧ D ≠ b4) := Lib.hid ⟨hcell hst.r2, hcell hst.r3, hcell hst.m⟩
    have hfl : rows.flatten.length ≤ 72 * 72 := by
      refine Nat.le_trans (flat_bound he) (Nat.mul_le_mul_left _ ?_)
      have h1 := congrArg List.length hxs
      have h2 := lines_length s.data.toList
      rw [size_list] at h2
      unfold texts at h1
      rw [List.length_map, List.length_map] at h1
      omega
    obtain ⟨c, HC⟩ : ∃ c, Hid (c = ofBytes rows.flatten) := ⟨_, Lib.hid rfl⟩
    obtain ⟨a, HA⟩ : ∃ a, Hid (a = wid rows) := ⟨_, Lib.hid rfl⟩
    obtain ⟨h, HH⟩ : ∃ h, Hid (h = rows.length) := ⟨_, Lib.hid rfl⟩
    have htx := text_own hst.row
    rw [← HC.out] at htx
    have hcs : c.size ≤ maxLen := by rw [HC.out, ofBytes_size]; unfold maxLen; omega
    have hm := hst.m
    rw [← HA.out, ← HH.out] at hm
    have HPG : Hid (parseM s.data.toList = if rightM a h c = true then some (a, h, c.data.toList) else none) := Lib.hid (by
      rw [hpg]
      unfold rightM
      rw [HA.out, HH.out, HC.out]
      rfl)
    clear hll hpl hpg hcell hfl
    have c5 := hst.c.cell
    have c0 := hm.w_
    have c1 := hm.h_
    have c2 := hm.s_
    have f2 := map_free hm 2
    obtain ⟨W2, HW2⟩ : ∃ W2, Hid (W2 = W.setCell ⟨b4, 2, none⟩ (.string c)) := ⟨_, Lib.hid rfl⟩
    have HM2 : Hid (MapAt W2 b4 a h c) := Lib.hid (by rw [HW2.out]; exact heap_set_same hm 2 (.string c))
    have HR2 : Hid (MapAt W2 b2 0 0 ⟨#[]⟩) := Lib.hid (by rw [HW2.out]; exact (Below.heap_setCell _ _ _ _ (by show b2 ≠ b4; exact n24)).trans hst.r2)
    have HR3 : Hid (Boxed W2 b3 26 .nilIface) := Lib.hid (by rw [HW2.out]; exact (Below.heap_setCell _ _ _ _ (by show b3 ≠ b4; exact n34)).trans hst.r3)
    have HK2 : Hid (W2.heap[D]? = some (.deferred (some []))) := Lib.hid (by rw [HW2.out]; exact (Below.heap_setCell _ _ _ _ (by show D ≠ b4; exact HD.out.2.2)).trans hK)
    have HBW : Hid (Below w.heap.size w W2) := Lib.hid (by rw [HW2.out]; exact hst.below.setCell (p := ⟨b4, 2, none⟩) hst.l4 _)
    have HLS : Hid (w.heap.size ≤ b2 ∧ w.heap.size ≤ b3 ∧ w.heap.size ≤ D) := Lib.hid ⟨hst.l2, hst.l3, Nat.le_trans HLO.out.1 hD⟩
    clear hst hK hD
    have n32 := Ne.symm n23
    refine HKC.out _ _ ?_
    go_upto_region 15 with (fail)
    rw [← HW2.out]
    clear c0 c1 c2 c5 f2 htx HW2 hm
    have c0 := HM2.out.w_
    have c1 := HM2.out.h_
    have c2 := HM2.out.s_
    go_wp2_with fail
    refine (Right_any a h c hcs W2).mono ?_
    obtain ⟨z, HZ⟩ : ∃ z, Hid (z = rightM a h c) := ⟨_, Lib.hid rfl⟩
    rw [← HZ.out]
    rintro e W3 ⟨rfl, hb3⟩
    have HM3 : Hid (MapAt W3 b4 a h c) := Lib.hid ((hb3.block _ HM2.out.lt).trans HM2.out)
    have HR23 : Hid (MapAt W3 b2 0 0 ⟨#[]⟩) := Lib.hid ((hb3.block _ HR2.out.lt).trans HR2.out)
    have HR33 : Hid (Boxed W3 b3 26 .nilIface) := Lib.hid ((hb3.block _ HR3.out.lt).trans HR3.out)
    have HK3 : Hid (W3.heap[D]? = some (.deferred (some []))) := Lib.hid ((hb3.block _ (Array.getElem?_eq_some_iff.1 HK2.out).1).trans HK2.out)
    have HB3 : Hid (Below w.heap.size w W3) := Lib.hid (HBW.out.trans (hb3.mono HBW.out.size))
    clear hb3 c0 c1 c2 HM2 HR2 HR3 HK2 HBW
    dsimp only
    cases z with
    | false =>
      go_wp2_with fail
      refine (GridFault_any 2 (by decide) _).mono ?_
      rintro e W4 ⟨v9, rfl, hv9, hb9⟩
      obtain ⟨ty9, x9, rfl⟩ := hv9.some (by decide)
      have HV9 := Lib.hid hv9
      have HM4 : Hid (MapAt W4 b2 0 0 ⟨#[]⟩) := Lib.hid ((hb9.block _ HR23.out.lt).trans HR23.out)
      have HR4 : Hid (Boxed W4 b3 26 .nilIface) := Lib.hid ((hb9.block _ HR33.out.lt).trans HR33.out)
      have HK4 : Hid (W4.heap[D]? = some (.deferred (some []))) := Lib.hid ((hb9.block _ (Array.getElem?_eq_some_iff.1 HK3.out).1).trans HK3.out)
      have HB4 : Hid (Below w.heap.size w W4) := Lib.hid (HB3.out.trans (hb9.mono HB3.out.size))
      clear hv9 hb9
      have c20 := HM4.out.w_
      have c21 := HM4.out.h_
      have c22 := HM4.out.s_
      have c23 := HR4.out.cell
      have f23 := HR4.out.frozen
      have f20 := map_free HM4.out 0
      have f21 := map_free HM4.out 1
      have f22 := map_free HM4.out 2
      dsimp only
      go_wp2_with fail
      obtain ⟨e1, e2, e3, e4⟩ := err_exit (w0 := w) HM4.out HR4.out HV9.out HR23.out.lt HR33.out.lt HB3.out.size HLS.out.1 HLS.out.2.1 n23 HB4.out rfl
      have hk9 : ((((W4.setCell ⟨b2, 0, none⟩ (.int .i64 0)).setCell ⟨b2, 1, none⟩ (.int .i64 0)).setCell ⟨b2, 2, none⟩ (.string ⟨#[]⟩)).setCell ⟨b3, 0, none⟩ (.iface ty9 x9)).heap[D]? = some (.deferred (some [])) := by
        obtain ⟨d2, d3, d4⟩ := HD.out
        refine (Below.heap_setCell _ _ _ _ (by show D ≠ b3; exact d3)).trans ?_
        exact (Below.heap_setCell _ _ _ _ (by show D ≠ b2; exact d2)).trans ((Below.heap_setCell _ _ _ _ (by show D ≠ b2; exact d2)).trans ((Below.heap_setCell _ _ _ _ (by show D ≠ b2; exact d2)).trans HK4.out))
      have hp := grownBy_putObj' ((((W4.setCell ⟨b2, 0, none⟩ (.int .i64 0)).setCell ⟨b2, 1, none⟩ (.int .i64 0)).setCell ⟨b2, 2, none⟩ (.string ⟨#[]⟩)).setCell ⟨b3, 0, none⟩ (.iface ty9 x9)) D (.deferred none)
      have hr' : ∀ r, some D = some r → ∃ o : Obj, ((((W4.setCell ⟨b2, 0, none⟩ (.int .i64 0)).setCell ⟨b2, 1, none⟩ (.int .i64 0)).setCell ⟨b2, 2, none⟩ (.string ⟨#[]⟩)).setCell ⟨b3, 0, none⟩ (.iface ty9 x9)).heap[r]? = some o ∧ o.isCells = false := fun r e => by cases e; exact ⟨_, hk9, rfl⟩
      refine ⟨by simp, .inl ⟨_, _, rfl, run_takeDeferred hk9, ?_⟩⟩
      refine ⟨_, parse_results rfl rfl (cells_kept e1 hp hr') (cells_kept e2 hp hr'), ?_⟩
      rw [HPG.out, ← HZ.out, if_neg (by decide)]
      exact ⟨e4.grown hp e4.size (fun j e => by cases e; exact HLS.out.2.2), _, rfl, err_kept e3 hp hr'⟩
    | true =>
      have c0 := HM3.out.w_
      have c1 := HM3.out.h_
      have c2 := HM3.out.s_
      have c20 := HR23.out.w_
      have c21 := HR23.out.h_
      have c22 := HR23.out.s_
      have c23 := HR33.out.cell
      have f23 := HR33.out.frozen
      have f20 := map_free HR23.out 0
      have f21 := map_free HR23.out 1
      have f22 := map_free HR23.out 2
      go_wp2_with fail
      obtain ⟨W9, HW9⟩ : ∃ W9, Hid (W9 = (((W3.setCell ⟨b2, 0, none⟩ (.int .i64 (a : Int))).setCell ⟨b2, 1, none⟩ (.int .i64 (h : Int))).setCell ⟨b2, 2, none⟩ (.string c)).setCell ⟨b3, 0, none⟩ .nilIface) := ⟨_, Lib.hid rfl⟩
      rw [← HW9.out]
      have hk9 : W9.heap[D]? = some (.deferred (some [])) := by
        obtain ⟨d2, d3, d4⟩ := HD.out
        rw [HW9.out]
        refine (Below.heap_setCell _ _ _ _ (by show D ≠ b3; exact d3)).trans ?_
        exact (Below.heap_setCell _ _ _ _ (by show D ≠ b2; exact d2)).trans ((Below.heap_setCell _ _ _ _ (by show D ≠ b2; exact d2)).trans ((Below.heap_setCell _ _ _ _ (by show D ≠ b2; exact d2)).trans HK3.out))
      have e1 : MapAt W9 b2 a h c := by
        rw [HW9.out]
        have := heap_set_same (heap_set_same (heap_set_same HR23.out 0 (.int .i64 (a : Int))) 1 (.int .i64 (h : Int))) 2 (.string c)
        exact (Below.heap_setCell _ _ _ _ (by show b2 ≠ b3; exact n23)).trans this
      have e2 : Boxed W9 b3 26 .nilIface := by
        rw [HW9.out]
        have o3 : ∀ (X : World) (j : Nat) (y : Value), (X.setCell ⟨b2, j, none⟩ y).heap[b3]? = X.heap[b3]? := fun X j y => Below.heap_setCell _ _ _ _ (by show b3 ≠ b2; exact n32)
        have a9 : Boxed (((W3.setCell ⟨b2, 0, none⟩ (.int .i64 (a : Int))).setCell ⟨b2, 1, none⟩ (.int .i64 (h : Int))).setCell ⟨b2, 2, none⟩ (.string c)) b3 26 .nilIface := (o3 _ _ _).trans ((o3 _ _ _).trans ((o3 _ _ _).trans HR33.out))
        exact a9.set _
      have e4 : Below w.heap.size w W9 := by
        rw [HW9.out]
        exact (((HB3.out.setCell (p := ⟨b2, 0, none⟩) HLS.out.1 _).setCell (p := ⟨b2, 1, none⟩) HLS.out.1 _).setCell (p := ⟨b2, 2, none⟩) HLS.out.1 _).setCell (p := ⟨b3, 0, none⟩) HLS.out.2.1 _
      have hp := grownBy_putObj' W9 D (.deferred none)
      have hr' : ∀ r, some D = some r → ∃ o : Obj, W9.heap[r]? = some o ∧ o.isCells = false := fun r e => by cases e; exact ⟨_, hk9, rfl⟩
      refine ⟨by simp, .inl ⟨_, _, rfl, run_takeDeferred hk9, ?_⟩⟩
      refine ⟨_, parse_results rfl rfl (cells_kept e1 hp hr') (cells_kept e2 hp hr'), ?_⟩
      rw [HPG.out, ← HZ.out, if_pos rfl]
      exact ⟨e4.grown hp e4.size (fun j e => by cases e; exact HLS.out.2.2), rfl⟩
  case stop =>
    rintro D pre W hD hpre ⟨hbad, h2, v, h3, he, hb⟩ hK
    have hnone : parseM s.data.toList = none := parse_bad (fun hg => hbad (by
      obtain ⟨suf, hs2⟩ := hpre
      have h4 := congrArg (List.map fun b : ByteArray => b.data.toList) hs2
      unfold texts at h4
      simp only [List.map_append, List.map_map] at h4
      have e3 : ∀ m : List (List UInt8), m.map ((fun b : ByteArray => b.data.toList) ∘ fun r : List UInt8 => (⟨r.toArray⟩ : ByteArray)) = m := fun m => (List.map_congr_left (g := id) (fun _ _ => rfl)).trans (List.map_id _)
      rw [e3] at h4
      rw [← h4] at hg
      exact hg.prefix_))
    rw [hnone]
    have hp := grownBy_putObj' W D (.deferred none)
    have hr' : ∀ r, some D = some r → ∃ o : Obj, W.heap[r]? = some o ∧ o.isCells = false := fun r e => by cases e; exact ⟨_, hK, rfl⟩
    gi_wp2
    refine ⟨by simp, .inl ⟨_, _, rfl, run_takeDeferred hK, ?_⟩⟩
    exact ⟨_, parse_results rfl rfl (cells_kept h2 hp hr') (cells_kept h3 hp hr'), hb.grown hp hb.size (fun j e => by cases e; exact Nat.le_trans HLO.out.1 hD), v, rfl, err_kept he hp hr'⟩
theorem Parse_any (s : ByteArray) (hs : s.size ≤ maxLen) (w : World) : Calls Tryd.prog 13 #[.string s] w (ParsePost (parseM s.data.toList) w) := by
  by_cases h : s.size ≤ 72
  · exact Parse_short s h w
  · have hn : parseM s.data.toList = none := by
      unfold parseM
      rw [if_neg (by rw [size_list]; exact h)]
    rw [hn]
    exact Parse_long s (by omega) hs w
end Go.Proofs.YtoempilmofbhdaaDoor
