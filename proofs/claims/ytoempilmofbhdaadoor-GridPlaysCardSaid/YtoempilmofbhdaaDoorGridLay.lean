/-
  The contract of Lay (layer 14). Conditions: none beyond the premises of each theorem.
-/
import Derived.Test.YtoempilmofbhdaaDoorGridChunk
import Derived.OwnWalkIn
namespace Go.Proofs.YtoempilmofbhdaaDoor
open Go Go.RowKit Go.Shelf

/-- a chunk, and what is laid of chunks -/
def chunkOf (xs : List UInt8) (a k : Nat) : List UInt8 := (xs.drop (k * a)).take a
def layOf (xs : List UInt8) (a : Nat) (ks : List Nat) : List UInt8 := ks.flatMap fun k => chunkOf xs a k ++ [10]
theorem layOf_snoc (xs : List UInt8) (a : Nat) (ks : List Nat) (k : Nat) : layOf xs a (ks ++ [k]) = layOf xs a ks ++ chunkOf xs a k ++ [10] := by
  unfold layOf
  rw [List.flatMap_append]
  simp
theorem chunkOf_length {xs : List UInt8} {a h k : Nat} (hn : xs.length = a * h) (hk : k < h) : (chunkOf xs a k).length = a := by
  unfold chunkOf
  rw [List.length_take, List.length_drop, hn]
  have : k * a + a ≤ a * h := by rw [← Nat.succ_mul, Nat.mul_comm a h]; exact Nat.mul_le_mul_right a hk
  omega
theorem layOf_length {xs : List UInt8} {a h : Nat} (hn : xs.length = a * h) : ∀ (ks : List Nat), (∀ k ∈ ks, k < h) → (layOf xs a ks).length = ks.length * (a + 1)
  | [], _ => by simp [layOf]
  | k :: ks, hk => by
    have ih := layOf_length hn ks fun j hj => hk j (by simp [hj])
    have h1 := chunkOf_length hn (hk k (by simp))
    unfold layOf at ih ⊢
    rw [List.flatMap_cons, List.length_append, ih, List.length_append, h1, show (k :: ks).length = Nat.succ ks.length from rfl, Nat.succ_mul, List.length_singleton]
    omega
/-- between two rows: what is laid so far -/
structure LaySt (w0 : World) (base bt B : Nat) (C : Array Value) (fr : Nat × Nat) (lay : List UInt8) (v : Value) (W : World) : Prop where
  t : Boxed W bt 46 v
  row : W.ownsRow base 5 1 v lay.length (byteCells lay)
  blk : W.heap[B]? = some (.cells C 5 fr)
  below : Below w0.heap.size w0 W
  sz : base ≤ W.heap.size
  lt : w0.heap.size ≤ bt ∧ bt < base ∧ B < base ∧ bt ≠ B
def LI (w0 : World) (base bt B : Nat) (C : Array Value) (fr : Nat × Nat) (xs : List UInt8) (a : Nat) {h : Nat} (pre : List (Chk h)) (W : World) : Prop := ∃ v, LaySt w0 base bt B C fr (layOf xs a (pre.map (·.1))) v W
theorem not_own {W : World} {base k e n : Nat} {v : Value} {xs : List Value} (h : W.ownsRow base e 1 v n xs) (hk : k < base) : v.ownBlock ≠ some k := fun e => by have := (h.lt k e).1; omega
theorem LI_own {w0 : World} {base bt B a h : Nat} {C : Array Value} {fr : Nat × Nat} {xs : List UInt8} : OwnFrom base (LI w0 base bt B C fr xs a (h := h)) := by
  rintro pre W W' row ⟨v, h⟩ hg hr
  have hr' : ∀ r, row = some r → ∃ o : Obj, W.heap[r]? = some o ∧ o.isCells = false := fun r e => (hr r e).2
  exact ⟨v, cells_kept h.t hg hr', ownsRow_cells h.row hg hr', cells_kept h.blk hg hr', h.below.grown hg h.below.size (fun j e => by have := (hr j e).1; have := h.lt; omega), Nat.le_trans h.sz hg.size, h.lt⟩
theorem LI_set {w0 : World} {base bt B a h q : Nat} {C : Array Value} {fr : Nat × Nat} {xs : List UInt8} (h1 : q ≠ bt) (h2 : q ≠ B) (h3 : q < base) (h4 : w0.heap.size ≤ q) (pre : List (Chk h)) (U : World) (x : Value)
    (hh : LI w0 base bt B C fr xs a pre U) : LI w0 base bt B C fr xs a pre (U.setCell ⟨q, 0, none⟩ x) := by
  obtain ⟨v, h⟩ := hh
  exact ⟨v, (Below.heap_setCell _ _ _ _ (by show bt ≠ q; exact Ne.symm h1)).trans h.t, h.row.kept (grownBy_setCell' U q x) (.inr (not_own h.row h3)), (Below.heap_setCell _ _ _ _ (by show B ≠ q; exact Ne.symm h2)).trans h.blk,
    h.below.setCell (p := ⟨q, 0, none⟩) h4 x, by rw [size_set9]; exact h.sz, h.lt⟩
theorem LaySt.first {w0 W W1 : World} {base bt B : Nat} {C : Array Value} {fr : Nat × Nat} {lay : List UInt8} {v v1 : Value} {n1 : Nat} {xs1 : List Value} (h : LaySt w0 base bt B C fr lay v W) (_hown : W1.ownsRow base 5 1 v1 n1 xs1) (hgr : W.grownBy W1 v.ownBlock) :
    Boxed W1 bt 46 v ∧ W1.heap[B]? = some (.cells C 5 fr) ∧ Below w0.heap.size w0 W1 ∧ base ≤ W1.heap.size ∧ KeepsOthers W W1 ∧ ∀ k, k < base → W1.heap[k]? = W.heap[k]? := by
  obtain ⟨l1, l2, l3, l4⟩ := h.lt
  have k1 : ∀ k, k < base → W1.heap[k]? = W.heap[k]? := fun k hk => hgr.block k (Nat.lt_of_lt_of_le hk h.sz) (fun e => not_own h.row hk e.symm)
  refine ⟨(k1 _ l2).trans h.t, (k1 _ l3).trans h.blk, h.below.grown hgr h.below.size (fun j e => by have := (h.row.lt j e).1; omega), Nat.le_trans h.sz hgr.size, ?_, k1⟩
  refine KeepsOthers.of_grownBy hgr fun j o ej hj => ?_
  rcases h.row.2 with ⟨rfl, _⟩ | ⟨g, cap, cur, rfl, _, hgb, _⟩
  · simp [Value.ownBlock] at ej
  · obtain rfl : g = j := by simpa [Value.ownBlock] using ej
    rw [hgb] at hj; cases hj; rfl
/-- behind the first append and its store, and the array of the line's end -/
theorem LaySt.mid {w0 W1 : World} {base bt B : Nat} {C : Array Value} {fr : Nat × Nat} {lay : List UInt8} {v v1 : Value} (h1 : Boxed W1 bt 46 v) (h2 : W1.heap[B]? = some (.cells C 5 fr)) (h3 : Below w0.heap.size w0 W1) (h4 : base ≤ W1.heap.size)
    (lt : w0.heap.size ≤ bt ∧ bt < base ∧ B < base ∧ bt ≠ B) (hown : W1.ownsRow base 5 1 v1 lay.length (byteCells lay)) : LaySt w0 base bt B C fr lay v1 (W1.setCell ⟨bt, 0, none⟩ v1) :=
  ⟨h1.set v1, hown.kept (grownBy_setCell' W1 bt v1) (.inr (not_own hown lt.2.1)), (Below.heap_setCell _ _ _ _ (by show B ≠ bt; exact Ne.symm lt.2.2.2)).trans h2, h3.setCell (p := ⟨bt, 0, none⟩) lt.1 v1, by rw [size_set9]; exact h4, lt⟩
theorem LaySt.alloc {w0 W : World} {base bt B : Nat} {C : Array Value} {fr : Nat × Nat} {lay : List UInt8} {v : Value} (h : LaySt w0 base bt B C fr lay v W) (o : Obj) : LaySt w0 base bt B C fr lay v (W.alloc o) := by
  obtain ⟨l1, l2, l3, l4⟩ := h.lt
  have hs := h.sz
  exact ⟨(Below.heap_alloc _ _ _ (by omega)).trans h.t, h.row.alloc o, (Below.heap_alloc _ _ _ (by omega)).trans h.blk, h.below.alloc h.below.size o, by simp; omega, h.lt⟩
theorem bytes_heap (s : ByteArray) (w : World) : ∃ (w1 : World) (C : Array Value) (fr : Nat × Nat) (cap : Nat), (convert 9 46 (.string s)).run Tryd.prog w = .ok (.slice (some ⟨w.heap.size, 0, none⟩) s.size cap) w1 ∧ Row w1 w.heap.size s.data.toList ∧ Below w.heap.size w w1 ∧ w1.heap[w.heap.size]? = some (.cells C 5 fr) ∧ s.size ≤ cap ∧ w1.heap.size = w.heap.size + 1 := by
  obtain ⟨w1, cap, h1, h2, h3⟩ := bytes_of s w
  have h4 := run_bytes_of_string (P := Tryd.prog) w 9 46 5 s Tryd.underlying9 Tryd.underlying46 Tryd.underlying5
  rw [h4] at h1
  injection h1 with h5 h6
  injection h5 with _ _ h7
  subst h6 h7
  refine ⟨_, bytesRow s (grownCap w s.size 0 5), ((bytesRow s (grownCap w s.size 0 5)).size, (bytesRow s (grownCap w s.size 0 5)).size + 1), _, h4, h2, h3, ?_, grownCap_ge _ _ _ _, by show (w.heap.push _).size = _; simp⟩
  show (w.heap.push _)[w.heap.size]? = _
  simp
theorem row_of_block {w w' : World} {B : Nat} {xs : List UInt8} (h : Row w B xs) (hb : w'.heap[B]? = w.heap[B]?) : Row w' B xs := fun i hi =>
  ⟨(World.cell?_of_block (w := w) (a := ⟨B, i, none⟩) hb).trans (h i hi).1, (World.frozen?_of_block (w := w) (a := ⟨B, i, none⟩) hb).trans (h i hi).2⟩
theorem row_chunk {w : World} {B a h k : Nat} {xs : List UInt8} (hr : Row w B xs) (hn : xs.length = a * h) (hk : k < h) : ∀ j u, (byteCells (chunkOf xs a k))[j]? = some u → w.cell? ((⟨B, k * a, none⟩ : Addr).add j) = some u := by
  intro j u hu
  unfold byteCells at hu
  rw [List.getElem?_map] at hu
  have hl := chunkOf_length hn hk
  have hj : j < a := by
    rcases Nat.lt_or_ge j (chunkOf xs a k).length with h1 | h1
    · omega
    · rw [List.getElem?_eq_none h1] at hu; cases hu
  have hin : k * a + a ≤ a * h := by rw [← Nat.succ_mul, Nat.mul_comm a h]; exact Nat.mul_le_mul_right a hk
  have hadd : (⟨B, k * a, none⟩ : Addr).add j = ⟨B, k * a + j, none⟩ := by unfold Addr.add; split <;> simp_all
  rw [hadd, (hr (k * a + j) (by omega)).1]
  unfold chunkOf at hu
  rw [List.getElem?_take_of_lt hj, List.getElem?_drop, List.getElem?_eq_getElem (by omega)] at hu
  exact hu
theorem lay_results {tmps : Array Value} {W : World} {x v : Value} (t2 : tmps.getD 2 undef = x) (t3 : tmps.getD 3 undef = v) : (results Tryd.f10 tmps).run Tryd.prog W = .ok (.tuple #[x, v]) W := by
  simp only [results, Tryd.f10]
  simp [go_sem] at t2 t3 ⊢
  simp [t2, t3]
/-- a round's end -/
theorem LaySt.close {w0 W W1 W3 : World} {base bt B q a h : Nat} {C : Array Value} {fr : Nat × Nat} {xs : List UInt8} {v1 v2 : Value} {pre : List (Chk h)} {x : Chk h} {o : Obj} (hq : q + 1 < base) (q1 : q ≠ bt) (q2 : q + 1 ≠ bt)
    (h1 : KeepsOthers W W1) (k1 : ∀ k, k < base → W1.heap[k]? = W.heap[k]?) (hm : LaySt w0 base bt B C fr (layOf xs a (pre.map (·.1)) ++ chunkOf xs a x.1) v1 (W1.setCell ⟨bt, 0, none⟩ v1)) (hs : base ≤ W1.heap.size)
    (hown : W3.ownsRow base 5 1 v2 ((layOf xs a (pre.map (·.1)) ++ chunkOf xs a x.1).length + 1) (byteCells (layOf xs a (pre.map (·.1)) ++ chunkOf xs a x.1) ++ [.int .u8 10])) (hgr : ((W1.setCell ⟨bt, 0, none⟩ v1).alloc o).grownBy W3 v1.ownBlock) :
    seqEnd (KeepTwo q (q + 1)) (LI w0 base bt B C fr xs a) (fun _ _ => False) (pre ++ [x]) W .normal (W3.setCell ⟨bt, 0, none⟩ v2) := by
  obtain ⟨t1, t2, t3, t4, t5, t6⟩ := (hm.alloc o).first hown hgr
  have e1 : layOf xs a ((pre ++ [x]).map (·.1)) = layOf xs a (pre.map (·.1)) ++ chunkOf xs a x.1 ++ [10] := by
    rw [List.map_append]; exact layOf_snoc _ _ _ _
  have hk : ∀ k, k < base → k ≠ bt → (W3.setCell ⟨bt, 0, none⟩ v2).heap[k]? = W.heap[k]? := fun k hk hne =>
    (Below.heap_setCell _ _ _ _ (by show k ≠ bt; exact hne)).trans ((t6 k hk).trans ((Below.heap_alloc _ _ _ (by rw [size_set9]; omega)).trans ((Below.heap_setCell _ _ _ _ (by show k ≠ bt; exact hne)).trans (k1 k hk))))
  refine ⟨(((h1.trans (KeepsOthers.setCell _ _ _)).trans (KeepsOthers.alloc _ _)).trans t5).trans (KeepsOthers.setCell _ _ _), .inl ⟨rfl, ⟨hk q (by omega) q1, hk (q + 1) hq q2⟩, v2, ?_⟩⟩
  rw [e1]
  refine LaySt.mid t1 t2 t3 t4 hm.lt ?_
  have e2 : byteCells (layOf xs a (pre.map (·.1)) ++ chunkOf xs a x.1) ++ [Value.int .u8 10] = byteCells (layOf xs a (pre.map (·.1)) ++ chunkOf xs a x.1 ++ [10]) := by
    unfold byteCells
    rw [List.map_append (l₁ := layOf xs a (pre.map (·.1)) ++ chunkOf xs a x.1)]
    rfl
  rw [e2] at hown
  have e3 : ∀ l : List UInt8, (l ++ [10]).length = l.length + 1 := fun l => by simp
  rw [e3]
  exact hown
/-- an answer of Lay -/
def LayPost (W H : Int) (s : ByteArray) (w : World) (e : Ending) (w' : World) : Prop :=
  Below w.heap.size w w' ∧ ((rightM W H s = true ∧ e = .returned (.tuple #[.string (ofBytes (layOf s.data.toList W.toNat (List.range H.toNat))), .nilIface])) ∨
    (rightM W H s = false ∧ ∃ v, e = .returned (.tuple #[.string ⟨#[]⟩, v]) ∧ ErrFrom w' w.heap.size 1 v))
attribute [local go_sem] Oper.semAt_some
set_option maxRecDepth 100000 in
set_option maxHeartbeats 2000000 in
theorem Lay_any (W H : Int) (s : ByteArray) (hsm : s.size ≤ maxLen) (w : World) : Calls Tryd.prog 10 #[.agg #[.int .i64 W, .int .i64 H, .string s]] w (LayPost W H s w) := by
  obtain ⟨w1, HW1⟩ : ∃ w1, Hid (w1 = w.alloc (.cells #[.int .i64 W, .int .i64 H, .string s] 29)) := ⟨_, Lib.hid rfl⟩
  obtain ⟨p, HP⟩ : ∃ p, Hid (p = w.heap.size) := ⟨_, Lib.hid rfl⟩
  have HM1 : Hid (MapAt w1 p W H s) := Lib.hid (by rw [HW1.out, HP.out]; exact heap_alloc_new w _)
  have HB1 : Hid (Below w.heap.size w w1) := Lib.hid (by rw [HW1.out]; exact (Below.refl _ _).alloc (Nat.le_refl _) _)
  refine (callsIn_wide (n := 4)).1 ?_
  refine callsIn_of_wp_marks Tryd.func10 rfl trivial ?_ rfl
  simp only [Tryd.ntmps10, List.size_toArray, List.length_cons, List.length_nil, Nat.reduceAdd, Nat.reduceSub, Array.replicate_succ, Array.replicate_zero, List.push_toArray, List.append_toArray, List.nil_append, List.cons_append]
  refine wpIn_wide.2 ?_
  go_upto_region 1 with (fail)
  rw [← HP.out, ← HW1.out]
  clear HP HW1
  have c0 := HM1.out.w_
  have c1 := HM1.out.h_
  have c2 := HM1.out.s_
  go_wp2_with fail
  refine (Right_any W H s hsm w1).mono ?_
  obtain ⟨z, HZ⟩ : ∃ z, Hid (z = rightM W H s) := ⟨_, Lib.hid rfl⟩
  rw [← HZ.out]
  rintro e w2 ⟨rfl, hb⟩
  have HM2 : Hid (MapAt w2 p W H s) := Lib.hid ((hb.block _ HM1.out.lt).trans HM1.out)
  have HB2 := Lib.hid (HB1.out.trans (hb.mono HB1.out.size))
  clear hb HM1 HB1 c0 c1 c2
  dsimp only
  cases z with
  | false =>
    go_wp2_with fail
    refine (GridFault_any 1 (by decide) w2).mono ?_
    rintro e w3 ⟨v9, rfl, hv9, hb9⟩
    have HV9 := Lib.hid hv9
    have HB3 := Lib.hid (HB2.out.trans (hb9.mono HB2.out.size))
    have HS2 : Hid (w.heap.size ≤ w2.heap.size) := Lib.hid HB2.out.size
    clear hv9 hb9
    dsimp only
    go_wp2_with fail
    refine ⟨_, lay_results rfl rfl, HB3.out, .inr ⟨HZ.out.symm, v9, rfl, ?_⟩⟩
    exact ErrFrom.mono HV9.out HS2.out
  | true =>
    have hr := Grid.rightB_iff.1 HZ.out.symm
    obtain ⟨a, h, rfl, rfl, h1, h8, hh1, hh8, hn, _⟩ := Grid.sized_nat hr.1
    have hl : s.data.toList.length = s.size := by rw [Array.length_toList]; rfl
    have HN := Lib.hid hn
    have h64 : s.size ≤ 64 := by
      have h3 : a * h ≤ 8 * 8 := Nat.mul_le_mul h8 hh8
      omega
    clear hr hn
    have c0 := HM2.out.w_
    have c1 := HM2.out.h_
    have c2 := HM2.out.s_
    obtain ⟨w3, HW3⟩ : ∃ w3, Hid (w3 = w2.alloc (.cells #[.slice none 0 0] 46)) := ⟨_, Lib.hid rfl⟩
    obtain ⟨bt, HBT⟩ : ∃ bt, Hid (bt = w2.heap.size) := ⟨_, Lib.hid rfl⟩
    have HM3 : Hid (MapAt w3 p a h s) := Lib.hid (by rw [HW3.out]; exact HM2.out.alloc _)
    have HT3 : Hid (Boxed w3 bt 46 (.slice none 0 0)) := Lib.hid (by rw [HW3.out, HBT.out]; exact Boxed.new _ _ _)
    have HB3 : Hid (Below w.heap.size w w3 ∧ w.heap.size ≤ bt ∧ bt < w3.heap.size) := Lib.hid (by rw [HW3.out, HBT.out]; exact ⟨HB2.out.alloc HB2.out.size _, HB2.out.size, by simp⟩)
    go_upto_region 4 with (fail)
    rw [← HBT.out, ← HW3.out]
    clear HW3 HBT HM2 HB2 c0 c1 c2
    have c0 := HM3.out.w_
    have c1 := HM3.out.h_
    have c2 := HM3.out.s_
    obtain ⟨w4, C, fr, cap, hconv, hrow, hb4, hblk, hcap, hs4⟩ := bytes_heap s w3
    obtain ⟨B, HBB⟩ : ∃ B, Hid (B = w3.heap.size) := ⟨_, Lib.hid rfl⟩
    rw [← HBB.out] at hconv hrow hblk hs4
    have HM4 : Hid (MapAt w4 p a h s) := Lib.hid ((hb4.block _ HM3.out.lt).trans HM3.out)
    have HT4 : Hid (Boxed w4 bt 46 (.slice none 0 0)) := Lib.hid ((hb4.block _ HT3.out.lt).trans HT3.out)
    have HROW := Lib.hid hrow
    have HBLK := Lib.hid hblk
    have HS4 := Lib.hid hs4
    have HCAP := Lib.hid hcap
    have HB4 : Hid (Below w.heap.size w w4 ∧ w.heap.size ≤ bt ∧ bt < B ∧ B < w4.heap.size) := Lib.hid ⟨HB3.out.1.trans (hb4.mono HB3.out.1.size), HB3.out.2.1, by rw [HBB.out]; exact HB3.out.2.2, by rw [hs4]; omega⟩
    have c0' := HM4.out.w_
    clear hrow hb4 hblk hcap hs4 HBB HM3 HT3 HB3 c1
    obtain ⟨w5, HW5⟩ : ∃ w5, Hid (w5 = (w4.alloc (.cells #[.slice (some ⟨B, 0, none⟩) s.size cap] 46)).alloc (.cells #[.int .i64 (a : Int)] 3)) := ⟨_, Lib.hid rfl⟩
    obtain ⟨q, HQ⟩ : ∃ q, Hid (q = w4.heap.size) := ⟨_, Lib.hid rfl⟩
    have HQ5 : Hid (Boxed w5 q 46 (.slice (some ⟨B, 0, none⟩) s.size cap) ∧ Boxed w5 (q + 1) 3 (.int .i64 (a : Int)) ∧ w5.heap.size = q + 1 + 1) := Lib.hid (by
      refine ⟨?_, ?_, by rw [HW5.out, HQ.out]; simp⟩
      · rw [HW5.out, HQ.out]
        exact (Below.heap_alloc _ _ _ (by simp)).trans (Boxed.new w4 _ _)
      · have := Boxed.new (w4.alloc (.cells #[.slice (some ⟨B, 0, none⟩) s.size cap] 46)) 3 (.int .i64 (a : Int))
        rw [HW5.out, HQ.out]
        simpa using this)
    have HST : Hid (LaySt w w5.heap.size bt B C fr (layOf s.data.toList a []) (.slice none 0 0) w5 ∧ B < q) := Lib.hid (by
      obtain ⟨l1, l2, l3, l4⟩ := HB4.out
      have hsz := HQ5.out.2.2
      have hlt : ∀ k, k < w4.heap.size → w5.heap[k]? = w4.heap[k]? := fun k hk => by
        rw [HW5.out]
        exact (Below.heap_alloc _ _ _ (by simp; omega)).trans (Below.heap_alloc _ _ _ hk)
      have hq4 := HQ.out
      refine ⟨⟨(hlt _ (by omega)).trans HT4.out, World.ownsRow_nil _ _ _ _, (hlt _ l4).trans HBLK.out, ?_, Nat.le_refl _, l2, by omega, by omega, by omega⟩, by omega⟩
      rw [HW5.out]
      exact (l1.alloc l1.size _).alloc (by have := l1.size; simp; omega) _)
    go_wp2_with (go_at_call 23; refine (Chunk_any B cap s.size a h1 _).mono ?_; rintro e w9 ⟨rfl, rfl⟩)
    rw [← HQ.out, ← HW5.out]
    obtain ⟨base, HBA⟩ : ∃ base, Hid (base = w5.heap.size) := ⟨_, Lib.hid rfl⟩
    rw [← HBA.out] at HST
    have HLQ : Hid (q + 1 < base ∧ q ≠ bt ∧ q + 1 ≠ bt ∧ q ≠ B ∧ w.heap.size ≤ q ∧ w.heap.size ≤ base) := Lib.hid (by
      have := HQ5.out.2.2
      have := HST.out.2
      have := HB4.out
      rw [HBA.out]
      omega)
    have HRB : Hid (∀ W : World, W.heap[B]? = some (.cells C 5 fr) → Row W B s.data.toList) := Lib.hid fun W hW => row_of_block HROW.out (hW.trans HBLK.out.symm)
    clear HQ HW5 hconv HROW HBLK HS4 HB4 HT4 HM4 c0 c2 c0'
    rename_i hKc
    have HKC := Lib.hid hKc
    clear hKc
    refine (wpIn_wide (n := 4)).1 ?_
    refine wpIn_seqBox rfl (by decide) (gf := 33) (lb := #[.pointer (some ⟨q, 0, none⟩), .pointer (some ⟨q + 1, 0, none⟩)]) rfl trivial (enters_of Tryd.func33 (by kernel_rfl) rfl)
      (chunk_stops q (q + 1) B a h s.size cap h1 h8 hh8 (by rw [← hl]; exact HN.out) HCAP.out w5 HQ5.out.1 HQ5.out.2.1) (by rw [HQ5.out.2.2]; omega) (Below.refl _ _) (fun _ => rfl)
      (fun h1 h2 => ⟨h2.1.trans h1.1, h2.2.trans h1.2⟩) (fun W l o o' hl9 ho _ => ⟨World.putObj_heap_other (by rw [HQ5.out.2.2] at hl9; omega), World.putObj_heap_other (by rw [HQ5.out.2.2] at hl9; omega)⟩)
      (LI w base bt B C fr s.data.toList a) (fun _ _ => False) (by rw [← HBA.out]; exact LI_own) (fun _ _ _ _ h _ _ => h.elim)
      (fun p U v hh => LI_set HLQ.out.2.1 HLQ.out.2.2.2.1 (by have := HLQ.out.1; omega) HLQ.out.2.2.2.2.1 p U v hh) ⟨_, HST.out.1⟩
      (fun x => { tmps := #[.agg #[.int .i64 (a : Int), .int .i64 (h : Int), .string s], .pointer (some ⟨p, 0, none⟩), .string ⟨#[]⟩, .nilIface, .pointer (some ⟨bt, 0, none⟩), .slice (some ⟨B, x.1 * a, none⟩) a a, .agg #[.int .i64 (a : Int), .int .i64 (h : Int), .string s], .bool true, .bool false, undef, .pointer (some ⟨p, 2, none⟩), .string s, .slice (some ⟨B, 0, none⟩) s.size cap, .pointer (some ⟨p, 0, none⟩), .int .i64 (a : Int), .func (.func 33) #[] #[.pointer (some ⟨q, 0, none⟩), .pointer (some ⟨q + 1, 0, none⟩)], .slice (some ⟨B, x.1 * a, none⟩) a a, undef, undef, undef, undef, undef, undef, undef, undef], defers := [] }) ?assign ?body ?done ?stop
    case assign =>
      intro l x W K hK
      unfold chkV
      gi_wp2
      exact hK
    case body =>
      rintro l pre x W ⟨v, hst⟩ hlen
      have HS0 := Lib.hid hst
      have c5 := hst.t.cell
      clear hst
      have HCL : Hid ((chunkOf s.data.toList a x.1).length = a) := Lib.hid (chunkOf_length HN.out x.2)
      have HLL : Hid ((layOf s.data.toList a (pre.map (·.1))).length ≤ 72) := Lib.hid (by
        rw [layOf_length HN.out _ (fun k hk => by obtain ⟨y, _, rfl⟩ := List.mem_map.1 hk; exact y.2), List.length_map]
        exact Nat.mul_le_mul (show pre.length ≤ 8 by omega) (show a + 1 ≤ 9 by omega))
      have HNEW := Lib.hid (row_chunk (HRB.out W HS0.out.blk) HN.out x.2)
      obtain ⟨i8, g1, g2, g3, g4⟩ := info_parts Tryd.infoByte9
      obtain ⟨lay, HLAY⟩ : ∃ lay, Hid (lay = layOf s.data.toList a (pre.map (·.1))) := ⟨_, Lib.hid rfl⟩
      obtain ⟨ck, HCK⟩ : ∃ ck, Hid (ck = chunkOf s.data.toList a x.1) := ⟨_, Lib.hid rfl⟩
      rw [← HLAY.out] at HS0 HLL
      rw [← HCK.out] at HCL HNEW
      have hone : ∀ u ∈ byteCells ck, u.oneCell' = true := fun u hu => by obtain ⟨c9, _, rfl⟩ := List.mem_map.1 hu; rfl
      have HONE := Lib.hid hone
      clear hone
      gi_wp2_with (first
        | (gi_at_builtin; refine wpListIn_append_own _ rfl _ _ 46 rfl base 5 i8 (.int .u8 0) 1 1 Tryd.underlying46 g1 g2 g3 g4 rfl (by decide) _ _ _ rfl HS0.out.row ⟨B, x.1 * a, none⟩ a a (byteCells ck) rfl (by unfold byteCells; rw [List.length_map, HCL.out]; omega) HNEW.out HONE.out (by have := HLL.out; unfold maxLen; omega) (by have := HLL.out; omega) HS0.out.sz ?_; intro v1 W1 hown1 hgr1 _; obtain ⟨A9, cap9, rfl⟩ := row_form hown1; have HF1 := Lib.hid (HS0.out.first hown1 hgr1); have HM1 := Lib.hid (LaySt.mid HF1.out.1 HF1.out.2.1 HF1.out.2.2.1 HF1.out.2.2.2.1 HS0.out.lt (lay := lay ++ ck) (by rw [List.length_append, HCL.out]; unfold byteCells at hown1 ⊢; rw [List.map_append]; exact hown1)); have c51 := HF1.out.1.cell; have f51 := HF1.out.1.frozen; clear hown1 hgr1 c5)
        | (gi_at_builtin; refine wpListIn_append_own _ rfl _ _ 46 rfl base 5 i8 (.int .u8 0) 1 1 Tryd.underlying46 g1 g2 g3 g4 rfl (by decide) _ _ _ rfl (HM1.out.alloc (.cells #[.int .u8 10] 5)).row ⟨_, 0, none⟩ 1 1 [.int .u8 10] rfl rfl ?new (fun u hu => by rw [List.mem_singleton.1 hu]; rfl) (by have := HLL.out; rw [List.length_append, HCL.out]; unfold maxLen; omega) (by have := HLL.out; rw [List.length_append, HCL.out]; omega) (HM1.out.alloc _).sz ?_; (case new => first | exact World.news_of_block (cs := #[.int .u8 10]) (heap_alloc_last _ _) | exact World.news_of_block (cs := #[.int .u8 10]) (by have h9 := heap_alloc_last (W1.setCell ⟨bt, 0, none⟩ (.slice A9 (lay.length + a) cap9)) (.cells #[.int .u8 10] 5); simpa using h9)); intro v2 W3 hown2 hgr2 _; obtain ⟨A8, cap8, rfl⟩ := row_form hown2; have HF2 := Lib.hid ((HM1.out.alloc _).first hown2 hgr2); have HO2 := Lib.hid hown2; have HG2 := Lib.hid hgr2; have c52 := HF2.out.1.cell; have f52 := HF2.out.1.frozen; clear hown2 hgr2 c51 f51))
      have e1 := HLAY.out
      have e2 := HCK.out
      subst e1 e2
      rw [← List.length_append]
      exact LaySt.close HLQ.out.1 HLQ.out.2.1 HLQ.out.2.2.1 HF1.out.2.2.2.2.1 HF1.out.2.2.2.2.2 HM1.out HF1.out.2.2.2.1 HO2.out HG2.out
    case done =>
      rintro D ys W hD hxs ⟨v, hst⟩ hK
      have htx := text_own hst.row
      rw [show ys.map (·.1) = List.range h from hxs] at htx
      have c5 := hst.t.cell
      have HBW := Lib.hid hst.below
      have HK := Lib.hid hK
      have HD : Hid (w.heap.size ≤ D) := Lib.hid (by have := HLQ.out; rw [← HBA.out] at hD; omega)
      obtain ⟨tx, HTX⟩ : ∃ tx, Hid (tx = ofBytes (layOf s.data.toList a (List.range h))) := ⟨_, Lib.hid rfl⟩
      rw [← HTX.out] at htx
      clear hst hK hD hxs
      refine HKC.out _ _ ?_
      go_wp2_with fail
      have hp := grownBy_putObj' W D (.deferred none)
      refine ⟨by simp, .inl ⟨_, _, rfl, run_takeDeferred HK.out, ?_⟩⟩
      refine ⟨_, lay_results rfl rfl, HBW.out.grown hp HBW.out.size (fun j e => by cases e; exact HD.out), .inl ⟨HZ.out.symm, ?_⟩⟩
      rw [HTX.out]
      rfl
    case stop =>
      rintro D pre W hD hpre hf
      exact hf.elim
end Go.Proofs.YtoempilmofbhdaaDoor
