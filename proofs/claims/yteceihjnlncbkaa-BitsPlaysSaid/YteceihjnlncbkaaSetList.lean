/-
  A row of 240 truth values in memory; the contracts of the document's own List and Of for layer 6. Conditions: none beyond the premises of each theorem.
-/
import Derived.Test.YteceihjnlncbkaaSetRef
namespace Go.Proofs.Yteceihjnlncbkaa
open Go.RowKit
open Bits (Ok has with_ without count countBelow first both ofK)

theorem Try.infoBool : (Try.prog.info? 4).map (fun i => (i.zero, i.size, i.bytes)) = some (some (.bool false), 1, 1) := by kernel_rfl
/-- k truth values -/
def blCells (f : Nat → Bool) (k : Nat) : List Value := (List.range k).map fun i => .bool (f i)
theorem blCells_length (f : Nat → Bool) (k : Nat) : (blCells f k).length = k := by simp [blCells]
theorem blCells_at {f : Nat → Bool} {k i : Nat} (h : i < k) : (blCells f k)[i]? = some (.bool (f i)) := by simp [blCells, h]
theorem blCells_succ (f : Nat → Bool) (k : Nat) : blCells f (k + 1) = blCells f k ++ [.bool (f k)] := by simp [blCells, List.range_succ]
theorem blCells_one (f : Nat → Bool) (k : Nat) : ∀ v ∈ blCells f k, v.oneCell' = true := by
  intro v hv
  obtain ⟨n, _, rfl⟩ := List.mem_map.1 hv
  rfl
/-- a row of 240 of them, that may be written -/
structure BRow (w : World) (g : Nat) (f : Nat → Bool) : Prop where
  at_ : ∀ i, i < 240 → w.cell? ⟨g, i, none⟩ = some (.bool (f i))
  free : ∀ i, w.frozen? ⟨g, i, none⟩ = false
theorem BRow.below {w w' : World} {g B : Nat} {f : Nat → Bool} (h : BRow w g f) (hb : Below B w w') (hB : g < B) : BRow w' g f :=
  ⟨fun i hi => (hb.cell (p := ⟨g, i, none⟩) hB).trans (h.at_ i hi), fun i => (hb.frozen (p := ⟨g, i, none⟩) hB).trans (h.free i)⟩
theorem BRow.lt {w : World} {g : Nat} {f : Nat → Bool} (h : BRow w g f) : g < w.heap.size := below_block (h.at_ 0 (by decide))
theorem BRow.carry {w w' : World} {g : Nat} {f : Nat → Bool} (h : BRow w g f) (hb : Below w.heap.size w w') : BRow w' g f := h.below hb h.lt
theorem BRow.drew {w : World} {g : Nat} {f : Nat → Bool} (h : BRow w g f) : BRow w.drew g f := ⟨h.at_, h.free⟩
theorem BRow.own {w : World} {g cap base : Nat} {e : TypeId} {f : Nat → Bool} (h : w.ownsRow base e 1 (.slice (some ⟨g, 0, none⟩) 240 cap) 240 (blCells f 240)) : BRow w g f :=
  ⟨fun i hi => by rw [h.cellAt i (by omega), blCells_at hi], fun i => h.frozenAt i⟩
theorem BRow.put {w : World} {g : Nat} {f h : Nat → Bool} (hr : BRow w g f) {i : Nat} (hi : i < 240) (v : Bool) (hh : ∀ j, j < 240 → h j = if j = i then v else f j) : BRow (w.setCell ⟨g, i, none⟩ (.bool v)) g h := by
  refine ⟨fun j hj => ?_, fun j => by rw [World.frozen?_setCell]; exact hr.free j⟩
  rw [hh j hj]
  by_cases e : j = i
  · subst e
    rw [if_pos rfl]
    exact World.cell?_setCell_same _ _ _ (hr.at_ j hj)
  · rw [if_neg e]
    exact (World.cell?_setCell_other _ _ _ _ (by intro hh; injection hh; omega)).trans (hr.at_ j hj)
theorem BRow.other {w : World} {g c : Nat} {f : Nat → Bool} (hr : BRow w g f) (hc : c ≠ g) (i : Nat) (v : Value) : BRow (w.setCell ⟨c, i, none⟩ v) g f :=
  ⟨fun j hj => (World.cell?_setCell_other _ _ _ _ (by intro hh; injection hh; omega)).trans (hr.at_ j hj), fun j => by rw [World.frozen?_setCell]; exact hr.free j⟩
/-- one cell, laid and appended -/
theorem news_bool (w : World) (t : TypeId) (u : Bool) : (∀ j x, [Value.bool u][j]? = some x → (w.alloc (.cells #[.bool u] t)).cell? ((⟨w.heap.size, 0, none⟩ : Addr).add j) = some x) ∧ ∀ x ∈ [Value.bool u], x.oneCell' = true := by
  refine ⟨fun j x hj => ?_, fun x hx => by simp at hx; subst hx; rfl⟩
  match j, hj with
  | 0, hj => simp at hj; subst hj; simp [Addr.add]
theorem own_carry {w w' : World} {B e size n : Nat} {v : Value} {xs : List Value} (h : w.ownsRow B e size v n xs) (hb : Below w.heap.size w w') : w'.ownsRow B e size v n xs := by
  refine ⟨h.1, ?_⟩
  rcases h.2 with hn | ⟨g, cap, cur, hv, hbb, hg, rest⟩
  · exact .inl hn
  · refine .inr ⟨g, cap, cur, hv, hbb, (hb.block g ?_).trans hg, rest⟩
    exact (Array.getElem?_eq_some_iff.1 hg).1
/-- a range in a block that an append doesn't write -/
theorem range_grown {w w' : World} {b o : Nat} {cs : List Value} {row : Option Nat} {t : Obj} (h : w.rangeAt b o cs) (hg : (w.alloc t).grownBy w' row) (hb : b < w.heap.size) (hr : row ≠ some b) : w'.rangeAt b o cs := fun j v hv => by
  rw [hg.cell_far _ (by show b < (w.alloc t).heap.size; simp; omega) (Ne.symm hr)]
  exact World.rangeAt_alloc h t j v hv
def ListRel (w : World) (b : Nat) (s : List Nat) (v i : Value) (wr : World) : Prop :=
  ∃ k : Nat, k ≤ 240 ∧ i = .int .i64 k ∧ wr.ownsRow w.heap.size 4 1 v k (blCells (has s) k) ∧ wr.rangeAt b 0 (stCells s) ∧ b < wr.heap.size ∧ (∀ g, v.ownBlock = some g → g ≠ b) ∧ Below w.heap.size w wr
/-- what List answers -/
def ListAns (s : List Nat) (w : World) (e : Ending) (w' : World) : Prop :=
  ∃ g cap, e = .returned (.slice (some ⟨g, 0, none⟩) 240 cap) ∧ BRow w' g (has s) ∧ w.heap.size ≤ g ∧ Below w.heap.size w w'
set_option maxRecDepth 100000 in
theorem RefList_any (s : List Nat) (hok : Ok s) (w : World) : Calls Try.prog 9 #[stV s] w (ListAns s w) := by
  obtain ⟨i0, hi, hz0, hz1, hz2⟩ := info_parts Try.infoBool
  obtain ⟨w1, HW⟩ : ∃ w1, Hid (w1 = w.alloc (.cells (stArr s) 22)) := ⟨_, Lib.hid rfl⟩
  obtain ⟨b, HBB⟩ : ∃ b, Hid (b = w.heap.size) := ⟨_, Lib.hid rfl⟩
  have HR1 : Hid (w1.rangeAt b 0 (stCells s)) := Lib.hid (by rw [HW.out, HBB.out]; exact (SOwn.new _).at_)
  have HB1 : Hid (Below w.heap.size w w1) := Lib.hid (by rw [HW.out]; exact (Below.refl _ _).alloc (Nat.le_refl _) _)
  have HS1 : Hid (b < w1.heap.size) := Lib.hid (by rw [HW.out, HBB.out]; simp)
  go_enter Try.func9, Try.ntmps9
  go_wp2_with fail
  rw [← HW.out, ← HBB.out]
  go_loopw [3, 4] (fun v i wr => ListRel w b s v i wr) (fun _ i _ => 240 - (intOf i).toNat)
  case atStart => exact ⟨0, by decide, rfl, World.ownsRow_nil _ _ _ _, HR1.out, HS1.out, fun g hg => (by cases hg), HB1.out⟩
  case round =>
    obtain ⟨k, hk, rfl, ho, hr, hs, hne, hb⟩ := hrel
    have HO := Lib.hid ho
    have HR := Lib.hid hr
    have HS := Lib.hid hs
    have HB := Lib.hid hb
    have HNE := Lib.hid hne
    clear ho hr hs hb hne HR1 HB1 HS1
    by_cases hlt : k < 240
    · go_wp2_with (with_reducible refine set_stop (o := ⟨some 10, _, _, _, _, _⟩) ?_)
      refine wpList_load_arr rfl _ rfl b rfl s hok.len HR.out ?_
      go_wp2_with fail
      refine (RefHas_yes s hok k hlt _).mono ?_
      obtain ⟨u, HU⟩ : ∃ u, Hid (u = has s k) := ⟨_, Lib.hid rfl⟩
      rw [← HU.out]
      rintro e w4 ⟨rfl, hb⟩
      have HB4 := Lib.hid (HB.out.trans (hb.mono HB.out.size))
      have HR4 := Lib.hid (range_carry HR.out hb)
      have HS4 := Lib.hid (Nat.lt_of_lt_of_le HS.out hb.size)
      have HO4 := Lib.hid (own_carry HO.out hb)
      clear hb HO HR HB HS
      go_wp2_with (at_builtin; refine wpList_append_lies _ rfl _ _ 24 rfl w.heap.size 4 i0 (.bool false) 1 1 Try.underlying24 hi hz0 hz1 hz2 rfl (by decide) u3 _ _ rfl (HO4.out.alloc _) ⟨w4.heap.size, 0, none⟩ 1 1 [.bool u] rfl rfl (news_bool w4 4 _).1 (news_bool w4 4 _).2 (by decide) (by unfold maxLen; omega) (by omega) (by have := HB4.out.size; simp; omega) (w4.heap.size + 1) (by simp) ?_; intro g cap w5 hown hgrow hat hlt5)
      have HO5 : Hid (w5.ownsRow w.heap.size 4 1 (.slice (some ⟨g, 0, none⟩) (k + 1) cap) (k + 1) (blCells (has s) (k + 1))) := Lib.hid (by
        rw [blCells_succ, ← HU.out]; exact hown)
      have HR5 : Hid (w5.rangeAt b 0 (stCells s)) := Lib.hid (range_grown HR4.out hgrow HS4.out (fun e => HNE.out b e rfl))
      have HS5 : Hid (b < w5.heap.size) := Lib.hid (by have := hgrow.size; have := HS4.out; simp at *; omega)
      have HB5 : Hid (Below w.heap.size w w5) := Lib.hid ((HB4.out.alloc HB4.out.size _).grown hgrow (by have := HB4.out.size; simp; omega) (fun g hg => (HO4.out.lt g hg).1))
      have HN5 : Hid (∀ j, (Value.slice (some ⟨g, 0, none⟩) (k + 1) cap).ownBlock = some j → j ≠ b) := Lib.hid (by
        intro j hj
        have hj' : g = j := by simpa [Value.ownBlock] using hj
        rcases hat with e | e
        · exact HNE.out j (by rw [e, hj'])
        · have := HS4.out; omega)
      clear hown hgrow hat hlt5 HO4 HR4 HS4 HB4 HNE
      go_wp2_with fail
      go_roundw
      case rel => exact ⟨k + 1, hlt, by go_num, HO5.out, HR5.out, HS5.out, HN5.out, HB5.out⟩
      case measure => simp [intOf]; omega
    · obtain rfl : k = 240 := by omega
      obtain ⟨g, cap, rfl, hg1, _⟩ := HO.out.form (by decide)
      go_wp2_with fail
      go_ret
      exact ⟨g, cap, rfl, BRow.own HO.out, hg1, HB.out⟩
end Go.Proofs.Yteceihjnlncbkaa
