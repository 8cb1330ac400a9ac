/-
  The contract of heap.rise: an item rises till what is above it is no greater. Conditions: none beyond the premises of each theorem.
-/
import Derived.Test.YtiffgmgefpoblaaDoorHeapLess
namespace Go.Proofs.YtiffgmgefpoblaaDoor
open Go.RowKit Hp

theorem wp_store_it {op : Oper} {a : Act} {w : World} {K : Act → World → Prop} {Q : Exit → Act → World → Prop} (hgd : op.dst = none) (x y : Operand) (ho : op.op = .store 52 x y) {B hb g n cap : Nat} {L : List Itm} (h : HpS w B hb g n cap L) {i : Nat} (hi : i < n) (z : Itm)
    (hx : a.eval x = .pointer (some ⟨g, i * 2, none⟩)) (hy : a.eval y = itV z) (hk : ∀ w2, Hid (w2 = w.setCells g (i * 2) (itC z)) → Hid (HpS w2 B hb g n cap (L.set i z)) → K a w2) : op.wp Tryd.prog a w K Q :=
  wp_store_mid _ x y ho g (i * 2) (itC z).toArray hx hy (h.there hi) (by have := dueTy.size; simpa using this) (all_oneCell_toArray (by intro v hv; simp only [itC, List.mem_cons, List.not_mem_nil, or_false] at hv; rcases hv with rfl | rfl <;> rfl)) (by rw [hgd]; exact hk _ (Lib.hid rfl) (Lib.hid (h.put i z)))
section
variable {P : Program} {ops : Array Oper} {md : Region.Mode} {Q : Exit → Act → World → Prop} {S : World → Prop}
/-- two operations come up -/
theorem twoH {i j : Nat} {oi oj : Oper} {fuel : Nat} {listed : Array Bool} {a : Act} {w : World} (hi : ops[i]? = some oi) (hj : ops[j]? = some oj) (hr : Region.ready md ops listed = [i, j])
    (h : ∀ K : Act → World → Prop, Hid (∀ a w, S w → wpAnyH P md ops Q S fuel (listed.setIfInBounds i true) a w → K a w) → if Region.wanted oi (yielded ops a.tmps) = true then Oper.wp P oi a w K Q else K (a.put oi.dst undef) w)
    (h2 : ∀ K : Act → World → Prop, Hid (∀ a w, S w → wpAnyH P md ops Q S fuel (listed.setIfInBounds j true) a w → K a w) → if Region.wanted oj (yielded ops a.tmps) = true then Oper.wp P oj a w K Q else K (a.put oj.dst undef) w) : wpAnyH P md ops Q S (fuel + 1) listed a w :=
  wpAnyH_ready hr (by simp) (AllReadyH.cons hi (fun K hK => h K (fun a w h1 h2 => hK.out a w h1 fun _ => h2)) (AllReadyH.cons hj (fun K hK => h2 K (fun a w h1 h2 => hK.out a w h1 fun _ => h2)) AllReadyH.nil))
end
/-- the heap's own cell, which no store into its row turns -/
abbrev HdS (w : World) (hb g n cap : Nat) : Prop := w.cell? ⟨hb, 0, none⟩ = some (.slice (some ⟨g, 0, none⟩) n cap)
/-- between two rounds -/
def RiseR (w : World) (B hb g n cap : Nat) (L : List Itm) (u : Value) (wr : World) : Prop :=
  ∃ (i : Nat) (L2 : List Itm), u = .int .i64 (i : Int) ∧ i < n ∧ HpS wr B hb g n cap L2 ∧ UpI L2 i ∧ L2.Perm L ∧ But2 (some hb) (some g) w wr
set_option maxRecDepth 100000 in
theorem rise_any {w : World} {B hb g n cap : Nat} {L : List Itm} (h : HpS w B hb g n cap L) {i0 : Nat} (hi0 : i0 < n) (hu0 : UpI L i0) (hn : n ≤ 1000000) :
    Calls Tryd.prog 35 #[ptr9 hb, .int .i64 (i0 : Int)] w fun e w' => e = .returned (.tuple #[]) ∧ ∃ L', HpS w' B hb g n cap L' ∧ IsHp L' ∧ L'.Perm L ∧ But2 (some hb) (some g) w w' := by
  have HH := Lib.hid h
  have HU := Lib.hid hu0
  have HN := Lib.hid hn
  clear h hu0 hn
  go_enter Tryd.func35, Tryd.ntmps35
  go_wp2_with fail
  go_loopw [1] (fun u wr => RiseR w B hb g n cap L u wr) (fun u _ => (intOf u).toNat)
  case atStart => exact ⟨i0, L, rfl, hi0, HH.out, HU.out, .refl _, .refl _ _ _⟩
  case round =>
    clear HH HU hi0
    obtain ⟨i, L2, rfl, hi, hs, hu, hp, hb2⟩ := hrel
    have hi9 : i < n := hi
    have HS := Lib.hid hs
    have HU := Lib.hid hu
    have HP2 := Lib.hid hp
    have HB2 := Lib.hid hb2
    clear hs hu hp hb2
    by_cases h0 : i = 0
    · subst h0
      go_wp2_with fail
      exact bodyPost_end (results_none rfl _ _ _) rfl ⟨rfl, L2, HS.out, HU.out.done (fun h => absurd h (by omega)), HP2.out, HB2.out⟩
    · obtain ⟨p, HP⟩ : ∃ p, Hid (p = (i - 1) / 2) := ⟨_, Lib.hid rfl⟩
      have hpi : p < i := by have := HP.out; omega
      have hp9 : p < n := by omega
      have HQ : Hid (((i : Int) - 1).tdiv 2 = (p : Int)) := Lib.hid (by rw [HP.out, Int.tdiv_eq_ediv_of_nonneg (by omega)]; omega)
      have hq := HQ.out
      have hn1 := HN.out
      have h0' : (0 : Int) < (i : Int) := by omega
      clear HQ
      go_upto_region 2 with (fail)
      clear hq
      obtain ⟨z, HZ⟩ : ∃ z, Hid (lt2 (at2 L2 i) (at2 L2 p) = z) := ⟨_, Lib.hid rfl⟩
      refine wp_region_held (S := fun w9 => HpS w9 B hb g n cap L2) (by kernel_rfl) ?_
      change wpAnyH _ _ _ _ _ _ _ _ wr.drew
      obtain ⟨wa, HWA⟩ : ∃ wa, Hid (wa = wr.drew) := ⟨_, Lib.hid rfl⟩
      rw [← HWA.out]
      have hS : HpS wa B hb g n cap L2 := by rw [HWA.out]; exact HS.out.drew
      have HB2 : Hid (But2 (some hb) (some g) w wa) := Lib.hid (by rw [HWA.out]; exact HB2.out.drew)
      clear HWA HS
      refine takeH (i := 0) 10 (v := .pointer (some ⟨hb, 0, none⟩)) rfl (by kernel_rfl) (by kernel_rfl) (by kernel_rfl) rfl (fun _ _ _ h => h) (.inl ⟨by rfl, fun _ _ => by go_simp⟩) hS ?_
      simp only [Act.put, List.setIfInBounds_toArray, List.set_cons_zero, List.set_cons_succ]
      refine takeH (i := 1) 11 (v := .pointer (some ⟨hb, 0, none⟩)) rfl (by kernel_rfl) (by kernel_rfl) (by kernel_rfl) rfl (fun _ _ _ h => h) (.inl ⟨by rfl, fun _ _ => by go_simp⟩) hS ?_
      simp only [Act.put, List.setIfInBounds_toArray, List.set_cons_zero, List.set_cons_succ]
      refine takeH (i := 2) 12 (v := .pointer (some ⟨hb, 0, none⟩)) rfl (by kernel_rfl) (by kernel_rfl) (by kernel_rfl) rfl (fun _ _ _ h => h) (.inl ⟨by rfl, fun _ _ => by go_simp⟩) hS ?_
      simp only [Act.put, List.setIfInBounds_toArray, List.set_cons_zero, List.set_cons_succ]
      refine takeH (i := 3) 13 (v := .slice (some ⟨g, 0, none⟩) n cap) rfl (by kernel_rfl) (by kernel_rfl) (by kernel_rfl) rfl (fun _ _ _ h => h) (.inl ⟨by rfl, fun _ h => by have c0 := h.cell; go_simp⟩) hS ?_
      simp only [Act.put, List.setIfInBounds_toArray, List.set_cons_zero, List.set_cons_succ]
      refine takeH (i := 4) 14 (v := .int .i64 (i : Int)) rfl (by kernel_rfl) (by kernel_rfl) (by kernel_rfl) rfl (fun _ _ _ h => h) (.inl ⟨by rfl, fun _ _ => by go_simp⟩) hS ?_
      simp only [Act.put, List.setIfInBounds_toArray, List.set_cons_zero, List.set_cons_succ]
      refine takeH (i := 5) 15 (v := .pointer (some ⟨g, i * 2, none⟩)) rfl (by kernel_rfl) (by kernel_rfl) (by kernel_rfl) rfl (fun _ _ _ h => h) (.inl ⟨by rfl, fun _ _ => by go_simp⟩) hS ?_
      simp only [Act.put, List.setIfInBounds_toArray, List.set_cons_zero, List.set_cons_succ]
      refine takeH (i := 6) 16 (v := itV (at2 L2 i)) rfl (by kernel_rfl) (by kernel_rfl) (by kernel_rfl) rfl (fun _ _ _ h => h) (yieldsIf_c dueTy (by rfl) _ rfl g (i * 2) (by rfl) (itC (at2 L2 i)) rfl (fun _ h => h.item hi9)) hS ?_
      simp only [Act.put, List.setIfInBounds_toArray, List.set_cons_zero, List.set_cons_succ]
      refine takeH (i := 7) 17 (v := .pointer (some ⟨hb, 0, none⟩)) rfl (by kernel_rfl) (by kernel_rfl) (by kernel_rfl) rfl (fun _ _ _ h => h) (.inl ⟨by rfl, fun _ _ => by go_simp⟩) hS ?_
      simp only [Act.put, List.setIfInBounds_toArray, List.set_cons_zero, List.set_cons_succ]
      refine takeH (i := 8) 18 (v := .pointer (some ⟨hb, 0, none⟩)) rfl (by kernel_rfl) (by kernel_rfl) (by kernel_rfl) rfl (fun _ _ _ h => h) (.inl ⟨by rfl, fun _ _ => by go_simp⟩) hS ?_
      simp only [Act.put, List.setIfInBounds_toArray, List.set_cons_zero, List.set_cons_succ]
      refine takeH (i := 9) 19 (v := .pointer (some ⟨hb, 0, none⟩)) rfl (by kernel_rfl) (by kernel_rfl) (by kernel_rfl) rfl (fun _ _ _ h => h) (.inl ⟨by rfl, fun _ _ => by go_simp⟩) hS ?_
      simp only [Act.put, List.setIfInBounds_toArray, List.set_cons_zero, List.set_cons_succ]
      refine takeH (i := 10) 20 (v := .slice (some ⟨g, 0, none⟩) n cap) rfl (by kernel_rfl) (by kernel_rfl) (by kernel_rfl) rfl (fun _ _ _ h => h) (.inl ⟨by rfl, fun _ h => by have c0 := h.cell; go_simp⟩) hS ?_
      simp only [Act.put, List.setIfInBounds_toArray, List.set_cons_zero, List.set_cons_succ]
      refine takeH (i := 11) 21 (v := .int .i64 (p : Int)) rfl (by kernel_rfl) (by kernel_rfl) (by kernel_rfl) rfl (fun _ _ _ h => h) (.inl ⟨by rfl, fun _ _ => by go_simp⟩) hS ?_
      simp only [Act.put, List.setIfInBounds_toArray, List.set_cons_zero, List.set_cons_succ]
      refine takeH (i := 12) 22 (v := .pointer (some ⟨g, p * 2, none⟩)) rfl (by kernel_rfl) (by kernel_rfl) (by kernel_rfl) rfl (fun _ _ _ h => h) (.inl ⟨by rfl, fun _ _ => by go_simp⟩) hS ?_
      simp only [Act.put, List.setIfInBounds_toArray, List.set_cons_zero, List.set_cons_succ]
      refine takeH (i := 13) 23 (v := itV (at2 L2 p)) rfl (by kernel_rfl) (by kernel_rfl) (by kernel_rfl) rfl (fun _ _ _ h => h) (yieldsIf_c dueTy (by rfl) _ rfl g (p * 2) (by rfl) (itC (at2 L2 p)) rfl (fun _ h => h.item hp9)) hS ?_
      simp only [Act.put, List.setIfInBounds_toArray, List.set_cons_zero, List.set_cons_succ]
      refine oneH (i := 14) (oi := ⟨some 24, _, _, _, _, _⟩) rfl (by kernel_rfl) (fun K hK => ?_)
      go_simp
      refine (Less_any (at2 L2 i) (at2 L2 p) _).mono ?_
      rw [HZ.out]
      rintro e wn ⟨rfl, hbn⟩
      have hS2 := hS.carry hbn
      have HB3 := Lib.hid (HB2.out.trans (But2.of_below hbn) (.inl rfl))
      refine hK.out _ _ hS2 ?_
      clear hK K hbn hS HB2
      have hS := hS2
      have HB2 := HB3
      clear hS2 HB3
      refine takeH (i := 15) 25 (v := .bool (!z)) rfl (by kernel_rfl) (by kernel_rfl) (by kernel_rfl) rfl (fun _ _ _ h => h) (.inl ⟨by rfl, fun _ _ => by go_simp⟩) hS ?_
      simp only [Act.put, List.setIfInBounds_toArray, List.set_cons_zero, List.set_cons_succ]
      refine wpAnyH_done (by kernel_rfl) ?_ _
      have HS := Lib.hid hS
      clear hS
      cases z with
      | false =>
        go_wp2_with fail
        exact bodyPost_ret (results_none rfl _ _ _) rfl ⟨rfl, L2, HS.out, HU.out.done (fun _ => by rw [← HP.out]; exact HZ.out), HP2.out, HB2.out⟩
      | true =>
        go_upto_region 3 with (fail)
        refine wp_region_held (S := fun w9 => HdS w9 hb g n cap) (by kernel_rfl) ?_
        change wpAnyH _ _ _ _ _ _ _ _ wn.drew
        obtain ⟨wc, HWC⟩ : ∃ wc, Hid (wc = wn.drew) := ⟨_, Lib.hid rfl⟩
        rw [← HWC.out]
        have hS : HdS wc hb g n cap := by rw [HWC.out]; exact HS.out.drew.cell
        have HS : Hid (HpS wc B hb g n cap L2) := Lib.hid (by rw [HWC.out]; exact HS.out.drew)
        have HB3 : Hid (But2 (some hb) (some g) w wc) := Lib.hid (by rw [HWC.out]; exact HB2.out.drew)
        clear HWC HB2
        refine takeH (i := 0) 26 (v := .pointer (some ⟨hb, 0, none⟩)) rfl (by kernel_rfl) (by kernel_rfl) (by kernel_rfl) rfl (fun _ _ _ h => h) (.inl ⟨by rfl, fun _ _ => by go_simp⟩) hS ?_
        simp only [Act.put, List.setIfInBounds_toArray, List.set_cons_zero, List.set_cons_succ]
        refine takeH (i := 1) 27 (v := .pointer (some ⟨hb, 0, none⟩)) rfl (by kernel_rfl) (by kernel_rfl) (by kernel_rfl) rfl (fun _ _ _ h => h) (.inl ⟨by rfl, fun _ _ => by go_simp⟩) hS ?_
        simp only [Act.put, List.setIfInBounds_toArray, List.set_cons_zero, List.set_cons_succ]
        refine takeH (i := 2) 28 (v := .pointer (some ⟨hb, 0, none⟩)) rfl (by kernel_rfl) (by kernel_rfl) (by kernel_rfl) rfl (fun _ _ _ h => h) (.inl ⟨by rfl, fun _ _ => by go_simp⟩) hS ?_
        simp only [Act.put, List.setIfInBounds_toArray, List.set_cons_zero, List.set_cons_succ]
        refine takeH (i := 3) 29 (v := .slice (some ⟨g, 0, none⟩) n cap) rfl (by kernel_rfl) (by kernel_rfl) (by kernel_rfl) rfl (fun _ _ _ h => h) (.inl ⟨by rfl, fun _ h => by have c0 : World.cell? _ _ = _ := h; go_simp⟩) hS ?_
        simp only [Act.put, List.setIfInBounds_toArray, List.set_cons_zero, List.set_cons_succ]
        refine takeH (i := 4) 30 (v := .int .i64 (i : Int)) rfl (by kernel_rfl) (by kernel_rfl) (by kernel_rfl) rfl (fun _ _ _ h => h) (.inl ⟨by rfl, fun _ _ => by go_simp⟩) hS ?_
        simp only [Act.put, List.setIfInBounds_toArray, List.set_cons_zero, List.set_cons_succ]
        refine takeH (i := 5) 31 (v := .pointer (some ⟨hb, 0, none⟩)) rfl (by kernel_rfl) (by kernel_rfl) (by kernel_rfl) rfl (fun _ _ _ h => h) (.inl ⟨by rfl, fun _ _ => by go_simp⟩) hS ?_
        simp only [Act.put, List.setIfInBounds_toArray, List.set_cons_zero, List.set_cons_succ]
        refine takeH (i := 6) 32 (v := .pointer (some ⟨hb, 0, none⟩)) rfl (by kernel_rfl) (by kernel_rfl) (by kernel_rfl) rfl (fun _ _ _ h => h) (.inl ⟨by rfl, fun _ _ => by go_simp⟩) hS ?_
        simp only [Act.put, List.setIfInBounds_toArray, List.set_cons_zero, List.set_cons_succ]
        refine takeH (i := 7) 33 (v := .pointer (some ⟨hb, 0, none⟩)) rfl (by kernel_rfl) (by kernel_rfl) (by kernel_rfl) rfl (fun _ _ _ h => h) (.inl ⟨by rfl, fun _ _ => by go_simp⟩) hS ?_
        simp only [Act.put, List.setIfInBounds_toArray, List.set_cons_zero, List.set_cons_succ]
        refine takeH (i := 8) 34 (v := .slice (some ⟨g, 0, none⟩) n cap) rfl (by kernel_rfl) (by kernel_rfl) (by kernel_rfl) rfl (fun _ _ _ h => h) (.inl ⟨by rfl, fun _ h => by have c0 : World.cell? _ _ = _ := h; go_simp⟩) hS ?_
        simp only [Act.put, List.setIfInBounds_toArray, List.set_cons_zero, List.set_cons_succ]
        refine takeH (i := 9) 35 (v := .int .i64 (p : Int)) rfl (by kernel_rfl) (by kernel_rfl) (by kernel_rfl) rfl (fun _ _ _ h => h) (.inl ⟨by rfl, fun _ _ => by go_simp⟩) hS ?_
        simp only [Act.put, List.setIfInBounds_toArray, List.set_cons_zero, List.set_cons_succ]
        refine takeH (i := 10) 36 (v := .pointer (some ⟨hb, 0, none⟩)) rfl (by kernel_rfl) (by kernel_rfl) (by kernel_rfl) rfl (fun _ _ _ h => h) (.inl ⟨by rfl, fun _ _ => by go_simp⟩) hS ?_
        simp only [Act.put, List.setIfInBounds_toArray, List.set_cons_zero, List.set_cons_succ]
        refine takeH (i := 11) 37 (v := .pointer (some ⟨hb, 0, none⟩)) rfl (by kernel_rfl) (by kernel_rfl) (by kernel_rfl) rfl (fun _ _ _ h => h) (.inl ⟨by rfl, fun _ _ => by go_simp⟩) hS ?_
        simp only [Act.put, List.setIfInBounds_toArray, List.set_cons_zero, List.set_cons_succ]
        refine takeH (i := 12) 38 (v := .pointer (some ⟨hb, 0, none⟩)) rfl (by kernel_rfl) (by kernel_rfl) (by kernel_rfl) rfl (fun _ _ _ h => h) (.inl ⟨by rfl, fun _ _ => by go_simp⟩) hS ?_
        simp only [Act.put, List.setIfInBounds_toArray, List.set_cons_zero, List.set_cons_succ]
        refine takeH (i := 13) 39 (v := .slice (some ⟨g, 0, none⟩) n cap) rfl (by kernel_rfl) (by kernel_rfl) (by kernel_rfl) rfl (fun _ _ _ h => h) (.inl ⟨by rfl, fun _ h => by have c0 : World.cell? _ _ = _ := h; go_simp⟩) hS ?_
        simp only [Act.put, List.setIfInBounds_toArray, List.set_cons_zero, List.set_cons_succ]
        refine takeH (i := 14) 40 (v := .int .i64 (p : Int)) rfl (by kernel_rfl) (by kernel_rfl) (by kernel_rfl) rfl (fun _ _ _ h => h) (.inl ⟨by rfl, fun _ _ => by go_simp⟩) hS ?_
        simp only [Act.put, List.setIfInBounds_toArray, List.set_cons_zero, List.set_cons_succ]
        refine takeH (i := 15) 41 (v := .pointer (some ⟨g, p * 2, none⟩)) rfl (by kernel_rfl) (by kernel_rfl) (by kernel_rfl) rfl (fun _ _ _ h => h) (.inl ⟨by rfl, fun _ _ => by go_simp⟩) hS ?_
        simp only [Act.put, List.setIfInBounds_toArray, List.set_cons_zero, List.set_cons_succ]
        refine takeH (i := 17) 43 (v := .pointer (some ⟨hb, 0, none⟩)) rfl (by kernel_rfl) (by kernel_rfl) (by kernel_rfl) rfl (fun _ _ _ h => h) (.inl ⟨by rfl, fun _ _ => by go_simp⟩) hS ?_
        simp only [Act.put, List.setIfInBounds_toArray, List.set_cons_zero, List.set_cons_succ]
        refine takeH (i := 18) 44 (v := .pointer (some ⟨hb, 0, none⟩)) rfl (by kernel_rfl) (by kernel_rfl) (by kernel_rfl) rfl (fun _ _ _ h => h) (.inl ⟨by rfl, fun _ _ => by go_simp⟩) hS ?_
        simp only [Act.put, List.setIfInBounds_toArray, List.set_cons_zero, List.set_cons_succ]
        refine takeH (i := 19) 45 (v := .pointer (some ⟨hb, 0, none⟩)) rfl (by kernel_rfl) (by kernel_rfl) (by kernel_rfl) rfl (fun _ _ _ h => h) (.inl ⟨by rfl, fun _ _ => by go_simp⟩) hS ?_
        simp only [Act.put, List.setIfInBounds_toArray, List.set_cons_zero, List.set_cons_succ]
        refine takeH (i := 20) 46 (v := .slice (some ⟨g, 0, none⟩) n cap) rfl (by kernel_rfl) (by kernel_rfl) (by kernel_rfl) rfl (fun _ _ _ h => h) (.inl ⟨by rfl, fun _ h => by have c0 : World.cell? _ _ = _ := h; go_simp⟩) hS ?_
        simp only [Act.put, List.setIfInBounds_toArray, List.set_cons_zero, List.set_cons_succ]
        refine takeH (i := 21) 47 (v := .int .i64 (i : Int)) rfl (by kernel_rfl) (by kernel_rfl) (by kernel_rfl) rfl (fun _ _ _ h => h) (.inl ⟨by rfl, fun _ _ => by go_simp⟩) hS ?_
        simp only [Act.put, List.setIfInBounds_toArray, List.set_cons_zero, List.set_cons_succ]
        refine takeH (i := 22) 48 (v := .pointer (some ⟨g, i * 2, none⟩)) rfl (by kernel_rfl) (by kernel_rfl) (by kernel_rfl) rfl (fun _ _ _ h => h) (.inl ⟨by rfl, fun _ _ => by go_simp⟩) hS ?_
        simp only [Act.put, List.setIfInBounds_toArray, List.set_cons_zero, List.set_cons_succ]
        refine twoH (i := 16) (j := 23) (oi := ⟨some 42, _, _, _, _, _⟩) (oj := ⟨some 49, _, _, _, _, _⟩) rfl rfl (by kernel_rfl) (fun K hK => ?_) (fun K hK => ?_)
        case' refine_1 =>
          rw [if_pos (by rfl)]
          refine wp_load_c dueTy _ rfl g (p * 2) (by rfl) (itC (at2 L2 p)) rfl (HS.out.item hp9) ?_
          simp only [Act.put, List.setIfInBounds_toArray, List.set_cons_zero, List.set_cons_succ]
          refine hK.out _ _ hS ?_
          clear hK K
          refine oneH (i := 23) (oi := ⟨some 49, _, _, _, _, _⟩) rfl (by kernel_rfl) (fun K hK => ?_)
          rw [if_pos (by rfl)]
          refine wp_load_c dueTy _ rfl g (i * 2) (by rfl) (itC (at2 L2 i)) rfl (HS.out.item hi9) ?_
          simp only [Act.put, List.setIfInBounds_toArray, List.set_cons_zero, List.set_cons_succ]
          refine hK.out _ _ hS ?_
          clear hK K
        case' refine_2 =>
          rw [if_pos (by rfl)]
          refine wp_load_c dueTy _ rfl g (i * 2) (by rfl) (itC (at2 L2 i)) rfl (HS.out.item hi9) ?_
          simp only [Act.put, List.setIfInBounds_toArray, List.set_cons_zero, List.set_cons_succ]
          refine hK.out _ _ hS ?_
          clear hK K
          refine oneH (i := 16) (oi := ⟨some 42, _, _, _, _, _⟩) rfl (by kernel_rfl) (fun K hK => ?_)
          rw [if_pos (by rfl)]
          refine wp_load_c dueTy _ rfl g (p * 2) (by rfl) (itC (at2 L2 p)) rfl (HS.out.item hp9) ?_
          simp only [Act.put, List.setIfInBounds_toArray, List.set_cons_zero, List.set_cons_succ]
          refine hK.out _ _ hS ?_
          clear hK K
        all_goals
          refine takeH (i := 24) 50 (v := .pointer (some ⟨g, i * 2, none⟩)) rfl (by kernel_rfl) (by kernel_rfl) (by kernel_rfl) rfl (fun _ _ _ h => h) (.inl ⟨by rfl, fun _ _ => by go_simp⟩) hS ?_
          simp only [Act.put, List.setIfInBounds_toArray, List.set_cons_zero, List.set_cons_succ]
          refine oneH (i := 25) (oi := ⟨none, _, _, _, _, _⟩) rfl (by kernel_rfl) (fun K hK => ?_)
          rw [if_pos (by rfl)]
          refine wp_store_it rfl _ _ rfl HS.out hi9 (at2 L2 p) rfl rfl ?_
          intro w5 HW5 HS5
          have HB5 : Hid (But2 (some hb) (some g) w w5) := Lib.hid (by rw [HW5.out]; exact But2.put (.inr rfl) _ _ _ HB3.out)
          have hS5 : HdS w5 hb g n cap := HS5.out.cell
          refine hK.out _ _ hS5 ?_
          clear hK K hS
          have hS := hS5
          clear HW5 HB3 HS hS5
          refine takeH (i := 26) 51 (v := .pointer (some ⟨g, p * 2, none⟩)) rfl (by kernel_rfl) (by kernel_rfl) (by kernel_rfl) rfl (fun _ _ _ h => h) (.inl ⟨by rfl, fun _ _ => by go_simp⟩) hS ?_
          simp only [Act.put, List.setIfInBounds_toArray, List.set_cons_zero, List.set_cons_succ]
          refine oneH (i := 27) (oi := ⟨none, _, _, _, _, _⟩) rfl (by kernel_rfl) (fun K hK => ?_)
          rw [if_pos (by rfl)]
          refine wp_store_it rfl _ _ rfl HS5.out hp9 (at2 L2 i) rfl rfl ?_
          intro w6 HW6 HS6
          have HB6 : Hid (But2 (some hb) (some g) w w6) := Lib.hid (by rw [HW6.out]; exact But2.put (.inr rfl) _ _ _ HB5.out)
          have hS6 : HdS w6 hb g n cap := HS6.out.cell
          refine hK.out _ _ hS6 ?_
          clear hK K hS
          have hS := hS6
          clear HW6 HB5 HS5 hS6
          refine wpAnyH_done (by kernel_rfl) ?_ _
          go_wp2_with fail
          go_roundw
          case rel =>
            have hl : L2.length = n := by have := HS6.out.len; simpa using this
            exact ⟨p, swap2 L2 i p, rfl, hp9, HS6.out, HU.out.step (by omega) (by omega) HP.out HZ.out, (swap2_perm (by omega) (by omega)).trans HP2.out, HB6.out⟩
          case measure => simp [intOf]; omega
end Go.Proofs.YtiffgmgefpoblaaDoor
