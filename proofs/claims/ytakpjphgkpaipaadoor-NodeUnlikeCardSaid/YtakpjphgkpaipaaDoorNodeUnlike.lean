/-
  The walk of the statement NodeUnlike: it answers true, and no memory that was there has turned. Conditions: the program's calls are as NodeSpec says; errors.errorType is laid.
-/
import Derived.Test.YtakpjphgkpaipaaDoorNodeBack
namespace Go.Proofs.YtakpjphgkpaipaaDoor
open Go.RowKit

/-- two arguments' copies -/
structure TwoS (w : World) (p q : Nat) (L M : Lay3) (x y : Nd) (wr : World) : Prop where
  a : NdBox wr p L x
  b : NdBox wr q M y
  below : Below w.heap.size w wr
theorem TwoS.carry {w wr w' : World} {p q : Nat} {L M : Lay3} {x y : Nd} (h : TwoS w p q L M x y wr) (hb : Below wr.heap.size wr w') : TwoS w p q L M x y w' :=
  ⟨h.a.carry hb h.a.lt, h.b.carry hb h.b.lt, h.below.trans (hb.mono h.below.size)⟩
set_option maxRecDepth 100000 in
set_option maxHeartbeats 4000000 in
theorem nunlike_walk (H : NodeSpec) {w : World} {l m : Lay3} {x y : Nd} (h : NdIs w l x) (k : NdIs w m y) (hg : Laid w) : Calls Tryd.prog 6 #[ndV l x, ndV m y] w fun e w' => e = .returned (.bool true) ∧ Below w.heap.size w w' := by
  obtain ⟨A, B, C, ca, cb, cc⟩ := l
  obtain ⟨D, E, F, da, db, dc⟩ := m
  obtain ⟨p, HP⟩ : ∃ p, Hid (p = w.heap.size) := ⟨_, Lib.hid rfl⟩
  obtain ⟨w1, HW⟩ : ∃ w1, Hid (w1 = (w.alloc (.cells #[.slice A x.keys.length ca, .slice B x.vals.length cb, .slice C x.kids.length cc] 25)).alloc (.cells #[.slice D y.keys.length da, .slice E y.vals.length db, .slice F y.kids.length dc] 25)) := ⟨_, Lib.hid rfl⟩
  obtain ⟨q, HQ⟩ : ∃ q, Hid (q = p + 1) := ⟨_, Lib.hid rfl⟩
  have HSw1 : Hid (TwoS w p q ⟨A, B, C, ca, cb, cc⟩ ⟨D, E, F, da, db, dc⟩ x y w1) := Lib.hid (by
    rw [HW.out, HQ.out, HP.out]
    have hb1 : Below w.heap.size w (w.alloc (.cells #[.slice A x.keys.length ca, .slice B x.vals.length cb, .slice C x.kids.length cc] 25)) := (Below.refl _ _).alloc (Nat.le_refl _) _
    refine ⟨(NdBox.new (w := w) (l := ⟨A, B, C, ca, cb, cc⟩) (x := x) 25).carry ((Below.refl _ _).alloc (Nat.le_refl _) _) (by simp), ?_, hb1.alloc (by simp) _⟩
    have := NdBox.new (w := w.alloc (.cells #[.slice A x.keys.length ca, .slice B x.vals.length cb, .slice C x.kids.length cc] 25)) (l := ⟨D, E, F, da, db, dc⟩) (x := y) 25
    simpa using this)
  obtain ⟨L, HL⟩ : ∃ L : Lay3, Hid (L = ⟨A, B, C, ca, cb, cc⟩) := ⟨_, Lib.hid rfl⟩
  obtain ⟨M, HM⟩ : ∃ M : Lay3, Hid (M = ⟨D, E, F, da, db, dc⟩) := ⟨_, Lib.hid rfl⟩
  rw [← HL.out, ← HM.out] at HSw1
  rw [← HL.out] at h
  rw [← HM.out] at k
  have HN : Hid (∀ w', Below w.heap.size w w' → NdIs w' L x) := Lib.hid fun w' hb => h.carry hb
  have HK : Hid (∀ w', Below w.heap.size w w' → NdIs w' M y) := Lib.hid fun w' hb => k.carry hb
  have HGK : Hid (∀ w', Below w.heap.size w w' → Laid w') := Lib.hid fun w' hb => hg.carry hb
  have HAW : Hid (∀ w', Below w.heap.size w w' → Calls Tryd.prog 8 #[] w' fun e w'' => e = .returned (.bool true) ∧ Below w'.heap.size w' w'') := Lib.hid fun w' hb => awake_any H w' (HGK.out _ hb)
  obtain ⟨fa, HFA⟩ : ∃ f : Int, Hid (f = fewZ x) := ⟨_, Lib.hid rfl⟩
  obtain ⟨fb, HFB⟩ : ∃ f : Int, Hid (f = fewZ y) := ⟨_, Lib.hid rfl⟩
  obtain ⟨ra, HRA⟩ : ∃ r, Hid (r = rightN x) := ⟨_, Lib.hid rfl⟩
  obtain ⟨rb, HRB⟩ : ∃ r, Hid (r = rightN y) := ⟨_, Lib.hid rfl⟩
  have hfa : fa = 0 ∨ fa = 1 := by rw [HFA.out]; unfold fewZ; split <;> simp
  have hfb : fb = 0 ∨ fb = 1 := by rw [HFB.out]; unfold fewZ; split <;> simp
  clear h k hg
  go_enter Tryd.func6, Tryd.ntmps6
  go_upto_region 1 with (fail)
  rw [← HW.out, ← HP.out, ← HQ.out]
  clear HW
  go_wp2_with fail
  refine (HAW.out w1 HSw1.out.below).mono ?_
  rintro e w2 ⟨rfl, hb⟩
  have HSw2 := Lib.hid (HSw1.out.carry hb)
  clear hb HSw1
  go_wp2_with (with_reducible refine stop_at (o := ⟨some 12, _, _, _, _, _⟩) ?_)
  refine wpList_load_nd Tryd.ndRef (by rfl) _ rfl p rfl L x HSw2.out.a ?_
  go_wp2_with fail
  refine (Few_any (HN.out _ HSw2.out.below)).mono ?_
  rw [← HFA.out]
  rintro e w3 ⟨rfl, hb⟩
  have HSw3 := Lib.hid (HSw2.out.carry hb)
  clear hb HSw2
  rcases hfa with rfl | rfl
  · go_wp2_with fail
    refine (HAW.out _ HSw3.out.below).mono ?_
    rintro e w9 ⟨rfl, hb⟩
    have HB9 := Lib.hid (HSw3.out.below.trans (hb.mono HSw3.out.below.size))
    clear hb
    go_wp2_with fail
    go_ret
    exact ⟨rfl, HB9.out⟩
  · go_wp2_with (with_reducible refine stop_at (o := ⟨some 17, _, _, _, _, _⟩) ?_)
    refine wpList_load_nd Tryd.ndRef (by rfl) _ rfl q rfl M y HSw3.out.b ?_
    go_wp2_with fail
    refine (Few_any (HK.out _ HSw3.out.below)).mono ?_
    rw [← HFB.out]
    rintro e w4 ⟨rfl, hb⟩
    have HSw4 := Lib.hid (HSw3.out.carry hb)
    clear hb HSw3
    rcases hfb with rfl | rfl
    · go_wp2_with fail
      refine (HAW.out _ HSw4.out.below).mono ?_
      rintro e w9 ⟨rfl, hb⟩
      have HB9 := Lib.hid (HSw4.out.below.trans (hb.mono HSw4.out.below.size))
      clear hb
      go_wp2_with fail
      go_ret
      exact ⟨rfl, HB9.out⟩
    · go_wp2_with (with_reducible refine stop_at (o := ⟨some 22, _, _, _, _, _⟩) ?_)
      refine wpList_load_nd Tryd.ndRef (by rfl) _ rfl p rfl L x HSw4.out.a ?_
      go_wp2_with fail
      refine (RefRight_any (HN.out _ HSw4.out.below)).mono ?_
      rw [← HRA.out]
      rintro e w5 ⟨rfl, hb⟩
      have HSw5 := Lib.hid (HSw4.out.carry hb)
      clear hb HSw4
      cases ra with
      | false =>
        go_wp2_with fail
        refine (HAW.out _ HSw5.out.below).mono ?_
        rintro e w9 ⟨rfl, hb⟩
        have HB9 := Lib.hid (HSw5.out.below.trans (hb.mono HSw5.out.below.size))
        clear hb
        go_wp2_with fail
        go_ret
        exact ⟨rfl, HB9.out⟩
      | true =>
        go_wp2_with (with_reducible refine stop_at (o := ⟨some 27, _, _, _, _, _⟩) ?_)
        refine wpList_load_nd Tryd.ndRef (by rfl) _ rfl q rfl M y HSw5.out.b ?_
        go_wp2_with fail
        refine (RefRight_any (HK.out _ HSw5.out.below)).mono ?_
        rw [← HRB.out]
        rintro e w6 ⟨rfl, hb⟩
        have HSw6 := Lib.hid (HSw5.out.carry hb)
        clear hb HSw5
        cases rb with
        | false =>
          go_wp2_with fail
          refine (HAW.out _ HSw6.out.below).mono ?_
          rintro e w9 ⟨rfl, hb⟩
          have HB9 := Lib.hid (HSw6.out.below.trans (hb.mono HSw6.out.below.size))
          clear hb
          go_wp2_with fail
          go_ret
          exact ⟨rfl, HB9.out⟩
        | true =>
          go_wp2_with (with_reducible refine stop_at (o := ⟨some 33, _, _, _, _, _⟩) ?_)
          refine wpList_load_nd Tryd.ndRef (by rfl) _ rfl p rfl L x HSw6.out.a ?_
          go_wp2_with fail
          refine (Of_any L x).mono ?_
          rintro e w7 ⟨rfl, hb⟩
          have HSw7 := Lib.hid (HSw6.out.carry hb)
          clear hb HSw6
          go_wp2_with fail
          obtain ⟨s, HST⟩ : ∃ s : ByteArray, Hid (s = ⟨(layN x).toArray⟩) := ⟨_, Lib.hid rfl⟩
          refine (H.layYes (HN.out _ HSw7.out.below) (HGK.out _ HSw7.out.below) HRA.out.symm).mono ?_
          rw [← HST.out]
          rintro e w8 ⟨rfl, hb⟩
          have HSw8 := Lib.hid (HSw7.out.carry hb)
          clear hb HSw7
          go_wp2_with (with_reducible refine stop_at (o := ⟨some 39, _, _, _, _, _⟩) ?_)
          refine wpList_load_nd Tryd.ndRef (by rfl) _ rfl q rfl M y HSw8.out.b ?_
          go_wp2_with fail
          refine (Of_any M y).mono ?_
          rintro e w10 ⟨rfl, hb⟩
          have HSw10 := Lib.hid (HSw8.out.carry hb)
          clear hb HSw8
          go_wp2_with fail
          obtain ⟨t, HTT⟩ : ∃ t : ByteArray, Hid (t = ⟨(layN y).toArray⟩) := ⟨_, Lib.hid rfl⟩
          refine (H.layYes (HK.out _ HSw10.out.below) (HGK.out _ HSw10.out.below) HRB.out.symm).mono ?_
          rw [← HTT.out]
          rintro e w11 ⟨rfl, hb⟩
          have HSw11 := Lib.hid (HSw10.out.carry hb)
          clear hb HSw10
          obtain ⟨b, HBB⟩ : ∃ b : Bool, Hid (b = true ∧ x = y ∨ b = false ∧ x ≠ y) := by
            by_cases e : x = y
            · exact ⟨true, Lib.hid (.inl ⟨rfl, e⟩)⟩
            · exact ⟨false, Lib.hid (.inr ⟨rfl, e⟩)⟩
          have hts : (s.toList == t.toList) = b := by
            rcases HBB.out with ⟨rfl, e⟩ | ⟨rfl, e⟩
            · rw [HST.out, HTT.out, e]; simp
            · exact toList_ne fun e2 => e (layN_inj HRA.out.symm HRB.out.symm (by
                rw [HST.out, HTT.out] at e2
                have := congrArg (fun z : ByteArray => z.data.toList) e2
                simpa using this))
          go_upto_region 5 with (fail)
          refine wp_region_held (S := TwoS w p q L M x y) (by kernel_rfl) ?_
          change wpAnyH _ _ _ _ _ _ _ _ w11.drew
          obtain ⟨wa, HWA⟩ : ∃ wa, Hid (wa = w11.drew) := ⟨_, Lib.hid rfl⟩
          rw [← HWA.out]
          have hS : TwoS w p q L M x y wa := by rw [HWA.out]; exact HSw11.out.carry (Below.refl _ _).drew
          clear HWA HSw11
          refine takeH (i := 0) 44 (v := .nilIface) rfl (by kernel_rfl) (by kernel_rfl) (by kernel_rfl) rfl (fun _ _ _ h => h) (.inl ⟨by rfl, fun _ _ => by go_simp⟩) hS ?_
          simp only [Act.put, List.setIfInBounds_toArray, List.set_cons_zero, List.set_cons_succ]
          refine oneH (i := 1) (oi := ⟨some 45, _, _, _, _, _⟩) rfl (by kernel_rfl) (fun K hK => ?_)
          go_simp
          refine (Num_any 0 .nilIface _ (.nil _) (HGK.out _ hS.below)).mono ?_
          rintro e wn ⟨rfl, hb⟩
          have hS2 := hS.carry hb
          clear hb hS
          refine hK.out _ _ hS2 ?_
          clear hK K
          have hS := hS2
          clear hS2
          refine takeH (i := 2) 46 (v := .bool true) rfl (by kernel_rfl) (by kernel_rfl) (by kernel_rfl) rfl (fun _ _ _ h => h) (.inl ⟨by rfl, fun _ _ => by go_simp⟩) hS ?_
          simp only [Act.put, List.setIfInBounds_toArray, List.set_cons_zero, List.set_cons_succ]
          refine takeH (i := 3) 47 (v := .bool true) rfl (by kernel_rfl) (by kernel_rfl) (by kernel_rfl) rfl (fun _ _ _ h => h) (.inl ⟨by rfl, fun _ _ => by go_simp⟩) hS ?_
          simp only [Act.put, List.setIfInBounds_toArray, List.set_cons_zero, List.set_cons_succ]
          refine takeH (i := 4) 48 (v := .nilIface) rfl (by kernel_rfl) (by kernel_rfl) (by kernel_rfl) rfl (fun _ _ _ h => h) (.inl ⟨by rfl, fun _ _ => by go_simp⟩) hS ?_
          simp only [Act.put, List.setIfInBounds_toArray, List.set_cons_zero, List.set_cons_succ]
          refine oneH (i := 5) (oi := ⟨some 49, _, _, _, _, _⟩) rfl (by kernel_rfl) (fun K hK => ?_)
          rw [if_pos (by rfl)]
          go_simp
          refine (Num_any 0 .nilIface _ (.nil _) (HGK.out _ hS.below)).mono ?_
          rintro e wn ⟨rfl, hb⟩
          have hS2 := hS.carry hb
          clear hb hS
          refine hK.out _ _ hS2 ?_
          clear hK K
          have hS := hS2
          clear hS2
          refine takeH (i := 6) 50 (v := .bool true) rfl (by kernel_rfl) (by kernel_rfl) (by kernel_rfl) rfl (fun _ _ _ h => h) (.inl ⟨by rfl, fun _ _ => by go_simp⟩) hS ?_
          simp only [Act.put, List.setIfInBounds_toArray, List.set_cons_zero, List.set_cons_succ]
          refine takeH (i := 7) 51 (v := .bool true) rfl (by kernel_rfl) (by kernel_rfl) (by kernel_rfl) rfl (fun _ _ _ h => h) (.inl ⟨by rfl, fun _ _ => by go_simp⟩) hS ?_
          simp only [Act.put, List.setIfInBounds_toArray, List.set_cons_zero, List.set_cons_succ]
          refine takeH (i := 8) 52 (v := .bool true) rfl (by kernel_rfl) (by kernel_rfl) (by kernel_rfl) rfl (fun _ _ _ h => h) (.inl ⟨by rfl, fun _ _ => by go_simp⟩) hS ?_
          simp only [Act.put, List.setIfInBounds_toArray, List.set_cons_zero, List.set_cons_succ]
          refine takeH (i := 9) 53 (v := .string s) rfl (by kernel_rfl) (by kernel_rfl) (by kernel_rfl) rfl (fun _ _ _ h => h) (.inl ⟨by rfl, fun _ _ => by go_simp⟩) hS ?_
          simp only [Act.put, List.setIfInBounds_toArray, List.set_cons_zero, List.set_cons_succ]
          refine takeH (i := 10) 54 (v := .string t) rfl (by kernel_rfl) (by kernel_rfl) (by kernel_rfl) rfl (fun _ _ _ h => h) (.inl ⟨by rfl, fun _ _ => by go_simp⟩) hS ?_
          simp only [Act.put, List.setIfInBounds_toArray, List.set_cons_zero, List.set_cons_succ]
          refine takeH (i := 11) 55 (v := .bool b) rfl (by kernel_rfl) (by kernel_rfl) (by kernel_rfl) rfl (fun _ _ _ h => h) (.inl ⟨by rfl, fun _ _ => by go_simp⟩) hS ?_
          simp only [Act.put, List.setIfInBounds_toArray, List.set_cons_zero, List.set_cons_succ]
          refine takeH (i := 12) 56 (v := ndV L x) rfl (by kernel_rfl) (by kernel_rfl) (by kernel_rfl) rfl (fun _ _ _ h => h) (yieldsIf_nd Tryd.ndRef (by rfl) _ rfl p rfl L x (fun _ h => h.a)) hS ?_
          simp only [Act.put, List.setIfInBounds_toArray, List.set_cons_zero, List.set_cons_succ]
          refine takeH (i := 14) 58 (v := ndV M y) rfl (by kernel_rfl) (by kernel_rfl) (by kernel_rfl) rfl (fun _ _ _ h => h) (yieldsIf_nd Tryd.ndRef (by rfl) _ rfl q rfl M y (fun _ h => h.b)) hS ?_
          simp only [Act.put, List.setIfInBounds_toArray, List.set_cons_zero, List.set_cons_succ]
          refine oneH (i := 13) (oi := ⟨some 57, _, _, _, _, _⟩) rfl (by kernel_rfl) (fun K hK => ?_)
          rw [if_pos (by rfl)]
          go_simp
          refine (Of_any L x).mono ?_
          rintro e wn ⟨rfl, hb⟩
          have hS2 := hS.carry hb
          clear hb hS
          refine hK.out _ _ hS2 ?_
          clear hK K
          have hS := hS2
          clear hS2
          refine oneH (i := 15) (oi := ⟨some 59, _, _, _, _, _⟩) rfl (by kernel_rfl) (fun K hK => ?_)
          rw [if_pos (by rfl)]
          go_simp
          refine (Same_any (HN.out _ hS.below) (HK.out _ hS.below)).mono ?_
          rintro e wn ⟨rr, rfl, hrr, hb⟩
          have hrb : (rr == 1) = b := by
            rcases HBB.out with ⟨rfl, e⟩ | ⟨rfl, e⟩
            · rcases hrr with ⟨_, rfl⟩ | ⟨h, _⟩
              · rfl
              · exact absurd e h
            · rcases hrr with ⟨h, _⟩ | ⟨_, rfl⟩
              · exact absurd h e
              · rfl
          have hS2 := hS.carry hb
          clear hb hS hrr
          refine hK.out _ _ hS2 ?_
          clear hK K
          have hS := hS2
          clear hS2
          refine takeH (i := 16) 60 (v := .bool b) rfl (by kernel_rfl) (by kernel_rfl) (by kernel_rfl) rfl (fun _ _ _ h => h) (.inl ⟨by rfl, fun _ _ => by go_simp⟩) hS ?_
          simp only [Act.put, List.setIfInBounds_toArray, List.set_cons_zero, List.set_cons_succ]
          refine takeH (i := 17) 61 (v := .bool true) rfl (by kernel_rfl) (by kernel_rfl) (by kernel_rfl) rfl (fun _ _ _ h => h) (.inl ⟨by rfl, fun _ _ => by go_simp⟩) hS ?_
          simp only [Act.put, List.setIfInBounds_toArray, List.set_cons_zero, List.set_cons_succ]
          refine takeH (i := 18) 62 (v := .bool true) rfl (by kernel_rfl) (by kernel_rfl) (by kernel_rfl) rfl (fun _ _ _ h => h) (.inl ⟨by rfl, fun _ _ => by go_simp⟩) hS ?_
          simp only [Act.put, List.setIfInBounds_toArray, List.set_cons_zero, List.set_cons_succ]
          refine takeH (i := 19) 4 (v := .bool true) rfl (by kernel_rfl) (by kernel_rfl) (by kernel_rfl) rfl (fun _ _ _ h => h) (.inl ⟨by rfl, fun _ _ => by go_simp⟩) hS ?_
          simp only [Act.put, List.setIfInBounds_toArray, List.set_cons_zero, List.set_cons_succ]
          refine wpAnyH_done (by kernel_rfl) ?_ _
          go_wp2_with fail
          go_ret
          exact ⟨rfl, hS.below⟩
end Go.Proofs.YtakpjphgkpaipaaDoor
