/-
  The walk of the statement NodePlays: it answers true, and no memory that was there has turned. Conditions: the program's calls are as NodeSpec says; errors.errorType is laid.
-/
import Derived.Test.YtakpjphgkpaipaaDoorNodeBack
import Derived.Test.YtakpjphgkpaipaaDoorNodeRefGet
namespace Go.Proofs.YtakpjphgkpaipaaDoor
open Go.RowKit

/-- both nodes that were read, in variables -/
structure TwoN (w : World) (q u : Nat) (M O : Lay3) (y : Nd) (c : Int) (v : Value) (wr : World) : Prop where
  a : NdBox wr q M y
  b : NdBox wr u O y
  m : NdIs wr M y
  o : NdIs wr O y
  err : ErrIs wr c v
  below : Below w.heap.size w wr
theorem TwoN.carry {w wr w' : World} {q u : Nat} {M O : Lay3} {y : Nd} {c : Int} {v : Value} (h : TwoN w q u M O y c v wr) (hb : Below wr.heap.size wr w') : TwoN w q u M O y c v w' :=
  ⟨h.a.carry hb h.a.lt, h.b.carry hb h.b.lt, h.m.carry hb, h.o.carry hb, h.err.carry hb, h.below.trans (hb.mono h.below.size)⟩
set_option maxRecDepth 100000 in
set_option maxHeartbeats 4000000 in
theorem nplays_walk (H : NodeSpec) {w : World} {l : Lay3} {x : Nd} (h : NdIs w l x) (data : ByteArray) (hg : Laid w) : Calls Tryd.prog 4 #[ndV l x, .string data] w fun e w' => e = .returned (.bool true) ∧ Below w.heap.size w w' := by
  have hz := Tryd.zeroNode
  have hz2 := Tryd.zeroRefNode
  obtain ⟨A, B, C, ca, cb, cc⟩ := l
  obtain ⟨p, HP⟩ : ∃ p, Hid (p = w.heap.size) := ⟨_, Lib.hid rfl⟩
  obtain ⟨w1, HW⟩ : ∃ w1, Hid (w1 = w.alloc (.cells #[.slice A x.keys.length ca, .slice B x.vals.length cb, .slice C x.kids.length cc] 25)) := ⟨_, Lib.hid rfl⟩
  have HS : Hid (BoxS w p ⟨A, B, C, ca, cb, cc⟩ x w1) := Lib.hid (by
    rw [HW.out, HP.out]
    exact ⟨NdBox.new (l := ⟨A, B, C, ca, cb, cc⟩) (x := x) _, (Below.refl _ _).alloc (Nat.le_refl _) _⟩)
  obtain ⟨L, HL⟩ : ∃ L : Lay3, Hid (L = ⟨A, B, C, ca, cb, cc⟩) := ⟨_, Lib.hid rfl⟩
  rw [← HL.out] at HS h
  have HN : Hid (∀ w', Below w.heap.size w w' → NdIs w' L x) := Lib.hid fun w' hb => h.carry hb
  have HGK : Hid (∀ w', Below w.heap.size w w' → Laid w') := Lib.hid fun w' hb => hg.carry hb
  have HAW : Hid (∀ w', Below w.heap.size w w' → Calls Tryd.prog 8 #[] w' fun e w'' => e = .returned (.bool true) ∧ Below w'.heap.size w' w'') := Lib.hid fun w' hb => awake_any H w' (HGK.out _ hb)
  obtain ⟨fa, HFA⟩ : ∃ f : Int, Hid (f = fewZ x) := ⟨_, Lib.hid rfl⟩
  have hfa : fa = 0 ∨ fa = 1 := by rw [HFA.out]; unfold fewZ; split <;> simp
  obtain ⟨r, HR⟩ : ∃ r, Hid (r = rightN x) := ⟨_, Lib.hid rfl⟩
  obtain ⟨dl, hdl⟩ : ∃ dl, data.size = dl := ⟨_, rfl⟩
  clear h hg
  go_enter Tryd.func4, Tryd.ntmps4
  go_upto_region 1 with (fail)
  rw [← HW.out, ← HP.out]
  clear HW
  go_wp2_with fail
  refine (HAW.out w1 HS.out.below).mono ?_
  rintro e w2 ⟨rfl, hb⟩
  have HS2 := Lib.hid (HS.out.carry hb)
  clear hb HS
  go_wp2_with (with_reducible refine stop_at (o := ⟨some 15, _, _, _, _, _⟩) ?_)
  refine wpList_load_nd Tryd.ndRef (by rfl) _ rfl p rfl L x HS2.out.a ?_
  go_wp2_with fail
  refine (Few_any (HN.out _ HS2.out.below)).mono ?_
  rw [← HFA.out]
  rintro e w3 ⟨rfl, hb⟩
  have HS3 := Lib.hid (HS2.out.carry hb)
  clear hb HS2
  have early : Hid (∀ w', Below w.heap.size w w' → True) := Lib.hid fun _ _ => trivial
  clear early
  rcases hfa with rfl | rfl
  · go_wp2_with fail
    refine (HAW.out _ HS3.out.below).mono ?_
    rintro e w9 ⟨rfl, hb⟩
    have HB9 := Lib.hid (HS3.out.below.trans (hb.mono HS3.out.below.size))
    clear hb
    go_wp2_with fail
    go_ret
    exact ⟨rfl, HB9.out⟩
  · by_cases hd : 300 < dl
    · have hd2 : (300 : Int) < (dl : Int) := by omega
      clear hd
      go_wp2_with fail
      refine (HAW.out _ HS3.out.below).mono ?_
      rintro e w9 ⟨rfl, hb⟩
      have HB9 := Lib.hid (HS3.out.below.trans (hb.mono HS3.out.below.size))
      clear hb
      go_wp2_with fail
      go_ret
      exact ⟨rfl, HB9.out⟩
    · have hd2 : ¬ (300 : Int) < (dl : Int) := by omega
      have HDM : Hid (data.size ≤ maxLen) := Lib.hid (by rw [hdl]; unfold maxLen; omega)
      clear hd
      go_wp2_with (with_reducible refine stop_at (o := ⟨some 26, _, _, _, _, _⟩) ?_)
      refine wpList_load_nd Tryd.ndRef (by rfl) _ rfl p rfl L x HS3.out.a ?_
      go_wp2_with fail
      refine (Of_any L x).mono ?_
      rintro e w4 ⟨rfl, hb⟩
      have HS4 := Lib.hid (HS3.out.carry hb)
      clear hb HS3
      go_wp2_with fail
      obtain ⟨s, HST⟩ : ∃ s : ByteArray, Hid (s = ⟨(layN x).toArray⟩) := ⟨_, Lib.hid rfl⟩
      have hss : (s.toList == s.toList) = true := by simp
      cases r with
      | false =>
        refine (H.layNo (HN.out _ HS4.out.below) (HGK.out _ HS4.out.below) HR.out.symm).mono ?_
        rintro e w5 ⟨v, rfl, he, hb⟩
        have HE5 := Lib.hid he.is
        have HS5 := Lib.hid (HS4.out.carry hb)
        clear he hb HS4
        go_wp2_with (with_reducible refine stop_at (o := ⟨some 31, _, _, _, _, _⟩) ?_)
        refine wpList_load_nd Tryd.ndRef (by rfl) _ rfl p rfl L x HS5.out.a ?_
        go_wp2_with fail
        refine (RefRight_any (HN.out _ HS5.out.below)).mono ?_
        rw [← HR.out]
        rintro e w6 ⟨rfl, hb⟩
        have HE6 := Lib.hid (HE5.out.carry hb)
        have HS6 := Lib.hid (HS5.out.carry hb)
        clear hb HS5 HE5
        go_wp2_with (with_reducible refine stop_at (o := ⟨some 33, _, _, _, _, _⟩) ?_)
        refine wpList_load_nd Tryd.ndRef (by rfl) _ rfl p rfl L x HS6.out.a ?_
        go_wp2_with fail
        refine (Of_any L x).mono ?_
        rintro e w7 ⟨rfl, hb⟩
        have HE7 := Lib.hid (HE6.out.carry hb)
        have HS7 := Lib.hid (HS6.out.carry hb)
        clear hb HS6 HE6
        go_wp2_with fail
        refine (H.right (HN.out _ HS7.out.below)).mono ?_
        rw [← HR.out]
        rintro e w8 ⟨rfl, hb⟩
        have HE8 := Lib.hid (HE7.out.carry hb)
        have HS8 := Lib.hid (HS7.out.carry hb)
        clear hb HS7 HE7
        go_wp2_with fail
        refine (Num_any 1 v w8 HE8.out (HGK.out _ HS8.out.below)).mono ?_
        rintro e w9 ⟨rfl, hb⟩
        have HB9 := Lib.hid (HS8.out.below.trans (hb.mono HS8.out.below.size))
        clear hb HS8 HE8
        go_wp2_with fail
        cases hread : readN data.data.toList with
        | none =>
          refine (H.readNo w9 data (HGK.out _ HB9.out) HDM.out hread).mono ?_
          rintro e w11 ⟨M, v2, rfl, hm, he, hb⟩
          have HE11 := Lib.hid he.is
          have HM11 := Lib.hid hm
          have HB11 := Lib.hid (HB9.out.trans (hb.mono HB9.out.size))
          clear hm hb HB9 he
          go_wp2_with (with_reducible refine stop_at (o := ⟨none, _, _, _, _, _⟩) ?_)
          refine wpList_store_nd Tryd.ndProg rfl _ _ rfl M Nd.empty rfl rfl ?_
          intro w12 q HQ HB12 HX12
          rw [← HQ.out]
          have HM12 := Lib.hid (HM11.out.carry HB12.out)
          have HE12 := Lib.hid (HE11.out.carry HB12.out)
          have HBB12 := Lib.hid (HB11.out.trans (HB12.out.mono HB11.out.size))
          clear HQ HB12 HM11 HE11 HB11
          go_wp2_with fail
          refine (RefRead_any data w12 HDM.out).mono ?_
          rw [hread]
          rintro e w13 ⟨O, rfl, ho, hb⟩
          have HT13 : Hid (NdIs w13 O Nd.empty ∧ NdBox w13 q M Nd.empty ∧ NdIs w13 M Nd.empty ∧ ErrIs w13 2 v2 ∧ Below w.heap.size w w13) := Lib.hid ⟨ho, HX12.out.carry hb HX12.out.lt, HM12.out.carry hb, HE12.out.carry hb, HBB12.out.trans (hb.mono HBB12.out.size)⟩
          clear ho hb HX12 HM12 HE12 HBB12
          rw [show (none : Option Nd).getD Nd.empty = Nd.empty from rfl]
          go_wp2_with (with_reducible refine stop_at (o := ⟨none, _, _, _, _, _⟩) ?_)
          refine wpList_store_nd Tryd.ndRef rfl _ _ rfl O Nd.empty rfl rfl ?_
          intro w14 u HU HB14 HX14
          rw [← HU.out]
          have HT14 : Hid (TwoN w q u M O Nd.empty 2 v2 w14) := Lib.hid ⟨HT13.out.2.1.carry HB14.out HT13.out.2.1.lt, HX14.out, HT13.out.2.2.1.carry HB14.out, HT13.out.1.carry HB14.out, HT13.out.2.2.2.1.carry HB14.out, HT13.out.2.2.2.2.trans (HB14.out.mono HT13.out.2.2.2.2.size)⟩
          clear HU HB14 HX14 HT13
          go_wp2_with (with_reducible refine stop_at (o := ⟨some 64, _, _, _, _, _⟩) ?_)
          refine wpList_load_nd Tryd.ndProg (by rfl) _ rfl q rfl M Nd.empty HT14.out.a ?_
          refine wpList_load_nd Tryd.ndRef (by rfl) _ rfl u rfl O Nd.empty HT14.out.b ?_
          go_wp2_with fail
          refine (Same_any HT14.out.m HT14.out.o).mono ?_
          rintro e w15 ⟨rr, rfl, hrr, hb⟩
          obtain rfl : rr = 1 := by
            rcases hrr with ⟨_, h⟩ | ⟨h, _⟩
            · exact h
            · exact absurd rfl h
          have HT15 := Lib.hid (HT14.out.carry hb)
          clear hb hrr HT14
          go_wp2_with fail
          refine (Num_any 2 v2 w15 HT15.out.err (HGK.out _ HT15.out.below)).mono ?_
          rintro e w16 ⟨rfl, hb⟩
          have HT16 := Lib.hid (HT15.out.carry hb)
          clear hb HT15
          go_wp2_with fail
          refine (Num_any 2 v2 w16 HT16.out.err (HGK.out _ HT16.out.below)).mono ?_
          rintro e w17 ⟨rfl, hb⟩
          have HT17 := Lib.hid (HT16.out.carry hb)
          clear hb HT16
          go_wp2_with fail
          go_ret
          exact ⟨rfl, HT17.out.below⟩
        | some y =>
          refine (H.readYes w9 data y (HGK.out _ HB9.out) HDM.out hread).mono ?_
          rintro e w11 ⟨M, rfl, hm, hb⟩
          have HE11 : Hid (ErrIs w11 0 .nilIface) := Lib.hid (.nil _)
          have HM11 := Lib.hid hm
          have HB11 := Lib.hid (HB9.out.trans (hb.mono HB9.out.size))
          clear hm hb HB9
          go_wp2_with (with_reducible refine stop_at (o := ⟨none, _, _, _, _, _⟩) ?_)
          refine wpList_store_nd Tryd.ndProg rfl _ _ rfl M y rfl rfl ?_
          intro w12 q HQ HB12 HX12
          rw [← HQ.out]
          have HM12 := Lib.hid (HM11.out.carry HB12.out)
          have HE12 := Lib.hid (HE11.out.carry HB12.out)
          have HBB12 := Lib.hid (HB11.out.trans (HB12.out.mono HB11.out.size))
          clear HQ HB12 HM11 HE11 HB11
          go_wp2_with fail
          refine (RefRead_any data w12 HDM.out).mono ?_
          rw [hread]
          rintro e w13 ⟨O, rfl, ho, hb⟩
          have HT13 : Hid (NdIs w13 O y ∧ NdBox w13 q M y ∧ NdIs w13 M y ∧ ErrIs w13 0 .nilIface ∧ Below w.heap.size w w13) := Lib.hid ⟨ho, HX12.out.carry hb HX12.out.lt, HM12.out.carry hb, HE12.out.carry hb, HBB12.out.trans (hb.mono HBB12.out.size)⟩
          clear ho hb HX12 HM12 HE12 HBB12
          rw [show (some y : Option Nd).getD Nd.empty = y from rfl]
          go_wp2_with (with_reducible refine stop_at (o := ⟨none, _, _, _, _, _⟩) ?_)
          refine wpList_store_nd Tryd.ndRef rfl _ _ rfl O y rfl rfl ?_
          intro w14 u HU HB14 HX14
          rw [← HU.out]
          have HT14 : Hid (TwoN w q u M O y 0 .nilIface w14) := Lib.hid ⟨HT13.out.2.1.carry HB14.out HT13.out.2.1.lt, HX14.out, HT13.out.2.2.1.carry HB14.out, HT13.out.1.carry HB14.out, HT13.out.2.2.2.1.carry HB14.out, HT13.out.2.2.2.2.trans (HB14.out.mono HT13.out.2.2.2.2.size)⟩
          clear HU HB14 HX14 HT13
          go_wp2_with (with_reducible refine stop_at (o := ⟨some 64, _, _, _, _, _⟩) ?_)
          refine wpList_load_nd Tryd.ndProg (by rfl) _ rfl q rfl M y HT14.out.a ?_
          refine wpList_load_nd Tryd.ndRef (by rfl) _ rfl u rfl O y HT14.out.b ?_
          go_wp2_with fail
          refine (Same_any HT14.out.m HT14.out.o).mono ?_
          rintro e w15 ⟨rr, rfl, hrr, hb⟩
          obtain rfl : rr = 1 := by
            rcases hrr with ⟨_, h⟩ | ⟨h, _⟩
            · exact h
            · exact absurd rfl h
          have HT15 := Lib.hid (HT14.out.carry hb)
          clear hb hrr HT14
          go_wp2_with fail
          refine (Num_any 0 .nilIface w15 HT15.out.err (HGK.out _ HT15.out.below)).mono ?_
          rintro e w16 ⟨rfl, hb⟩
          have HT16 := Lib.hid (HT15.out.carry hb)
          clear hb HT15
          go_wp2_with fail
          go_ret
          exact ⟨rfl, HT16.out.below⟩
      | true =>
        refine (H.layYes (HN.out _ HS4.out.below) (HGK.out _ HS4.out.below) HR.out.symm).mono ?_
        rw [← HST.out]
        rintro e w5 ⟨rfl, hb⟩
        have HS5 := Lib.hid (HS4.out.carry hb)
        clear hb HS4
        go_wp2_with (with_reducible refine stop_at (o := ⟨some 31, _, _, _, _, _⟩) ?_)
        refine wpList_load_nd Tryd.ndRef (by rfl) _ rfl p rfl L x HS5.out.a ?_
        go_wp2_with fail
        refine (RefRight_any (HN.out _ HS5.out.below)).mono ?_
        rw [← HR.out]
        rintro e w6 ⟨rfl, hb⟩
        have HS6 := Lib.hid (HS5.out.carry hb)
        clear hb HS5
        go_wp2_with (with_reducible refine stop_at (o := ⟨some 33, _, _, _, _, _⟩) ?_)
        refine wpList_load_nd Tryd.ndRef (by rfl) _ rfl p rfl L x HS6.out.a ?_
        go_wp2_with fail
        refine (Of_any L x).mono ?_
        rintro e w7 ⟨rfl, hb⟩
        have HS7 := Lib.hid (HS6.out.carry hb)
        clear hb HS6
        go_wp2_with fail
        refine (H.right (HN.out _ HS7.out.below)).mono ?_
        rw [← HR.out]
        rintro e w8 ⟨rfl, hb⟩
        have HS8 := Lib.hid (HS7.out.carry hb)
        clear hb HS7
        go_wp2_with fail
        refine (Num_any 0 .nilIface w8 (.nil _) (HGK.out _ HS8.out.below)).mono ?_
        rintro e w10 ⟨rfl, hb⟩
        have HS10 := Lib.hid (HS8.out.carry hb)
        clear hb HS8
        go_wp2_with (with_reducible refine stop_at (o := ⟨some 49, _, _, _, _, _⟩) ?_)
        refine wpList_load_nd Tryd.ndRef (by rfl) _ rfl p rfl L x HS10.out.a ?_
        go_wp2_with fail
        refine (RefLay_any (HN.out _ HS10.out.below) HR.out.symm).mono ?_
        rw [← HST.out]
        rintro e w9 ⟨rfl, hb⟩
        have HB9 := Lib.hid (HS10.out.below.trans (hb.mono HS10.out.below.size))
        clear hb HS10
        go_wp2_with fail
        cases hread : readN data.data.toList with
        | none =>
          refine (H.readNo w9 data (HGK.out _ HB9.out) HDM.out hread).mono ?_
          rintro e w11 ⟨M, v2, rfl, hm, he, hb⟩
          have HE11 := Lib.hid he.is
          have HM11 := Lib.hid hm
          have HB11 := Lib.hid (HB9.out.trans (hb.mono HB9.out.size))
          clear hm hb HB9 he
          go_wp2_with (with_reducible refine stop_at (o := ⟨none, _, _, _, _, _⟩) ?_)
          refine wpList_store_nd Tryd.ndProg rfl _ _ rfl M Nd.empty rfl rfl ?_
          intro w12 q HQ HB12 HX12
          rw [← HQ.out]
          have HM12 := Lib.hid (HM11.out.carry HB12.out)
          have HE12 := Lib.hid (HE11.out.carry HB12.out)
          have HBB12 := Lib.hid (HB11.out.trans (HB12.out.mono HB11.out.size))
          clear HQ HB12 HM11 HE11 HB11
          go_wp2_with fail
          refine (RefRead_any data w12 HDM.out).mono ?_
          rw [hread]
          rintro e w13 ⟨O, rfl, ho, hb⟩
          have HT13 : Hid (NdIs w13 O Nd.empty ∧ NdBox w13 q M Nd.empty ∧ NdIs w13 M Nd.empty ∧ ErrIs w13 2 v2 ∧ Below w.heap.size w w13) := Lib.hid ⟨ho, HX12.out.carry hb HX12.out.lt, HM12.out.carry hb, HE12.out.carry hb, HBB12.out.trans (hb.mono HBB12.out.size)⟩
          clear ho hb HX12 HM12 HE12 HBB12
          rw [show (none : Option Nd).getD Nd.empty = Nd.empty from rfl]
          go_wp2_with (with_reducible refine stop_at (o := ⟨none, _, _, _, _, _⟩) ?_)
          refine wpList_store_nd Tryd.ndRef rfl _ _ rfl O Nd.empty rfl rfl ?_
          intro w14 u HU HB14 HX14
          rw [← HU.out]
          have HT14 : Hid (TwoN w q u M O Nd.empty 2 v2 w14) := Lib.hid ⟨HT13.out.2.1.carry HB14.out HT13.out.2.1.lt, HX14.out, HT13.out.2.2.1.carry HB14.out, HT13.out.1.carry HB14.out, HT13.out.2.2.2.1.carry HB14.out, HT13.out.2.2.2.2.trans (HB14.out.mono HT13.out.2.2.2.2.size)⟩
          clear HU HB14 HX14 HT13
          go_wp2_with (with_reducible refine stop_at (o := ⟨some 64, _, _, _, _, _⟩) ?_)
          refine wpList_load_nd Tryd.ndProg (by rfl) _ rfl q rfl M Nd.empty HT14.out.a ?_
          refine wpList_load_nd Tryd.ndRef (by rfl) _ rfl u rfl O Nd.empty HT14.out.b ?_
          go_wp2_with fail
          refine (Same_any HT14.out.m HT14.out.o).mono ?_
          rintro e w15 ⟨rr, rfl, hrr, hb⟩
          obtain rfl : rr = 1 := by
            rcases hrr with ⟨_, h⟩ | ⟨h, _⟩
            · exact h
            · exact absurd rfl h
          have HT15 := Lib.hid (HT14.out.carry hb)
          clear hb hrr HT14
          go_wp2_with fail
          refine (Num_any 2 v2 w15 HT15.out.err (HGK.out _ HT15.out.below)).mono ?_
          rintro e w16 ⟨rfl, hb⟩
          have HT16 := Lib.hid (HT15.out.carry hb)
          clear hb HT15
          go_wp2_with fail
          refine (Num_any 2 v2 w16 HT16.out.err (HGK.out _ HT16.out.below)).mono ?_
          rintro e w17 ⟨rfl, hb⟩
          have HT17 := Lib.hid (HT16.out.carry hb)
          clear hb HT16
          go_wp2_with fail
          go_ret
          exact ⟨rfl, HT17.out.below⟩
        | some y =>
          refine (H.readYes w9 data y (HGK.out _ HB9.out) HDM.out hread).mono ?_
          rintro e w11 ⟨M, rfl, hm, hb⟩
          have HE11 : Hid (ErrIs w11 0 .nilIface) := Lib.hid (.nil _)
          have HM11 := Lib.hid hm
          have HB11 := Lib.hid (HB9.out.trans (hb.mono HB9.out.size))
          clear hm hb HB9
          go_wp2_with (with_reducible refine stop_at (o := ⟨none, _, _, _, _, _⟩) ?_)
          refine wpList_store_nd Tryd.ndProg rfl _ _ rfl M y rfl rfl ?_
          intro w12 q HQ HB12 HX12
          rw [← HQ.out]
          have HM12 := Lib.hid (HM11.out.carry HB12.out)
          have HE12 := Lib.hid (HE11.out.carry HB12.out)
          have HBB12 := Lib.hid (HB11.out.trans (HB12.out.mono HB11.out.size))
          clear HQ HB12 HM11 HE11 HB11
          go_wp2_with fail
          refine (RefRead_any data w12 HDM.out).mono ?_
          rw [hread]
          rintro e w13 ⟨O, rfl, ho, hb⟩
          have HT13 : Hid (NdIs w13 O y ∧ NdBox w13 q M y ∧ NdIs w13 M y ∧ ErrIs w13 0 .nilIface ∧ Below w.heap.size w w13) := Lib.hid ⟨ho, HX12.out.carry hb HX12.out.lt, HM12.out.carry hb, HE12.out.carry hb, HBB12.out.trans (hb.mono HBB12.out.size)⟩
          clear ho hb HX12 HM12 HE12 HBB12
          rw [show (some y : Option Nd).getD Nd.empty = y from rfl]
          go_wp2_with (with_reducible refine stop_at (o := ⟨none, _, _, _, _, _⟩) ?_)
          refine wpList_store_nd Tryd.ndRef rfl _ _ rfl O y rfl rfl ?_
          intro w14 u HU HB14 HX14
          rw [← HU.out]
          have HT14 : Hid (TwoN w q u M O y 0 .nilIface w14) := Lib.hid ⟨HT13.out.2.1.carry HB14.out HT13.out.2.1.lt, HX14.out, HT13.out.2.2.1.carry HB14.out, HT13.out.1.carry HB14.out, HT13.out.2.2.2.1.carry HB14.out, HT13.out.2.2.2.2.trans (HB14.out.mono HT13.out.2.2.2.2.size)⟩
          clear HU HB14 HX14 HT13
          go_wp2_with (with_reducible refine stop_at (o := ⟨some 64, _, _, _, _, _⟩) ?_)
          refine wpList_load_nd Tryd.ndProg (by rfl) _ rfl q rfl M y HT14.out.a ?_
          refine wpList_load_nd Tryd.ndRef (by rfl) _ rfl u rfl O y HT14.out.b ?_
          go_wp2_with fail
          refine (Same_any HT14.out.m HT14.out.o).mono ?_
          rintro e w15 ⟨rr, rfl, hrr, hb⟩
          obtain rfl : rr = 1 := by
            rcases hrr with ⟨_, h⟩ | ⟨h, _⟩
            · exact h
            · exact absurd rfl h
          have HT15 := Lib.hid (HT14.out.carry hb)
          clear hb hrr HT14
          go_wp2_with fail
          refine (Num_any 0 .nilIface w15 HT15.out.err (HGK.out _ HT15.out.below)).mono ?_
          rintro e w16 ⟨rfl, hb⟩
          have HT16 := Lib.hid (HT15.out.carry hb)
          clear hb HT15
          go_wp2_with fail
          go_ret
          exact ⟨rfl, HT16.out.below⟩
end Go.Proofs.YtakpjphgkpaipaaDoor
