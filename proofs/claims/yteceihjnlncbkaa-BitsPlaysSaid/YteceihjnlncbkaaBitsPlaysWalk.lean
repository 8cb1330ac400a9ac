/-
  The walk of BitsPlays: the lists with and without the number; the whole. Conditions: what stands in the frame there.
-/
import Derived.Test.YteceihjnlncbkaaBitsPlaysMid
namespace Go.Proofs.Yteceihjnlncbkaa
open Go.RowKit
open Bits (Ok has with_ without count countBelow first both ofK)

set_option maxRecDepth 100000 in
set_option maxHeartbeats 8000000 in
theorem head_in {m : Nat} (hm : m < 240) {s t : List Nat} {b b1 g7 c7 : Nat} {w wr : World} {q5 q6 q9 q10 q11 q12 q13 q14 q15 q16 q17 q18 q19 q20 q21 q22 q23 q24 q25 q26 q27 q28 q29 q30 q31 q32 q33 q34 q35 q36 q37 q38 q39 q40 q41 q42 q43 q44 q45 q46 q47 q48 q49 q50 q51 q52 q53 q54 q55 q56 q57 q58 q59 q60 q61 q62 q63 q64 q65 q66 q67 q68 q69 q70 q71 q72 q73 q74 q75 q76 q77 q78 q79 q80 q81 q82 q83 q84 q85 q86 q87 q88 q89 q90 q91 q92 q93 q94 q95 q96 q97 q98 q99 q100 q101 : Value} (hs : Ok s) (ht : Ok t)
    (HR : Hid (wr.rangeAt b 0 (stCells s))) (HT : Hid (wr.rangeAt b1 0 (stCells t))) (HL : Hid (BRow wr g7 (has s))) (HOR : Hid (w.heap.size ≤ b ∧ b < b1 ∧ b1 < g7 ∧ g7 < wr.heap.size)) (HB : Hid (Below w.heap.size w wr)) :
    Code.wp Try.prog (behind 5 (Try.f3.body.getD .skip)) (bodyPost Try.prog Try.f3 fun e w' => e = Ending.returned (Value.bool true) ∧ Below w.heap.size w w')
      ⟨#[stV s, stV t, .int .i64 m, .pointer (some ⟨b, 0, none⟩), .pointer (some ⟨b1, 0, none⟩), q5, q6, .slice (some ⟨g7, 0, none⟩) 240 c7, .int .i64 ((countBelow s 240 : Nat) : Int), q9, q10, q11, q12, q13, q14, q15, q16, q17, q18, q19, q20, q21, q22, q23, q24, q25, q26, q27, q28, q29, q30, q31, q32, q33, q34, q35, q36, q37, q38, q39, q40, q41, q42, q43, q44, q45, q46, q47, q48, q49, q50, q51, q52, q53, q54, q55, q56, q57, q58, q59, q60, q61, q62, q63, q64, q65, q66, q67, q68, q69, q70, q71, q72, q73, q74, q75, q76, q77, q78, q79, q80, q81, q82, q83, q84, q85, q86, q87, q88, q89, q90, q91, q92, q93, q94, q95, q96, q97, q98, q99, q100, q101], []⟩ wr := by
  conv => arg 2; whnf
  obtain ⟨i0, hi, hz0, hz1, hz2⟩ := info_parts Try.infoBool
  have hm1 : (0 : Int) ≤ (m : Int) := by omega
  have hm2 : (m : Int) < 240 := by omega
  have HL0 := HL
  go_wp2_with (with_reducible refine set_stop (o := ⟨some 30, _, _, _, _, _⟩) ?_)
  refine wpList_append_lies _ rfl _ _ 24 rfl wr.heap.size 4 i0 (.bool false) 1 1 Try.underlying24 hi hz0 hz1 hz2 rfl (by decide) (.slice (some ⟨wr.heap.size, 0, none⟩) 0 0) 0 [] rfl (World.ownsRow_lit wr #[] 0 (Nat.le_refl _) (by decide) rfl) ⟨g7, 0, none⟩ 240 c7 (blCells (has s) 240) rfl (by rw [blCells_length]) (HL0.out.news _) (blCells_one _ _) (by decide) (by decide) (by decide) (by simp) (wr.heap.size + 1) (by simp) ?_
  intro g10 c10 w1 hown hgrow hat hlt
  simp only [Nat.zero_add, List.nil_append] at hown ⊢
  have hg : wr.heap.size ≤ g10 := by
    rcases hat with e | e
    · have e' : wr.heap.size = g10 := by simpa [Value.ownBlock] using e
      omega
    · omega
  have hro : ∀ j, j < wr.heap.size → (Value.slice (some ⟨wr.heap.size, 0, none⟩) 0 0).ownBlock ≠ some j := fun j hj e => by
    have e' : wr.heap.size = j := by simpa [Value.ownBlock] using e
    omega
  have HO : Hid (BRow w1 g10 (has s)) := Lib.hid (BRow.own hown)
  have HR1 : Hid (w1.rangeAt b 0 (stCells s)) := Lib.hid (range_grown HR.out hgrow (by have := HOR.out; omega) (hro b (by have := HOR.out; omega)))
  have HT1 : Hid (w1.rangeAt b1 0 (stCells t)) := Lib.hid (range_grown HT.out hgrow (by have := HOR.out; omega) (hro b1 (by have := HOR.out; omega)))
  have HL1 : Hid (BRow w1 g7 (has s)) := Lib.hid (HL0.out.grown hgrow (hro g7 (by have := HOR.out; omega)))
  have HOR1 : Hid (g7 < g10 ∧ g10 < w1.heap.size ∧ w.heap.size ≤ w1.heap.size) := Lib.hid ⟨by have := HOR.out; omega, hlt, by have := hgrow.size; have := HB.out.size; simp at *; omega⟩
  have HB1 : Hid (Below w.heap.size w w1) := Lib.hid ((HB.out.alloc HB.out.size _).grown hgrow (by have := HB.out.size; simp; omega) (fun g hg => by
    have e' : wr.heap.size = g := by simpa [Value.ownBlock] using hg
    have := HB.out.size
    omega))
  clear hown hgrow hat hlt hg hro HR HT HL0 HB
  go_wp2_with (with_reducible refine set_stop (o := ⟨some 33, _, _, _, _, _⟩) ?_)
  refine wpList_append_lies _ rfl _ _ 24 rfl w1.heap.size 4 i0 (.bool false) 1 1 Try.underlying24 hi hz0 hz1 hz2 rfl (by decide) (.slice (some ⟨w1.heap.size, 0, none⟩) 0 0) 0 [] rfl (World.ownsRow_lit w1 #[] 0 (Nat.le_refl _) (by decide) rfl) ⟨g7, 0, none⟩ 240 c7 (blCells (has s) 240) rfl (by rw [blCells_length]) (HL1.out.news _) (blCells_one _ _) (by decide) (by decide) (by decide) (by simp) (w1.heap.size + 1) (by simp) ?_
  intro g11 c11 w2 hown hgrow hat hlt
  simp only [Nat.zero_add, List.nil_append] at hown ⊢
  have hg : w1.heap.size ≤ g11 := by
    rcases hat with e | e
    · have e' : w1.heap.size = g11 := by simpa [Value.ownBlock] using e
      omega
    · omega
  have hro : ∀ j, j < w1.heap.size → (Value.slice (some ⟨w1.heap.size, 0, none⟩) 0 0).ownBlock ≠ some j := fun j hj e => by
    have e' : w1.heap.size = j := by simpa [Value.ownBlock] using e
    omega
  have HST : Hid (PlSt w b b1 g7 g10 g11 s t (has s) (has s) w2) := Lib.hid (by
    refine ⟨range_grown HR1.out hgrow ?_ (hro b ?_), range_grown HT1.out hgrow ?_ (hro b1 ?_), HL1.out.grown hgrow (hro g7 ?_), HO.out.grown hgrow (hro g10 ?_), BRow.own hown, ?_, (HB1.out.alloc HB1.out.size _).grown hgrow ?_ (fun g hg2 => ?_)⟩
    · have := HOR.out; have := HOR1.out; omega
    · have := HOR.out; have := HOR1.out; omega
    · have := HOR.out; have := HOR1.out; omega
    · have := HOR.out; have := HOR1.out; omega
    · have := HOR1.out; omega
    · have := HOR1.out; omega
    · have := HOR.out; have := HOR1.out; omega
    · have := HB1.out.size; simp; omega
    · have e' : w1.heap.size = g := by simpa [Value.ownBlock] using hg2
      have := HB1.out.size
      omega)
  have HLT : Hid (g11 < w2.heap.size) := Lib.hid hlt
  clear hown hgrow hat hlt hg hro HR1 HT1 HL1 HO HB1 HOR HOR1
  obtain ⟨f10, HF10⟩ : ∃ f : Nat → Bool, Hid (∀ j, j < 240 → f j = if j = m then true else has s j) := ⟨fun j => if j = m then true else has s j, Lib.hid fun _ _ => rfl⟩
  obtain ⟨f11, HF11⟩ : ∃ f : Nat → Bool, Hid (∀ j, j < 240 → f j = if j = m then false else has s j) := ⟨fun j => if j = m then false else has s j, Lib.hid fun _ _ => rfl⟩
  have HX2 : Hid (ofF f10 = withZ s m) := Lib.hid (ofF_eq (withZ_ok hs m) fun j hj => by
    unfold withZ
    rw [isNum_nat hm, if_pos rfl, Int.toNat_natCast, Bits.has_with hs hm, HF10.out j hj])
  have HY2 : Hid (ofF f11 = withoutZ s m) := Lib.hid (ofF_eq (withoutZ_ok hs m) fun j hj => by
    unfold withoutZ
    rw [isNum_nat hm, if_pos rfl, Int.toNat_natCast, Bits.has_without hs hm, HF11.out j hj])
  go_upto_if 39 with (fail)
  go_cut [] (fun wx => Hid (PlSt w b b1 g7 g10 g11 s t f10 f11 wx) ∧ Hid (g11 < wx.heap.size))
  case first =>
    have hc10 := HST.out.wi.at_ m hm
    have hf10 := HST.out.wi.free m
    go_upto_region 14 with (fail)
    obtain ⟨w3, HW3⟩ : ∃ w3, Hid (w3 = w2.setCell ⟨g10, m, none⟩ (.bool true)) := ⟨_, Lib.hid rfl⟩
    rw [← HW3.out]
    have HST3 : Hid (PlSt w b b1 g7 g10 g11 s t f10 (has s) w3) := Lib.hid (by rw [HW3.out]; exact HST.out.put10 hm true HF10.out)
    have HLT3 : Hid (g11 < w3.heap.size) := Lib.hid (by rw [HW3.out]; simpa using HLT.out)
    clear HW3 HST HLT hc10 hf10
    have hc11 := HST3.out.wo.at_ m hm
    have hf11 := HST3.out.wo.free m
    have HST4 : Hid (PlSt w b b1 g7 g10 g11 s t f10 f11 (w3.setCell ⟨g11, m, none⟩ (.bool false))) := Lib.hid (HST3.out.put11 hm false HF11.out)
    have HLT4 : Hid (g11 < (w3.setCell ⟨g11, m, none⟩ (.bool false)).heap.size) := Lib.hid (by simpa using HLT3.out)
    clear HST3 HLT3
    go_wp2_with fail
    go_meet
    exact ⟨HST4, HLT4⟩
  case rest =>
    obtain ⟨HST4, HLT4⟩ := hcut
    clear HST HLT
    refine go_on (P := Try.prog) (by assumption) ?_
    exact plays_mid hs ht (Lib.hid rfl) (Lib.hid rfl) HX2 HY2 HST4 HLT4
set_option maxRecDepth 100000 in
set_option maxHeartbeats 8000000 in
theorem head_out {n : Int} (hn : isNum n = false) (hc : ¬ 0 ≤ n ∨ (0 ≤ n ∧ decide (n < 240) = false)) {s t : List Nat} {b b1 g7 c7 : Nat} {w wr : World} {q5 q6 q9 q10 q11 q12 q13 q14 q15 q16 q17 q18 q19 q20 q21 q22 q23 q24 q25 q26 q27 q28 q29 q30 q31 q32 q33 q34 q35 q36 q37 q38 q39 q40 q41 q42 q43 q44 q45 q46 q47 q48 q49 q50 q51 q52 q53 q54 q55 q56 q57 q58 q59 q60 q61 q62 q63 q64 q65 q66 q67 q68 q69 q70 q71 q72 q73 q74 q75 q76 q77 q78 q79 q80 q81 q82 q83 q84 q85 q86 q87 q88 q89 q90 q91 q92 q93 q94 q95 q96 q97 q98 q99 q100 q101 : Value} (hs : Ok s) (ht : Ok t)
    (HR : Hid (wr.rangeAt b 0 (stCells s))) (HT : Hid (wr.rangeAt b1 0 (stCells t))) (HL : Hid (BRow wr g7 (has s))) (HOR : Hid (w.heap.size ≤ b ∧ b < b1 ∧ b1 < g7 ∧ g7 < wr.heap.size)) (HB : Hid (Below w.heap.size w wr)) :
    Code.wp Try.prog (behind 5 (Try.f3.body.getD .skip)) (bodyPost Try.prog Try.f3 fun e w' => e = Ending.returned (Value.bool true) ∧ Below w.heap.size w w')
      ⟨#[stV s, stV t, .int .i64 n, .pointer (some ⟨b, 0, none⟩), .pointer (some ⟨b1, 0, none⟩), q5, q6, .slice (some ⟨g7, 0, none⟩) 240 c7, .int .i64 ((countBelow s 240 : Nat) : Int), q9, q10, q11, q12, q13, q14, q15, q16, q17, q18, q19, q20, q21, q22, q23, q24, q25, q26, q27, q28, q29, q30, q31, q32, q33, q34, q35, q36, q37, q38, q39, q40, q41, q42, q43, q44, q45, q46, q47, q48, q49, q50, q51, q52, q53, q54, q55, q56, q57, q58, q59, q60, q61, q62, q63, q64, q65, q66, q67, q68, q69, q70, q71, q72, q73, q74, q75, q76, q77, q78, q79, q80, q81, q82, q83, q84, q85, q86, q87, q88, q89, q90, q91, q92, q93, q94, q95, q96, q97, q98, q99, q100, q101], []⟩ wr := by
  conv => arg 2; whnf
  obtain ⟨i0, hi, hz0, hz1, hz2⟩ := info_parts Try.infoBool
  have HL0 := HL
  have HX2 : Hid (ofF (has s) = withZ s n) := Lib.hid (by unfold withZ; rw [hn, if_neg (by decide)]; exact ofF_eq hs fun _ _ => rfl)
  have HY2 : Hid (ofF (has s) = withoutZ s n) := Lib.hid (by unfold withoutZ; rw [hn, if_neg (by decide)]; exact ofF_eq hs fun _ _ => rfl)
  go_wp2_with (with_reducible refine set_stop (o := ⟨some 30, _, _, _, _, _⟩) ?_)
  refine wpList_append_lies _ rfl _ _ 24 rfl wr.heap.size 4 i0 (.bool false) 1 1 Try.underlying24 hi hz0 hz1 hz2 rfl (by decide) (.slice (some ⟨wr.heap.size, 0, none⟩) 0 0) 0 [] rfl (World.ownsRow_lit wr #[] 0 (Nat.le_refl _) (by decide) rfl) ⟨g7, 0, none⟩ 240 c7 (blCells (has s) 240) rfl (by rw [blCells_length]) (HL0.out.news _) (blCells_one _ _) (by decide) (by decide) (by decide) (by simp) (wr.heap.size + 1) (by simp) ?_
  intro g10 c10 w1 hown hgrow hat hlt
  simp only [Nat.zero_add, List.nil_append] at hown ⊢
  have hg : wr.heap.size ≤ g10 := by
    rcases hat with e | e
    · have e' : wr.heap.size = g10 := by simpa [Value.ownBlock] using e
      omega
    · omega
  have hro : ∀ j, j < wr.heap.size → (Value.slice (some ⟨wr.heap.size, 0, none⟩) 0 0).ownBlock ≠ some j := fun j hj e => by
    have e' : wr.heap.size = j := by simpa [Value.ownBlock] using e
    omega
  have HO : Hid (BRow w1 g10 (has s)) := Lib.hid (BRow.own hown)
  have HR1 : Hid (w1.rangeAt b 0 (stCells s)) := Lib.hid (range_grown HR.out hgrow (by have := HOR.out; omega) (hro b (by have := HOR.out; omega)))
  have HT1 : Hid (w1.rangeAt b1 0 (stCells t)) := Lib.hid (range_grown HT.out hgrow (by have := HOR.out; omega) (hro b1 (by have := HOR.out; omega)))
  have HL1 : Hid (BRow w1 g7 (has s)) := Lib.hid (HL0.out.grown hgrow (hro g7 (by have := HOR.out; omega)))
  have HOR1 : Hid (g7 < g10 ∧ g10 < w1.heap.size ∧ w.heap.size ≤ w1.heap.size) := Lib.hid ⟨by have := HOR.out; omega, hlt, by have := hgrow.size; have := HB.out.size; simp at *; omega⟩
  have HB1 : Hid (Below w.heap.size w w1) := Lib.hid ((HB.out.alloc HB.out.size _).grown hgrow (by have := HB.out.size; simp; omega) (fun g hg => by
    have e' : wr.heap.size = g := by simpa [Value.ownBlock] using hg
    have := HB.out.size
    omega))
  clear hown hgrow hat hlt hg hro HR HT HL0 HB
  go_wp2_with (with_reducible refine set_stop (o := ⟨some 33, _, _, _, _, _⟩) ?_)
  refine wpList_append_lies _ rfl _ _ 24 rfl w1.heap.size 4 i0 (.bool false) 1 1 Try.underlying24 hi hz0 hz1 hz2 rfl (by decide) (.slice (some ⟨w1.heap.size, 0, none⟩) 0 0) 0 [] rfl (World.ownsRow_lit w1 #[] 0 (Nat.le_refl _) (by decide) rfl) ⟨g7, 0, none⟩ 240 c7 (blCells (has s) 240) rfl (by rw [blCells_length]) (HL1.out.news _) (blCells_one _ _) (by decide) (by decide) (by decide) (by simp) (w1.heap.size + 1) (by simp) ?_
  intro g11 c11 w2 hown hgrow hat hlt
  simp only [Nat.zero_add, List.nil_append] at hown ⊢
  have hg : w1.heap.size ≤ g11 := by
    rcases hat with e | e
    · have e' : w1.heap.size = g11 := by simpa [Value.ownBlock] using e
      omega
    · omega
  have hro : ∀ j, j < w1.heap.size → (Value.slice (some ⟨w1.heap.size, 0, none⟩) 0 0).ownBlock ≠ some j := fun j hj e => by
    have e' : w1.heap.size = j := by simpa [Value.ownBlock] using e
    omega
  have HST : Hid (PlSt w b b1 g7 g10 g11 s t (has s) (has s) w2) := Lib.hid (by
    refine ⟨range_grown HR1.out hgrow ?_ (hro b ?_), range_grown HT1.out hgrow ?_ (hro b1 ?_), HL1.out.grown hgrow (hro g7 ?_), HO.out.grown hgrow (hro g10 ?_), BRow.own hown, ?_, (HB1.out.alloc HB1.out.size _).grown hgrow ?_ (fun g hg2 => ?_)⟩
    · have := HOR.out; have := HOR1.out; omega
    · have := HOR.out; have := HOR1.out; omega
    · have := HOR.out; have := HOR1.out; omega
    · have := HOR.out; have := HOR1.out; omega
    · have := HOR1.out; omega
    · have := HOR1.out; omega
    · have := HOR.out; have := HOR1.out; omega
    · have := HB1.out.size; simp; omega
    · have e' : w1.heap.size = g := by simpa [Value.ownBlock] using hg2
      have := HB1.out.size
      omega)
  have HLT : Hid (g11 < w2.heap.size) := Lib.hid hlt
  clear hown hgrow hat hlt hg hro HR1 HT1 HL1 HO HB1 HOR HOR1
  rcases hc with hc | ⟨hc, hc2⟩
  all_goals
    go_upto_if 39 with (fail)
    go_cut [] (fun wx => w2 = wx)
    case first =>
      go_wp2_with fail
      go_meet
      exact rfl
    case rest =>
      obtain rfl := hcut
      refine go_on (P := Try.prog) (by assumption) ?_
      exact plays_mid hs ht (Lib.hid rfl) (Lib.hid rfl) HX2 HY2 HST HLT
set_option maxRecDepth 100000 in
set_option maxHeartbeats 8000000 in
theorem plays_walk (s t : List Nat) (hs : Ok s) (ht : Ok t) (n : Int) (w : World) :
    Calls Try.prog 3 #[stV s, stV t, .int .i64 n] w fun e w' => e = .returned (.bool true) ∧ Below w.heap.size w w' := by
  obtain ⟨i0, hi, hz0, hz1, hz2⟩ := info_parts Try.infoBool
  have hz := Try.zeroSet
  obtain ⟨w1, HW⟩ : ∃ w1, Hid (w1 = (w.alloc (.cells (stArr s) 22)).alloc (.cells (stArr t) 22)) := ⟨_, Lib.hid rfl⟩
  obtain ⟨b, HBB⟩ : ∃ b, Hid (b = w.heap.size) := ⟨_, Lib.hid rfl⟩
  have HB1 : Hid (Below w.heap.size w w1) := Lib.hid (by rw [HW.out]; exact ((Below.refl _ _).alloc (Nat.le_refl _) _).alloc (by simp) _)
  have HR1 : Hid (w1.rangeAt b 0 (stCells s)) := Lib.hid (by
    rw [HW.out, HBB.out]
    exact ((SOwn.new _).below ((Below.refl _ _).alloc (Nat.le_refl _) _) (by simp)).at_)
  have HT1 : Hid (w1.rangeAt (b + 1) 0 (stCells t)) := Lib.hid (by
    rw [HW.out, HBB.out]
    have := SOwn.new (w := w.alloc (.cells (stArr s) 22)) (s := t) 22
    simpa using this.at_)
  have HSZ1 : Hid (b + 1 < w1.heap.size) := Lib.hid (by rw [HW.out, HBB.out]; simp)
  obtain ⟨b1, HB2B⟩ : ∃ b1, Hid (b1 = b + 1) := ⟨_, Lib.hid rfl⟩
  go_enter Try.func3, Try.ntmps3
  go_wp2_with fail
  rw [← HW.out, ← HBB.out, ← HB2B.out]
  rw [← HB2B.out] at HT1 HSZ1
  refine (awake_any _).mono ?_
  rintro e w2 ⟨rfl, hb⟩
  have HB2 := Lib.hid (HB1.out.trans (hb.mono HB1.out.size))
  have HR2 := Lib.hid (range_carry HR1.out hb)
  have HT2 := Lib.hid (range_carry HT1.out hb)
  have HSZ2 : Hid (b1 < w2.heap.size) := Lib.hid (Nat.lt_of_lt_of_le HSZ1.out hb.size)
  clear hb HB1 HR1 HT1 HSZ1
  go_wp2_with (with_reducible refine set_stop (o := ⟨some 16, _, _, _, _, _⟩) ?_)
  refine wpList_load_arr rfl _ rfl b rfl s hs.len HR2.out ?_
  go_wp2_with fail
  refine (RefList_any s hs _).mono ?_
  rintro e w3 ⟨g7, cap7, rfl, hrow, hg7, hb⟩
  have HB3 := Lib.hid (HB2.out.trans (hb.mono HB2.out.size))
  have HR3 := Lib.hid (range_carry HR2.out hb)
  have HT3 := Lib.hid (range_carry HT2.out hb)
  have HL3 := Lib.hid hrow
  have HSZ3 : Hid (b1 < g7 ∧ g7 < w3.heap.size) := Lib.hid ⟨Nat.lt_of_lt_of_le HSZ2.out hg7, hrow.lt⟩
  clear hb hrow hg7 HB2 HR2 HT2 HSZ2
  go_wp2_with fail
  go_loop [8, 9] (fun c i => CountAt s c i) (fun _ i => 240 - (intOf i).toNat)
  case atStart => exact ⟨0, by decide, rfl, rfl⟩
  case round =>
    obtain ⟨k, hk, rfl, rfl⟩ := hrel
    have hcl := Bits.countBelow_le s k
    obtain ⟨c, HC⟩ : ∃ c, Hid (c = countBelow s k) := ⟨_, Lib.hid rfl⟩
    rw [← HC.out] at hcl ⊢
    by_cases hlt : k < 240
    · have hc := HL3.out.at_ k hlt
      have hk2 : (k : Int) < 240 := by omega
      obtain ⟨v, HV⟩ : ∃ v, Hid (v = has s k) := ⟨_, Lib.hid rfl⟩
      have HCC : Hid (countBelow s (k + 1) = c + if v then 1 else 0) := Lib.hid (by rw [HC.out, HV.out]; rfl)
      rw [← HV.out] at hc
      cases v with
      | true =>
        go_wp2_with fail
        go_round
        case rel => exact ⟨k + 1, hlt, by go_num, by rw [HCC.out, if_pos rfl]; go_num⟩
        case measure => simp [intOf]; omega
      | false =>
        go_wp2_with fail
        go_round
        case rel => exact ⟨k + 1, hlt, by go_num, by rw [HCC.out, if_neg (by decide), Nat.add_zero]⟩
        case measure => simp [intOf]; omega
    · obtain rfl : k = 240 := by omega
      go_upto_if 19 with (fail)
      go_step
      go_step
      have HOR : Hid (w.heap.size ≤ b ∧ b < b1 ∧ b1 < g7 ∧ g7 < w3.heap.size) := Lib.hid (by have := HBB.out; have := HB2B.out; have := HSZ3.out; omega)
      refine go_on (P := Try.prog) (by assumption) ?_
      rw [HC.out]
      cases hn : isNum n with
      | true =>
        obtain ⟨m, rfl, hm⟩ := isNum_true hn
        exact head_in hm hs ht HR3 HT3 HL3 HOR HB3
      | false =>
        have hn' : ¬ (0 ≤ n ∧ n < 240) := of_decide_eq_false hn
        exact head_out hn (by rw [decide_eq_false_iff_not]; omega) hs ht HR3 HT3 HL3 HOR HB3
end Go.Proofs.Yteceihjnlncbkaa
