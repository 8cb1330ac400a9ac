/-
  The walk of the statement PackPlays behind its loop: it answers true, and no memory that was there has turned. Conditions: what stands in the frame there.
-/
import Derived.Test.YtkdofddhijcahaaDoorPackRef
import Derived.Test.YtkdofddhijcahaaDoorPackGetsWalk
import Derived.Deep.RegionLaw
import Derived.BigQuiet
import Derived.Deep.LoopGhost
import Derived.Deep.DeepCutAuto
import Derived.Deep.CutBlock
namespace Go.Proofs.YtkdofddhijcahaaDoor
open Go.RowKit

/-- a body behind its first statements -/
def behind : Nat → Code → Code
  | 0, c => c
  | n + 1, .seq _ b => behind n b
  | _, c => c
set_option maxHeartbeats 20000000 in
set_option maxRecDepth 100000 in
theorem plays_end {m n : Int} {s : ByteArray} {zs ms : List Int} {A A2 : Option Addr} {cap cap2 : Nat} {w wc : World} {T L : ByteArray} {C Z : Int} {v2 : Value} {q5 q6 q7 q8 q9 q10 q11 q12 q13 q18 q19 q20 q21 q22 q23 q24 q25 q26 q27 q28 q29 q30 q31 q32 q33 q34 q35 q36 q37 q38 q39 q40 q41 q42 q43 q44 q45 q46 q47 q48 q49 q50 q51 q52 q53 q54 q55 q56 q57 q58 q59 q60 q61 q62 q63 q64 q65 q66 q67 q68 q69 q70 q71 q72 q73 q74 q75 q76 q77 q78 q79 q80 q81 q82 q83 q84 q85 q86 q87 q88 q89 q90 q91 q92 q93 q94 q95 q96 q97 q98 q99 q100 q101 q102 q103 q104 q105 q106 q107 q108 q109 q110 q111 q112 q113 q114 q115 q116 q117 q118 q119 q120 q121 q122 q123 q124 q125 q126 q127 q128 q129 q130 q131 q132 q133 q134 q135 q136 q137 q138 q139 q140 q141 q142 q143 q144 q145 q146 q147 q148 q149 q150 q151 q152 q153 q154 q155 q156 q157 q158 q159 q160 q161 q162 q163 q164 q165 q166 q167 q168 q169 q170 q171 q172 q173 q174 q175 q176 q177 q178 q179 q180 q181 q182 q183 q184 q185 q186 q187 q188 q189 q190 q191 q192 q193 q194 q195 : Value}
    (hl : zs.length ≤ 60) (HA : Hid (Nums w .i64 A zs)) (HG : Hid (Laid w)) (HZ : Hid (Z = sizeZ zs)) (HT : Hid (T = textZ zs ms)) (HC : Hid (C = codeZ zs ms)) (HLT : Hid (C = 0 → L = T)) (HE6 : Hid (ErrIs wc C v2)) (HBc : Hid (Below w.heap.size w wc)) :
    Code.wp Tryd.prog (behind 12 (Tryd.f4.body.getD .skip)) (bodyPost Tryd.prog Tryd.f4 fun e w' => e = Ending.returned (Value.bool true) ∧ Below w.heap.size w w')
      ⟨#[.int .i64 m, .int .i64 n, .string s, .slice A zs.length cap, .slice A2 ms.length cap2, q5, q6, q7, q8, q9, q10, q11, q12, q13, .string T, v2, .int .i64 C, .string L, q18, q19, q20, q21, q22, q23, q24, q25, q26, q27, q28, q29, q30, q31, q32, q33, q34, q35, q36, q37, q38, q39, q40, q41, q42, q43, q44, q45, q46, q47, q48, q49, q50, q51, q52, q53, q54, q55, q56, q57, q58, q59, q60, q61, q62, q63, q64, q65, q66, q67, q68, q69, q70, q71, q72, q73, q74, q75, q76, q77, q78, q79, q80, q81, q82, q83, q84, q85, q86, q87, q88, q89, q90, q91, q92, q93, q94, q95, q96, q97, q98, q99, q100, q101, q102, q103, q104, q105, q106, q107, q108, q109, q110, q111, q112, q113, q114, q115, q116, q117, q118, q119, q120, q121, q122, q123, q124, q125, q126, q127, q128, q129, q130, q131, q132, q133, q134, q135, q136, q137, q138, q139, q140, q141, q142, q143, q144, q145, q146, q147, q148, q149, q150, q151, q152, q153, q154, q155, q156, q157, q158, q159, q160, q161, q162, q163, q164, q165, q166, q167, q168, q169, q170, q171, q172, q173, q174, q175, q176, q177, q178, q179, q180, q181, q182, q183, q184, q185, q186, q187, q188, q189, q190, q191, q192, q193, q194, q195], []⟩ wc := by
  conv => arg 2; whnf
  go_upto_if 146 with (fail)
  go_cut [17] (fun s17 wx => s17 = .string T ∧ wc = wx)
  case first =>
    by_cases hc0 : C = 0
    · have hcb : (C != 0) = false := by simp [hc0]
      have HLT2 : Hid (L = T) := Lib.hid (HLT.out hc0)
      rw [hcb]
      clear hcb hc0
      go_wp2_with fail
      go_meet
      exact ⟨by rw [HLT2.out], rfl⟩
    · have hcb : (C != 0) = true := by simp [hc0]
      have HT2 : Hid (T = ⟨#[]⟩) := Lib.hid (by rw [HT.out]; unfold textZ; rw [if_neg (by rw [← HC.out]; exact hc0)])
      rw [hcb]
      clear hcb hc0
      go_wp2_with fail
      go_meet
      exact ⟨by rw [HT2.out], rfl⟩
  case rest =>
    obtain ⟨rfl, rfl⟩ := hcut
    go_wp2_with fail
    refine (Parse_any zs s A cap _ (HA.out.carry HBc.out)).mono ?_
    obtain ⟨D, HD⟩ : ∃ D, Hid (D = badZ zs s) := ⟨_, Lib.hid rfl⟩
    unfold ParseAny
    rw [← HD.out]
    rintro e w7 ⟨v3, A3, n3, c3, rfl, hn3, he3, hb7⟩
    have HN3 := Lib.hid hn3
    have HE3 := Lib.hid he3
    have HE7 := Lib.hid (ErrIs.carry HE6.out hb7)
    have HB7 : Hid (Below w.heap.size w w7) := Lib.hid (HBc.out.trans (hb7.mono HBc.out.size))
    clear hn3 he3 hb7 HE6 HBc
    go_upto_if 155 with (go_at_call 16; refine (RefSize_any zs A cap _ (HA.out.carry HB7.out)).mono ?_; rw [← HZ.out]; rintro e w' ⟨rfl, rfl⟩)
    go_cut [21] (fun s21 wx => s21 = .int .i64 D ∧ w7 = wx)
    case first =>
      cases hok : okW zs with
      | false =>
        have hz : Z = -1 := by rw [HZ.out, sizeZ_bad hok]
        subst hz
        have HD2 : Hid (D = 1) := Lib.hid (by rw [HD.out]; unfold badZ; rw [if_neg (by rw [hok]; decide)])
        clear hok
        go_wp2_with fail
        go_meet
        exact ⟨by rw [HD2.out], rfl⟩
      | true =>
        have hz : 0 ≤ Z := by
          obtain ⟨ws, rfl, hw⟩ := okW_true hok
          rw [HZ.out, sizeZ_ints hw]
          omega
        have hz2 : decide (Z < 0) = false := by simp; omega
        have HOK := Lib.hid hok
        clear hok
        by_cases hzs : Z = (s.size : Int)
        · have HD2 : Hid (D = 0) := Lib.hid (by rw [HD.out]; unfold badZ; rw [if_pos HOK.out, if_pos (by rw [← HZ.out]; exact hzs)])
          have hzb : (Z != (s.size : Int)) = false := by simp [hzs]
          clear hzs
          go_wp2_with fail
          refine (RefSize_any zs A cap _ (HA.out.carry HB7.out)).mono ?_
          rw [← HZ.out]
          rintro e w' ⟨rfl, rfl⟩
          go_wp2_with fail
          go_meet
          exact ⟨by rw [HD2.out], rfl⟩
        · have HD2 : Hid (D = 2) := Lib.hid (by rw [HD.out]; unfold badZ; rw [if_pos HOK.out, if_neg (by rw [← HZ.out]; exact hzs)])
          have hzb : (Z != (s.size : Int)) = true := by simp [hzs]
          go_wp2_with fail
          refine (RefSize_any zs A cap _ (HA.out.carry HB7.out)).mono ?_
          rw [← HZ.out]
          rintro e w' ⟨rfl, rfl⟩
          go_wp2_with fail
          go_meet
          exact ⟨by rw [HD2.out], rfl⟩
    case rest =>
      obtain ⟨rfl, rfl⟩ := hcut
      go_wp2_with fail
      refine (Num_any C v2 _ HE7.out (HG.out.carry HB7.out)).mono ?_
      rintro e w8 ⟨rfl, hb8⟩
      have HB8 : Hid (Below w.heap.size w w8) := Lib.hid (HB7.out.trans (hb8.mono HB7.out.size))
      have HE8 := Lib.hid (ErrIs.carry HE3.out hb8)
      clear hb8 HB7 HE3 HE7
      go_wp2_with fail
      refine (Num_any D v3 _ HE8.out (HG.out.carry HB8.out)).mono ?_
      rintro e w9 ⟨rfl, hb9⟩
      have HB9 : Hid (Below w.heap.size w w9) := Lib.hid (HB8.out.trans (hb9.mono HB8.out.size))
      clear hb9 HB8 HE8
      by_cases hd0 : D = 0
      · have hn9 : n3 = zs.length := by rw [HN3.out, if_pos hd0]
        subst hn9
        subst hd0
        go_wp2_with fail
        go_ret
        exact ⟨rfl, HB9.out⟩
      · have hn9 : n3 = 0 := by rw [HN3.out, if_neg hd0]
        subst hn9
        have hd1 : (D == 0) = false := by simp [hd0]
        have hd2 : (D != 0) = true := by simp [hd0]
        go_wp2_with fail
        go_ret
        exact ⟨rfl, HB9.out⟩
end Go.Proofs.YtkdofddhijcahaaDoor
