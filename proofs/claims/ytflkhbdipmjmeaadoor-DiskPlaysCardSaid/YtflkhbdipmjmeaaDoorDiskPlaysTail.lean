/-
  A round of DiskPlays behind its act: all is read, the writes are counted. Conditions: errors.errorType is laid.
-/
import Derived.Test.YtflkhbdipmjmeaaDoorDiskPlaysCmp
namespace Go.Proofs.YtflkhbdipmjmeaaDoor
open Go.RowKit

noncomputable def sizeCode : Code := seqL (seqR tailCode)
set_option maxRecDepth 100000 in
set_option maxHeartbeats 8000000 in
theorem size_cmp {Q : Exit → Act → World → Prop} {K : Nat → Prop} {D b7 n : Nat} {d : Dk} {A : Option Addr} {cA : Nat} {w : World} {q1 q2 q3 q4 q6 q8 q9 q10 q11 q12 q13 q14 q15 q16 q17 q18 q19 q20 q21 q22 q23 q24 q25 q26 q27 q28 q29 q30 q31 q32 q33 q34 q35 q36 q37 q38 q39 q40 q41 q42 q43 q44 q45 q46 q47 q48 q49 q50 q51 q52 q53 q54 q55 q56 q57 q58 q59 q60 q61 q62 q63 q64 q65 q66 q67 q68 q69 q70 q71 q72 q73 q74 q75 q76 q77 q78 q79 q80 q81 q82 q83 q84 q85 q86 q87 q88 q89 q90 q91 q92 q93 q94 q95 q96 q97 q98 q99 q100 q101 q102 q103 q104 q105 q106 q107 q108 q109 q110 q111 q112 q113 q114 q115 q116 q117 q118 q119 q120 q121 q122 q123 q124 q125 q126 q127 q128 q129 q130 q131 q132 q133 q134 q135 q136 q137 q138 q139 q140 q141 q142 q143 q144 q145 q146 q147 q148 q149 q150 q151 q152 q153 q154 q155 q156 q157 q158 q159 q160 q161 q162 q163 q164 q165 q166 q167 q168 q169 q170 q171 q172 q173 q174 q175 q176 q177 q178 q179 q180 q181 q182 q183 q184 q185 q186 q187 q188 q189 q190 q191 q192 q193 q194 q195 q196 q197 q198 q199 q200 q201 q202 q203 q204 q205 q206 q207 q208 q209 q210 q211 q212 q213 q214 q215 q216 q217 q218 q219 q220 q221 q222 q223 q224 q225 q226 q227 q228 q229 q230 q231 q232 q233 q234 q235 : Value} (HD : Hid (DiskAt K w D n d)) (HC : Hid (w.cell? ⟨b7, 1, none⟩ = some (.slice A d.soft.length cA)))
    (hq : ∀ x (a : Act) w t v, Q (.panic x) (a.put (some t) v) w → Q (.panic x) a w) (HQ : Hid (∀ {r186 r187 r188 r189 r190 r191 r192 r193 r194 r195 r196 : Value} (w' : World), Below w.heap.size w w' → Q .normal ⟨#[.int .i64 (n : Int), q1, q2, q3, q4, .pointer (some ⟨D, 0, none⟩), q6, .pointer (some ⟨b7, 0, none⟩), q8, q9, q10, q11, q12, q13, q14, q15, q16, q17, q18, q19, q20, q21, q22, q23, q24, q25, q26, q27, q28, q29, q30, q31, q32, q33, q34, q35, q36, q37, q38, q39, q40, q41, q42, q43, q44, q45, q46, q47, q48, q49, q50, q51, q52, q53, q54, q55, q56, q57, q58, q59, q60, q61, q62, q63, q64, q65, q66, q67, q68, q69, q70, q71, q72, q73, q74, q75, q76, q77, q78, q79, q80, q81, q82, q83, q84, q85, q86, q87, q88, q89, q90, q91, q92, q93, q94, q95, q96, q97, q98, q99, q100, q101, q102, q103, q104, q105, q106, q107, q108, q109, q110, q111, q112, q113, q114, q115, q116, q117, q118, q119, q120, q121, q122, q123, q124, q125, q126, q127, q128, q129, q130, q131, q132, q133, q134, q135, q136, q137, q138, q139, q140, q141, q142, q143, q144, q145, q146, q147, q148, q149, q150, q151, q152, q153, q154, q155, q156, q157, q158, q159, q160, q161, q162, q163, q164, q165, q166, q167, q168, q169, q170, q171, q172, q173, q174, q175, q176, q177, q178, q179, q180, q181, q182, q183, q184, q185, r186, r187, r188, r189, r190, r191, r192, r193, r194, r195, r196, .bool false, q198, q199, q200, q201, q202, q203, q204, q205, q206, q207, q208, q209, q210, q211, q212, q213, q214, q215, q216, q217, q218, q219, q220, q221, q222, q223, q224, q225, q226, q227, q228, q229, q230, q231, q232, q233, q234, q235], []⟩ w')) :
    Code.wp Tryd.prog sizeCode Q ⟨#[.int .i64 (n : Int), q1, q2, q3, q4, .pointer (some ⟨D, 0, none⟩), q6, .pointer (some ⟨b7, 0, none⟩), q8, q9, q10, q11, q12, q13, q14, q15, q16, q17, q18, q19, q20, q21, q22, q23, q24, q25, q26, q27, q28, q29, q30, q31, q32, q33, q34, q35, q36, q37, q38, q39, q40, q41, q42, q43, q44, q45, q46, q47, q48, q49, q50, q51, q52, q53, q54, q55, q56, q57, q58, q59, q60, q61, q62, q63, q64, q65, q66, q67, q68, q69, q70, q71, q72, q73, q74, q75, q76, q77, q78, q79, q80, q81, q82, q83, q84, q85, q86, q87, q88, q89, q90, q91, q92, q93, q94, q95, q96, q97, q98, q99, q100, q101, q102, q103, q104, q105, q106, q107, q108, q109, q110, q111, q112, q113, q114, q115, q116, q117, q118, q119, q120, q121, q122, q123, q124, q125, q126, q127, q128, q129, q130, q131, q132, q133, q134, q135, q136, q137, q138, q139, q140, q141, q142, q143, q144, q145, q146, q147, q148, q149, q150, q151, q152, q153, q154, q155, q156, q157, q158, q159, q160, q161, q162, q163, q164, q165, q166, q167, q168, q169, q170, q171, q172, q173, q174, q175, q176, q177, q178, q179, q180, q181, q182, q183, q184, q185, q186, q187, q188, q189, q190, q191, q192, q193, q194, q195, q196, q197, q198, q199, q200, q201, q202, q203, q204, q205, q206, q207, q208, q209, q210, q211, q212, q213, q214, q215, q216, q217, q218, q219, q220, q221, q222, q223, q224, q225, q226, q227, q228, q229, q230, q231, q232, q233, q234, q235], []⟩ w := by
  conv => arg 2; whnf
  refine wp_region_held (S := fun w' => w'.cell? ⟨b7, 1, none⟩ = some (.slice A d.soft.length cA) ∧ Below w.heap.size w w') (by kernel_rfl) ?_
  change wpAnyH _ _ _ _ _ _ _ _ w.drew
  obtain ⟨w4, HW⟩ : ∃ w1, Hid (w1 = w.drew) := ⟨_, Lib.hid rfl⟩
  rw [← HW.out]
  have hS : w4.cell? ⟨b7, 1, none⟩ = some (.slice A d.soft.length cA) ∧ Below w.heap.size w w4 := by rw [HW.out]; exact ⟨HC.out, (Below.refl _ _).drew⟩
  clear HW
  refine takeH (i := 0) 186 (v := .pointer (some ⟨D, 0, none⟩)) rfl (by kernel_rfl) (by kernel_rfl) (by kernel_rfl) rfl (fun _ _ _ h => hq _ _ _ _ _ h) (.inl ⟨by rfl, fun _ _ => by go_simp⟩) hS ?_
  simp only [Act.put, List.setIfInBounds_toArray, List.set_cons_zero, List.set_cons_succ]
  refine takeH (i := 2) 188 (v := .pointer (some ⟨b7, 1, none⟩)) rfl (by kernel_rfl) (by kernel_rfl) (by kernel_rfl) rfl (fun _ _ _ h => hq _ _ _ _ _ h) (.inl ⟨by rfl, fun _ _ => by go_simp⟩) hS ?_
  simp only [Act.put, List.setIfInBounds_toArray, List.set_cons_zero, List.set_cons_succ]
  refine takeH (i := 3) 189 (v := .slice A d.soft.length cA) rfl (by kernel_rfl) (by kernel_rfl) (by kernel_rfl) rfl (fun _ _ _ h => hq _ _ _ _ _ h) (.inl ⟨by rfl, fun _ hw => by have e1 := hw.1; go_simp⟩) hS ?_
  simp only [Act.put, List.setIfInBounds_toArray, List.set_cons_zero, List.set_cons_succ]
  refine takeH (i := 4) 190 (v := .int .i64 d.soft.length) rfl (by kernel_rfl) (by kernel_rfl) (by kernel_rfl) rfl (fun _ _ _ h => hq _ _ _ _ _ h) (.inl ⟨by rfl, fun _ _ => by go_simp⟩) hS ?_
  simp only [Act.put, List.setIfInBounds_toArray, List.set_cons_zero, List.set_cons_succ]
  refine oneH (i := 1) (oi := ⟨some 187, _, _, _, _, _⟩) rfl (by kernel_rfl) (fun K hK => ?_)
  go_simp
  refine (Soft_any (HD.out.carry hS.2)).mono ?_
  rintro e w' ⟨rfl, rfl⟩
  refine hK.out _ _ hS ?_
  clear hK K
  refine takeH (i := 5) 191 (v := .bool false) rfl (by kernel_rfl) (by kernel_rfl) (by kernel_rfl) rfl (fun _ _ _ h => hq _ _ _ _ _ h) (.inl ⟨by rfl, fun _ _ => by go_simp⟩) hS ?_
  simp only [Act.put, List.setIfInBounds_toArray, List.set_cons_zero, List.set_cons_succ]
  refine takeH (i := 6) 192 (v := .bool false) rfl (by kernel_rfl) (by kernel_rfl) (by kernel_rfl) rfl (fun _ _ _ h => hq _ _ _ _ _ h) (.inl ⟨by rfl, fun _ _ => by go_simp⟩) hS ?_
  simp only [Act.put, List.setIfInBounds_toArray, List.set_cons_zero, List.set_cons_succ]
  refine takeH (i := 7) 193 (v := .pointer (some ⟨D, 0, none⟩)) rfl (by kernel_rfl) (by kernel_rfl) (by kernel_rfl) rfl (fun _ _ _ h => hq _ _ _ _ _ h) (.inl ⟨by rfl, fun _ _ => by go_simp⟩) hS ?_
  simp only [Act.put, List.setIfInBounds_toArray, List.set_cons_zero, List.set_cons_succ]
  refine takeH (i := 9) 195 (v := .int .i64 (n : Int)) rfl (by kernel_rfl) (by kernel_rfl) (by kernel_rfl) rfl (fun _ _ _ h => hq _ _ _ _ _ h) (.inl ⟨by rfl, fun _ _ => by go_simp⟩) hS ?_
  simp only [Act.put, List.setIfInBounds_toArray, List.set_cons_zero, List.set_cons_succ]
  refine oneH (i := 8) (oi := ⟨some 194, _, _, _, _, _⟩) rfl (by kernel_rfl) (fun K hK => ?_)
  rw [if_pos (by rfl)]
  go_simp
  refine (Size_any (HD.out.carry hS.2)).mono ?_
  rintro e w' ⟨rfl, rfl⟩
  refine hK.out _ _ hS ?_
  clear hK K
  refine takeH (i := 10) 196 (v := .bool false) rfl (by kernel_rfl) (by kernel_rfl) (by kernel_rfl) rfl (fun _ _ _ h => hq _ _ _ _ _ h) (.inl ⟨by rfl, fun _ _ => by go_simp⟩) hS ?_
  simp only [Act.put, List.setIfInBounds_toArray, List.set_cons_zero, List.set_cons_succ]
  refine takeH (i := 11) 197 (v := .bool false) rfl (by kernel_rfl) (by kernel_rfl) (by kernel_rfl) rfl (fun _ _ _ h => hq _ _ _ _ _ h) (.inl ⟨by rfl, fun _ _ => by go_simp⟩) hS ?_
  simp only [Act.put, List.setIfInBounds_toArray, List.set_cons_zero, List.set_cons_succ]
  refine wpAnyH_done (by kernel_rfl) ?_ _
  have HB := Lib.hid hS.2
  clear hS
  exact HQ.out _ HB.out
def InRel (N : Nat) (w2 : World) (D b7 n : Nat) (d : Dk) (i : Value) (wr : World) : Prop := ∃ j : Nat, j ≤ n + 2 ∧ i = .int .i64 ((j : Int) - 1) ∧ PlAt (fun _ => False) N w2 D b7 n d d.firm d.soft wr
set_option maxRecDepth 100000 in
set_option maxHeartbeats 8000000 in
theorem plays_tail {Q : Exit → Act → World → Prop} {N D b7 n : Nat} {d : Dk} {dn : Bool} {w2 w : World} {q1 q2 q3 q4 q6 q9 q10 q11 q12 q13 q14 q15 q16 q17 q18 q19 q20 q21 q22 q23 q24 q25 q26 q27 q28 q29 q30 q31 q32 q33 q34 q35 q36 q37 q38 q39 q40 q41 q42 q43 q44 q45 q46 q47 q48 q49 q50 q51 q52 q53 q54 q55 q56 q57 q58 q59 q60 q61 q62 q63 q64 q65 q66 q67 q68 q69 q70 q71 q72 q73 q74 q75 q76 q77 q78 q79 q80 q81 q82 q83 q84 q85 q86 q87 q88 q89 q90 q91 q92 q93 q94 q95 q96 q97 q98 q99 q100 q101 q102 q103 q104 q105 q106 q107 q108 q109 q110 q111 q112 q113 q114 q115 q116 q117 q118 q119 q120 q121 q122 q123 q124 q125 q126 q127 q128 q129 q130 q131 q132 q133 q134 q135 q136 q137 q138 q139 q140 q141 q142 q143 q144 q145 q146 q147 q148 q149 q150 q151 q152 q153 q154 q155 q156 q157 q158 q159 q160 q161 q162 q163 q164 q165 q166 q167 q168 q169 q170 q171 q172 q173 q174 q175 q176 q177 q178 q179 q180 q181 q182 q183 q184 q185 q186 q187 q188 q189 q190 q191 q192 q193 q194 q195 q196 q197 q198 q199 q200 q201 q202 q203 q204 q205 q206 q207 q208 q209 q210 q211 q212 q213 q214 q215 q216 q217 q218 q219 q220 q221 q222 q223 q224 q225 q226 q227 q228 q229 q230 q231 q232 q233 q234 q235 : Value} (HP : Hid (PlAt (fun _ => False) N w2 D b7 n d d.firm d.soft w)) (HSY : Hid d.Sync) (hs : d.soft.length ≤ 1000000) (hn : n ≤ 1000) (HNN : Hid (N = w2.heap.size)) (HG : Hid (Laid w2)) (HDN : Hid (dn = d.down))
    (hq : ∀ x (a : Act) w t v, Q (.panic x) (a.put (some t) v) w → Q (.panic x) a w) (HQ : Hid (∀ {r4 r13 r14 r15 r16 r143 r144 r145 r146 r147 r148 r149 r150 r151 r152 r153 r154 r155 r156 r157 r158 r159 r160 r161 r162 r163 r164 r165 r166 r167 r168 r169 r170 r171 r172 r173 r174 r175 r176 r177 r178 r179 r180 r181 r182 r183 r184 r185 r186 r187 r188 r189 r190 r191 r192 r193 r194 r195 r196 r197 : Value} (w' : World), PlAt (fun _ => False) N w2 D b7 n d d.firm d.soft w' → Q .normal ⟨#[.int .i64 (n : Int), q1, q2, q3, r4, .pointer (some ⟨D, 0, none⟩), q6, .pointer (some ⟨b7, 0, none⟩), .bool dn, q9, q10, q11, q12, r13, r14, r15, r16, q17, q18, q19, q20, q21, q22, q23, q24, q25, q26, q27, q28, q29, q30, q31, q32, q33, q34, q35, q36, q37, q38, q39, q40, q41, q42, q43, q44, q45, q46, q47, q48, q49, q50, q51, q52, q53, q54, q55, q56, q57, q58, q59, q60, q61, q62, q63, q64, q65, q66, q67, q68, q69, q70, q71, q72, q73, q74, q75, q76, q77, q78, q79, q80, q81, q82, q83, q84, q85, q86, q87, q88, q89, q90, q91, q92, q93, q94, q95, q96, q97, q98, q99, q100, q101, q102, q103, q104, q105, q106, q107, q108, q109, q110, q111, q112, q113, q114, q115, q116, q117, q118, q119, q120, q121, q122, q123, q124, q125, q126, q127, q128, q129, q130, q131, q132, q133, q134, q135, q136, q137, q138, q139, q140, q141, q142, r143, r144, r145, r146, r147, r148, r149, r150, r151, r152, r153, r154, r155, r156, r157, r158, r159, r160, r161, r162, r163, r164, r165, r166, r167, r168, r169, r170, r171, r172, r173, r174, r175, r176, r177, r178, r179, r180, r181, r182, r183, r184, r185, r186, r187, r188, r189, r190, r191, r192, r193, r194, r195, r196, r197, q198, q199, q200, q201, q202, q203, q204, q205, q206, q207, q208, q209, q210, q211, q212, q213, q214, q215, q216, q217, q218, q219, q220, q221, q222, q223, q224, q225, q226, q227, q228, q229, q230, q231, q232, q233, q234, q235], []⟩ w')) :
    Code.wp Tryd.prog tailCode Q ⟨#[.int .i64 (n : Int), q1, q2, q3, q4, .pointer (some ⟨D, 0, none⟩), q6, .pointer (some ⟨b7, 0, none⟩), .bool dn, q9, q10, q11, q12, q13, q14, q15, q16, q17, q18, q19, q20, q21, q22, q23, q24, q25, q26, q27, q28, q29, q30, q31, q32, q33, q34, q35, q36, q37, q38, q39, q40, q41, q42, q43, q44, q45, q46, q47, q48, q49, q50, q51, q52, q53, q54, q55, q56, q57, q58, q59, q60, q61, q62, q63, q64, q65, q66, q67, q68, q69, q70, q71, q72, q73, q74, q75, q76, q77, q78, q79, q80, q81, q82, q83, q84, q85, q86, q87, q88, q89, q90, q91, q92, q93, q94, q95, q96, q97, q98, q99, q100, q101, q102, q103, q104, q105, q106, q107, q108, q109, q110, q111, q112, q113, q114, q115, q116, q117, q118, q119, q120, q121, q122, q123, q124, q125, q126, q127, q128, q129, q130, q131, q132, q133, q134, q135, q136, q137, q138, q139, q140, q141, q142, q143, q144, q145, q146, q147, q148, q149, q150, q151, q152, q153, q154, q155, q156, q157, q158, q159, q160, q161, q162, q163, q164, q165, q166, q167, q168, q169, q170, q171, q172, q173, q174, q175, q176, q177, q178, q179, q180, q181, q182, q183, q184, q185, q186, q187, q188, q189, q190, q191, q192, q193, q194, q195, q196, q197, q198, q199, q200, q201, q202, q203, q204, q205, q206, q207, q208, q209, q210, q211, q212, q213, q214, q215, q216, q217, q218, q219, q220, q221, q222, q223, q224, q225, q226, q227, q228, q229, q230, q231, q232, q233, q234, q235], []⟩ w := by
  have hz := Tryd.zeroPage
  conv => arg 2; whnf
  go_wp2_with fail
  go_loopw [13] (fun i wr => InRel N w2 D b7 n d i wr) (fun i _ => ((n : Int) + 1 - intOf i).toNat)
  case atStart => exact ⟨0, by omega, rfl, HP.out⟩
  case round =>
    obtain ⟨j, hj, rfl, hp⟩ := hrel
    have HPk := Lib.hid hp
    clear hp HP
    obtain ⟨k, HK⟩ : ∃ k : Int, Hid (k = (j : Int) - 1) := ⟨_, Lib.hid rfl⟩
    rw [← HK.out]
    have hk0 : -1 ≤ k := by rw [HK.out]; omega
    obtain ⟨K, F, cF, va, vw, hst⟩ := HPk.out
    have HS := Lib.hid hst
    clear hst HPk
    by_cases hle : k ≤ (n : Int)
    · have laid : ∀ {wr : World}, Kept (· < N) w2 wr → Laid wr := fun hk => HG.out.carry (hk.below fun k hk' => by rw [HNN.out]; exact hk')
      have hjl : j < n + 2 := by have := HK.out; omega
      have hkw : IntKind.i64.wrap (k + 1) = k + 1 := by rw [IntKind.wrap_i64]; omega
      cases dn with
      | true =>
        have hcd : codeZ d.down n k = 7 := by rw [← HDN.out]; rfl
        have HCD := Lib.hid hcd
        clear hcd
        go_wp2_with fail
        refine (Read_any HS.out.disk k).mono ?_
        rw [HCD.out, if_neg (by decide)]
        rintro e w3 ⟨v, rfl, he, hb⟩
        have HS3 := Lib.hid (HS.out.below hb (X' := fun _ => False) (fun _ h => h.elim))
        have HE3 := Lib.hid he
        clear he hb
        go_wp2_with (with_reducible refine stop_at (o := ⟨none, _, _, _, _, _⟩) ?_)
        refine wpList_store_last rfl _ _ _ rfl (pgArr zeroPg) (pgArr zeroPg) _ rfl rfl rfl (by rw [pgArr_size, zeroPg_length]; exact Tryd.pageSize) (rfl) (pgArr_all _) ?_
        obtain ⟨w4, HW4⟩ : ∃ w4, Hid (w4 = w3.alloc (.cells (pgArr zeroPg) 36)) := ⟨_, Lib.hid rfl⟩
        obtain ⟨b, HBB⟩ : ∃ b, Hid (b = w3.heap.size) := ⟨_, Lib.hid rfl⟩
        rw [← HW4.out, ← HBB.out]
        have hb4 : Below w3.heap.size w3 w4 := by rw [HW4.out]; exact (Below.refl _ _).alloc (Nat.le_refl _) _
        have HR4 : Hid (w4.rangeAt b 0 (pgCells zeroPg)) := Lib.hid (by rw [HW4.out, HBB.out]; exact range_new _ _ _)
        have HS4 := Lib.hid (HS3.out.below hb4 (X' := fun _ => False) (fun _ h => h.elim))
        have HE4 := Lib.hid (HE3.out.below hb4)
        clear hb4 HW4 HBB
        go_upto_region 47 with (fail)
        refine cmp_no (c := 7) (by decide) (by decide) (Lib.hid HE4.out.is) (Lib.hid (laid HS4.out.kept)) HR4 (fun _ _ _ _ _ h => hq _ _ _ _ _ h) (Lib.hid ?_)
        intros
        rename_i w5 hb5
        have HP5 : Hid (PlAt (fun _ => False) N w2 D b7 n d d.firm d.soft w5) := Lib.hid ⟨_, F, cF, va, vw, HS4.out.below hb5 (X' := fun _ => False) (fun _ h => h.elim)⟩
        clear hb5 laid
        go_wp2_with fail
        go_roundw
        case rel => exact ⟨j + 1, by omega, by rw [HK.out]; go_num, HP5.out⟩
        case measure => simp [intOf]; omega
      | false =>
        by_cases hlo : k < 0
        · have hcb : ¬ (0 ≤ k ∧ k < (n : Int)) := by omega
          have hcd : codeZ d.down n k = 1 := by rw [← HDN.out]; unfold codeZ; rw [if_neg (by decide), if_neg hcb]
          have HCD := Lib.hid hcd
          clear hcd
          go_wp2_with fail
          refine (Read_any HS.out.disk k).mono ?_
          rw [HCD.out, if_neg (by decide)]
          rintro e w3 ⟨v, rfl, he, hb⟩
          have HS3 := Lib.hid (HS.out.below hb (X' := fun _ => False) (fun _ h => h.elim))
          have HE3 := Lib.hid he
          clear he hb
          go_wp2_with (with_reducible refine stop_at (o := ⟨none, _, _, _, _, _⟩) ?_)
          refine wpList_store_last rfl _ _ _ rfl (pgArr zeroPg) (pgArr zeroPg) _ rfl rfl rfl (by rw [pgArr_size, zeroPg_length]; exact Tryd.pageSize) (rfl) (pgArr_all _) ?_
          obtain ⟨w4, HW4⟩ : ∃ w4, Hid (w4 = w3.alloc (.cells (pgArr zeroPg) 36)) := ⟨_, Lib.hid rfl⟩
          obtain ⟨b, HBB⟩ : ∃ b, Hid (b = w3.heap.size) := ⟨_, Lib.hid rfl⟩
          rw [← HW4.out, ← HBB.out]
          have hb4 : Below w3.heap.size w3 w4 := by rw [HW4.out]; exact (Below.refl _ _).alloc (Nat.le_refl _) _
          have HR4 : Hid (w4.rangeAt b 0 (pgCells zeroPg)) := Lib.hid (by rw [HW4.out, HBB.out]; exact range_new _ _ _)
          have HS4 := Lib.hid (HS3.out.below hb4 (X' := fun _ => False) (fun _ h => h.elim))
          have HE4 := Lib.hid (HE3.out.below hb4)
          clear hb4 HW4 HBB
          go_upto_region 47 with (fail)
          refine cmp_no (c := 1) (by decide) (by decide) (Lib.hid HE4.out.is) (Lib.hid (laid HS4.out.kept)) HR4 (fun _ _ _ _ _ h => hq _ _ _ _ _ h) (Lib.hid ?_)
          intros
          rename_i w5 hb5
          have HP5 : Hid (PlAt (fun _ => False) N w2 D b7 n d d.firm d.soft w5) := Lib.hid ⟨_, F, cF, va, vw, HS4.out.below hb5 (X' := fun _ => False) (fun _ h => h.elim)⟩
          clear hb5 laid
          go_wp2_with fail
          go_roundw
          case rel => exact ⟨j + 1, by omega, by rw [HK.out]; go_num, HP5.out⟩
          case measure => simp [intOf]; omega
        · by_cases hhi : k < (n : Int)
          · obtain ⟨k, rfl⟩ : ∃ m : Nat, k = m := ⟨k.toNat, by omega⟩
            have hkn : k < n := by omega
            have hcd : codeZ d.down n (k : Int) = 0 := by rw [← HDN.out]; exact codeZ_in hkn
            have HCD := Lib.hid hcd
            clear hcd
            have hkn' : (k : Int) < (n : Int) := by omega
            have hk0' : (0 : Int) ≤ (k : Int) := by omega
            go_wp2_with fail
            refine (Read_any HS.out.disk (k : Int)).mono ?_
            rw [HCD.out, if_pos rfl, show ((k : Int)).toNat = k from by omega]
            obtain ⟨p, HPP⟩ : ∃ p, Hid (p = pgAt d.seen k) := ⟨_, Lib.hid rfl⟩
            have HPL : Hid (p.length = 128) := Lib.hid (by rw [HPP.out]; exact pgAt_length HS.out.disk.ok.ws (by rw [HS.out.disk.ok.seen]; exact hkn))
            rw [← HPP.out]
            rintro e w3 ⟨v, rfl, he, hb⟩
            obtain rfl := he.zero
            have HS3 := Lib.hid (HS.out.below hb (X' := fun _ => False) (fun _ h => h.elim))
            have HE3 := Lib.hid he
            clear he hb
            go_wp2_with (with_reducible refine stop_at (o := ⟨none, _, _, _, _, _⟩) ?_)
            refine wpList_store_last rfl _ _ _ rfl (pgArr zeroPg) (pgArr p) _ rfl rfl rfl (by rw [pgArr_size, HPL.out]; exact Tryd.pageSize) (by rw [pgArr_size, pgArr_size, HPL.out]; rfl) (pgArr_all _) ?_
            obtain ⟨w4, HW4⟩ : ∃ w4, Hid (w4 = w3.alloc (.cells (pgArr p) 36)) := ⟨_, Lib.hid rfl⟩
            obtain ⟨b, HBB⟩ : ∃ b, Hid (b = w3.heap.size) := ⟨_, Lib.hid rfl⟩
            rw [← HW4.out, ← HBB.out]
            have hb4 : Below w3.heap.size w3 w4 := by rw [HW4.out]; exact (Below.refl _ _).alloc (Nat.le_refl _) _
            have HR4 : Hid (w4.rangeAt b 0 (pgCells p)) := Lib.hid (by rw [HW4.out, HBB.out]; exact range_new _ _ _)
            have HS4 := Lib.hid (HS3.out.below hb4 (X' := fun _ => False) (fun _ h => h.elim))
            have HE4 := Lib.hid (HE3.out.below hb4)
            clear hb4 HW4 HBB
            have HPR : Hid (p = readZ d.firm d.soft k) := Lib.hid (by rw [HPP.out]; exact HSY.out k (by rw [HS.out.disk.ok.firm]; exact hkn))
            obtain ⟨A, cA, W, cW, rfl, rfl, hrd⟩ := HS4.out.ref.rd HS.out.disk.ok.firm HS.out.disk.ok.wf HS.out.disk.ok.fits
            have hal : (atCells d.soft).length = d.soft.length := by simp [atCells]
            go_upto_region 47 with (fail)
            refine cmp_yes hkn hs (Lib.hid hrd) HPR HPL HR4 (Lib.hid ⟨HS4.out.ref.c0, HS4.out.ref.c1, HS4.out.ref.c2⟩) (fun _ _ _ _ _ h => hq _ _ _ _ _ h) (Lib.hid ?_)
            intros
            rename_i w5 hb5
            have HP5 : Hid (PlAt (fun _ => False) N w2 D b7 n d d.firm d.soft w5) := Lib.hid ⟨_, F, cF, _, _, HS4.out.below hb5 (X' := fun _ => False) (fun _ h => h.elim)⟩
            clear hb5 laid hrd hal
            go_wp2_with fail
            go_roundw
            case rel => exact ⟨j + 1, by omega, by rw [HK.out]; go_num, HP5.out⟩
            case measure => simp [intOf]; omega
          · have hcb : ¬ (0 ≤ k ∧ k < (n : Int)) := by omega
            have hhi' : (n : Int) ≤ k := by omega
            have hcd : codeZ d.down n k = 1 := by rw [← HDN.out]; unfold codeZ; rw [if_neg (by decide), if_neg hcb]
            have HCD := Lib.hid hcd
            clear hcd
            go_wp2_with fail
            refine (Read_any HS.out.disk k).mono ?_
            rw [HCD.out, if_neg (by decide)]
            rintro e w3 ⟨v, rfl, he, hb⟩
            have HS3 := Lib.hid (HS.out.below hb (X' := fun _ => False) (fun _ h => h.elim))
            have HE3 := Lib.hid he
            clear he hb
            go_wp2_with (with_reducible refine stop_at (o := ⟨none, _, _, _, _, _⟩) ?_)
            refine wpList_store_last rfl _ _ _ rfl (pgArr zeroPg) (pgArr zeroPg) _ rfl rfl rfl (by rw [pgArr_size, zeroPg_length]; exact Tryd.pageSize) (rfl) (pgArr_all _) ?_
            obtain ⟨w4, HW4⟩ : ∃ w4, Hid (w4 = w3.alloc (.cells (pgArr zeroPg) 36)) := ⟨_, Lib.hid rfl⟩
            obtain ⟨b, HBB⟩ : ∃ b, Hid (b = w3.heap.size) := ⟨_, Lib.hid rfl⟩
            rw [← HW4.out, ← HBB.out]
            have hb4 : Below w3.heap.size w3 w4 := by rw [HW4.out]; exact (Below.refl _ _).alloc (Nat.le_refl _) _
            have HR4 : Hid (w4.rangeAt b 0 (pgCells zeroPg)) := Lib.hid (by rw [HW4.out, HBB.out]; exact range_new _ _ _)
            have HS4 := Lib.hid (HS3.out.below hb4 (X' := fun _ => False) (fun _ h => h.elim))
            have HE4 := Lib.hid (HE3.out.below hb4)
            clear hb4 HW4 HBB
            go_upto_region 47 with (fail)
            refine cmp_no (c := 1) (by decide) (by decide) (Lib.hid HE4.out.is) (Lib.hid (laid HS4.out.kept)) HR4 (fun _ _ _ _ _ h => hq _ _ _ _ _ h) (Lib.hid ?_)
            intros
            rename_i w5 hb5
            have HP5 : Hid (PlAt (fun _ => False) N w2 D b7 n d d.firm d.soft w5) := Lib.hid ⟨_, F, cF, va, vw, HS4.out.below hb5 (X' := fun _ => False) (fun _ h => h.elim)⟩
            clear hb5 laid
            go_wp2_with fail
            go_roundw
            case rel => exact ⟨j + 1, by omega, by rw [HK.out]; go_num, HP5.out⟩
            case measure => simp [intOf]; omega
    · obtain ⟨A, cA, W, cW, rfl, rfl, hrd⟩ := HS.out.ref.rd HS.out.disk.ok.firm HS.out.disk.ok.wf HS.out.disk.ok.fits
      clear hrd
      go_upto_region 49 with (fail)
      refine size_cmp (Lib.hid HS.out.disk) (Lib.hid HS.out.ref.c1) (fun _ _ _ _ _ h => hq _ _ _ _ _ h) (Lib.hid ?_)
      intros
      rename_i w5 hb5
      have HP5 : Hid (PlAt (fun _ => False) N w2 D b7 n d d.firm d.soft w5) := Lib.hid ⟨_, F, cF, _, _, HS.out.below hb5 (X' := fun _ => False) (fun _ h => h.elim)⟩
      go_wp2_with fail
      exact HQ.out _ HP5.out
end Go.Proofs.YtflkhbdipmjmeaaDoor
