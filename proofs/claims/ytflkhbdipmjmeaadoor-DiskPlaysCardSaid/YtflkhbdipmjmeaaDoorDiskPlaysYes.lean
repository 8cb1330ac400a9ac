/-
  A round of DiskPlays: a write that is taken. Conditions: errors.errorType is laid.
-/
import Derived.Test.YtflkhbdipmjmeaaDoorDiskPlaysCmp
namespace Go.Proofs.YtflkhbdipmjmeaaDoor
open Go.RowKit

set_option maxRecDepth 100000 in
set_option maxHeartbeats 8000000 in
/-- a write -/
theorem sw_yes {Q : Exit → Act → World → Prop} {N D b7 b10 n : Nat} {u : Nat} {d : Dk} {x : ActD} {w2 w : World} {q1 q2 q3 q4 q6 q9 q12 q13 q14 q15 q16 q17 q18 q19 q20 q21 q22 q23 q24 q25 q26 q27 q28 q29 q30 q31 q32 q33 q34 q35 q36 q37 q38 q39 q40 q41 q42 q43 q44 q45 q46 q47 q48 q49 q50 q51 q52 q53 q54 q55 q56 q57 q58 q59 q60 q61 q62 q63 q64 q65 q66 q67 q68 q69 q70 q71 q72 q74 q75 q76 q77 q78 q79 q80 q81 q82 q83 q84 q85 q86 q87 q88 q89 q90 q91 q92 q93 q94 q95 q96 q97 q98 q99 q100 q101 q102 q103 q104 q105 q106 q107 q108 q109 q110 q111 q112 q113 q114 q115 q116 q117 q118 q119 q120 q121 q122 q123 q124 q125 q126 q127 q128 q129 q130 q131 q132 q133 q134 q135 q136 q137 q138 q139 q140 q141 q142 q143 q144 q145 q146 q147 q148 q149 q150 q151 q152 q153 q154 q155 q156 q157 q158 q159 q160 q161 q162 q163 q164 q165 q166 q167 q168 q169 q170 q171 q172 q173 q174 q175 q176 q177 q178 q179 q180 q181 q182 q183 q184 q185 q186 q187 q188 q189 q190 q191 q192 q193 q194 q195 q196 q197 q198 q199 q200 q201 q202 q203 q204 q205 q206 q207 q208 q209 q210 q211 q212 q213 q214 q215 q216 q217 q218 q219 q220 q221 q222 q223 q224 q225 q226 q227 q228 q229 q230 q231 q232 q233 q234 q235 : Value} {i : Nat} (h5 : ((u : Int) % 8 == 5) = false) (h6 : ((u : Int) % 8 == 6) = false) (h7 : ((u : Int) % 8 == 7) = false) (hd : d.down = false) (HI : Hid (x.at_ = (i : Int))) (hi : i < n)
    (HP : Hid (PlAt (fun j => j = b10) N w2 D b7 n d d.firm d.soft w)) (HX : Hid (ActAt w b10 0 x)) (HSY : Hid d.Sync) (hs : d.soft.length ≤ 1000000) (HNN : Hid (N = w2.heap.size)) 
    (HQ : Hid (∀ {r71 r72 r73 r74 r75 r76 r77 r78 r79 r80 r81 r82 r83 r84 r85 r86 r87 r88 r89 r90 r91 r92 r93 r94 r95 r96 r97 r98 r99 r100 r101 r102 r103 r104 r105 r106 r107 r108 r109 r110 r111 r112 r113 r114 r115 r116 r117 r118 r119 r120 r121 r122 r123 r124 r125 r126 r127 r128 r129 r130 r131 r132 r133 r134 r135 r136 r137 r138 r139 r140 r141 r142 r11 r12 : Value} {dn : Bool} (d' : Dk) (w' : World), dn = d'.down → d'.Sync → d'.soft.length ≤ d.soft.length + 1 → PlAt (fun _ => False) N w2 D b7 n d' d'.firm d'.soft w' → Q .normal ⟨#[.int .i64 (n : Int), q1, q2, q3, q4, .pointer (some ⟨D, 0, none⟩), q6, .pointer (some ⟨b7, 0, none⟩), .bool dn, q9, .pointer (some ⟨b10, 0, none⟩), r11, r12, q13, q14, q15, q16, q17, q18, q19, q20, q21, q22, q23, q24, q25, q26, q27, q28, q29, q30, q31, q32, q33, q34, q35, q36, q37, q38, q39, q40, q41, q42, q43, q44, q45, q46, q47, q48, q49, q50, q51, q52, q53, q54, q55, q56, q57, q58, q59, q60, q61, q62, q63, q64, q65, q66, q67, q68, q69, q70, r71, r72, r73, r74, r75, r76, r77, r78, r79, r80, r81, r82, r83, r84, r85, r86, r87, r88, r89, r90, r91, r92, r93, r94, r95, r96, r97, r98, r99, r100, r101, r102, r103, r104, r105, r106, r107, r108, r109, r110, r111, r112, r113, r114, r115, r116, r117, r118, r119, r120, r121, r122, r123, r124, r125, r126, r127, r128, r129, r130, r131, r132, r133, r134, r135, r136, r137, r138, r139, r140, r141, r142, q143, q144, q145, q146, q147, q148, q149, q150, q151, q152, q153, q154, q155, q156, q157, q158, q159, q160, q161, q162, q163, q164, q165, q166, q167, q168, q169, q170, q171, q172, q173, q174, q175, q176, q177, q178, q179, q180, q181, q182, q183, q184, q185, q186, q187, q188, q189, q190, q191, q192, q193, q194, q195, q196, q197, q198, q199, q200, q201, q202, q203, q204, q205, q206, q207, q208, q209, q210, q211, q212, q213, q214, q215, q216, q217, q218, q219, q220, q221, q222, q223, q224, q225, q226, q227, q228, q229, q230, q231, q232, q233, q234, q235], []⟩ w')) :
    Code.wp Tryd.prog swCode Q ⟨#[.int .i64 (n : Int), q1, q2, q3, q4, .pointer (some ⟨D, 0, none⟩), q6, .pointer (some ⟨b7, 0, none⟩), .bool false, q9, .pointer (some ⟨b10, 0, none⟩), .int .i64 0, q12, q13, q14, q15, q16, q17, q18, q19, q20, q21, q22, q23, q24, q25, q26, q27, q28, q29, q30, q31, q32, q33, q34, q35, q36, q37, q38, q39, q40, q41, q42, q43, q44, q45, q46, q47, q48, q49, q50, q51, q52, q53, q54, q55, q56, q57, q58, q59, q60, q61, q62, q63, q64, q65, q66, q67, q68, q69, q70, q71, q72, .int .u8 ((u : Int) % 8), q74, q75, q76, q77, q78, q79, q80, q81, q82, q83, q84, q85, q86, q87, q88, q89, q90, q91, q92, q93, q94, q95, q96, q97, q98, q99, q100, q101, q102, q103, q104, q105, q106, q107, q108, q109, q110, q111, q112, q113, q114, q115, q116, q117, q118, q119, q120, q121, q122, q123, q124, q125, q126, q127, q128, q129, q130, q131, q132, q133, q134, q135, q136, q137, q138, q139, q140, q141, q142, q143, q144, q145, q146, q147, q148, q149, q150, q151, q152, q153, q154, q155, q156, q157, q158, q159, q160, q161, q162, q163, q164, q165, q166, q167, q168, q169, q170, q171, q172, q173, q174, q175, q176, q177, q178, q179, q180, q181, q182, q183, q184, q185, q186, q187, q188, q189, q190, q191, q192, q193, q194, q195, q196, q197, q198, q199, q200, q201, q202, q203, q204, q205, q206, q207, q208, q209, q210, q211, q212, q213, q214, q215, q216, q217, q218, q219, q220, q221, q222, q223, q224, q225, q226, q227, q228, q229, q230, q231, q232, q233, q234, q235], []⟩ w := by
  obtain ⟨K, F, cF, va, vw, hst⟩ := HP.out
  have HS := Lib.hid hst
  clear hst
  have hlt' : (i : Int) < (n : Int) := by omega
  have hge' : (0 : Int) ≤ (i : Int) := by omega
  have c1 : w.cell? ⟨b10, 1, none⟩ = some (.int .i64 (i : Int)) := by have := HX.out.c1; rw [HI.out] at this; exact this
  conv => arg 2; whnf
  go_wp2_with (with_reducible refine stop_at (o := ⟨some 93, _, _, _, _, _⟩) ?_)
  refine wpList_load_page rfl _ _ rfl b10 2 rfl x.page HX.out.len HX.out.c2 _ Tryd.underlying36 rfl Tryd.pageSize ?_
  go_wp2_with fail
  refine (Write_yes HS.out.disk HS.out.there hd hi HX.out.len hs).mono ?_
  rintro e w3 ⟨rfl, hdk, hkp⟩
  have HX3 : Hid (ActAt w3 b10 0 x) := Lib.hid (HX.out.carry (hkp.block b10 (HS.out.sub b10 rfl).1))
  have HS3 := Lib.hid (HS.out.call hdk hkp)
  clear hdk hkp c1
  go_wp2_with fail
  refine (Num_nil _).mono ?_
  rintro e w' ⟨rfl, rfl⟩
  have c1 : w3.cell? ⟨b10, 1, none⟩ = some (.int .i64 (i : Int)) := by have := HX3.out.c1; rw [HI.out] at this; exact this
  have e1 := HS3.out.ref.c1
  have hal : (atCells d.soft).length = d.soft.length := by simp [atCells]
  have HAL := Lib.hid hal
  clear hal
  obtain ⟨i0, hi0, hz0, hz1, hz2⟩ := info_parts Tryd.infoInt
  have HI0 := Lib.hid hi0
  have HZ0 := Lib.hid hz0
  have HZ1 := Lib.hid hz1
  have HZ2 := Lib.hid hz2
  clear hi0 hz0 hz1 hz2
  go_wp2_with (with_reducible refine stop_at (o := ⟨some 105, _, _, _, _, _⟩) ?_)
  refine wpList_append_lies _ rfl _ _ 32 rfl N 3 i0 (.int .i64 0) 1 8 Tryd.underlying32 HI0.out HZ0.out HZ1.out HZ2.out rfl (by decide) va (atCells d.soft).length (atCells d.soft) rfl (HS3.out.ref.at_.alloc _) ⟨w3.heap.size, 0, none⟩ 1 1 [.int .i64 (i : Int)] rfl rfl (World.news_of_block (cs := #[.int .i64 (i : Int)]) (heap_alloc_new w3 _)) (by simp [Value.oneCell']) (by decide) (by have := HAL.out; unfold maxLen; omega) (by have := HAL.out; omega) (by have h8 := HS3.out.kept.size; have h9 := HNN.out; simp; omega) (w3.heap.size + 1) (by simp) ?_
  intro g cap w4 hown hgrow hat hlt
  simp only [Act.put, List.setIfInBounds_toArray, List.set_cons_zero, List.set_cons_succ]
  have hbA : Below w3.heap.size w3 (w3.alloc (.cells #[.int .i64 (i : Int)] 3)) := (Below.refl _ _).alloc (Nat.le_refl _) _
  have HSA := Lib.hid (HS3.out.below hbA (X' := fun j => j = b10) (fun j hj => .inl hj))
  have HS4 := Lib.hid (HSA.out.pushAt hgrow hown (by simpa using hat) hlt)
  have hb10 := HS3.out.there b10 (HS3.out.sub b10 rfl).1
  have hb7 := HS3.out.there b7 HS3.out.ref.k7
  have n7 : va.ownBlock ≠ some b7 := fun e => (HS3.out.ref.ka _ e).2.1 rfl
  have hX4 : ActAt (w4.setCell ⟨b7, 1, none⟩ (.slice (some ⟨g, 0, none⟩) ((atCells d.soft).length + 1) cap)) b10 0 x := HX3.out.carry ((setCell_heap_other w4 b7 1 _ b10 (HS3.out.sub b10 rfl).2.1).trans ((hgrow.block b10 (by simp; omega) (Ne.symm (HS3.out.sub b10 rfl).2.2.1)).trans (hbA.block b10 hb10)))
  have cz : w4.cell? ⟨b7, 1, none⟩ = some va := (hgrow.cell_far ⟨b7, 1, none⟩ (by simp; omega) (Ne.symm n7)).trans ((hbA.cell (p := ⟨b7, 1, none⟩) hb7).trans HS3.out.ref.c1)
  have fz : w4.frozen? ⟨b7, 1, none⟩ = false := (hgrow.frozen_far ⟨b7, 1, none⟩ (by simp; omega) (Ne.symm n7)).trans ((hbA.frozen (p := ⟨b7, 1, none⟩) hb7).trans (HS3.out.ref.fz 1))
  have HX4 := Lib.hid hX4
  clear hown hgrow hat hlt hbA hb10 hb7 n7 hX4 HSA e1 c1
  go_wp2_with (with_reducible refine stop_at (o := ⟨some 107, _, _, _, _, _⟩) ?_)
  obtain ⟨w5, HW5⟩ : ∃ w5, Hid (w5 = w4.setCell ⟨b7, 1, none⟩ (.slice (some ⟨g, 0, none⟩) ((atCells d.soft).length + 1) cap)) := ⟨_, Lib.hid rfl⟩
  rw [← HW5.out] at HS4 HX4 ⊢
  unfold Stopped
  clear HW5 cz fz
  have e2 := HS4.out.ref.c2
  go_wp2_with (with_reducible refine stop_at (o := ⟨some 110, _, _, _, _, _⟩) ?_)
  refine wpList_load_page rfl _ _ rfl b10 2 rfl x.page HX4.out.len HX4.out.c2 _ Tryd.underlying36 rfl Tryd.pageSize ?_
  simp only [Act.put, List.setIfInBounds_toArray, List.set_cons_zero, List.set_cons_succ]
  refine wpList_buildSlice_one rfl _ 35 _ rfl (pgArr x.page) rfl Tryd.underlying31 Tryd.arrZero (by rw [pgArr_size, HX4.out.len]; exact Tryd.arrSize) (by rw [pgArr_size, HX4.out.len]; decide) (by rw [pgArr_size, HX4.out.len]; decide) ?_
  simp only [Act.put, List.setIfInBounds_toArray, List.set_cons_zero, List.set_cons_succ]
  obtain ⟨i1, hi1, hy0, hy1, hy2⟩ := info_parts Tryd.infoArr3
  have hpl : (d.soft.map Prod.snd).length = d.soft.length := by simp
  refine wpList_append_lies _ rfl _ _ _ rfl N 35 i1 _ 128 128 Tryd.underlying31 hi1 hy0 hy1 hy2 rfl (by omega) vw (d.soft.map Prod.snd).length (pgsCells (d.soft.map Prod.snd)) rfl (HS4.out.ref.what.alloc _) ⟨w5.heap.size, 0, none⟩ 1 1 (pgCells x.page) rfl (by rw [pgCells_length, HX4.out.len])
    (World.news_of_block (cs := pgArr x.page) (heap_alloc_new w5 _)) (pgCells_one x.page) (by decide) (by unfold maxLen; omega) (by omega) (by have h8 := HS4.out.kept.size; have h9 := HNN.out; simp; omega) (w5.heap.size + 1) (by simp) ?_
  intro g2 cap2 w6 hown hgrow hat hlt
  have hbA : Below w5.heap.size w5 (w5.alloc (.cells (pgArr x.page) 35)) := (Below.refl _ _).alloc (Nat.le_refl _) _
  have HSA := Lib.hid (HS4.out.below hbA (X' := fun _ => False) (fun j hj => hj.elim))
  have hS6 := HSA.out.pushWhat hgrow hown (by simpa using hat) hlt
  rw [hpl] at hS6
  have HS6 := Lib.hid hS6
  clear hS6
  have hb7 := HS4.out.there b7 HS4.out.ref.k7
  have n7 : vw.ownBlock ≠ some b7 := fun e => (HS4.out.ref.kw _ e).2.1 rfl
  have cz : w6.cell? ⟨b7, 2, none⟩ = some vw := (hgrow.cell_far ⟨b7, 2, none⟩ (by simp; omega) (Ne.symm n7)).trans ((hbA.cell (p := ⟨b7, 2, none⟩) hb7).trans HS4.out.ref.c2)
  have fz : w6.frozen? ⟨b7, 2, none⟩ = false := (hgrow.frozen_far ⟨b7, 2, none⟩ (by simp; omega) (Ne.symm n7)).trans ((hbA.frozen (p := ⟨b7, 2, none⟩) hb7).trans (HS4.out.ref.fz 2))
  simp only [Act.put, List.setIfInBounds_toArray, List.set_cons_zero, List.set_cons_succ]
  clear hown hgrow hat hlt hbA hb7 n7 hi1 hy0 hy1 hy2 hpl e2
  go_wp2_with fail
  exact HQ.out (d.write i x.page) _ hd.symm (Dk.Sync.write HS.out.disk.ok HSY.out hi x.page) (by simp [Dk.write]) HS6.out.wrote
end Go.Proofs.YtflkhbdipmjmeaaDoor
