/-
  A round of DiskPlays: Flush, Crash, Up. Conditions: errors.errorType is laid.
-/
import Derived.Test.YtflkhbdipmjmeaaDoorDiskPlaysCmp
namespace Go.Proofs.YtflkhbdipmjmeaaDoor
open Go.RowKit

set_option maxRecDepth 100000 in
set_option maxHeartbeats 8000000 in
/-- a flush -/
theorem sw_flush_up {Q : Exit → Act → World → Prop} {N D b7 b10 n : Nat} {u : Nat} {d : Dk} {w2 w : World} {q1 q2 q3 q4 q6 q9 q12 q13 q14 q15 q16 q17 q18 q19 q20 q21 q22 q23 q24 q25 q26 q27 q28 q29 q30 q31 q32 q33 q34 q35 q36 q37 q38 q39 q40 q41 q42 q43 q44 q45 q46 q47 q48 q49 q50 q51 q52 q53 q54 q55 q56 q57 q58 q59 q60 q61 q62 q63 q64 q65 q66 q67 q68 q69 q70 q71 q72 q74 q75 q76 q77 q78 q79 q80 q81 q82 q83 q84 q85 q86 q87 q88 q89 q90 q91 q92 q93 q94 q95 q96 q97 q98 q99 q100 q101 q102 q103 q104 q105 q106 q107 q108 q109 q110 q111 q112 q113 q114 q115 q116 q117 q118 q119 q120 q121 q122 q123 q124 q125 q126 q127 q128 q129 q130 q131 q132 q133 q134 q135 q136 q137 q138 q139 q140 q141 q142 q143 q144 q145 q146 q147 q148 q149 q150 q151 q152 q153 q154 q155 q156 q157 q158 q159 q160 q161 q162 q163 q164 q165 q166 q167 q168 q169 q170 q171 q172 q173 q174 q175 q176 q177 q178 q179 q180 q181 q182 q183 q184 q185 q186 q187 q188 q189 q190 q191 q192 q193 q194 q195 q196 q197 q198 q199 q200 q201 q202 q203 q204 q205 q206 q207 q208 q209 q210 q211 q212 q213 q214 q215 q216 q217 q218 q219 q220 q221 q222 q223 q224 q225 q226 q227 q228 q229 q230 q231 q232 q233 q234 q235 : Value} (h5 : ((u : Int) % 8 == 5) = true) (hd : d.down = false)
    (HP : Hid (PlAt (fun j => j = b10) N w2 D b7 n d d.firm d.soft w))  (HSY : Hid d.Sync) (hs : d.soft.length ≤ 1000000) (h1 : 1 ≤ n) (hn : n ≤ 1000) (HNN : Hid (N = w2.heap.size)) 
    (HQ : Hid (∀ {r71 r72 r73 r74 r75 r76 r77 r78 r79 r80 r81 r82 r83 r84 r85 r86 r87 r88 r89 r90 r91 r92 r93 r94 r95 r96 r97 r98 r99 r100 r101 r102 r103 r104 r105 r106 r107 r108 r109 r110 r111 r112 r113 r114 r115 r116 r117 r118 r119 r120 r121 r122 r123 r124 r125 r126 r127 r128 r129 r130 r131 r132 r133 r134 r135 r136 r137 r138 r139 r140 r141 r142 r11 r12 : Value} {dn : Bool} (d' : Dk) (w' : World), dn = d'.down → d'.Sync → d'.soft.length ≤ d.soft.length + 1 → PlAt (fun _ => False) N w2 D b7 n d' d'.firm d'.soft w' → Q .normal ⟨#[.int .i64 (n : Int), q1, q2, q3, q4, .pointer (some ⟨D, 0, none⟩), q6, .pointer (some ⟨b7, 0, none⟩), .bool dn, q9, .pointer (some ⟨b10, 0, none⟩), r11, r12, q13, q14, q15, q16, q17, q18, q19, q20, q21, q22, q23, q24, q25, q26, q27, q28, q29, q30, q31, q32, q33, q34, q35, q36, q37, q38, q39, q40, q41, q42, q43, q44, q45, q46, q47, q48, q49, q50, q51, q52, q53, q54, q55, q56, q57, q58, q59, q60, q61, q62, q63, q64, q65, q66, q67, q68, q69, q70, r71, r72, r73, r74, r75, r76, r77, r78, r79, r80, r81, r82, r83, r84, r85, r86, r87, r88, r89, r90, r91, r92, r93, r94, r95, r96, r97, r98, r99, r100, r101, r102, r103, r104, r105, r106, r107, r108, r109, r110, r111, r112, r113, r114, r115, r116, r117, r118, r119, r120, r121, r122, r123, r124, r125, r126, r127, r128, r129, r130, r131, r132, r133, r134, r135, r136, r137, r138, r139, r140, r141, r142, q143, q144, q145, q146, q147, q148, q149, q150, q151, q152, q153, q154, q155, q156, q157, q158, q159, q160, q161, q162, q163, q164, q165, q166, q167, q168, q169, q170, q171, q172, q173, q174, q175, q176, q177, q178, q179, q180, q181, q182, q183, q184, q185, q186, q187, q188, q189, q190, q191, q192, q193, q194, q195, q196, q197, q198, q199, q200, q201, q202, q203, q204, q205, q206, q207, q208, q209, q210, q211, q212, q213, q214, q215, q216, q217, q218, q219, q220, q221, q222, q223, q224, q225, q226, q227, q228, q229, q230, q231, q232, q233, q234, q235], []⟩ w')) :
    Code.wp Tryd.prog swCode Q ⟨#[.int .i64 (n : Int), q1, q2, q3, q4, .pointer (some ⟨D, 0, none⟩), q6, .pointer (some ⟨b7, 0, none⟩), .bool false, q9, .pointer (some ⟨b10, 0, none⟩), .int .i64 0, q12, q13, q14, q15, q16, q17, q18, q19, q20, q21, q22, q23, q24, q25, q26, q27, q28, q29, q30, q31, q32, q33, q34, q35, q36, q37, q38, q39, q40, q41, q42, q43, q44, q45, q46, q47, q48, q49, q50, q51, q52, q53, q54, q55, q56, q57, q58, q59, q60, q61, q62, q63, q64, q65, q66, q67, q68, q69, q70, q71, q72, .int .u8 ((u : Int) % 8), q74, q75, q76, q77, q78, q79, q80, q81, q82, q83, q84, q85, q86, q87, q88, q89, q90, q91, q92, q93, q94, q95, q96, q97, q98, q99, q100, q101, q102, q103, q104, q105, q106, q107, q108, q109, q110, q111, q112, q113, q114, q115, q116, q117, q118, q119, q120, q121, q122, q123, q124, q125, q126, q127, q128, q129, q130, q131, q132, q133, q134, q135, q136, q137, q138, q139, q140, q141, q142, q143, q144, q145, q146, q147, q148, q149, q150, q151, q152, q153, q154, q155, q156, q157, q158, q159, q160, q161, q162, q163, q164, q165, q166, q167, q168, q169, q170, q171, q172, q173, q174, q175, q176, q177, q178, q179, q180, q181, q182, q183, q184, q185, q186, q187, q188, q189, q190, q191, q192, q193, q194, q195, q196, q197, q198, q199, q200, q201, q202, q203, q204, q205, q206, q207, q208, q209, q210, q211, q212, q213, q214, q215, q216, q217, q218, q219, q220, q221, q222, q223, q224, q225, q226, q227, q228, q229, q230, q231, q232, q233, q234, q235], []⟩ w := by
  obtain ⟨K, F, cF, va, vw, hst⟩ := HP.out
  have HS := Lib.hid hst
  clear hst
  conv => arg 2; whnf
  go_wp2_with fail
  refine (Flush_yes HS.out.disk hd).mono ?_
  rintro e w3 ⟨rfl, hdk, hkp⟩
  have HS3 := Lib.hid (HS.out.call hdk hkp)
  clear hdk hkp
  go_wp2_with fail
  refine (Num_nil _).mono ?_
  rintro e w' ⟨rfl, rfl⟩
  obtain ⟨A, cA, W, cW, rfl, rfl, hrd⟩ := HS3.out.ref.rd HS.out.disk.ok.firm HS.out.disk.ok.wf HS.out.disk.ok.fits
  have HRD := Lib.hid hrd
  have e0 := HS3.out.ref.c0
  have e1 := HS3.out.ref.c1
  have e2 := HS3.out.ref.c2
  clear hrd
  go_wp2_with fail
  refine (RefFlush_any HRD.out hs h1 hn).mono ?_
  rintro e w5 ⟨g, cap, rfl, hown, hb⟩
  have hok := HS.out.disk.ok
  rw [HSY.out.flushed hok] at hown
  have hl := World.ownsRow.lt hown g rfl
  have HP5 : Hid (Pages w5 g d.seen) := Lib.hid (hown.pages hok.ws rfl)
  have HL5 : Hid (w3.heap.size ≤ g ∧ g < w5.heap.size) := Lib.hid hl
  have HS5 := Lib.hid (HS3.out.below hb (X' := fun _ => False) (fun _ h => h.elim))
  clear hown hb hok hl e0 e1 e2
  have e0 := HS5.out.ref.c0
  have e1 := HS5.out.ref.c1
  have e2 := HS5.out.ref.c2
  have f0 := HS5.out.ref.fz 0
  have f1 := HS5.out.ref.fz 1
  have f2 := HS5.out.ref.fz 2
  go_wp2_with fail
  exact HQ.out d.flush _ hd.symm (Dk.Sync.flush d) (by simp [Dk.flush]) ⟨_, g, cap, _, _, HS5.out.anew HP5.out (.inr HL5.out) (by have h8 := HS3.out.kept.size; have h9 := HNN.out; have h10 := HL5.out; omega) (by have h8 := HS3.out.there b7 HS3.out.ref.k7; have h10 := HL5.out; omega) rfl⟩
set_option maxRecDepth 100000 in
set_option maxHeartbeats 8000000 in
/-- a flush, the power gone -/
theorem sw_flush_down {Q : Exit → Act → World → Prop} {N D b7 b10 n : Nat} {u : Nat} {d : Dk} {w2 w : World} {q1 q2 q3 q4 q6 q9 q12 q13 q14 q15 q16 q17 q18 q19 q20 q21 q22 q23 q24 q25 q26 q27 q28 q29 q30 q31 q32 q33 q34 q35 q36 q37 q38 q39 q40 q41 q42 q43 q44 q45 q46 q47 q48 q49 q50 q51 q52 q53 q54 q55 q56 q57 q58 q59 q60 q61 q62 q63 q64 q65 q66 q67 q68 q69 q70 q71 q72 q74 q75 q76 q77 q78 q79 q80 q81 q82 q83 q84 q85 q86 q87 q88 q89 q90 q91 q92 q93 q94 q95 q96 q97 q98 q99 q100 q101 q102 q103 q104 q105 q106 q107 q108 q109 q110 q111 q112 q113 q114 q115 q116 q117 q118 q119 q120 q121 q122 q123 q124 q125 q126 q127 q128 q129 q130 q131 q132 q133 q134 q135 q136 q137 q138 q139 q140 q141 q142 q143 q144 q145 q146 q147 q148 q149 q150 q151 q152 q153 q154 q155 q156 q157 q158 q159 q160 q161 q162 q163 q164 q165 q166 q167 q168 q169 q170 q171 q172 q173 q174 q175 q176 q177 q178 q179 q180 q181 q182 q183 q184 q185 q186 q187 q188 q189 q190 q191 q192 q193 q194 q195 q196 q197 q198 q199 q200 q201 q202 q203 q204 q205 q206 q207 q208 q209 q210 q211 q212 q213 q214 q215 q216 q217 q218 q219 q220 q221 q222 q223 q224 q225 q226 q227 q228 q229 q230 q231 q232 q233 q234 q235 : Value} (h5 : ((u : Int) % 8 == 5) = true) (hd : d.down = true)
    (HP : Hid (PlAt (fun j => j = b10) N w2 D b7 n d d.firm d.soft w))  (HSY : Hid d.Sync) (HNN : Hid (N = w2.heap.size)) (HG : Hid (Laid w2)) 
    (HQ : Hid (∀ {r71 r72 r73 r74 r75 r76 r77 r78 r79 r80 r81 r82 r83 r84 r85 r86 r87 r88 r89 r90 r91 r92 r93 r94 r95 r96 r97 r98 r99 r100 r101 r102 r103 r104 r105 r106 r107 r108 r109 r110 r111 r112 r113 r114 r115 r116 r117 r118 r119 r120 r121 r122 r123 r124 r125 r126 r127 r128 r129 r130 r131 r132 r133 r134 r135 r136 r137 r138 r139 r140 r141 r142 r11 r12 : Value} {dn : Bool} (d' : Dk) (w' : World), dn = d'.down → d'.Sync → d'.soft.length ≤ d.soft.length + 1 → PlAt (fun _ => False) N w2 D b7 n d' d'.firm d'.soft w' → Q .normal ⟨#[.int .i64 (n : Int), q1, q2, q3, q4, .pointer (some ⟨D, 0, none⟩), q6, .pointer (some ⟨b7, 0, none⟩), .bool dn, q9, .pointer (some ⟨b10, 0, none⟩), r11, r12, q13, q14, q15, q16, q17, q18, q19, q20, q21, q22, q23, q24, q25, q26, q27, q28, q29, q30, q31, q32, q33, q34, q35, q36, q37, q38, q39, q40, q41, q42, q43, q44, q45, q46, q47, q48, q49, q50, q51, q52, q53, q54, q55, q56, q57, q58, q59, q60, q61, q62, q63, q64, q65, q66, q67, q68, q69, q70, r71, r72, r73, r74, r75, r76, r77, r78, r79, r80, r81, r82, r83, r84, r85, r86, r87, r88, r89, r90, r91, r92, r93, r94, r95, r96, r97, r98, r99, r100, r101, r102, r103, r104, r105, r106, r107, r108, r109, r110, r111, r112, r113, r114, r115, r116, r117, r118, r119, r120, r121, r122, r123, r124, r125, r126, r127, r128, r129, r130, r131, r132, r133, r134, r135, r136, r137, r138, r139, r140, r141, r142, q143, q144, q145, q146, q147, q148, q149, q150, q151, q152, q153, q154, q155, q156, q157, q158, q159, q160, q161, q162, q163, q164, q165, q166, q167, q168, q169, q170, q171, q172, q173, q174, q175, q176, q177, q178, q179, q180, q181, q182, q183, q184, q185, q186, q187, q188, q189, q190, q191, q192, q193, q194, q195, q196, q197, q198, q199, q200, q201, q202, q203, q204, q205, q206, q207, q208, q209, q210, q211, q212, q213, q214, q215, q216, q217, q218, q219, q220, q221, q222, q223, q224, q225, q226, q227, q228, q229, q230, q231, q232, q233, q234, q235], []⟩ w')) :
    Code.wp Tryd.prog swCode Q ⟨#[.int .i64 (n : Int), q1, q2, q3, q4, .pointer (some ⟨D, 0, none⟩), q6, .pointer (some ⟨b7, 0, none⟩), .bool true, q9, .pointer (some ⟨b10, 0, none⟩), .int .i64 7, q12, q13, q14, q15, q16, q17, q18, q19, q20, q21, q22, q23, q24, q25, q26, q27, q28, q29, q30, q31, q32, q33, q34, q35, q36, q37, q38, q39, q40, q41, q42, q43, q44, q45, q46, q47, q48, q49, q50, q51, q52, q53, q54, q55, q56, q57, q58, q59, q60, q61, q62, q63, q64, q65, q66, q67, q68, q69, q70, q71, q72, .int .u8 ((u : Int) % 8), q74, q75, q76, q77, q78, q79, q80, q81, q82, q83, q84, q85, q86, q87, q88, q89, q90, q91, q92, q93, q94, q95, q96, q97, q98, q99, q100, q101, q102, q103, q104, q105, q106, q107, q108, q109, q110, q111, q112, q113, q114, q115, q116, q117, q118, q119, q120, q121, q122, q123, q124, q125, q126, q127, q128, q129, q130, q131, q132, q133, q134, q135, q136, q137, q138, q139, q140, q141, q142, q143, q144, q145, q146, q147, q148, q149, q150, q151, q152, q153, q154, q155, q156, q157, q158, q159, q160, q161, q162, q163, q164, q165, q166, q167, q168, q169, q170, q171, q172, q173, q174, q175, q176, q177, q178, q179, q180, q181, q182, q183, q184, q185, q186, q187, q188, q189, q190, q191, q192, q193, q194, q195, q196, q197, q198, q199, q200, q201, q202, q203, q204, q205, q206, q207, q208, q209, q210, q211, q212, q213, q214, q215, q216, q217, q218, q219, q220, q221, q222, q223, q224, q225, q226, q227, q228, q229, q230, q231, q232, q233, q234, q235], []⟩ w := by
  have laid : ∀ {wr : World}, Kept (· < N) w2 wr → Laid wr := fun hk => HG.out.carry (hk.below fun k hk' => by rw [HNN.out]; exact hk')
  obtain ⟨K, F, cF, va, vw, hst⟩ := HP.out
  have HS := Lib.hid hst
  clear hst
  conv => arg 2; whnf
  go_wp2_with fail
  refine (Flush_down HS.out.disk hd).mono ?_
  rintro e w3 ⟨v, rfl, he, hb⟩
  have HS3 := Lib.hid (HS.out.below hb (X' := fun _ => False) (fun _ h => h.elim))
  have HE3 := Lib.hid he.is
  clear he hb
  go_wp2_with fail
  refine (Num_any 7 v w3 HE3.out (laid HS3.out.kept)).mono ?_
  rintro e w4 ⟨rfl, hb⟩
  have HS4 := Lib.hid (HS3.out.below hb (X' := fun _ => False) (fun _ h => h.elim))
  clear hb
  clear laid
  go_wp2_with fail
  exact HQ.out d _ hd.symm HSY.out (by omega) ⟨_, F, cF, va, vw, HS4.out⟩
set_option maxRecDepth 100000 in
set_option maxHeartbeats 8000000 in
/-- the power goes -/
theorem sw_crash {Q : Exit → Act → World → Prop} {N D b7 b10 n : Nat} {u : Nat} {d : Dk} {x : ActD} {w2 w : World} {q1 q2 q3 q4 q6 q9 q12 q13 q14 q15 q16 q17 q18 q19 q20 q21 q22 q23 q24 q25 q26 q27 q28 q29 q30 q31 q32 q33 q34 q35 q36 q37 q38 q39 q40 q41 q42 q43 q44 q45 q46 q47 q48 q49 q50 q51 q52 q53 q54 q55 q56 q57 q58 q59 q60 q61 q62 q63 q64 q65 q66 q67 q68 q69 q70 q71 q72 q74 q75 q76 q77 q78 q79 q80 q81 q82 q83 q84 q85 q86 q87 q88 q89 q90 q91 q92 q93 q94 q95 q96 q97 q98 q99 q100 q101 q102 q103 q104 q105 q106 q107 q108 q109 q110 q111 q112 q113 q114 q115 q116 q117 q118 q119 q120 q121 q122 q123 q124 q125 q126 q127 q128 q129 q130 q131 q132 q133 q134 q135 q136 q137 q138 q139 q140 q141 q142 q143 q144 q145 q146 q147 q148 q149 q150 q151 q152 q153 q154 q155 q156 q157 q158 q159 q160 q161 q162 q163 q164 q165 q166 q167 q168 q169 q170 q171 q172 q173 q174 q175 q176 q177 q178 q179 q180 q181 q182 q183 q184 q185 q186 q187 q188 q189 q190 q191 q192 q193 q194 q195 q196 q197 q198 q199 q200 q201 q202 q203 q204 q205 q206 q207 q208 q209 q210 q211 q212 q213 q214 q215 q216 q217 q218 q219 q220 q221 q222 q223 q224 q225 q226 q227 q228 q229 q230 q231 q232 q233 q234 q235 : Value} {bd : Bool} {wt : Int} {m : Nat} (h5 : ((u : Int) % 8 == 5) = false) (h6 : ((u : Int) % 8 == 6) = true) (HM : Hid (x.mask = (m : Int))) (hm : m < 4294967296) (HT : Hid (x.torn ≤ 9223372036854775807))
    (HP : Hid (PlAt (fun j => j = b10) N w2 D b7 n d d.firm d.soft w)) (HX : Hid (ActAt w b10 0 x)) (hs : d.soft.length ≤ 1000000) (h1 : 1 ≤ n) (hn : n ≤ 1000) (HNN : Hid (N = w2.heap.size)) 
    (HQ : Hid (∀ {r71 r72 r73 r74 r75 r76 r77 r78 r79 r80 r81 r82 r83 r84 r85 r86 r87 r88 r89 r90 r91 r92 r93 r94 r95 r96 r97 r98 r99 r100 r101 r102 r103 r104 r105 r106 r107 r108 r109 r110 r111 r112 r113 r114 r115 r116 r117 r118 r119 r120 r121 r122 r123 r124 r125 r126 r127 r128 r129 r130 r131 r132 r133 r134 r135 r136 r137 r138 r139 r140 r141 r142 r11 r12 : Value} {dn : Bool} (d' : Dk) (w' : World), dn = d'.down → d'.Sync → d'.soft.length ≤ d.soft.length + 1 → PlAt (fun _ => False) N w2 D b7 n d' d'.firm d'.soft w' → Q .normal ⟨#[.int .i64 (n : Int), q1, q2, q3, q4, .pointer (some ⟨D, 0, none⟩), q6, .pointer (some ⟨b7, 0, none⟩), .bool dn, q9, .pointer (some ⟨b10, 0, none⟩), r11, r12, q13, q14, q15, q16, q17, q18, q19, q20, q21, q22, q23, q24, q25, q26, q27, q28, q29, q30, q31, q32, q33, q34, q35, q36, q37, q38, q39, q40, q41, q42, q43, q44, q45, q46, q47, q48, q49, q50, q51, q52, q53, q54, q55, q56, q57, q58, q59, q60, q61, q62, q63, q64, q65, q66, q67, q68, q69, q70, r71, r72, r73, r74, r75, r76, r77, r78, r79, r80, r81, r82, r83, r84, r85, r86, r87, r88, r89, r90, r91, r92, r93, r94, r95, r96, r97, r98, r99, r100, r101, r102, r103, r104, r105, r106, r107, r108, r109, r110, r111, r112, r113, r114, r115, r116, r117, r118, r119, r120, r121, r122, r123, r124, r125, r126, r127, r128, r129, r130, r131, r132, r133, r134, r135, r136, r137, r138, r139, r140, r141, r142, q143, q144, q145, q146, q147, q148, q149, q150, q151, q152, q153, q154, q155, q156, q157, q158, q159, q160, q161, q162, q163, q164, q165, q166, q167, q168, q169, q170, q171, q172, q173, q174, q175, q176, q177, q178, q179, q180, q181, q182, q183, q184, q185, q186, q187, q188, q189, q190, q191, q192, q193, q194, q195, q196, q197, q198, q199, q200, q201, q202, q203, q204, q205, q206, q207, q208, q209, q210, q211, q212, q213, q214, q215, q216, q217, q218, q219, q220, q221, q222, q223, q224, q225, q226, q227, q228, q229, q230, q231, q232, q233, q234, q235], []⟩ w')) :
    Code.wp Tryd.prog swCode Q ⟨#[.int .i64 (n : Int), q1, q2, q3, q4, .pointer (some ⟨D, 0, none⟩), q6, .pointer (some ⟨b7, 0, none⟩), .bool bd, q9, .pointer (some ⟨b10, 0, none⟩), .int .i64 wt, q12, q13, q14, q15, q16, q17, q18, q19, q20, q21, q22, q23, q24, q25, q26, q27, q28, q29, q30, q31, q32, q33, q34, q35, q36, q37, q38, q39, q40, q41, q42, q43, q44, q45, q46, q47, q48, q49, q50, q51, q52, q53, q54, q55, q56, q57, q58, q59, q60, q61, q62, q63, q64, q65, q66, q67, q68, q69, q70, q71, q72, .int .u8 ((u : Int) % 8), q74, q75, q76, q77, q78, q79, q80, q81, q82, q83, q84, q85, q86, q87, q88, q89, q90, q91, q92, q93, q94, q95, q96, q97, q98, q99, q100, q101, q102, q103, q104, q105, q106, q107, q108, q109, q110, q111, q112, q113, q114, q115, q116, q117, q118, q119, q120, q121, q122, q123, q124, q125, q126, q127, q128, q129, q130, q131, q132, q133, q134, q135, q136, q137, q138, q139, q140, q141, q142, q143, q144, q145, q146, q147, q148, q149, q150, q151, q152, q153, q154, q155, q156, q157, q158, q159, q160, q161, q162, q163, q164, q165, q166, q167, q168, q169, q170, q171, q172, q173, q174, q175, q176, q177, q178, q179, q180, q181, q182, q183, q184, q185, q186, q187, q188, q189, q190, q191, q192, q193, q194, q195, q196, q197, q198, q199, q200, q201, q202, q203, q204, q205, q206, q207, q208, q209, q210, q211, q212, q213, q214, q215, q216, q217, q218, q219, q220, q221, q222, q223, q224, q225, q226, q227, q228, q229, q230, q231, q232, q233, q234, q235], []⟩ w := by
  obtain ⟨K, F, cF, va, vw, hst⟩ := HP.out
  have HS := Lib.hid hst
  clear hst
  have c3 : w.cell? ⟨b10, 130, none⟩ = some (.int .u32 (m : Int)) := by have := HX.out.c3; rw [HM.out] at this; exact this
  have c4 : w.cell? ⟨b10, 131, none⟩ = some (.int .i64 x.torn) := HX.out.c4
  conv => arg 2; whnf
  go_wp2_with fail
  refine (Crash_yes hm HS.out.disk HS.out.there hs HT.out).mono ?_
  rintro e w3 ⟨rfl, hdk, hkp⟩
  have HX3 : Hid (ActAt w3 b10 0 x) := Lib.hid (HX.out.carry (hkp.block b10 (HS.out.sub b10 rfl).1))
  have HS3 := Lib.hid (HS.out.call hdk hkp)
  clear hdk hkp c3 c4
  have c3 : w3.cell? ⟨b10, 130, none⟩ = some (.int .u32 (m : Int)) := by have := HX3.out.c3; rw [HM.out] at this; exact this
  have c4 : w3.cell? ⟨b10, 131, none⟩ = some (.int .i64 x.torn) := HX3.out.c4
  obtain ⟨A, cA, W, cW, rfl, rfl, hrd⟩ := HS3.out.ref.rd HS.out.disk.ok.firm HS.out.disk.ok.wf HS.out.disk.ok.fits
  have HRD := Lib.hid hrd
  have e0 := HS3.out.ref.c0
  have e1 := HS3.out.ref.c1
  have e2 := HS3.out.ref.c2
  clear hrd
  go_wp2_with fail
  refine (RefCrash_any HRD.out hs h1 hn m hm x.torn HT.out).mono ?_
  rintro e w5 ⟨g, cap, rfl, hp, hl, hb⟩
  have HP5 := Lib.hid hp
  have HL5 : Hid (w3.heap.size ≤ g ∧ g < w5.heap.size) := Lib.hid ⟨hl, hp.lt (by rw [crashZ_length, HS.out.disk.ok.firm]; exact h1)⟩
  have HS5 := Lib.hid (HS3.out.below hb (X' := fun _ => False) (fun _ h => h.elim))
  clear hp hl hb e0 e1 e2 c3 c4
  have e0 := HS5.out.ref.c0
  have e1 := HS5.out.ref.c1
  have e2 := HS5.out.ref.c2
  have f0 := HS5.out.ref.fz 0
  have f1 := HS5.out.ref.fz 1
  have f2 := HS5.out.ref.fz 2
  go_wp2_with fail
  exact HQ.out (d.crash m x.torn) _ rfl (Dk.Sync.crash d _ _) (by simp [Dk.crash]) ⟨_, g, cap, _, _, HS5.out.anew HP5.out (.inr HL5.out) (by have h8 := HS3.out.kept.size; have h9 := HNN.out; have h10 := HL5.out; omega) (by have h8 := HS3.out.there b7 HS3.out.ref.k7; have h10 := HL5.out; omega) rfl⟩
set_option maxRecDepth 100000 in
set_option maxHeartbeats 8000000 in
/-- the power comes -/
theorem sw_up {Q : Exit → Act → World → Prop} {N D b7 b10 n : Nat} {u : Nat} {d : Dk} {w2 w : World} {q1 q2 q3 q4 q6 q9 q12 q13 q14 q15 q16 q17 q18 q19 q20 q21 q22 q23 q24 q25 q26 q27 q28 q29 q30 q31 q32 q33 q34 q35 q36 q37 q38 q39 q40 q41 q42 q43 q44 q45 q46 q47 q48 q49 q50 q51 q52 q53 q54 q55 q56 q57 q58 q59 q60 q61 q62 q63 q64 q65 q66 q67 q68 q69 q70 q71 q72 q74 q75 q76 q77 q78 q79 q80 q81 q82 q83 q84 q85 q86 q87 q88 q89 q90 q91 q92 q93 q94 q95 q96 q97 q98 q99 q100 q101 q102 q103 q104 q105 q106 q107 q108 q109 q110 q111 q112 q113 q114 q115 q116 q117 q118 q119 q120 q121 q122 q123 q124 q125 q126 q127 q128 q129 q130 q131 q132 q133 q134 q135 q136 q137 q138 q139 q140 q141 q142 q143 q144 q145 q146 q147 q148 q149 q150 q151 q152 q153 q154 q155 q156 q157 q158 q159 q160 q161 q162 q163 q164 q165 q166 q167 q168 q169 q170 q171 q172 q173 q174 q175 q176 q177 q178 q179 q180 q181 q182 q183 q184 q185 q186 q187 q188 q189 q190 q191 q192 q193 q194 q195 q196 q197 q198 q199 q200 q201 q202 q203 q204 q205 q206 q207 q208 q209 q210 q211 q212 q213 q214 q215 q216 q217 q218 q219 q220 q221 q222 q223 q224 q225 q226 q227 q228 q229 q230 q231 q232 q233 q234 q235 : Value} {bd : Bool} {wt : Int} (h5 : ((u : Int) % 8 == 5) = false) (h6 : ((u : Int) % 8 == 6) = false) (h7 : ((u : Int) % 8 == 7) = true)
    (HP : Hid (PlAt (fun j => j = b10) N w2 D b7 n d d.firm d.soft w))  (HSY : Hid d.Sync) 
    (HQ : Hid (∀ {r71 r72 r73 r74 r75 r76 r77 r78 r79 r80 r81 r82 r83 r84 r85 r86 r87 r88 r89 r90 r91 r92 r93 r94 r95 r96 r97 r98 r99 r100 r101 r102 r103 r104 r105 r106 r107 r108 r109 r110 r111 r112 r113 r114 r115 r116 r117 r118 r119 r120 r121 r122 r123 r124 r125 r126 r127 r128 r129 r130 r131 r132 r133 r134 r135 r136 r137 r138 r139 r140 r141 r142 r11 r12 : Value} {dn : Bool} (d' : Dk) (w' : World), dn = d'.down → d'.Sync → d'.soft.length ≤ d.soft.length + 1 → PlAt (fun _ => False) N w2 D b7 n d' d'.firm d'.soft w' → Q .normal ⟨#[.int .i64 (n : Int), q1, q2, q3, q4, .pointer (some ⟨D, 0, none⟩), q6, .pointer (some ⟨b7, 0, none⟩), .bool dn, q9, .pointer (some ⟨b10, 0, none⟩), r11, r12, q13, q14, q15, q16, q17, q18, q19, q20, q21, q22, q23, q24, q25, q26, q27, q28, q29, q30, q31, q32, q33, q34, q35, q36, q37, q38, q39, q40, q41, q42, q43, q44, q45, q46, q47, q48, q49, q50, q51, q52, q53, q54, q55, q56, q57, q58, q59, q60, q61, q62, q63, q64, q65, q66, q67, q68, q69, q70, r71, r72, r73, r74, r75, r76, r77, r78, r79, r80, r81, r82, r83, r84, r85, r86, r87, r88, r89, r90, r91, r92, r93, r94, r95, r96, r97, r98, r99, r100, r101, r102, r103, r104, r105, r106, r107, r108, r109, r110, r111, r112, r113, r114, r115, r116, r117, r118, r119, r120, r121, r122, r123, r124, r125, r126, r127, r128, r129, r130, r131, r132, r133, r134, r135, r136, r137, r138, r139, r140, r141, r142, q143, q144, q145, q146, q147, q148, q149, q150, q151, q152, q153, q154, q155, q156, q157, q158, q159, q160, q161, q162, q163, q164, q165, q166, q167, q168, q169, q170, q171, q172, q173, q174, q175, q176, q177, q178, q179, q180, q181, q182, q183, q184, q185, q186, q187, q188, q189, q190, q191, q192, q193, q194, q195, q196, q197, q198, q199, q200, q201, q202, q203, q204, q205, q206, q207, q208, q209, q210, q211, q212, q213, q214, q215, q216, q217, q218, q219, q220, q221, q222, q223, q224, q225, q226, q227, q228, q229, q230, q231, q232, q233, q234, q235], []⟩ w')) :
    Code.wp Tryd.prog swCode Q ⟨#[.int .i64 (n : Int), q1, q2, q3, q4, .pointer (some ⟨D, 0, none⟩), q6, .pointer (some ⟨b7, 0, none⟩), .bool bd, q9, .pointer (some ⟨b10, 0, none⟩), .int .i64 wt, q12, q13, q14, q15, q16, q17, q18, q19, q20, q21, q22, q23, q24, q25, q26, q27, q28, q29, q30, q31, q32, q33, q34, q35, q36, q37, q38, q39, q40, q41, q42, q43, q44, q45, q46, q47, q48, q49, q50, q51, q52, q53, q54, q55, q56, q57, q58, q59, q60, q61, q62, q63, q64, q65, q66, q67, q68, q69, q70, q71, q72, .int .u8 ((u : Int) % 8), q74, q75, q76, q77, q78, q79, q80, q81, q82, q83, q84, q85, q86, q87, q88, q89, q90, q91, q92, q93, q94, q95, q96, q97, q98, q99, q100, q101, q102, q103, q104, q105, q106, q107, q108, q109, q110, q111, q112, q113, q114, q115, q116, q117, q118, q119, q120, q121, q122, q123, q124, q125, q126, q127, q128, q129, q130, q131, q132, q133, q134, q135, q136, q137, q138, q139, q140, q141, q142, q143, q144, q145, q146, q147, q148, q149, q150, q151, q152, q153, q154, q155, q156, q157, q158, q159, q160, q161, q162, q163, q164, q165, q166, q167, q168, q169, q170, q171, q172, q173, q174, q175, q176, q177, q178, q179, q180, q181, q182, q183, q184, q185, q186, q187, q188, q189, q190, q191, q192, q193, q194, q195, q196, q197, q198, q199, q200, q201, q202, q203, q204, q205, q206, q207, q208, q209, q210, q211, q212, q213, q214, q215, q216, q217, q218, q219, q220, q221, q222, q223, q224, q225, q226, q227, q228, q229, q230, q231, q232, q233, q234, q235], []⟩ w := by
  obtain ⟨K, F, cF, va, vw, hst⟩ := HP.out
  have HS := Lib.hid hst
  clear hst
  conv => arg 2; whnf
  go_wp2_with fail
  refine (Up_any HS.out.disk).mono ?_
  rintro e w3 ⟨rfl, hdk, hkp⟩
  have HS3 := Lib.hid ((HS.out.call hdk hkp).below (Below.refl _ _) (X' := fun _ => False) (fun _ h => h.elim))
  clear hdk hkp
  go_wp2_with fail
  exact HQ.out d.up _ rfl HSY.out.up (by simp [Dk.up]) ⟨_, F, cF, va, vw, HS3.out⟩
end Go.Proofs.YtflkhbdipmjmeaaDoor
