/-
  A round of DiskPlays: its act, whichever it is. Conditions: errors.errorType is laid.
-/
import Derived.Test.YtflkhbdipmjmeaaDoorDiskPlaysSw
import Derived.Test.YtflkhbdipmjmeaaDoorDiskPlaysNo
import Derived.Test.YtflkhbdipmjmeaaDoorDiskPlaysYes
import Derived.Test.YtflkhbdipmjmeaaDoorDiskPlaysTail
namespace Go.Proofs.YtflkhbdipmjmeaaDoor
open Go.RowKit

theorem wf_u8 {z : Int} (h : (Lit.int .u8 z).wf = true) : ∃ u : Nat, z = (u : Int) ∧ u < 256 := by
  have h' : 0 ≤ z ∧ z ≤ 255 := by simpa [Lit.wf, IntKind.min, IntKind.max, IntKind.signed, IntKind.bits] using h
  exact ⟨z.toNat, by omega, by omega⟩
theorem wf_u32 {z : Int} (h : (Lit.int .u32 z).wf = true) : ∃ u : Nat, z = (u : Int) ∧ u < 4294967296 := by
  have h' : 0 ≤ z ∧ z ≤ 4294967295 := by simpa [Lit.wf, IntKind.min, IntKind.max, IntKind.signed, IntKind.bits] using h
  exact ⟨z.toNat, by omega, by omega⟩
theorem wf_i64 {z : Int} (h : (Lit.int .i64 z).wf = true) : z ≤ 9223372036854775807 := by
  have h' : -9223372036854775808 ≤ z ∧ z ≤ 9223372036854775807 := by simpa [Lit.wf, IntKind.min, IntKind.max, IntKind.signed, IntKind.bits] using h
  exact h'.2
theorem sw_any {Q : Exit → Act → World → Prop} {N D b7 b10 n u : Nat} {d : Dk} {x : ActD} {bd : Bool} {wt : Int} {w2 w : World} {q1 q2 q3 q4 q6 q9 q12 q13 q14 q15 q16 q17 q18 q19 q20 q21 q22 q23 q24 q25 q26 q27 q28 q29 q30 q31 q32 q33 q34 q35 q36 q37 q38 q39 q40 q41 q42 q43 q44 q45 q46 q47 q48 q49 q50 q51 q52 q53 q54 q55 q56 q57 q58 q59 q60 q61 q62 q63 q64 q65 q66 q67 q68 q69 q70 q71 q72 q74 q75 q76 q77 q78 q79 q80 q81 q82 q83 q84 q85 q86 q87 q88 q89 q90 q91 q92 q93 q94 q95 q96 q97 q98 q99 q100 q101 q102 q103 q104 q105 q106 q107 q108 q109 q110 q111 q112 q113 q114 q115 q116 q117 q118 q119 q120 q121 q122 q123 q124 q125 q126 q127 q128 q129 q130 q131 q132 q133 q134 q135 q136 q137 q138 q139 q140 q141 q142 q143 q144 q145 q146 q147 q148 q149 q150 q151 q152 q153 q154 q155 q156 q157 q158 q159 q160 q161 q162 q163 q164 q165 q166 q167 q168 q169 q170 q171 q172 q173 q174 q175 q176 q177 q178 q179 q180 q181 q182 q183 q184 q185 q186 q187 q188 q189 q190 q191 q192 q193 q194 q195 q196 q197 q198 q199 q200 q201 q202 q203 q204 q205 q206 q207 q208 q209 q210 q211 q212 q213 q214 q215 q216 q217 q218 q219 q220 q221 q222 q223 q224 q225 q226 q227 q228 q229 q230 q231 q232 q233 q234 q235 : Value}
    (HP : Hid (PlAt (fun j => j = b10) N w2 D b7 n d d.firm d.soft w)) (HX : Hid (ActAt w b10 0 x)) (HSY : Hid d.Sync) (hs : d.soft.length ≤ 1000000) (h1 : 1 ≤ n) (hn : n ≤ 1000) (HNN : Hid (N = w2.heap.size)) (HG : Hid (Laid w2)) (HDN : Hid (bd = d.down)) (HWT : Hid (wt = downZ bd))
    (HQ : Hid (∀ {r71 r72 r73 r74 r75 r76 r77 r78 r79 r80 r81 r82 r83 r84 r85 r86 r87 r88 r89 r90 r91 r92 r93 r94 r95 r96 r97 r98 r99 r100 r101 r102 r103 r104 r105 r106 r107 r108 r109 r110 r111 r112 r113 r114 r115 r116 r117 r118 r119 r120 r121 r122 r123 r124 r125 r126 r127 r128 r129 r130 r131 r132 r133 r134 r135 r136 r137 r138 r139 r140 r141 r142 r11 r12 : Value} {dn : Bool} (d' : Dk) (w' : World), dn = d'.down → d'.Sync → d'.soft.length ≤ d.soft.length + 1 → PlAt (fun _ => False) N w2 D b7 n d' d'.firm d'.soft w' → Q .normal ⟨#[.int .i64 (n : Int), q1, q2, q3, q4, .pointer (some ⟨D, 0, none⟩), q6, .pointer (some ⟨b7, 0, none⟩), .bool dn, q9, .pointer (some ⟨b10, 0, none⟩), r11, r12, q13, q14, q15, q16, q17, q18, q19, q20, q21, q22, q23, q24, q25, q26, q27, q28, q29, q30, q31, q32, q33, q34, q35, q36, q37, q38, q39, q40, q41, q42, q43, q44, q45, q46, q47, q48, q49, q50, q51, q52, q53, q54, q55, q56, q57, q58, q59, q60, q61, q62, q63, q64, q65, q66, q67, q68, q69, q70, r71, r72, r73, r74, r75, r76, r77, r78, r79, r80, r81, r82, r83, r84, r85, r86, r87, r88, r89, r90, r91, r92, r93, r94, r95, r96, r97, r98, r99, r100, r101, r102, r103, r104, r105, r106, r107, r108, r109, r110, r111, r112, r113, r114, r115, r116, r117, r118, r119, r120, r121, r122, r123, r124, r125, r126, r127, r128, r129, r130, r131, r132, r133, r134, r135, r136, r137, r138, r139, r140, r141, r142, q143, q144, q145, q146, q147, q148, q149, q150, q151, q152, q153, q154, q155, q156, q157, q158, q159, q160, q161, q162, q163, q164, q165, q166, q167, q168, q169, q170, q171, q172, q173, q174, q175, q176, q177, q178, q179, q180, q181, q182, q183, q184, q185, q186, q187, q188, q189, q190, q191, q192, q193, q194, q195, q196, q197, q198, q199, q200, q201, q202, q203, q204, q205, q206, q207, q208, q209, q210, q211, q212, q213, q214, q215, q216, q217, q218, q219, q220, q221, q222, q223, q224, q225, q226, q227, q228, q229, q230, q231, q232, q233, q234, q235], []⟩ w')) :
    Code.wp Tryd.prog swCode Q ⟨#[.int .i64 (n : Int), q1, q2, q3, q4, .pointer (some ⟨D, 0, none⟩), q6, .pointer (some ⟨b7, 0, none⟩), .bool bd, q9, .pointer (some ⟨b10, 0, none⟩), .int .i64 wt, q12, q13, q14, q15, q16, q17, q18, q19, q20, q21, q22, q23, q24, q25, q26, q27, q28, q29, q30, q31, q32, q33, q34, q35, q36, q37, q38, q39, q40, q41, q42, q43, q44, q45, q46, q47, q48, q49, q50, q51, q52, q53, q54, q55, q56, q57, q58, q59, q60, q61, q62, q63, q64, q65, q66, q67, q68, q69, q70, q71, q72, .int .u8 ((u : Int) % 8), q74, q75, q76, q77, q78, q79, q80, q81, q82, q83, q84, q85, q86, q87, q88, q89, q90, q91, q92, q93, q94, q95, q96, q97, q98, q99, q100, q101, q102, q103, q104, q105, q106, q107, q108, q109, q110, q111, q112, q113, q114, q115, q116, q117, q118, q119, q120, q121, q122, q123, q124, q125, q126, q127, q128, q129, q130, q131, q132, q133, q134, q135, q136, q137, q138, q139, q140, q141, q142, q143, q144, q145, q146, q147, q148, q149, q150, q151, q152, q153, q154, q155, q156, q157, q158, q159, q160, q161, q162, q163, q164, q165, q166, q167, q168, q169, q170, q171, q172, q173, q174, q175, q176, q177, q178, q179, q180, q181, q182, q183, q184, q185, q186, q187, q188, q189, q190, q191, q192, q193, q194, q195, q196, q197, q198, q199, q200, q201, q202, q203, q204, q205, q206, q207, q208, q209, q210, q211, q212, q213, q214, q215, q216, q217, q218, q219, q220, q221, q222, q223, q224, q225, q226, q227, q228, q229, q230, q231, q232, q233, q234, q235], []⟩ w := by
  have hd := HDN.out.symm
  obtain rfl := HWT.out
  by_cases h5 : ((u : Int) % 8 == 5) = true
  · cases bd with
    | true => exact sw_flush_down h5 hd HP HSY HNN HG HQ
    | false => exact sw_flush_up h5 hd HP HSY hs h1 hn HNN HQ
  · have g5 : ((u : Int) % 8 == 5) = false := by simpa using h5
    by_cases h6 : ((u : Int) % 8 == 6) = true
    · obtain ⟨m, hm, hm2⟩ := wf_u32 HX.out.w3
      exact sw_crash g5 h6 (Lib.hid hm) hm2 (Lib.hid (wf_i64 HX.out.w4)) HP HX hs h1 hn HNN HQ
    · have g6 : ((u : Int) % 8 == 6) = false := by simpa using h6
      by_cases h7 : ((u : Int) % 8 == 7) = true
      · exact sw_up g5 g6 h7 HP HSY HQ
      · have g7 : ((u : Int) % 8 == 7) = false := by simpa using h7
        by_cases h0 : 0 ≤ x.at_
        · by_cases h1' : x.at_ < (n : Int)
          · cases bd with
            | true => exact sw_no_down3 g5 g6 g7 (by simpa using h0) (by simpa using h1') hd HP HX HSY HNN HG HQ
            | false => exact sw_yes (i := x.at_.toNat) g5 g6 g7 hd (Lib.hid (by omega)) (by omega) HP HX HSY hs HNN HQ
          · cases bd with
            | true => exact sw_no_down2 g5 g6 g7 (by simpa using h0) (by simpa using h1') hd HP HX HSY HNN HG HQ
            | false => exact sw_no_up2 g5 g6 g7 (by simpa using h0) (by simpa using h1') hd HP HX HSY HNN HG HQ
        · cases bd with
          | true => exact sw_no_down1 g5 g6 g7 (by simpa using h0) hd HP HX HSY HNN HG HQ
          | false => exact sw_no_up1 g5 g6 g7 (by simpa using h0) hd HP HX HSY HNN HG HQ
end Go.Proofs.YtflkhbdipmjmeaaDoor
