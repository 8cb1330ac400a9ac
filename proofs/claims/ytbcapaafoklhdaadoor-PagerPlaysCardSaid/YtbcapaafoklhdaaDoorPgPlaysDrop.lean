/-
  A round of PagerPlays: Drop. Conditions: the pager's calls are as PgSpec says.
-/
import Derived.Test.YtbcapaafoklhdaaDoorPgPlaysCode
namespace Go.Proofs.YtbcapaafoklhdaaDoor
open Go.RowKit

set_option maxRecDepth 100000 in
set_option maxHeartbeats 8000000 in
/-- Drop of what is not used -/
theorem sw_drop_no {O : PgOwn} (H : PgSpec O) {w0 : World} {K : Nat → Prop} {w : World} {P D n : Nat} {d : Dk} {s : Pst} {g a b c : Nat} {fu fn fg : Nat → Bool} {da cd df cf : Nat} {dt ft : Nat → ByteArray} {Q : Exit → Act → World → Prop} {ga j : Nat} {q : Int} {act : ActP} {q0 q1 q2 q3 q4 q7 q9 q13 q15 q16 q17 q18 q19 q20 q21 q22 q23 q24 q25 q26 q27 q28 q29 q30 q31 q32 q33 q34 q35 q36 q37 q38 q39 q40 q41 q42 q43 q44 q45 q46 q47 q48 q49 q50 q51 q52 q53 q54 q55 q56 q57 q58 q59 q60 q61 q62 q63 q64 q65 q66 q67 q68 q69 q70 q71 q72 q73 q74 q75 q76 q77 q78 q80 q81 q82 q83 q84 q85 q86 q87 q88 q89 q90 q91 q92 q93 q94 q95 q96 q97 q98 q99 q100 q101 q102 q103 q104 q105 q106 q107 q108 q109 q110 q111 q112 q113 q114 q115 q116 q117 q118 q119 q120 q121 q122 q123 q124 q125 q126 q127 q128 q129 q130 q131 q132 q133 q134 q135 q136 q137 q138 q139 q140 q141 q142 q143 q144 q145 q146 q147 q148 q149 q150 q151 q152 q153 q154 q155 q156 q157 q158 q159 q160 q161 q162 q163 q164 q165 q166 q167 q168 q169 q170 q171 q172 q173 q174 q175 q176 q177 q178 q179 q180 q181 q182 q183 q184 q185 q186 q187 q188 q189 q190 q191 q192 q193 q194 q195 q196 q197 q198 q199 q200 q201 q202 q203 q204 q205 q206 q207 q208 q209 q210 q211 q212 q213 q214 q215 q216 q217 q218 q219 q220 q221 q222 q223 q224 q225 q226 q227 q228 q229 q230 q231 q232 q233 q234 q235 q236 q237 q238 q239 q240 q241 q242 q243 q244 q245 q246 q247 q248 q249 q250 q251 q252 q253 q254 q255 q256 q257 q258 q259 q260 q261 q262 q263 q264 q265 q266 q267 q268 q269 q270 q271 q272 q273 q274 q275 q276 q277 q278 q279 q280 q281 q282 q283 q284 q285 q286 q287 q288 q289 q290 q291 q292 q293 q294 q295 q296 q297 q298 q299 q300 q301 q302 q303 q304 q305 q306 q307 q308 q309 q310 q311 q312 q313 q314 q315 q316 q317 q318 q319 q320 q321 q322 q323 q324 q325 q326 q327 q328 q329 q330 q331 : Value}
    (HS : Hid (PlSt O w0 K w P D n d s g a b c fu fn fg da df dt ft)) (HX : Hid (ActIn w ga act)) (HSO : Hid (d.soft.length ≤ j)) (HGN : Hid (s.sup.gen ≤ j + 1)) (HG : Hid (Laid2 w0)) 
    (hq : q = 3) (HUH : Hid (hasI s.used act.at_ = false))
    (HQ : Hid (∀ {r15 r16 r17 r18 r19 r20 r21 r22 r23 r24 r25 r26 r80 r81 r82 r83 r84 r85 r86 r87 r88 r89 r90 r91 r92 r93 r94 r95 r96 r97 r98 r99 r100 r101 r102 r103 r104 r105 r106 r107 r108 r109 r110 r111 r112 r113 r114 r115 r116 r117 r118 r119 r120 r121 r122 r123 r124 r125 r126 r127 r128 r129 r130 r131 r132 r133 r134 r135 r136 r137 r138 r139 r140 r141 r142 r143 r144 r145 r146 r147 r148 r149 r150 r151 r152 r153 r154 r155 r156 r157 r158 r159 r160 r161 r162 r163 r164 r165 r166 r167 r168 r169 r170 r171 r172 r173 r174 r175 r176 r177 r178 r179 r180 r181 r182 r183 r184 r185 r186 r187 r188 r189 r190 r191 r192 r193 r194 r195 r196 r197 r198 r199 r200 r201 r202 r203 r204 r205 r206 r207 r208 r209 r210 r211 r212 r213 r214 r215 r216 r217 r218 r219 r220 r221 r222 r223 r224 r225 r226 r227 r228 r229 r230 r231 r232 r233 r234 r235 r236 r237 r238 r239 r240 r241 r242 r243 r244 r245 r246 r247 r248 r249 r250 r251 r252 r253 r254 r255 r256 r257 r258 r259 r260 r261 r262 r263 r264 r265 r266 r267 r268 r269 r270 r271 r272 r273 r274 r275 r276 r277 r278 r279 r280 r281 r282 r283 : Value} (P2 : Nat) (K2 : Nat → Prop) (d2 : Dk) (s2 : Pst) (a2 b2 c2 : Nat) (fu2 fn2 fg2 : Nat → Bool) (da2 cd2 df2 cf2 : Nat) (dt2 ft2 : Nat → ByteArray) (w' : World), PlSt O w0 K2 w' P2 D n d2 s2 g a2 b2 c2 fu2 fn2 fg2 da2 df2 dt2 ft2 → d2.soft.length ≤ j + 1 → s2.sup.gen ≤ j + 2 → Q .normal ⟨#[q0, q1, q2, q3, q4, .int .i64 (n : Int), .pointer (some ⟨D, 0, none⟩), q7, ptr P2, q9, .pointer (some ⟨g, 0, none⟩), .slice (some ⟨da2, 0, none⟩) n cd2, .slice (some ⟨df2, 0, none⟩) n cf2, q13, .pointer (some ⟨ga, 0, none⟩), r15, r16, r17, r18, r19, r20, r21, r22, r23, r24, r25, r26, q27, q28, q29, q30, q31, q32, q33, q34, q35, q36, q37, q38, q39, q40, q41, q42, q43, q44, q45, q46, q47, q48, q49, q50, q51, q52, q53, q54, q55, q56, q57, q58, q59, q60, q61, q62, q63, q64, q65, q66, q67, q68, q69, q70, q71, q72, q73, q74, q75, q76, q77, q78, .int .u8 q, r80, r81, r82, r83, r84, r85, r86, r87, r88, r89, r90, r91, r92, r93, r94, r95, r96, r97, r98, r99, r100, r101, r102, r103, r104, r105, r106, r107, r108, r109, r110, r111, r112, r113, r114, r115, r116, r117, r118, r119, r120, r121, r122, r123, r124, r125, r126, r127, r128, r129, r130, r131, r132, r133, r134, r135, r136, r137, r138, r139, r140, r141, r142, r143, r144, r145, r146, r147, r148, r149, r150, r151, r152, r153, r154, r155, r156, r157, r158, r159, r160, r161, r162, r163, r164, r165, r166, r167, r168, r169, r170, r171, r172, r173, r174, r175, r176, r177, r178, r179, r180, r181, r182, r183, r184, r185, r186, r187, r188, r189, r190, r191, r192, r193, r194, r195, r196, r197, r198, r199, r200, r201, r202, r203, r204, r205, r206, r207, r208, r209, r210, r211, r212, r213, r214, r215, r216, r217, r218, r219, r220, r221, r222, r223, r224, r225, r226, r227, r228, r229, r230, r231, r232, r233, r234, r235, r236, r237, r238, r239, r240, r241, r242, r243, r244, r245, r246, r247, r248, r249, r250, r251, r252, r253, r254, r255, r256, r257, r258, r259, r260, r261, r262, r263, r264, r265, r266, r267, r268, r269, r270, r271, r272, r273, r274, r275, r276, r277, r278, r279, r280, r281, r282, r283, q284, q285, q286, q287, q288, q289, q290, q291, q292, q293, q294, q295, q296, q297, q298, q299, q300, q301, q302, q303, q304, q305, q306, q307, q308, q309, q310, q311, q312, q313, q314, q315, q316, q317, q318, q319, q320, q321, q322, q323, q324, q325, q326, q327, q328, q329, q330, q331], []⟩ w')) :
    Code.wp Tryd.prog swCode Q ⟨#[q0, q1, q2, q3, q4, .int .i64 (n : Int), .pointer (some ⟨D, 0, none⟩), q7, ptr P, q9, .pointer (some ⟨g, 0, none⟩), .slice (some ⟨da, 0, none⟩) n cd, .slice (some ⟨df, 0, none⟩) n cf, q13, .pointer (some ⟨ga, 0, none⟩), q15, q16, q17, q18, q19, q20, q21, q22, q23, q24, q25, q26, q27, q28, q29, q30, q31, q32, q33, q34, q35, q36, q37, q38, q39, q40, q41, q42, q43, q44, q45, q46, q47, q48, q49, q50, q51, q52, q53, q54, q55, q56, q57, q58, q59, q60, q61, q62, q63, q64, q65, q66, q67, q68, q69, q70, q71, q72, q73, q74, q75, q76, q77, q78, .int .u8 q, q80, q81, q82, q83, q84, q85, q86, q87, q88, q89, q90, q91, q92, q93, q94, q95, q96, q97, q98, q99, q100, q101, q102, q103, q104, q105, q106, q107, q108, q109, q110, q111, q112, q113, q114, q115, q116, q117, q118, q119, q120, q121, q122, q123, q124, q125, q126, q127, q128, q129, q130, q131, q132, q133, q134, q135, q136, q137, q138, q139, q140, q141, q142, q143, q144, q145, q146, q147, q148, q149, q150, q151, q152, q153, q154, q155, q156, q157, q158, q159, q160, q161, q162, q163, q164, q165, q166, q167, q168, q169, q170, q171, q172, q173, q174, q175, q176, q177, q178, q179, q180, q181, q182, q183, q184, q185, q186, q187, q188, q189, q190, q191, q192, q193, q194, q195, q196, q197, q198, q199, q200, q201, q202, q203, q204, q205, q206, q207, q208, q209, q210, q211, q212, q213, q214, q215, q216, q217, q218, q219, q220, q221, q222, q223, q224, q225, q226, q227, q228, q229, q230, q231, q232, q233, q234, q235, q236, q237, q238, q239, q240, q241, q242, q243, q244, q245, q246, q247, q248, q249, q250, q251, q252, q253, q254, q255, q256, q257, q258, q259, q260, q261, q262, q263, q264, q265, q266, q267, q268, q269, q270, q271, q272, q273, q274, q275, q276, q277, q278, q279, q280, q281, q282, q283, q284, q285, q286, q287, q288, q289, q290, q291, q292, q293, q294, q295, q296, q297, q298, q299, q300, q301, q302, q303, q304, q305, q306, q307, q308, q309, q310, q311, q312, q313, q314, q315, q316, q317, q318, q319, q320, q321, q322, q323, q324, q325, q326, q327, q328, q329, q330, q331], []⟩ w := by
  subst hq
  conv => arg 2; whnf
  have d1 := HX.out.c1
  go_wp2_with (with_reducible refine stop_at (o := ⟨some 128, _, _, _, _, _⟩) ?_)
  refine wpList_load_rp (by rfl) _ rfl rfl HS.out.lm.x ?_
  go_wp2_with fail
  refine (RefNow_any HS.out.lm.rows s.sup.root s.sup.gen act.at_).mono ?_
  rw [HS.out.now]
  rintro e w1 ⟨rfl, hb⟩
  have HS1 := Lib.hid (HS.out.carry H hb)
  have HX1 := Lib.hid (HX.out.carry hb)
  clear hb d1 HS
  dsimp only
  have d1 := HX1.out.c1
  have hu := HUH.out
  rw [hu]
  have HU := Lib.hid hu
  clear hu
  go_wp2_with fail
  refine (H.dropNo HS1.out.lp.pg HS1.out.lp.inv act.at_ HU.out).mono ?_
  rintro e w2 ⟨v, rfl, he, hb⟩
  have HE2 := Lib.hid he.is
  have HS2 := Lib.hid (HS1.out.carry H hb)
  clear he hb HS1 HX1 d1
  dsimp only
  go_wp2_with fail
  refine (Num_any 4 v w2 HE2.out (HS2.out.lp.laid HG.out).err).mono ?_
  rintro e w3 ⟨rfl, hb⟩
  have HS3 := Lib.hid (HS2.out.carry H hb)
  clear hb HE2 HS2
  dsimp only
  go_wp2_with fail
  exact HQ.out P K d s a b c fu fn fg da cd df cf dt ft w3 HS3.out (by have := HSO.out; omega) (by have := HGN.out; omega)
end Go.Proofs.YtbcapaafoklhdaaDoor
