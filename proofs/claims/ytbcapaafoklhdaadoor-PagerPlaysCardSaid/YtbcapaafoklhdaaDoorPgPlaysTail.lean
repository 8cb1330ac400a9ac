/-
  A round of PagerPlays behind its act: all is looked at. Conditions: the pager's calls are as PgSpec says; errors.errorType and crc.halved are laid.
-/
import Derived.Test.YtbcapaafoklhdaaDoorPgPlaysCmp
import Derived.Test.YtbcapaafoklhdaaDoorPgTorn
namespace Go.Proofs.YtbcapaafoklhdaaDoor
open Go.RowKit

def TlRel (O : PgOwn) (w0 : World) (K : Nat → Prop) (P D n : Nat) (d : Dk) (s : Pst) (g a b c : Nat) (fu fn fg : Nat → Bool) (da df : Nat) (dt ft : Nat → ByteArray) (uu : Nat) (i : Value) (wr : World) : Prop := ∃ k : Nat, k ≤ n ∧ i = .int .i64 (k : Int) ∧ TlS O w0 K P D n d s g a b c fu fn fg da df dt ft uu wr
set_option maxRecDepth 100000 in
set_option maxHeartbeats 8000000 in
/-- what is looked at behind an act -/
theorem plays_tail {O : PgOwn} (H : PgSpec O) {w0 : World} {K : Nat → Prop} {w : World} {P D n : Nat} {d : Dk} {s : Pst} {g a b c : Nat} {fu fn fg : Nat → Bool} {da cd df cf : Nat} {dt ft : Nat → ByteArray} {Q : Exit → Act → World → Prop} {q0 q1 q2 q3 q4 q7 q9 q13 q14 q15 q16 q17 q18 q19 q20 q21 q22 q23 q24 q25 q26 q27 q28 q29 q30 q31 q32 q33 q34 q35 q36 q37 q38 q39 q40 q41 q42 q43 q44 q45 q46 q47 q48 q49 q50 q51 q52 q53 q54 q55 q56 q57 q58 q59 q60 q61 q62 q63 q64 q65 q66 q67 q68 q69 q70 q71 q72 q73 q74 q75 q76 q77 q78 q79 q80 q81 q82 q83 q84 q85 q86 q87 q88 q89 q90 q91 q92 q93 q94 q95 q96 q97 q98 q99 q100 q101 q102 q103 q104 q105 q106 q107 q108 q109 q110 q111 q112 q113 q114 q115 q116 q117 q118 q119 q120 q121 q122 q123 q124 q125 q126 q127 q128 q129 q130 q131 q132 q133 q134 q135 q136 q137 q138 q139 q140 q141 q142 q143 q144 q145 q146 q147 q148 q149 q150 q151 q152 q153 q154 q155 q156 q157 q158 q159 q160 q161 q162 q163 q164 q165 q166 q167 q168 q169 q170 q171 q172 q173 q174 q175 q176 q177 q178 q179 q180 q181 q182 q183 q184 q185 q186 q187 q188 q189 q190 q191 q192 q193 q194 q195 q196 q197 q198 q199 q200 q201 q202 q203 q204 q205 q206 q207 q208 q209 q210 q211 q212 q213 q214 q215 q216 q217 q218 q219 q220 q221 q222 q223 q224 q225 q226 q227 q228 q229 q230 q231 q232 q233 q234 q235 q236 q237 q238 q239 q240 q241 q242 q243 q244 q245 q246 q247 q248 q249 q250 q251 q252 q253 q254 q255 q256 q257 q258 q259 q260 q261 q262 q263 q264 q265 q266 q267 q268 q269 q270 q271 q272 q273 q274 q275 q276 q277 q278 q279 q280 q281 q282 q283 q284 q285 q286 q287 q288 q289 q290 q291 q292 q293 q294 q295 q296 q297 q298 q299 q300 q301 q302 q303 q304 q305 q306 q307 q308 q309 q310 q311 q312 q313 q314 q315 q316 q317 q318 q319 q320 q321 q322 q323 q324 q325 q326 q327 q328 q329 q330 q331 : Value} (HS : Hid (PlSt O w0 K w P D n d s g a b c fu fn fg da df dt ft)) (HG : Hid (Laid2 w0)) (hn22 : n ≤ 22)
    (hq : ∀ x (a : Act) w t v, Q (.panic x) (a.put (some t) v) w → Q (.panic x) a w) (HQ : Hid (∀ {r4 r27 r28 r29 r30 r284 r285 r286 r287 r288 r289 r290 r291 r292 r293 r294 r295 r296 r297 r298 r299 r300 r301 r302 r303 r304 r305 r306 r307 r308 r309 r310 r311 r312 r313 r314 r315 r316 r317 r318 r319 r320 r321 r322 r323 r324 r325 r326 r327 r328 r329 r330 r331 : Value} (w' : World), PlSt O w0 K w' P D n d s g a b c fu fn fg da df dt ft → Q .normal ⟨#[q0, q1, q2, q3, r4, .int .i64 (n : Int), .pointer (some ⟨D, 0, none⟩), q7, ptr P, q9, .pointer (some ⟨g, 0, none⟩), .slice (some ⟨da, 0, none⟩) n cd, .slice (some ⟨df, 0, none⟩) n cf, q13, q14, q15, q16, q17, q18, q19, q20, q21, q22, q23, q24, q25, q26, r27, r28, r29, r30, q31, q32, q33, q34, q35, q36, q37, q38, q39, q40, q41, q42, q43, q44, q45, q46, q47, q48, q49, q50, q51, q52, q53, q54, q55, q56, q57, q58, q59, q60, q61, q62, q63, q64, q65, q66, q67, q68, q69, q70, q71, q72, q73, q74, q75, q76, q77, q78, q79, q80, q81, q82, q83, q84, q85, q86, q87, q88, q89, q90, q91, q92, q93, q94, q95, q96, q97, q98, q99, q100, q101, q102, q103, q104, q105, q106, q107, q108, q109, q110, q111, q112, q113, q114, q115, q116, q117, q118, q119, q120, q121, q122, q123, q124, q125, q126, q127, q128, q129, q130, q131, q132, q133, q134, q135, q136, q137, q138, q139, q140, q141, q142, q143, q144, q145, q146, q147, q148, q149, q150, q151, q152, q153, q154, q155, q156, q157, q158, q159, q160, q161, q162, q163, q164, q165, q166, q167, q168, q169, q170, q171, q172, q173, q174, q175, q176, q177, q178, q179, q180, q181, q182, q183, q184, q185, q186, q187, q188, q189, q190, q191, q192, q193, q194, q195, q196, q197, q198, q199, q200, q201, q202, q203, q204, q205, q206, q207, q208, q209, q210, q211, q212, q213, q214, q215, q216, q217, q218, q219, q220, q221, q222, q223, q224, q225, q226, q227, q228, q229, q230, q231, q232, q233, q234, q235, q236, q237, q238, q239, q240, q241, q242, q243, q244, q245, q246, q247, q248, q249, q250, q251, q252, q253, q254, q255, q256, q257, q258, q259, q260, q261, q262, q263, q264, q265, q266, q267, q268, q269, q270, q271, q272, q273, q274, q275, q276, q277, q278, q279, q280, q281, q282, q283, r284, r285, r286, r287, r288, r289, r290, r291, r292, r293, r294, r295, r296, r297, r298, r299, r300, r301, r302, r303, r304, r305, r306, r307, r308, r309, r310, r311, r312, r313, r314, r315, r316, r317, r318, r319, r320, r321, r322, r323, r324, r325, r326, r327, r328, r329, r330, r331], []⟩ w')) :
    Code.wp Tryd.prog tailCode Q ⟨#[q0, q1, q2, q3, q4, .int .i64 (n : Int), .pointer (some ⟨D, 0, none⟩), q7, ptr P, q9, .pointer (some ⟨g, 0, none⟩), .slice (some ⟨da, 0, none⟩) n cd, .slice (some ⟨df, 0, none⟩) n cf, q13, q14, q15, q16, q17, q18, q19, q20, q21, q22, q23, q24, q25, q26, q27, q28, q29, q30, q31, q32, q33, q34, q35, q36, q37, q38, q39, q40, q41, q42, q43, q44, q45, q46, q47, q48, q49, q50, q51, q52, q53, q54, q55, q56, q57, q58, q59, q60, q61, q62, q63, q64, q65, q66, q67, q68, q69, q70, q71, q72, q73, q74, q75, q76, q77, q78, q79, q80, q81, q82, q83, q84, q85, q86, q87, q88, q89, q90, q91, q92, q93, q94, q95, q96, q97, q98, q99, q100, q101, q102, q103, q104, q105, q106, q107, q108, q109, q110, q111, q112, q113, q114, q115, q116, q117, q118, q119, q120, q121, q122, q123, q124, q125, q126, q127, q128, q129, q130, q131, q132, q133, q134, q135, q136, q137, q138, q139, q140, q141, q142, q143, q144, q145, q146, q147, q148, q149, q150, q151, q152, q153, q154, q155, q156, q157, q158, q159, q160, q161, q162, q163, q164, q165, q166, q167, q168, q169, q170, q171, q172, q173, q174, q175, q176, q177, q178, q179, q180, q181, q182, q183, q184, q185, q186, q187, q188, q189, q190, q191, q192, q193, q194, q195, q196, q197, q198, q199, q200, q201, q202, q203, q204, q205, q206, q207, q208, q209, q210, q211, q212, q213, q214, q215, q216, q217, q218, q219, q220, q221, q222, q223, q224, q225, q226, q227, q228, q229, q230, q231, q232, q233, q234, q235, q236, q237, q238, q239, q240, q241, q242, q243, q244, q245, q246, q247, q248, q249, q250, q251, q252, q253, q254, q255, q256, q257, q258, q259, q260, q261, q262, q263, q264, q265, q266, q267, q268, q269, q270, q271, q272, q273, q274, q275, q276, q277, q278, q279, q280, q281, q282, q283, q284, q285, q286, q287, q288, q289, q290, q291, q292, q293, q294, q295, q296, q297, q298, q299, q300, q301, q302, q303, q304, q305, q306, q307, q308, q309, q310, q311, q312, q313, q314, q315, q316, q317, q318, q319, q320, q321, q322, q323, q324, q325, q326, q327, q328, q329, q330, q331], []⟩ w := by
  have hz := Tryd.zeroSet
  conv => arg 2; whnf
  go_wp2_with fail
  refine (H.used HS.out.lp.pg HS.out.lp.inv).mono ?_
  rintro e w1 ⟨rfl, hb⟩
  have HS1 := Lib.hid (HS.out.carry H hb)
  clear hb HS
  dsimp only
  go_wp2_with (with_reducible refine stop_at (o := ⟨none, _, _, _, _, _⟩) ?_)
  have HUL := Lib.hid HS1.out.lp.inv.usedOk.len
  refine wpList_store_last rfl _ _ _ rfl (stArr zeroSt) (stArr s.used) _ rfl rfl rfl (by rw [stArr_size, HUL.out]; exact Tryd.setSize) (by rw [stArr_size, stArr_size, HUL.out]; rfl) (stArr_all _) ?_
  obtain ⟨uu, HUU⟩ : ∃ uu, Hid (uu = w1.heap.size) := ⟨_, Lib.hid rfl⟩
  obtain ⟨w2, HW⟩ : ∃ w2, Hid (w2 = w1.alloc (.cells (stArr s.used) 53)) := ⟨_, Lib.hid rfl⟩
  rw [← HW.out, ← HUU.out]
  have HT2 : Hid (TlS O w0 K P D n d s g a b c fu fn fg da df dt ft uu w2) := Lib.hid ⟨HS1.out.carry H (by rw [HW.out]; exact (Below.refl _ _).alloc (Nat.le_refl _) _), by rw [HW.out, HUU.out]; exact SOwn.new _⟩
  clear HW HS1 HUU HUL
  go_wp2_with fail
  go_loopw [28] (fun i wr => TlRel O w0 K P D n d s g a b c fu fn fg da df dt ft uu i wr) (fun i _ => n - (intOf i).toNat)
  case atStart => exact ⟨0, Nat.zero_le _, rfl, HT2.out⟩
  case round =>
    obtain ⟨k, hk, rfl, ht⟩ := hrel
    have HT := Lib.hid ht
    clear ht HT2 hz
    by_cases hlt : k < n
    · have hlt2 : (k : Int) < (n : Int) := by omega
      have hk240 : k < 240 := by omega
      go_upto_region 67 with (fail)
      refine has_cmp H hk240 HT (fun _ _ _ _ _ h => hq _ _ _ _ _ h) (Lib.hid ?_)
      intros
      rename_i w3 ht3
      have HT3 := Lib.hid ht3
      clear ht3 HT
      have c0 := HT3.out.p.lm.x.h0
      have r0 := HT3.out.p.lm.rows.ru.at_ k hlt
      obtain ⟨v, HV⟩ : ∃ v, Hid (fu k = v) := ⟨_, Lib.hid rfl⟩
      rw [HV.out] at r0
      cases v with
      | true =>
        go_wp2_with fail
        have HLD : Hid (Calls Tryd.prog 23 #[ptr P, .int .i64 (k : Int)] w3 (Two (.string (dt k)) 0 w3)) := Lib.hid (by
          have h1 : isInZ s (k : Int) = true := by rw [isInZ_nat hk240, HT3.out.p.isIn hlt]; simp [HV.out]
          have h2 := H.load HT3.out.p.lp.pg HT3.out.p.lp.inv HT3.out.p.lp.up (HT3.out.p.lp.laid HG.out).crc (k : Int)
          rw [if_pos h1, if_pos h1, Int.toNat_natCast, txt_of] at h2
          exact h2)
        refine HLD.out.mono ?_
        rintro e w4 ⟨v, rfl, he, hb⟩
        obtain rfl := he.zero
        have HT4 := Lib.hid (TlS.carry H HT3.out hb)
        clear he hb HLD HT3 c0 r0
        dsimp only
        have y0 := HT4.out.p.lm.ds.at_ k hlt
        have hyy : ((dt k).data.toList == (dt k).data.toList) = true := by simp
        go_wp2_with fail
        refine (Num_nil _).mono ?_
        rintro e w' ⟨rfl, rfl⟩
        dsimp only
        go_wp2_with fail
        go_roundw
        case rel => exact ⟨k + 1, hlt, by go_num, HT4.out⟩
        case measure => simp [intOf]; omega
      | false =>
        go_wp2_with fail
        go_roundw
        case rel => exact ⟨k + 1, hlt, by go_num, HT3.out⟩
        case measure => simp [intOf]; omega
    · obtain rfl : k = n := by omega
      go_upto_region 73 with (fail)
      refine rg_cmp H HT (fun _ _ _ _ _ h => hq _ _ _ _ _ h) (Lib.hid ?_)
      intros
      rename_i w3 ht3
      go_wp2_with fail
      exact HQ.out _ ht3.p
end Go.Proofs.YtbcapaafoklhdaaDoor
