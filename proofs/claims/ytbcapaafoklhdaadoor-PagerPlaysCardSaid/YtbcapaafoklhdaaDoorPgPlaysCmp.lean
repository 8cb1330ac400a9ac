/-
  PagerPlays' two comparisons that draw their order. Conditions: the pager's calls are as PgSpec says.
-/
import Derived.Test.YtbcapaafoklhdaaDoorPgPlaysCode
import Derived.Test.YtbcapaafoklhdaaDoorSets
import Derived.Test.YtbcapaafoklhdaaDoorDisks
namespace Go.Proofs.YtbcapaafoklhdaaDoor
open Go.RowKit

/-- a region, by its number -/
def findR (n : Nat) : Code → Option Code
  | .region m o x => if m = n then some (.region m o x) else none
  | .seq a b => (findR n a).or (findR n b)
  | .block _ c => findR n c
  | .cond _ a b => (findR n a).or (findR n b)
  | .loop c => findR n c
  | _ => none
noncomputable def regCode (n : Nat) : Code := (findR n (Tryd.f3.body.getD .skip)).getD .skip
/-- all that is held, and a set in a block -/
structure TlS (O : PgOwn) (w0 : World) (K : Nat → Prop) (P D n : Nat) (d : Dk) (s : Pst) (g a b c : Nat) (fu fn fg : Nat → Bool) (da df : Nat) (dt ft : Nat → ByteArray) (uu : Nat) (w : World) : Prop where
  p : PlSt O w0 K w P D n d s g a b c fu fn fg da df dt ft
  u : SOwn w uu s.used
theorem TlS.carry {O : PgOwn} (H : PgSpec O) {w0 : World} {K : Nat → Prop} {P D n : Nat} {d : Dk} {s : Pst} {g a b c : Nat} {fu fn fg : Nat → Bool} {da df : Nat} {dt ft : Nat → ByteArray} {uu : Nat} {w w' : World} (h : TlS O w0 K P D n d s g a b c fu fn fg da df dt ft uu w) (hb : Below w.heap.size w w') : TlS O w0 K P D n d s g a b c fu fn fg da df dt ft uu w' :=
  ⟨h.p.carry H hb, h.u.below hb (h.u.lt (by rw [h.p.lp.inv.usedOk.len]; decide))⟩
set_option maxRecDepth 100000 in
set_option maxHeartbeats 8000000 in
/-- what is used is what the document says -/
theorem has_cmp {O : PgOwn} (H : PgSpec O) {w0 : World} {K : Nat → Prop} {w : World} {P D n : Nat} {d : Dk} {s : Pst} {g a b c : Nat} {fu fn fg : Nat → Bool} {da cd df cf : Nat} {dt ft : Nat → ByteArray} {Q : Exit → Act → World → Prop} {uu : Nat} {k : Nat} (hk240 : k < 240) {q0 q1 q2 q3 q4 q7 q9 q13 q14 q15 q16 q17 q18 q19 q20 q21 q22 q23 q24 q25 q26 q29 q30 q31 q32 q33 q34 q35 q36 q37 q38 q39 q40 q41 q42 q43 q44 q45 q46 q47 q48 q49 q50 q51 q52 q53 q54 q55 q56 q57 q58 q59 q60 q61 q62 q63 q64 q65 q66 q67 q68 q69 q70 q71 q72 q73 q74 q75 q76 q77 q78 q79 q80 q81 q82 q83 q84 q85 q86 q87 q88 q89 q90 q91 q92 q93 q94 q95 q96 q97 q98 q99 q100 q101 q102 q103 q104 q105 q106 q107 q108 q109 q110 q111 q112 q113 q114 q115 q116 q117 q118 q119 q120 q121 q122 q123 q124 q125 q126 q127 q128 q129 q130 q131 q132 q133 q134 q135 q136 q137 q138 q139 q140 q141 q142 q143 q144 q145 q146 q147 q148 q149 q150 q151 q152 q153 q154 q155 q156 q157 q158 q159 q160 q161 q162 q163 q164 q165 q166 q167 q168 q169 q170 q171 q172 q173 q174 q175 q176 q177 q178 q179 q180 q181 q182 q183 q184 q185 q186 q187 q188 q189 q190 q191 q192 q193 q194 q195 q196 q197 q198 q199 q200 q201 q202 q203 q204 q205 q206 q207 q208 q209 q210 q211 q212 q213 q214 q215 q216 q217 q218 q219 q220 q221 q222 q223 q224 q225 q226 q227 q228 q229 q230 q231 q232 q233 q234 q235 q236 q237 q238 q239 q240 q241 q242 q243 q244 q245 q246 q247 q248 q249 q250 q251 q252 q253 q254 q255 q256 q257 q258 q259 q260 q261 q262 q263 q264 q265 q266 q267 q268 q269 q270 q271 q272 q273 q274 q275 q276 q277 q278 q279 q280 q281 q282 q283 q284 q285 q286 q287 q288 q289 q290 q291 q292 q293 q294 q295 q296 q297 q298 q299 q300 q301 q302 q303 q304 q305 q306 q307 q308 q309 q310 q311 q312 q313 q314 q315 q316 q317 q318 q319 q320 q321 q322 q323 q324 q325 q326 q327 q328 q329 q330 q331 : Value} (HT : Hid (TlS O w0 K P D n d s g a b c fu fn fg da df dt ft uu w))
    (hq : ∀ x (a : Act) w t v, Q (.panic x) (a.put (some t) v) w → Q (.panic x) a w) (HQ : Hid (∀ {r291 r292 r293 r294 r295 r296 : Value} (w' : World), TlS O w0 K P D n d s g a b c fu fn fg da df dt ft uu w' → Q .normal ⟨#[q0, q1, q2, q3, q4, .int .i64 (n : Int), .pointer (some ⟨D, 0, none⟩), q7, ptr P, q9, .pointer (some ⟨g, 0, none⟩), .slice (some ⟨da, 0, none⟩) n cd, .slice (some ⟨df, 0, none⟩) n cf, q13, q14, q15, q16, q17, q18, q19, q20, q21, q22, q23, q24, q25, q26, .pointer (some ⟨uu, 0, none⟩), .int .i64 (k : Int), q29, q30, q31, q32, q33, q34, q35, q36, q37, q38, q39, q40, q41, q42, q43, q44, q45, q46, q47, q48, q49, q50, q51, q52, q53, q54, q55, q56, q57, q58, q59, q60, q61, q62, q63, q64, q65, q66, q67, q68, q69, q70, q71, q72, q73, q74, q75, q76, q77, q78, q79, q80, q81, q82, q83, q84, q85, q86, q87, q88, q89, q90, q91, q92, q93, q94, q95, q96, q97, q98, q99, q100, q101, q102, q103, q104, q105, q106, q107, q108, q109, q110, q111, q112, q113, q114, q115, q116, q117, q118, q119, q120, q121, q122, q123, q124, q125, q126, q127, q128, q129, q130, q131, q132, q133, q134, q135, q136, q137, q138, q139, q140, q141, q142, q143, q144, q145, q146, q147, q148, q149, q150, q151, q152, q153, q154, q155, q156, q157, q158, q159, q160, q161, q162, q163, q164, q165, q166, q167, q168, q169, q170, q171, q172, q173, q174, q175, q176, q177, q178, q179, q180, q181, q182, q183, q184, q185, q186, q187, q188, q189, q190, q191, q192, q193, q194, q195, q196, q197, q198, q199, q200, q201, q202, q203, q204, q205, q206, q207, q208, q209, q210, q211, q212, q213, q214, q215, q216, q217, q218, q219, q220, q221, q222, q223, q224, q225, q226, q227, q228, q229, q230, q231, q232, q233, q234, q235, q236, q237, q238, q239, q240, q241, q242, q243, q244, q245, q246, q247, q248, q249, q250, q251, q252, q253, q254, q255, q256, q257, q258, q259, q260, q261, q262, q263, q264, q265, q266, q267, q268, q269, q270, q271, q272, q273, q274, q275, q276, q277, q278, q279, q280, q281, q282, q283, q284, q285, q286, q287, q288, q289, q290, r291, r292, r293, r294, r295, r296, .bool false, q298, q299, q300, q301, q302, q303, q304, q305, q306, q307, q308, q309, q310, q311, q312, q313, q314, q315, q316, q317, q318, q319, q320, q321, q322, q323, q324, q325, q326, q327, q328, q329, q330, q331], []⟩ w')) :
    Code.wp Tryd.prog (regCode 67) Q ⟨#[q0, q1, q2, q3, q4, .int .i64 (n : Int), .pointer (some ⟨D, 0, none⟩), q7, ptr P, q9, .pointer (some ⟨g, 0, none⟩), .slice (some ⟨da, 0, none⟩) n cd, .slice (some ⟨df, 0, none⟩) n cf, q13, q14, q15, q16, q17, q18, q19, q20, q21, q22, q23, q24, q25, q26, .pointer (some ⟨uu, 0, none⟩), .int .i64 (k : Int), q29, q30, q31, q32, q33, q34, q35, q36, q37, q38, q39, q40, q41, q42, q43, q44, q45, q46, q47, q48, q49, q50, q51, q52, q53, q54, q55, q56, q57, q58, q59, q60, q61, q62, q63, q64, q65, q66, q67, q68, q69, q70, q71, q72, q73, q74, q75, q76, q77, q78, q79, q80, q81, q82, q83, q84, q85, q86, q87, q88, q89, q90, q91, q92, q93, q94, q95, q96, q97, q98, q99, q100, q101, q102, q103, q104, q105, q106, q107, q108, q109, q110, q111, q112, q113, q114, q115, q116, q117, q118, q119, q120, q121, q122, q123, q124, q125, q126, q127, q128, q129, q130, q131, q132, q133, q134, q135, q136, q137, q138, q139, q140, q141, q142, q143, q144, q145, q146, q147, q148, q149, q150, q151, q152, q153, q154, q155, q156, q157, q158, q159, q160, q161, q162, q163, q164, q165, q166, q167, q168, q169, q170, q171, q172, q173, q174, q175, q176, q177, q178, q179, q180, q181, q182, q183, q184, q185, q186, q187, q188, q189, q190, q191, q192, q193, q194, q195, q196, q197, q198, q199, q200, q201, q202, q203, q204, q205, q206, q207, q208, q209, q210, q211, q212, q213, q214, q215, q216, q217, q218, q219, q220, q221, q222, q223, q224, q225, q226, q227, q228, q229, q230, q231, q232, q233, q234, q235, q236, q237, q238, q239, q240, q241, q242, q243, q244, q245, q246, q247, q248, q249, q250, q251, q252, q253, q254, q255, q256, q257, q258, q259, q260, q261, q262, q263, q264, q265, q266, q267, q268, q269, q270, q271, q272, q273, q274, q275, q276, q277, q278, q279, q280, q281, q282, q283, q284, q285, q286, q287, q288, q289, q290, q291, q292, q293, q294, q295, q296, q297, q298, q299, q300, q301, q302, q303, q304, q305, q306, q307, q308, q309, q310, q311, q312, q313, q314, q315, q316, q317, q318, q319, q320, q321, q322, q323, q324, q325, q326, q327, q328, q329, q330, q331], []⟩ w := by
  conv => arg 2; whnf
  have HUO := Lib.hid HT.out.p.lp.inv.usedOk
  obtain ⟨v, HV⟩ : ∃ v, Hid (Bits.has s.used k = v) := ⟨_, Lib.hid rfl⟩
  refine wp_region_held (S := TlS O w0 K P D n d s g a b c fu fn fg da df dt ft uu) (by kernel_rfl) ?_
  change wpAnyH _ _ _ _ _ _ _ _ w.drew
  obtain ⟨w4, HW⟩ : ∃ w1, Hid (w1 = w.drew) := ⟨_, Lib.hid rfl⟩
  rw [← HW.out]
  have hS : TlS O w0 K P D n d s g a b c fu fn fg da df dt ft uu w4 := by rw [HW.out]; exact TlS.carry H HT.out (Below.refl _ _).drew
  clear HW
  cases v with
  | true =>
    refine takeH (i := 0) 291 (v := stV s.used) rfl (by kernel_rfl) (by kernel_rfl) (by kernel_rfl) rfl (fun _ _ _ h => hq _ _ _ _ _ h) (yieldsIf_set (by rfl) _ rfl uu rfl s.used HUO.out.len (fun _ h => h.u.at_)) hS ?_
    simp only [Act.put, List.setIfInBounds_toArray, List.set_cons_zero, List.set_cons_succ]
    refine takeH (i := 1) 292 (v := .int .i64 (k : Int)) rfl (by kernel_rfl) (by kernel_rfl) (by kernel_rfl) rfl (fun _ _ _ h => hq _ _ _ _ _ h) (.inl ⟨by rfl, fun _ _ => by go_simp⟩) hS ?_
    simp only [Act.put, List.setIfInBounds_toArray, List.set_cons_zero, List.set_cons_succ]
    refine takeH (i := 3) 294 (v := rpV n a b c s.sup.root s.sup.gen) rfl (by kernel_rfl) (by kernel_rfl) (by kernel_rfl) rfl (fun _ _ _ h => hq _ _ _ _ _ h) (yieldsIf_rp (by rfl) _ rfl rfl (fun _ h => h.p.lm.x)) hS ?_
    simp only [Act.put, List.setIfInBounds_toArray, List.set_cons_zero, List.set_cons_succ]
    refine takeH (i := 4) 295 (v := .int .i64 (k : Int)) rfl (by kernel_rfl) (by kernel_rfl) (by kernel_rfl) rfl (fun _ _ _ h => hq _ _ _ _ _ h) (.inl ⟨by rfl, fun _ _ => by go_simp⟩) hS ?_
    simp only [Act.put, List.setIfInBounds_toArray, List.set_cons_zero, List.set_cons_succ]
    refine oneH (i := 2) (oi := ⟨some 293, _, _, _, _, _⟩) rfl (by kernel_rfl) (fun K hK => ?_)
    go_simp
    refine (Has_yes s.used HUO.out k hk240 _).mono ?_
    rw [HV.out]
    rintro e wn ⟨rfl, hb⟩
    have hS2 := TlS.carry H hS hb
    clear hb hS
    refine hK.out _ _ hS2 ?_
    clear hK K
    have hS := hS2
    clear hS2
    refine oneH (i := 5) (oi := ⟨some 296, _, _, _, _, _⟩) rfl (by kernel_rfl) (fun K hK => ?_)
    go_simp
    refine (RefNow_any hS.p.lm.rows s.sup.root s.sup.gen (k : Int)).mono ?_
    rw [hS.p.now, hasI_nat hk240, HV.out]
    rintro e wn ⟨rfl, hb⟩
    have hS2 := TlS.carry H hS hb
    clear hb hS
    refine hK.out _ _ hS2 ?_
    clear hK K
    have hS := hS2
    clear hS2
    refine takeH (i := 6) 297 (v := .bool false) rfl (by kernel_rfl) (by kernel_rfl) (by kernel_rfl) rfl (fun _ _ _ h => hq _ _ _ _ _ h) (.inl ⟨by rfl, fun _ _ => by go_simp⟩) hS ?_
    simp only [Act.put, List.setIfInBounds_toArray, List.set_cons_zero, List.set_cons_succ]
    refine wpAnyH_done (by kernel_rfl) ?_ _
    exact HQ.out _ hS
  | false =>
    refine takeH (i := 0) 291 (v := stV s.used) rfl (by kernel_rfl) (by kernel_rfl) (by kernel_rfl) rfl (fun _ _ _ h => hq _ _ _ _ _ h) (yieldsIf_set (by rfl) _ rfl uu rfl s.used HUO.out.len (fun _ h => h.u.at_)) hS ?_
    simp only [Act.put, List.setIfInBounds_toArray, List.set_cons_zero, List.set_cons_succ]
    refine takeH (i := 1) 292 (v := .int .i64 (k : Int)) rfl (by kernel_rfl) (by kernel_rfl) (by kernel_rfl) rfl (fun _ _ _ h => hq _ _ _ _ _ h) (.inl ⟨by rfl, fun _ _ => by go_simp⟩) hS ?_
    simp only [Act.put, List.setIfInBounds_toArray, List.set_cons_zero, List.set_cons_succ]
    refine takeH (i := 3) 294 (v := rpV n a b c s.sup.root s.sup.gen) rfl (by kernel_rfl) (by kernel_rfl) (by kernel_rfl) rfl (fun _ _ _ h => hq _ _ _ _ _ h) (yieldsIf_rp (by rfl) _ rfl rfl (fun _ h => h.p.lm.x)) hS ?_
    simp only [Act.put, List.setIfInBounds_toArray, List.set_cons_zero, List.set_cons_succ]
    refine takeH (i := 4) 295 (v := .int .i64 (k : Int)) rfl (by kernel_rfl) (by kernel_rfl) (by kernel_rfl) rfl (fun _ _ _ h => hq _ _ _ _ _ h) (.inl ⟨by rfl, fun _ _ => by go_simp⟩) hS ?_
    simp only [Act.put, List.setIfInBounds_toArray, List.set_cons_zero, List.set_cons_succ]
    refine oneH (i := 2) (oi := ⟨some 293, _, _, _, _, _⟩) rfl (by kernel_rfl) (fun K hK => ?_)
    go_simp
    refine (Has_yes s.used HUO.out k hk240 _).mono ?_
    rw [HV.out]
    rintro e wn ⟨rfl, hb⟩
    have hS2 := TlS.carry H hS hb
    clear hb hS
    refine hK.out _ _ hS2 ?_
    clear hK K
    have hS := hS2
    clear hS2
    refine oneH (i := 5) (oi := ⟨some 296, _, _, _, _, _⟩) rfl (by kernel_rfl) (fun K hK => ?_)
    go_simp
    refine (RefNow_any hS.p.lm.rows s.sup.root s.sup.gen (k : Int)).mono ?_
    rw [hS.p.now, hasI_nat hk240, HV.out]
    rintro e wn ⟨rfl, hb⟩
    have hS2 := TlS.carry H hS hb
    clear hb hS
    refine hK.out _ _ hS2 ?_
    clear hK K
    have hS := hS2
    clear hS2
    refine takeH (i := 6) 297 (v := .bool false) rfl (by kernel_rfl) (by kernel_rfl) (by kernel_rfl) rfl (fun _ _ _ h => hq _ _ _ _ _ h) (.inl ⟨by rfl, fun _ _ => by go_simp⟩) hS ?_
    simp only [Act.put, List.setIfInBounds_toArray, List.set_cons_zero, List.set_cons_succ]
    refine wpAnyH_done (by kernel_rfl) ?_ _
    exact HQ.out _ hS
set_option maxRecDepth 100000 in
set_option maxHeartbeats 8000000 in
/-- the root and the generation are what the document says -/
theorem rg_cmp {O : PgOwn} (H : PgSpec O) {w0 : World} {K : Nat → Prop} {w : World} {P D n : Nat} {d : Dk} {s : Pst} {g a b c : Nat} {fu fn fg : Nat → Bool} {da cd df cf : Nat} {dt ft : Nat → ByteArray} {Q : Exit → Act → World → Prop} {uu : Nat} {q0 q1 q2 q3 q4 q7 q9 q13 q14 q15 q16 q17 q18 q19 q20 q21 q22 q23 q24 q25 q26 q27 q28 q29 q30 q31 q32 q33 q34 q35 q36 q37 q38 q39 q40 q41 q42 q43 q44 q45 q46 q47 q48 q49 q50 q51 q52 q53 q54 q55 q56 q57 q58 q59 q60 q61 q62 q63 q64 q65 q66 q67 q68 q69 q70 q71 q72 q73 q74 q75 q76 q77 q78 q79 q80 q81 q82 q83 q84 q85 q86 q87 q88 q89 q90 q91 q92 q93 q94 q95 q96 q97 q98 q99 q100 q101 q102 q103 q104 q105 q106 q107 q108 q109 q110 q111 q112 q113 q114 q115 q116 q117 q118 q119 q120 q121 q122 q123 q124 q125 q126 q127 q128 q129 q130 q131 q132 q133 q134 q135 q136 q137 q138 q139 q140 q141 q142 q143 q144 q145 q146 q147 q148 q149 q150 q151 q152 q153 q154 q155 q156 q157 q158 q159 q160 q161 q162 q163 q164 q165 q166 q167 q168 q169 q170 q171 q172 q173 q174 q175 q176 q177 q178 q179 q180 q181 q182 q183 q184 q185 q186 q187 q188 q189 q190 q191 q192 q193 q194 q195 q196 q197 q198 q199 q200 q201 q202 q203 q204 q205 q206 q207 q208 q209 q210 q211 q212 q213 q214 q215 q216 q217 q218 q219 q220 q221 q222 q223 q224 q225 q226 q227 q228 q229 q230 q231 q232 q233 q234 q235 q236 q237 q238 q239 q240 q241 q242 q243 q244 q245 q246 q247 q248 q249 q250 q251 q252 q253 q254 q255 q256 q257 q258 q259 q260 q261 q262 q263 q264 q265 q266 q267 q268 q269 q270 q271 q272 q273 q274 q275 q276 q277 q278 q279 q280 q281 q282 q283 q284 q285 q286 q287 q288 q289 q290 q291 q292 q293 q294 q295 q296 q297 q298 q299 q300 q301 q302 q303 q304 q305 q306 q307 q308 q309 q310 q311 q312 q313 q314 q315 q316 q317 q318 q319 q320 q321 q322 q323 q324 q325 q326 q327 q328 q329 q330 q331 : Value} (HT : Hid (TlS O w0 K P D n d s g a b c fu fn fg da df dt ft uu w))
    (hq : ∀ x (a : Act) w t v, Q (.panic x) (a.put (some t) v) w → Q (.panic x) a w) (HQ : Hid (∀ {r320 r321 r322 r323 r324 r325 r326 r327 r328 r329 r330 : Value} (w' : World), TlS O w0 K P D n d s g a b c fu fn fg da df dt ft uu w' → Q .normal ⟨#[q0, q1, q2, q3, q4, .int .i64 (n : Int), .pointer (some ⟨D, 0, none⟩), q7, ptr P, q9, .pointer (some ⟨g, 0, none⟩), .slice (some ⟨da, 0, none⟩) n cd, .slice (some ⟨df, 0, none⟩) n cf, q13, q14, q15, q16, q17, q18, q19, q20, q21, q22, q23, q24, q25, q26, q27, q28, q29, q30, q31, q32, q33, q34, q35, q36, q37, q38, q39, q40, q41, q42, q43, q44, q45, q46, q47, q48, q49, q50, q51, q52, q53, q54, q55, q56, q57, q58, q59, q60, q61, q62, q63, q64, q65, q66, q67, q68, q69, q70, q71, q72, q73, q74, q75, q76, q77, q78, q79, q80, q81, q82, q83, q84, q85, q86, q87, q88, q89, q90, q91, q92, q93, q94, q95, q96, q97, q98, q99, q100, q101, q102, q103, q104, q105, q106, q107, q108, q109, q110, q111, q112, q113, q114, q115, q116, q117, q118, q119, q120, q121, q122, q123, q124, q125, q126, q127, q128, q129, q130, q131, q132, q133, q134, q135, q136, q137, q138, q139, q140, q141, q142, q143, q144, q145, q146, q147, q148, q149, q150, q151, q152, q153, q154, q155, q156, q157, q158, q159, q160, q161, q162, q163, q164, q165, q166, q167, q168, q169, q170, q171, q172, q173, q174, q175, q176, q177, q178, q179, q180, q181, q182, q183, q184, q185, q186, q187, q188, q189, q190, q191, q192, q193, q194, q195, q196, q197, q198, q199, q200, q201, q202, q203, q204, q205, q206, q207, q208, q209, q210, q211, q212, q213, q214, q215, q216, q217, q218, q219, q220, q221, q222, q223, q224, q225, q226, q227, q228, q229, q230, q231, q232, q233, q234, q235, q236, q237, q238, q239, q240, q241, q242, q243, q244, q245, q246, q247, q248, q249, q250, q251, q252, q253, q254, q255, q256, q257, q258, q259, q260, q261, q262, q263, q264, q265, q266, q267, q268, q269, q270, q271, q272, q273, q274, q275, q276, q277, q278, q279, q280, q281, q282, q283, q284, q285, q286, q287, q288, q289, q290, q291, q292, q293, q294, q295, q296, q297, q298, q299, q300, q301, q302, q303, q304, q305, q306, q307, q308, q309, q310, q311, q312, q313, q314, q315, q316, q317, q318, q319, r320, r321, r322, r323, r324, r325, r326, r327, r328, r329, r330, .bool false], []⟩ w')) :
    Code.wp Tryd.prog (regCode 73) Q ⟨#[q0, q1, q2, q3, q4, .int .i64 (n : Int), .pointer (some ⟨D, 0, none⟩), q7, ptr P, q9, .pointer (some ⟨g, 0, none⟩), .slice (some ⟨da, 0, none⟩) n cd, .slice (some ⟨df, 0, none⟩) n cf, q13, q14, q15, q16, q17, q18, q19, q20, q21, q22, q23, q24, q25, q26, q27, q28, q29, q30, q31, q32, q33, q34, q35, q36, q37, q38, q39, q40, q41, q42, q43, q44, q45, q46, q47, q48, q49, q50, q51, q52, q53, q54, q55, q56, q57, q58, q59, q60, q61, q62, q63, q64, q65, q66, q67, q68, q69, q70, q71, q72, q73, q74, q75, q76, q77, q78, q79, q80, q81, q82, q83, q84, q85, q86, q87, q88, q89, q90, q91, q92, q93, q94, q95, q96, q97, q98, q99, q100, q101, q102, q103, q104, q105, q106, q107, q108, q109, q110, q111, q112, q113, q114, q115, q116, q117, q118, q119, q120, q121, q122, q123, q124, q125, q126, q127, q128, q129, q130, q131, q132, q133, q134, q135, q136, q137, q138, q139, q140, q141, q142, q143, q144, q145, q146, q147, q148, q149, q150, q151, q152, q153, q154, q155, q156, q157, q158, q159, q160, q161, q162, q163, q164, q165, q166, q167, q168, q169, q170, q171, q172, q173, q174, q175, q176, q177, q178, q179, q180, q181, q182, q183, q184, q185, q186, q187, q188, q189, q190, q191, q192, q193, q194, q195, q196, q197, q198, q199, q200, q201, q202, q203, q204, q205, q206, q207, q208, q209, q210, q211, q212, q213, q214, q215, q216, q217, q218, q219, q220, q221, q222, q223, q224, q225, q226, q227, q228, q229, q230, q231, q232, q233, q234, q235, q236, q237, q238, q239, q240, q241, q242, q243, q244, q245, q246, q247, q248, q249, q250, q251, q252, q253, q254, q255, q256, q257, q258, q259, q260, q261, q262, q263, q264, q265, q266, q267, q268, q269, q270, q271, q272, q273, q274, q275, q276, q277, q278, q279, q280, q281, q282, q283, q284, q285, q286, q287, q288, q289, q290, q291, q292, q293, q294, q295, q296, q297, q298, q299, q300, q301, q302, q303, q304, q305, q306, q307, q308, q309, q310, q311, q312, q313, q314, q315, q316, q317, q318, q319, q320, q321, q322, q323, q324, q325, q326, q327, q328, q329, q330, q331], []⟩ w := by
  conv => arg 2; whnf
  refine wp_region_held (S := TlS O w0 K P D n d s g a b c fu fn fg da df dt ft uu) (by kernel_rfl) ?_
  change wpAnyH _ _ _ _ _ _ _ _ w.drew
  obtain ⟨w4, HW⟩ : ∃ w1, Hid (w1 = w.drew) := ⟨_, Lib.hid rfl⟩
  rw [← HW.out]
  have hS : TlS O w0 K P D n d s g a b c fu fn fg da df dt ft uu w4 := by rw [HW.out]; exact TlS.carry H HT.out (Below.refl _ _).drew
  clear HW
  refine takeH (i := 0) 320 (v := ptr P) rfl (by kernel_rfl) (by kernel_rfl) (by kernel_rfl) rfl (fun _ _ _ h => hq _ _ _ _ _ h) (.inl ⟨by rfl, fun _ _ => by go_simp⟩) hS ?_
  simp only [Act.put, List.setIfInBounds_toArray, List.set_cons_zero, List.set_cons_succ]
  refine takeH (i := 2) 322 (v := .pointer (some ⟨g, 3, none⟩)) rfl (by kernel_rfl) (by kernel_rfl) (by kernel_rfl) rfl (fun _ _ _ h => hq _ _ _ _ _ h) (.inl ⟨by rfl, fun _ _ => by go_simp⟩) hS ?_
  simp only [Act.put, List.setIfInBounds_toArray, List.set_cons_zero, List.set_cons_succ]
  refine takeH (i := 3) 323 (v := .int .i64 s.sup.root) rfl (by kernel_rfl) (by kernel_rfl) (by kernel_rfl) rfl (fun _ _ _ h => hq _ _ _ _ _ h) (.inl ⟨by rfl, fun _ hw => by have e1 := hw.p.lm.x.h3; go_simp⟩) hS ?_
  simp only [Act.put, List.setIfInBounds_toArray, List.set_cons_zero, List.set_cons_succ]
  refine oneH (i := 1) (oi := ⟨some 321, _, _, _, _, _⟩) rfl (by kernel_rfl) (fun K hK => ?_)
  go_simp
  refine (H.pgRoot hS.p.lp.pg).mono ?_
  rintro e wn ⟨rfl, hb⟩
  have hS2 := TlS.carry H hS hb
  clear hb hS
  refine hK.out _ _ hS2 ?_
  clear hK K
  have hS := hS2
  clear hS2
  refine takeH (i := 4) 324 (v := .bool false) rfl (by kernel_rfl) (by kernel_rfl) (by kernel_rfl) rfl (fun _ _ _ h => hq _ _ _ _ _ h) (.inl ⟨by rfl, fun _ _ => by go_simp⟩) hS ?_
  simp only [Act.put, List.setIfInBounds_toArray, List.set_cons_zero, List.set_cons_succ]
  refine takeH (i := 5) 325 (v := .bool false) rfl (by kernel_rfl) (by kernel_rfl) (by kernel_rfl) rfl (fun _ _ _ h => hq _ _ _ _ _ h) (.inl ⟨by rfl, fun _ _ => by go_simp⟩) hS ?_
  simp only [Act.put, List.setIfInBounds_toArray, List.set_cons_zero, List.set_cons_succ]
  refine takeH (i := 6) 326 (v := ptr P) rfl (by kernel_rfl) (by kernel_rfl) (by kernel_rfl) rfl (fun _ _ _ h => hq _ _ _ _ _ h) (.inl ⟨by rfl, fun _ _ => by go_simp⟩) hS ?_
  simp only [Act.put, List.setIfInBounds_toArray, List.set_cons_zero, List.set_cons_succ]
  refine takeH (i := 8) 328 (v := .pointer (some ⟨g, 4, none⟩)) rfl (by kernel_rfl) (by kernel_rfl) (by kernel_rfl) rfl (fun _ _ _ h => hq _ _ _ _ _ h) (.inl ⟨by rfl, fun _ _ => by go_simp⟩) hS ?_
  simp only [Act.put, List.setIfInBounds_toArray, List.set_cons_zero, List.set_cons_succ]
  refine takeH (i := 9) 329 (v := .int .u32 (s.sup.gen : Int)) rfl (by kernel_rfl) (by kernel_rfl) (by kernel_rfl) rfl (fun _ _ _ h => hq _ _ _ _ _ h) (.inl ⟨by rfl, fun _ hw => by have e1 := hw.p.lm.x.h4; go_simp⟩) hS ?_
  simp only [Act.put, List.setIfInBounds_toArray, List.set_cons_zero, List.set_cons_succ]
  refine oneH (i := 7) (oi := ⟨some 327, _, _, _, _, _⟩) rfl (by kernel_rfl) (fun K hK => ?_)
  rw [if_pos (by rfl)]
  go_simp
  refine (H.pgGen hS.p.lp.pg).mono ?_
  rintro e wn ⟨rfl, hb⟩
  have hS2 := TlS.carry H hS hb
  clear hb hS
  refine hK.out _ _ hS2 ?_
  clear hK K
  have hS := hS2
  clear hS2
  refine takeH (i := 10) 330 (v := .bool false) rfl (by kernel_rfl) (by kernel_rfl) (by kernel_rfl) rfl (fun _ _ _ h => hq _ _ _ _ _ h) (.inl ⟨by rfl, fun _ _ => by go_simp⟩) hS ?_
  simp only [Act.put, List.setIfInBounds_toArray, List.set_cons_zero, List.set_cons_succ]
  refine takeH (i := 11) 331 (v := .bool false) rfl (by kernel_rfl) (by kernel_rfl) (by kernel_rfl) rfl (fun _ _ _ h => hq _ _ _ _ _ h) (.inl ⟨by rfl, fun _ _ => by go_simp⟩) hS ?_
  simp only [Act.put, List.setIfInBounds_toArray, List.set_cons_zero, List.set_cons_succ]
  refine wpAnyH_done (by kernel_rfl) ?_ _
  exact HQ.out _ hS
end Go.Proofs.YtbcapaafoklhdaaDoor
