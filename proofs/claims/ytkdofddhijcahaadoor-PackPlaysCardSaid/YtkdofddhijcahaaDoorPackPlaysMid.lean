/-
  The walk of the statement PackPlays from its call of Fields on: it answers true, and no memory that was there has turned. Conditions: what stands in the frame there.
-/
import Derived.Test.YtkdofddhijcahaaDoorPackRef
import Derived.Test.YtkdofddhijcahaaDoorPackGetsWalk
import Derived.Deep.RegionLaw
import Derived.BigQuiet
import Derived.Deep.LoopGhost
import Derived.Deep.DeepCutAuto
import Derived.Deep.CutBlock
import Derived.Test.YtkdofddhijcahaaDoorPackPlaysEnd
namespace Go.Proofs.YtkdofddhijcahaaDoor
open Go.RowKit

theorem zip_take_succ {zs ms : List Int} {j : Nat} (h1 : j < zs.length) (h2 : j < ms.length) : (zs.take (j + 1)).zip (ms.take (j + 1)) = (zs.take j).zip (ms.take j) ++ [(zs[j], ms[j])] := by
  have e : ∀ k, (zs.take k).zip (ms.take k) = (zs.zip ms).take k := fun k => List.take_zipWith.symm
  have hz : j < (zs.zip ms).length := by rw [List.length_zip]; omega
  rw [e, e, List.take_add_one, List.getElem?_eq_getElem hz, List.getElem_zip]
  rfl
theorem fitA_succ {zs ms : List Int} {j : Nat} (h1 : j < zs.length) (h2 : j < ms.length) : fitA (zs.take (j + 1)) (ms.take (j + 1)) = (fitA (zs.take j) (ms.take j) && fitZ zs[j] ms[j]) := by
  unfold fitA
  rw [zip_take_succ h1 h2, List.all_append]
  simp
theorem laidZ_succ {zs ms : List Int} {j : Nat} (h1 : j < zs.length) (h2 : j < ms.length) : laidZ (zs.take (j + 1)) (ms.take (j + 1)) = laidZ (zs.take j) (ms.take j) ++ be zs[j].toNat ms[j].toNat := by
  unfold laidZ
  rw [zip_take_succ h1 h2, List.map_append, lays_append]
  exact congrArg _ (lays_one _)
theorem fitA_wrong {zs ms : List Int} {j : Nat} (h1 : j < zs.length) (h2 : j < ms.length) (h : fitZ zs[j] ms[j] = false) : fitA zs ms = false := by
  rw [← Bool.not_eq_true]
  intro h9
  rw [fitA, List.all_eq_true] at h9
  have hz : j < (zs.zip ms).length := by rw [List.length_zip]; omega
  have h8 := h9 _ (List.getElem_mem hz)
  rw [List.getElem_zip] at h8
  rw [h] at h8
  cases h8
theorem bytes_append (a b : List UInt8) : (⟨a.toArray⟩ : ByteArray) ++ ⟨b.toArray⟩ = ⟨(a ++ b).toArray⟩ := by
  apply ByteArray.ext
  rw [ByteArray.data_append]
  simp
theorem putZ_size (m n : Int) : (putZ m n).size ≤ 4 := by
  cases h : fitZ m n with
  | false => rw [putZ_no h]; exact Nat.zero_le _
  | true =>
    obtain ⟨k, x, rfl, rfl, h1, h4, hx⟩ := fitZ_true h
    rw [putZ_nat h]
    show (be k x).length ≤ 4
    rw [be_length]
    exact h4
theorem putZ_bytes {m n : Int} (h : fitZ m n = true) : putZ m n = ⟨(be m.toNat n.toNat).toArray⟩ := by
  unfold putZ
  rw [if_pos h]
theorem fits_q (m n : Int) (b : Bool) (w : World) (hn : n ≤ 9223372036854775807) (h : fitZ m n = b) : Calls Tryd.prog 12 #[.int .i64 m, .int .i64 n] w fun e w' => e = .returned (.bool b) ∧ w' = w := by
  rw [← h]
  exact (RefFits_any m n w hn).mono fun _ _ h => ⟨h.1, h.2.symm⟩
/-- one number more, or one that doesn't fit -/
def PlaysRel (B : Nat) (zs ms : List Int) (w : World) (c l i : Value) (wr : World) : Prop :=
  ∃ (j : Nat) (L : ByteArray), i = .int .i64 (j : Int) ∧ l = .string L ∧ L.size ≤ 4 * j ∧ Below B w wr ∧ ((j ≤ zs.length ∧ c = .int .i64 0 ∧ fitA (zs.take j) (ms.take j) = true ∧ L = ⟨(laidZ (zs.take j) (ms.take j)).toArray⟩) ∨ (j ≤ zs.length ∧ c = .int .i64 8 ∧ fitA zs ms = false))

set_option maxHeartbeats 20000000 in
set_option maxRecDepth 100000 in
theorem plays_mid {m n : Int} {s : ByteArray} {zs ms : List Int} {A A2 : Option Addr} {cap cap2 : Nat} {w wc : World} {Z : Int} {q5 q6 q7 q8 q9 q10 q11 q12 q13 q14 q15 q16 q17 q18 q19 q20 q21 q22 q23 q24 q25 q26 q27 q28 q29 q30 q31 q32 q33 q34 q35 q36 q37 q38 q39 q40 q41 q42 q43 q44 q45 q46 q47 q48 q49 q50 q51 q52 q53 q54 q55 q56 q57 q58 q59 q60 q61 q62 q63 q64 q65 q66 q67 q68 q69 q70 q71 q72 q73 q74 q75 q76 q77 q78 q79 q80 q81 q82 q83 q84 q85 q86 q87 q88 q89 q90 q91 q92 q93 q94 q95 q96 q97 q98 q99 q100 q101 q102 q103 q104 q105 q106 q107 q108 q109 q110 q111 q112 q113 q114 q115 q116 q117 q118 q119 q120 q121 q122 q123 q124 q125 q126 q127 q128 q129 q130 q131 q132 q133 q134 q135 q136 q137 q138 q139 q140 q141 q142 q143 q144 q145 q146 q147 q148 q149 q150 q151 q152 q153 q154 q155 q156 q157 q158 q159 q160 q161 q162 q163 q164 q165 q166 q167 q168 q169 q170 q171 q172 q173 q174 q175 q176 q177 q178 q179 q180 q181 q182 q183 q184 q185 q186 q187 q188 q189 q190 q191 q192 q193 q194 q195 : Value}
    (hl : zs.length ≤ 60) (HMS : Hid (∀ z ∈ ms, z ≤ 9223372036854775807)) (HA : Hid (Nums w .i64 A zs)) (HA2 : Hid (Nums w .i64 A2 ms)) (HG : Hid (Laid w)) (HZ : Hid (Z = sizeZ zs)) (hcut : Hid (Below w.heap.size w wc)) :
    Code.wp Tryd.prog (behind 7 (Tryd.f4.body.getD .skip)) (bodyPost Tryd.prog Tryd.f4 fun e w' => e = Ending.returned (Value.bool true) ∧ Below w.heap.size w w')
      ⟨#[.int .i64 m, .int .i64 n, .string s, .slice A zs.length cap, .slice A2 ms.length cap2, q5, q6, q7, q8, q9, q10, q11, q12, q13, q14, q15, q16, q17, q18, q19, q20, q21, q22, q23, q24, q25, q26, q27, q28, q29, q30, q31, q32, q33, q34, q35, q36, q37, q38, q39, q40, q41, q42, q43, q44, q45, q46, q47, q48, q49, q50, q51, q52, q53, q54, q55, q56, q57, q58, q59, q60, q61, q62, q63, q64, q65, q66, q67, q68, q69, q70, q71, q72, q73, q74, q75, q76, q77, q78, q79, q80, q81, q82, q83, q84, q85, q86, q87, q88, q89, q90, q91, q92, q93, q94, q95, q96, q97, q98, q99, q100, q101, q102, q103, q104, q105, q106, q107, q108, q109, q110, q111, q112, q113, q114, q115, q116, q117, q118, q119, q120, q121, q122, q123, q124, q125, q126, q127, q128, q129, q130, q131, q132, q133, q134, q135, q136, q137, q138, q139, q140, q141, q142, q143, q144, q145, q146, q147, q148, q149, q150, q151, q152, q153, q154, q155, q156, q157, q158, q159, q160, q161, q162, q163, q164, q165, q166, q167, q168, q169, q170, q171, q172, q173, q174, q175, q176, q177, q178, q179, q180, q181, q182, q183, q184, q185, q186, q187, q188, q189, q190, q191, q192, q193, q194, q195], []⟩ wc := by
  conv => arg 2; whnf
  go_wp2_with fail
  refine (Fields_any zs ms A A2 cap cap2 _ (HA.out.carry hcut.out) (HA2.out.carry hcut.out)).mono ?_
  obtain ⟨T, HT⟩ : ∃ T, Hid (T = textZ zs ms) := ⟨_, Lib.hid rfl⟩
  obtain ⟨C, HC⟩ : ∃ C, Hid (C = codeZ zs ms) := ⟨_, Lib.hid rfl⟩
  unfold FieldsAny
  rw [← HT.out, ← HC.out]
  rintro e w5 ⟨v2, rfl, he2, hb5⟩
  have HE2 := Lib.hid he2
  have HB5 : Hid (Below w.heap.size w w5) := Lib.hid (hcut.out.trans (hb5.mono hcut.out.size))
  clear he2 hb5 hcut
  go_upto_region 20 with (fail)
  go_cut [113] (fun s113 wx => s113 = .bool (!(okW zs && decide (ms.length = zs.length))) ∧ w5 = wx)
  case first =>
    go_wp2_with fail
    refine (RefSize_any zs A cap _ (HA.out.carry HB5.out)).mono ?_
    rw [← HZ.out]
    rintro e w' ⟨rfl, rfl⟩
    cases hok : okW zs with
    | false =>
      have hz : Z = -1 := by rw [HZ.out, sizeZ_bad hok]
      subst hz
      have HOK := Lib.hid hok
      clear hok
      go_wp2_with fail
      go_meet
      exact ⟨by rw [HOK.out]; rfl, rfl⟩
    | true =>
      have hz : 0 ≤ Z := by
        obtain ⟨ws, rfl, hw⟩ := okW_true hok
        rw [HZ.out, sizeZ_ints hw]
        omega
      have hz2 : decide (Z < 0) = false := by simp; omega
      have HOK := Lib.hid hok
      clear hok
      by_cases hml : ms.length = zs.length
      · have hml2 : ((ms.length : Int) != (zs.length : Int)) = false := by rw [hml]; simp
        have HML := Lib.hid hml
        clear hml
        go_wp2_with fail
        go_meet
        exact ⟨by rw [HOK.out, decide_eq_true HML.out]; first | rfl | simp; omega, rfl⟩
      · have hml2 : ((ms.length : Int) != (zs.length : Int)) = true := by simp; omega
        go_wp2_with fail
        go_meet
        exact ⟨by rw [HOK.out, decide_eq_false hml]; rfl, rfl⟩
  case rest =>
    obtain ⟨rfl, rfl⟩ := hcut
    obtain ⟨b, HBb⟩ : ∃ b, Hid (b = (okW zs && decide (ms.length = zs.length))) := ⟨_, Lib.hid rfl⟩
    rw [← HBb.out]
    go_upto_if 113 with (fail)
    go_cut [16] (fun s16 wx => s16 = .int .i64 (if b = true then 0 else 1) ∧ w5 = wx)
    case first =>
      cases b with
      | true =>
        go_wp2_with fail
        go_meet
        exact ⟨rfl, rfl⟩
      | false =>
        go_wp2_with fail
        go_meet
        exact ⟨rfl, rfl⟩
    case rest =>
      obtain ⟨rfl, rfl⟩ := hcut
      go_upto_block 0 with (fail)
      go_cut [16, 17] (fun s16 s17 wx => ∃ L : ByteArray, s16 = .int .i64 C ∧ s17 = .string L ∧ Hid (C = 0 → L = T) ∧ Hid (Below w5.heap.size w5 wx))
      case first =>
        cases b with
        | false =>
          have HC1 : Hid (C = 1) := Lib.hid (by
            rw [HC.out]
            unfold codeZ
            rw [if_neg]
            rintro ⟨h1, h2⟩
            have h9 := HBb.out
            rw [h1, decide_eq_true h2] at h9
            cases h9)
          rw [if_neg (by decide)]
          go_wp2_with fail
          go_loopw [16, 17, 18] (fun c l i wr => c = .int .i64 1 ∧ l = .string ⟨#[]⟩ ∧ i = .int .i64 0 ∧ w5 = wr) (fun _ _ _ _ => 0)
          case atStart => exact ⟨rfl, rfl, rfl, rfl⟩
          case round =>
            obtain ⟨rfl, rfl, rfl, rfl⟩ := hrel
            go_wp2_with fail
            all_goals
              go_meet
              exact ⟨⟨#[]⟩, by rw [HC1.out], rfl, Lib.hid (fun h => by have := HC1.out; omega), Lib.hid (Below.refl _ _)⟩
        | true =>
          have h9 := HBb.out
          rw [eq_comm, Bool.and_eq_true, decide_eq_true_eq] at h9
          have HOK := Lib.hid h9.1
          have HML := Lib.hid h9.2
          clear h9
          have HC2 : Hid (C = if fitA zs ms = true then 0 else 8) := Lib.hid (by rw [HC.out]; unfold codeZ; rw [if_pos ⟨HOK.out, HML.out⟩])
          rw [if_pos rfl]
          go_wp2_with fail
          go_loopw [16, 17, 18] (fun c l i wr => PlaysRel w5.heap.size zs ms w5 c l i wr) (fun _ _ i _ => zs.length - (intOf i).toNat)
          case atStart => exact ⟨0, ⟨#[]⟩, rfl, rfl, Nat.zero_le _, Below.refl _ _, .inl ⟨Nat.zero_le _, rfl, rfl, rfl⟩⟩
          case round =>
            obtain ⟨j, L, rfl, rfl, hL, hb6, hor⟩ := hrel
            have HB6 := Lib.hid hb6
            clear hb6
            rcases hor with ⟨hj, rfl, hfj, hLj⟩ | ⟨hj, rfl, hfj⟩
            · have HFJ := Lib.hid hfj
              have HLJ := Lib.hid hLj
              clear hfj hLj
              by_cases hlt : j < zs.length
              · have hlt2 : j < ms.length := by have := HML.out; omega
                obtain ⟨a, rfl, hc⟩ := ((HA.out.carry HB5.out).carry HB6.out).at_ (List.getElem?_eq_getElem hlt)
                obtain ⟨a2, rfl, hc2⟩ := ((HA2.out.carry HB5.out).carry HB6.out).at_ (List.getElem?_eq_getElem hlt2)
                obtain ⟨z, HZ9⟩ : ∃ z, Hid (z = zs[j]) := ⟨_, Lib.hid rfl⟩
                obtain ⟨y, HY9⟩ : ∃ y, Hid (y = ms[j]) := ⟨_, Lib.hid rfl⟩
                have hy : y ≤ 9223372036854775807 := by rw [HY9.out]; exact HMS.out _ (List.getElem_mem hlt2)
                rw [← HZ9.out] at hc
                rw [← HY9.out] at hc2
                obtain ⟨f, HF9⟩ : ∃ f, Hid (fitZ z y = f) := ⟨_, Lib.hid rfl⟩
                cases f with
                | false =>
                  go_wp2_with fail
                  go_quiet ((go_at_call 12; exact Calls.quiet_of_same (fits_q z y false _ hy HF9.out)))
                  go_wp2_with fail
                  go_roundw
                  case rel => exact ⟨j + 1, L, by go_num, rfl, by omega, below_drewN_of HB6.out _, .inr ⟨hlt, rfl, fitA_wrong hlt hlt2 (by rw [← HZ9.out, ← HY9.out]; exact HF9.out)⟩⟩
                  case measure => simp [intOf]; omega
                | true =>
                  obtain ⟨Pq, HPq⟩ : ∃ Pq, Hid (Pq = putZ z y) := ⟨_, Lib.hid rfl⟩
                  have hPq : Pq.size ≤ 4 := by rw [HPq.out]; exact putZ_size z y
                  have HQ := Lib.hid (fun w => RefPut_any z y w HF9.out)
                  rw [← HPq.out] at HQ
                  have hcat : ∀ w, (Op.stringOp .add L Pq).run Tryd.prog w = .ok (.string (L ++ Pq)) w := fun w => run_string_add_sum w _ _ (by omega)
                  go_wp2_with fail
                  go_quiet ((go_at_call 12; exact Calls.quiet_of_same (fits_q z y true _ hy HF9.out)))
                  go_wp2_with fail
                  go_region_law ((go_simp; go_at_call 13; refine (HQ.out _).mono ?_; rintro e w6 ⟨rfl, hb6⟩))
                  all_goals
                    have HB7 := Lib.hid ((below_drewN_of HB6.out _).drew.trans (hb6.mono HB6.out.size))
                    clear hb6 hcat
                    go_wp2_with fail
                    go_roundw
                    case rel =>
                      refine ⟨j + 1, L ++ Pq, by go_num, rfl, by rw [ByteArray.size_append]; omega, HB7.out, .inl ⟨hlt, rfl, ?_, ?_⟩⟩
                      · rw [fitA_succ hlt hlt2, HFJ.out, ← HZ9.out, ← HY9.out, HF9.out]; rfl
                      · rw [laidZ_succ hlt hlt2, ← HZ9.out, ← HY9.out, HPq.out, putZ_bytes HF9.out, HLJ.out]
                        exact bytes_append _ _
                    case measure => simp [intOf]; omega
              · obtain rfl : j = zs.length := by omega
                have hfa : fitA zs ms = true := by
                  have h9 := HFJ.out
                  rw [List.take_length, ← HML.out, List.take_length] at h9
                  exact h9
                have HC3 : Hid (C = 0) := Lib.hid (by rw [HC2.out, if_pos hfa])
                have HT3 : Hid (L = T) := Lib.hid (by
                  have h9 := HLJ.out
                  rw [List.take_length, ← HML.out, List.take_length] at h9
                  rw [HT.out, h9]
                  unfold textZ
                  rw [if_pos (by rw [← HC.out]; exact HC3.out)])
                clear hfa
                go_wp2_with fail
                go_meet
                exact ⟨L, by rw [HC3.out], rfl, Lib.hid (fun _ => HT3.out), HB6⟩
            · have HC3 : Hid (C = 8) := Lib.hid (by rw [HC2.out, if_neg (by rw [hfj]; decide)])
              clear hfj
              go_wp2_with fail
              all_goals
                go_meet
                exact ⟨L, by rw [HC3.out], rfl, Lib.hid (fun h => by have := HC3.out; omega), HB6⟩
      case rest =>
        obtain ⟨L, rfl, rfl, HLT, HB6⟩ := hcut
        rename_i hK
        exact hK _ _ (plays_end hl HA HG HZ HT HC HLT (Lib.hid (ErrIs.carry HE2.out HB6.out)) (Lib.hid (HB5.out.trans (HB6.out.mono HB5.out.size))))
end Go.Proofs.YtkdofddhijcahaaDoor
