/-
  The walk of the statement FramePlays behind its first part: the sum made right or not, the sector read in both ways. Conditions: what stands in the frame there.
-/
import Derived.Test.YtcpekkajcjgoiaaDoorFrAwake
import Derived.Test.YtcpekkajcjgoiaaDoorFrRefRead
import Derived.Deep.DeepCutAuto
namespace Go.Proofs.YtcpekkajcjgoiaaDoor
open Go.RowKit

/-- a body behind its first statements -/
def behind : Nat → Code → Code
  | 0, c => c
  | n + 1, .seq _ b => behind n b
  | _, c => c
set_option maxHeartbeats 8000000 in
set_option maxRecDepth 100000 in
theorem plays_end {b6 : Nat} {l : List UInt8} {w wc : World} {q0 q1 q2 q3 q4 q5 q7 q8 q9 q10 q11 q12 q13 q14 q15 q16 q17 q18 q19 q20 q21 q22 q23 q24 q25 q26 q27 q28 q29 q30 q31 q32 q33 q34 q35 q36 q37 q38 q39 q40 q41 q42 q43 q44 q45 q46 q47 q48 q49 q50 q51 q52 q53 q54 q55 q56 q57 q58 q59 q60 q61 q62 q63 q64 q65 q66 q67 q68 q69 q70 q71 q72 q73 q74 q75 q76 q77 q78 q79 q80 q81 q82 q83 q84 q85 q86 q87 q88 q89 q90 q91 q92 q93 q94 q95 q96 q97 q98 q99 q100 q101 q102 q103 q104 q105 q106 q107 : Value} (HL : Hid (l.length = 128)) (HO : Hid (Own wc b6 l)) (HG : Hid (Laid2 w)) (HB : Hid (Below w.heap.size w wc)) :
    Code.wp Tryd.prog (behind 7 (Tryd.f4.body.getD .skip)) (bodyPost Tryd.prog Tryd.f4 fun e w' => e = Ending.returned (Value.bool true) ∧ Below w.heap.size w w')
      ⟨#[q0, q1, q2, q3, q4, q5, .pointer (some ⟨b6, 0, none⟩), q7, q8, q9, q10, q11, q12, q13, q14, q15, q16, q17, q18, q19, q20, q21, q22, q23, q24, q25, q26, q27, q28, q29, q30, q31, q32, q33, q34, q35, q36, q37, q38, q39, q40, q41, q42, q43, q44, q45, q46, q47, q48, q49, q50, q51, q52, q53, q54, q55, q56, q57, q58, q59, q60, q61, q62, q63, q64, q65, q66, q67, q68, q69, q70, q71, q72, q73, q74, q75, q76, q77, q78, q79, q80, q81, q82, q83, q84, q85, q86, q87, q88, q89, q90, q91, q92, q93, q94, q95, q96, q97, q98, q99, q100, q101, q102, q103, q104, q105, q106, q107], []⟩ wc := by
  conv => arg 2; whnf
  go_wp2_with (with_reducible refine stop_at (o := ⟨some 83, _, _, _, _, _⟩) ?_)
  refine wpList_load_page rfl _ _ rfl b6 0 rfl (pgB l) (by rw [pgB_length]; exact HL.out) HO.out.at_ _ Tryd.underlying23 rfl Tryd.arrSize ?_
  go_wp2_with fail
  refine (FrRead_any l HL.out wc (HG.out.carry HB.out).crc).mono ?_
  obtain ⟨c, HC⟩ : ∃ c, Hid (c = codeB l) := ⟨_, Lib.hid rfl⟩
  obtain ⟨k, HK⟩ : ∃ k : Int, Hid (k = if codeB l = 0 then ((kB l).toNat : Int) else 0) := ⟨_, Lib.hid rfl⟩
  obtain ⟨z, HZ⟩ : ∃ z : ByteArray, Hid (z = if codeB l = 0 then ⟨(dB l).toArray⟩ else ⟨#[]⟩) := ⟨_, Lib.hid rfl⟩
  unfold ReadAns
  rw [← HK.out, ← HZ.out, ← HC.out]
  rintro e w1 ⟨v, rfl, he, hb⟩
  have HO1 : Hid (Own w1 b6 l) := Lib.hid (HO.out.below hb (HO.out.lt HL.out))
  have HB1 := Lib.hid (HB.out.trans (hb.mono HB.out.size))
  have HE1 := Lib.hid he
  clear he hb HO HB
  go_wp2_with (with_reducible refine stop_at (o := ⟨some 89, _, _, _, _, _⟩) ?_)
  refine wpList_load_page rfl _ _ rfl b6 0 rfl (pgB l) (by rw [pgB_length]; exact HL.out) HO1.out.at_ _ Tryd.underlying23 rfl Tryd.arrSize ?_
  go_wp2_with fail
  refine (RefRead_any l HL.out w1).mono ?_
  unfold RefReadAns
  rw [← HK.out, ← HZ.out, ← HC.out]
  rintro e w2 ⟨rfl, hb⟩
  have HB2 := Lib.hid (HB1.out.trans (hb.mono HB1.out.size))
  have HE2 := Lib.hid ((HE1.out.below hb).is)
  clear hb HE1 HB1 HO1
  go_wp2_with fail
  refine (Num_any c v w2 HE2.out (HG.out.carry HB2.out).err).mono ?_
  rintro e w3 ⟨rfl, hb⟩
  have HB3 := Lib.hid (HB2.out.trans (hb.mono HB2.out.size))
  clear hb
  go_wp2_with fail
  go_ret
  exact ⟨rfl, HB3.out⟩
def MendRel (w : World) (b6 : Nat) (t l : List UInt8) (i : Value) (wr : World) : Prop := ∃ j : Nat, j ≤ 4 ∧ i = .int .i64 (j : Int) ∧ Own wr b6 (t.take j ++ l.drop j) ∧ Below w.heap.size w wr
def MendCut (w : World) (b6 : Nat) (l : List UInt8) (wx : World) : Prop := Own wx b6 (mendB l) ∧ Below w.heap.size w wx
theorem take_put1 {y x : List UInt8} {j : Nat} (hy : j < y.length) (hx : y.length ≤ x.length) : (y.take j ++ x.drop j).set j y[j] = y.take (j + 1) ++ x.drop (j + 1) := by
  have ht : (y.take j).length = j := by rw [List.length_take]; omega
  have e : x.drop j = x[j]'(by omega) :: x.drop (j + 1) := List.drop_eq_getElem_cons (by omega)
  rw [List.set_append_right _ _ (by rw [ht]; exact Nat.le_refl _), ht, Nat.sub_self, e, List.set_cons_zero, List.take_succ_eq_append_getElem hy, List.append_assoc]
  rfl
theorem Own.put1 {w : World} {b j : Nat} {x y : List UInt8} (h : Own w b (y.take j ++ x.drop j)) (hy : j < y.length) (hx : y.length ≤ x.length) : Own (w.setCell ⟨b, j, none⟩ (.int .u8 (y[j].toNat : Int))) b (y.take (j + 1) ++ x.drop (j + 1)) := by
  have hl : j < (y.take j ++ x.drop j).length := by rw [List.length_append, List.length_take, List.length_drop]; omega
  have := range_put h.at_ hl y[j]
  rw [take_put1 hy hx] at this
  exact ⟨this, fun i => by rw [World.frozen?_setCell]; exact h.free i⟩
/-- a conclusion of the walk's own -/
theorem go_on {P : Program} {K : Act → World → Prop} {c : Code} {Q : Exit → Act → World → Prop} {a : Act} {w : World} (h : ∀ a w, Code.wp P c Q a w → K a w) (hw : Code.wp P c Q a w) : K a w := h a w hw
set_option maxHeartbeats 8000000 in
set_option maxRecDepth 100000 in
theorem plays_mid {b6 : Nat} {m : Bool} {l : List UInt8} {w wc : World} {q0 q1 q2 q4 q5 q7 q8 q9 q10 q11 q12 q13 q14 q15 q16 q17 q18 q19 q20 q21 q22 q23 q24 q25 q26 q27 q28 q29 q30 q31 q32 q33 q34 q35 q36 q37 q38 q39 q40 q41 q42 q43 q44 q45 q46 q47 q48 q49 q50 q51 q52 q53 q54 q55 q56 q57 q58 q59 q60 q61 q62 q63 q64 q65 q66 q67 q68 q69 q70 q71 q72 q73 q74 q75 q76 q77 q78 q79 q80 q81 q82 q83 q84 q85 q86 q87 q88 q89 q90 q91 q92 q93 q94 q95 q96 q97 q98 q99 q100 q101 q102 q103 q104 q105 q106 q107 : Value} (HL : Hid (l.length = 128)) (HO : Hid (Own wc b6 l)) (HG : Hid (Laid2 w)) (HB : Hid (Below w.heap.size w wc)) (HWB : Hid (w.heap.size ≤ b6)) :
    Code.wp Tryd.prog (behind 6 (Tryd.f4.body.getD .skip)) (bodyPost Tryd.prog Tryd.f4 fun e w' => e = Ending.returned (Value.bool true) ∧ Below w.heap.size w w')
      ⟨#[q0, q1, q2, .bool m, q4, q5, .pointer (some ⟨b6, 0, none⟩), q7, q8, q9, q10, q11, q12, q13, q14, q15, q16, q17, q18, q19, q20, q21, q22, q23, q24, q25, q26, q27, q28, q29, q30, q31, q32, q33, q34, q35, q36, q37, q38, q39, q40, q41, q42, q43, q44, q45, q46, q47, q48, q49, q50, q51, q52, q53, q54, q55, q56, q57, q58, q59, q60, q61, q62, q63, q64, q65, q66, q67, q68, q69, q70, q71, q72, q73, q74, q75, q76, q77, q78, q79, q80, q81, q82, q83, q84, q85, q86, q87, q88, q89, q90, q91, q92, q93, q94, q95, q96, q97, q98, q99, q100, q101, q102, q103, q104, q105, q106, q107], []⟩ wc := by
  conv => arg 2; whnf
  cases m
  · go_upto_if 67 with (fail)
    go_cut [] (fun wx => wc = wx)
    case first =>
      go_wp2_with fail
      go_meet
      rfl
    case rest =>
      subst hcut
      refine go_on (P := Tryd.prog) (by assumption) ?_
      exact plays_end HL HO HG HB
  · obtain ⟨t, HT⟩ : ∃ t, Hid (t = sumB (l.drop 4)) := ⟨_, Lib.hid rfl⟩
    have HTL : Hid (t.length = 4) := Lib.hid (by rw [HT.out]; exact sumB_length _)
    obtain ⟨z, HZ⟩ : ∃ z : ByteArray, Hid (z = ⟨t.toArray⟩) := ⟨_, Lib.hid rfl⟩
    have HZL : Hid (z.size = 4) := Lib.hid (by rw [HZ.out, toArr_size]; exact HTL.out)
    obtain ⟨u, HU⟩ : ∃ u : ByteArray, Hid (u = ⟨(l.drop 4).toArray⟩) := ⟨_, Lib.hid rfl⟩
    have HUS : Hid (u.size = 124) := Lib.hid (by rw [HU.out, toArr_size, List.length_drop, HL.out])
    have hcv := range_text (cap := 124) (n := 124) (range_drop HO.out.at_ 4) (by rw [List.length_drop, HL.out])
    rw [← HU.out, Nat.zero_add] at hcv
    obtain ⟨m, HM⟩ : ∃ m, Hid (m = (Crc.more 0#32 (l.drop 4)).toNat) := ⟨_, Lib.hid rfl⟩
    have hm : m < 4294967296 := by rw [HM.out]; exact BitVec.isLt _
    go_upto_if 67 with (fail)
    go_cut [] (fun wx => MendCut w b6 l wx)
    case first =>
      go_wp2_with fail
      refine (RefSum_any u _ (by rw [HUS.out]; decide)).mono ?_
      rw [show val (sum u) = (m : Int) by rw [HM.out, HU.out]; rfl]
      rintro e w' ⟨rfl, rfl⟩
      clear hcv
      go_wp2_with fail
      refine (RefPut_nat 4 m _ (by decide) hm).mono ?_
      rw [show (⟨(be 4 m).toArray⟩ : ByteArray) = z by rw [HZ.out, HT.out, HM.out]; rfl]
      rintro e w2 ⟨rfl, hb⟩
      have HO2 : Hid (Own w2 b6 l) := Lib.hid (HO.out.below hb (HO.out.lt HL.out))
      have HB2 := Lib.hid (HB.out.trans (hb.mono HB.out.size))
      clear hb HO HB
      go_wp2_with fail
      go_loopw [13] (fun i wr => MendRel w b6 t l i wr) (fun i _ => 4 - (intOf i).toNat)
      case atStart => exact ⟨0, by decide, rfl, by simpa using HO2.out, HB2.out⟩
      case round =>
        obtain ⟨j, hj, rfl, ho, hb⟩ := hrel
        have HOJ := Lib.hid ho
        have HBJ := Lib.hid hb
        clear ho hb HO2 HB2
        by_cases hlt : j < 4
        · have hjz : j < z.size := by rw [HZL.out]; exact hlt
          have hjt : j < t.length := by rw [HTL.out]; exact hlt
          have HZJ : Hid (t[j] = z[j]) := Lib.hid (by
            have := HZ.out
            subst this
            rfl)
          obtain ⟨x0, c1⟩ : ∃ x0 : UInt8, wr.cell? ⟨b6, j, none⟩ = some (.int .u8 (x0.toNat : Int)) := ⟨_, HOJ.out.cell (j := j) (by rw [List.length_append, List.length_take, List.length_drop, HL.out]; omega)⟩
          have c2 := HOJ.out.free j
          go_wp2_with fail
          go_roundw
          case rel =>
            refine ⟨j + 1, hlt, by go_num, ?_, HBJ.out.setCell (by have := HWB.out; show w.heap.size ≤ b6; omega) _⟩
            rw [← HZJ.out]
            exact HOJ.out.put1 hjt (by rw [HL.out, HTL.out]; decide)
          case measure => simp [intOf]; omega
        · obtain rfl : j = 4 := by omega
          go_wp2_with fail
          go_meet
          refine ⟨?_, HBJ.out⟩
          have := HOJ.out
          rw [List.take_of_length_le (by rw [HTL.out]; exact Nat.le_refl _), HT.out] at this
          exact this
    case rest =>
      obtain ⟨ho, hb⟩ := hcut
      refine go_on (P := Tryd.prog) (by assumption) ?_
      exact plays_end (Lib.hid (mendB_length HL.out)) (Lib.hid ho) HG (Lib.hid hb)
end Go.Proofs.YtcpekkajcjgoiaaDoor
