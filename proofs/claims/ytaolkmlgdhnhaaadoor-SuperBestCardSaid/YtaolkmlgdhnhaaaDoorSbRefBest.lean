/-
  The contract of the document's own Best for layer 7. Conditions: none beyond the premises of each theorem.
-/
import Derived.Test.YtaolkmlgdhnhaaaDoorSb
import Derived.Test.YtaolkmlgdhnhaaaDoorFrames
namespace Go.Proofs.YtaolkmlgdhnhaaaDoor
open Go.RowKit

/-- two sectors and a result in memory -/
structure RBSt (w : World) (b : Nat) (p q : List UInt8) (wr : World) : Prop where
  fst : wr.rangeAt b 0 (pgCells (pgB p))
  snd : wr.rangeAt (b + 1) 0 (pgCells (pgB q))
  res : BOwn wr (b + 2) Sb.zero
  below : Below w.heap.size w wr
  lo : w.heap.size ≤ b
theorem RBSt.carry {w wi wj : World} {b : Nat} {p q : List UInt8} (h : RBSt w b p q wi) (hb : Below wi.heap.size wi wj) : RBSt w b p q wj :=
  ⟨range_below h.fst hb, range_below h.snd hb, h.res.below hb h.res.lt, h.below.trans (hb.mono h.below.size), h.lo⟩
theorem RBSt.new (w : World) (p q : List UInt8) (t u : TypeId) : RBSt w w.heap.size p q (((w.alloc (.cells (pgArr (pgB p)) t)).alloc (.cells (pgArr (pgB q)) t)).alloc (.cells (sbArr Sb.zero) u)) := by
  have b1 : Below w.heap.size w (w.alloc (.cells (pgArr (pgB p)) t)) := (Below.refl _ _).alloc (Nat.le_refl _) _
  have b2 : Below (w.alloc (.cells (pgArr (pgB p)) t)).heap.size (w.alloc (.cells (pgArr (pgB p)) t)) ((w.alloc (.cells (pgArr (pgB p)) t)).alloc (.cells (pgArr (pgB q)) t)) := (Below.refl _ _).alloc (Nat.le_refl _) _
  have b3 : Below ((w.alloc (.cells (pgArr (pgB p)) t)).alloc (.cells (pgArr (pgB q)) t)).heap.size ((w.alloc (.cells (pgArr (pgB p)) t)).alloc (.cells (pgArr (pgB q)) t)) (((w.alloc (.cells (pgArr (pgB p)) t)).alloc (.cells (pgArr (pgB q)) t)).alloc (.cells (sbArr Sb.zero) u)) := (Below.refl _ _).alloc (Nat.le_refl _) _
  refine ⟨range_below (range_below (page_new _ _ _) b2) b3, range_below ?_ b3, ?_, (b1.trans (b2.mono b1.size)).trans (b3.mono (Nat.le_trans b1.size b2.size)), Nat.le_refl _⟩
  · have := page_new (w.alloc (.cells (pgArr (pgB p)) t)) (pgB q) t
    simpa using this
  · have := BOwn.new (w := (w.alloc (.cells (pgArr (pgB p)) t)).alloc (.cells (pgArr (pgB q)) t)) (x := Sb.zero) u
    simpa using this
/-- what the document reads out of a sector -/
def docS (p : List UInt8) : Option Sb := readS (if codeB p = 0 then dB p else [])
def docK (p : List UInt8) : Int := if codeB p = 0 then ((kB p).toNat : Int) else 0
theorem docS_text (p : List UInt8) : readS (if codeB p = 0 then (⟨(dB p).toArray⟩ : ByteArray) else ⟨#[]⟩).data.toList = docS p := by
  unfold docS
  split
  · rw [dArr]
  · rfl
theorem docS_ok (p : List UInt8) : ((docS p).getD Sb.zero).Ok := by
  unfold docS
  cases h : readS (if codeB p = 0 then dB p else []) with
  | none => exact Sb.Ok.zero
  | some x => exact (readS_some h).1
theorem docS_is (p : List UInt8) : (sbOf p).isSome = ((docS p).isSome && (codeB p == 0) && (docK p == 1)) := by
  unfold sbOf docS docK
  by_cases hc : codeB p = 0
  · rw [if_pos hc, if_pos hc]
    by_cases hk : kB p = 1
    · rw [if_pos ⟨hc, hk⟩, hk, hc]
      simp
    · rw [if_neg (fun h => hk h.2)]
      have : (((kB p).toNat : Int) == 1) = false := by
        rw [beq_eq_false_iff_ne]
        intro h
        apply hk
        rw [← UInt8.toNat_inj]
        show (kB p).toNat = 1
        omega
      rw [this]
      simp
  · rw [if_neg (fun h => hc h.1), if_neg hc, if_neg hc]
    have : readS ([] : List UInt8) = none := readS_long (by decide)
    rw [this]
    rfl
theorem docS_some {p : List UInt8} (h : (sbOf p).isSome = true) : sbOf p = some ((docS p).getD Sb.zero) := by
  unfold sbOf at h ⊢
  unfold docS
  split at h
  · rename_i hc
    rw [if_pos hc, if_pos hc.1]
    rw [Option.isSome_iff_exists] at h
    obtain ⟨x, hx⟩ := h
    rw [hx]
    rfl
  · cases h
/-- what the document's Best answers -/
def RefBestPost (p q : List UInt8) (w : World) (e : Ending) (w' : World) : Prop :=
  e = .returned (.tuple #[sbV ((best (sbOf p) (sbOf q)).getD Sb.zero), .bool (best (sbOf p) (sbOf q)).isSome]) ∧ Below w.heap.size w w'
theorem best_none {a b : Option Sb} (ha : a.isSome = false) (hb : b.isSome = false) : best a b = none := by
  rw [Option.isSome_eq_false_iff, Option.isNone_iff_eq_none] at ha hb
  rw [ha, hb]
  rfl
theorem best_fst {a b : Option Sb} {x : Sb} (ha : a = some x) (hb : b.isSome = false ∨ ∃ y, b = some y ∧ y.gen ≤ x.gen) : best a b = some x := by
  subst ha
  rcases hb with hb | ⟨y, rfl, h⟩
  · rw [Option.isSome_eq_false_iff, Option.isNone_iff_eq_none] at hb
    rw [hb]
    rfl
  · show (if y.gen ≤ x.gen then some x else some y) = _
    rw [if_pos h]
theorem best_snd {a b : Option Sb} {y : Sb} (hb : b = some y) (ha : a.isSome = false ∨ ∃ x, a = some x ∧ ¬ y.gen ≤ x.gen) : best a b = some y := by
  subst hb
  rcases ha with ha | ⟨x, rfl, h⟩
  · rw [Option.isSome_eq_false_iff, Option.isNone_iff_eq_none] at ha
    rw [ha]
    rfl
  · show (if y.gen ≤ x.gen then some x else some y) = _
    rw [if_neg h]
set_option maxRecDepth 100000 in
set_option maxHeartbeats 4000000 in
theorem RefBest_any (p q : List UInt8) (hp : p.length = 128) (hq : q.length = 128) (w : World) : Calls Tryd.prog 21 #[pgV (pgB p), pgV (pgB q)] w (RefBestPost p q w) := by
  obtain ⟨P, HPP⟩ : ∃ P, Hid (P = RefBestPost p q w) := ⟨_, Lib.hid rfl⟩
  rw [← HPP.out]
  have hz := Tryd.sbRef.zero
  have HPL := Lib.hid hp
  have HQL := Lib.hid hq
  clear hp hq
  obtain ⟨b, HB⟩ : ∃ b, Hid (b = w.heap.size) := ⟨_, Lib.hid rfl⟩
  obtain ⟨w1, HW⟩ : ∃ w1, Hid (w1 = ((w.alloc (.cells (pgArr (pgB p)) 45)).alloc (.cells (pgArr (pgB q)) 45)).alloc (.cells (sbArr Sb.zero) 25)) := ⟨_, Lib.hid rfl⟩
  have HS : Hid (RBSt w b p q w1) := Lib.hid (by rw [HW.out, HB.out]; exact RBSt.new _ _ _ _ _)
  go_enter Tryd.func21, Tryd.ntmps21
  go_upto_region 1 with (fail)
  rw [← HW.out, ← HB.out]
  clear HW
  go_wp2_with (with_reducible refine stop_at (o := ⟨some 17, _, _, _, _, _⟩) ?_)
  refine wpList_load_page rfl _ _ rfl b 0 rfl (pgB p) (by rw [pgB_length]; exact HPL.out) HS.out.fst _ Tryd.underlying45 rfl Tryd.arrSize ?_
  go_wp2_with fail
  refine (RefRead_any p HPL.out _).mono ?_
  rintro e w2 ⟨rfl, hb⟩
  have HS2 := Lib.hid (HS.out.carry hb)
  clear hb HS
  obtain ⟨e1, HE1⟩ : ∃ e1, Hid (e1 = codeB p) := ⟨_, Lib.hid rfl⟩
  obtain ⟨k1, HK1⟩ : ∃ k1, Hid (k1 = docK p) := ⟨_, Lib.hid rfl⟩
  obtain ⟨s1, HS1⟩ : ∃ s1 : ByteArray, Hid (s1 = if codeB p = 0 then ⟨(dB p).toArray⟩ else ⟨#[]⟩) := ⟨_, Lib.hid rfl⟩
  rw [show (if codeB p = 0 then ((kB p).toNat : Int) else 0) = k1 from HK1.out.symm, ← HS1.out, ← HE1.out]
  go_wp2_with (with_reducible refine stop_at (o := ⟨some 23, _, _, _, _, _⟩) ?_)
  refine wpList_load_page rfl _ _ rfl (b + 1) 0 rfl (pgB q) (by rw [pgB_length]; exact HQL.out) HS2.out.snd _ Tryd.underlying45 rfl Tryd.arrSize ?_
  go_wp2_with fail
  refine (RefRead_any q HQL.out _).mono ?_
  rintro e w3 ⟨rfl, hb⟩
  have HS3 := Lib.hid (HS2.out.carry hb)
  clear hb HS2
  obtain ⟨e2, HE2⟩ : ∃ e2, Hid (e2 = codeB q) := ⟨_, Lib.hid rfl⟩
  obtain ⟨k2, HK2⟩ : ∃ k2, Hid (k2 = docK q) := ⟨_, Lib.hid rfl⟩
  obtain ⟨s2, HS2T⟩ : ∃ s2 : ByteArray, Hid (s2 = if codeB q = 0 then ⟨(dB q).toArray⟩ else ⟨#[]⟩) := ⟨_, Lib.hid rfl⟩
  rw [show (if codeB q = 0 then ((kB q).toNat : Int) else 0) = k2 from HK2.out.symm, ← HS2T.out, ← HE2.out]
  go_wp2_with fail
  refine (RefSb_any s1 _).mono ?_
  rintro e w4 ⟨rfl, hb⟩
  rw [show readS s1.data.toList = docS p by rw [HS1.out]; exact docS_text p]
  have HS4 := Lib.hid (HS3.out.carry hb)
  clear hb HS3
  obtain ⟨x, HX⟩ : ∃ x, Hid (x = (docS p).getD Sb.zero) := ⟨_, Lib.hid rfl⟩
  have HXO : Hid x.Ok := Lib.hid (by rw [HX.out]; exact docS_ok p)
  obtain ⟨r1, HR1⟩ : ∃ r1, Hid (r1 = (docS p).isSome) := ⟨_, Lib.hid rfl⟩
  rw [← HX.out, ← HR1.out]
  go_wp2_with (with_reducible refine stop_at (o := ⟨none, _, _, _, _, _⟩) ?_)
  refine wpList_store_last rfl _ _ _ rfl (sbArr Sb.zero) (sbArr x) _ rfl rfl rfl (by rw [sbArr_size HXO.out]; exact Tryd.sbRef.size) (by rw [sbArr_size HXO.out, sbArr_size Sb.Ok.zero]) (sbArr_all _) ?_
  obtain ⟨c, HC⟩ : ∃ c, Hid (c = w4.heap.size) := ⟨_, Lib.hid rfl⟩
  obtain ⟨w5, HW⟩ : ∃ w5, Hid (w5 = w4.alloc (.cells (sbArr x) 25)) := ⟨_, Lib.hid rfl⟩
  rw [← HW.out, ← HC.out]
  have HS5 : Hid (RBSt w b p q w5) := Lib.hid (HS4.out.carry (by rw [HW.out]; exact (Below.refl _ _).alloc (Nat.le_refl _) _))
  have HO5 : Hid (BOwn w5 c x) := Lib.hid (by rw [HW.out, HC.out]; exact BOwn.new _)
  clear HW HS4
  go_wp2_with fail
  refine (RefSb_any s2 _).mono ?_
  rintro e w6 ⟨rfl, hb⟩
  rw [show readS s2.data.toList = docS q by rw [HS2T.out]; exact docS_text q]
  have HS6 := Lib.hid (HS5.out.carry hb)
  have HO6 := Lib.hid (HO5.out.below hb HO5.out.lt)
  clear hb HS5 HO5
  obtain ⟨y, HY⟩ : ∃ y, Hid (y = (docS q).getD Sb.zero) := ⟨_, Lib.hid rfl⟩
  have HYO : Hid y.Ok := Lib.hid (by rw [HY.out]; exact docS_ok q)
  obtain ⟨r2, HR2⟩ : ∃ r2, Hid (r2 = (docS q).isSome) := ⟨_, Lib.hid rfl⟩
  rw [← HY.out, ← HR2.out]
  go_wp2_with (with_reducible refine stop_at (o := ⟨none, _, _, _, _, _⟩) ?_)
  refine wpList_store_last rfl _ _ _ rfl (sbArr Sb.zero) (sbArr y) _ rfl rfl rfl (by rw [sbArr_size HYO.out]; exact Tryd.sbRef.size) (by rw [sbArr_size HYO.out, sbArr_size Sb.Ok.zero]) (sbArr_all _) ?_
  obtain ⟨d, HD⟩ : ∃ d, Hid (d = w6.heap.size) := ⟨_, Lib.hid rfl⟩
  obtain ⟨w7, HW⟩ : ∃ w7, Hid (w7 = w6.alloc (.cells (sbArr y) 25)) := ⟨_, Lib.hid rfl⟩
  rw [← HW.out, ← HD.out]
  have hb7 : Below w6.heap.size w6 w7 := by rw [HW.out]; exact (Below.refl _ _).alloc (Nat.le_refl _) _
  have HS7 := Lib.hid (HS6.out.carry hb7)
  have HOX := Lib.hid (HO6.out.below hb7 HO6.out.lt)
  have HOY : Hid (BOwn w7 d y) := Lib.hid (by rw [HW.out, HD.out]; exact BOwn.new _)
  clear hb7 HW HS6 HO6
  obtain ⟨o1, HO1⟩ : ∃ o1, Hid (o1 = (r1 && (e1 == 0) && (k1 == 1))) := ⟨_, Lib.hid rfl⟩
  obtain ⟨o2, HO2⟩ : ∃ o2, Hid (o2 = (r2 && (e2 == 0) && (k2 == 1))) := ⟨_, Lib.hid rfl⟩
  have HI1 : Hid (o1 = (sbOf p).isSome) := Lib.hid (by rw [HO1.out, HR1.out, HE1.out, HK1.out, docS_is])
  have HI2 : Hid (o2 = (sbOf q).isSome) := Lib.hid (by rw [HO2.out, HR2.out, HE2.out, HK2.out, docS_is])
  clear HR1 HE1 HK1 HR2 HE2 HK2 HS1 HS2T
  go_upto_region 5 with (fail)
  go_cut [13] (fun s13 wx => s13 = .bool o1 ∧ w7 = wx)
  case first =>
    cases r1 with
    | false =>
      obtain rfl : o1 = false := HO1.out
      go_wp2_with fail
      go_meet
      exact ⟨rfl, rfl⟩
    | true =>
      cases he : (e1 == 0) with
      | false =>
        obtain rfl : o1 = false := by rw [HO1.out, he]; rfl
        go_wp2_with fail
        go_meet
        exact ⟨rfl, rfl⟩
      | true =>
        cases hk : (k1 == 1) with
        | false =>
          obtain rfl : o1 = false := by rw [HO1.out, he, hk]; rfl
          go_wp2_with fail
          go_meet
          exact ⟨rfl, rfl⟩
        | true =>
          obtain rfl : o1 = true := by rw [HO1.out, he, hk]; rfl
          go_wp2_with fail
          go_meet
          exact ⟨rfl, rfl⟩
  case rest =>
    obtain ⟨rfl, rfl⟩ := hcut
    clear HO1
    go_upto_region 6 with (fail)
    go_cut [15] (fun s15 wx => s15 = .bool o2 ∧ w7 = wx)
    case first =>
      cases r2 with
      | false =>
        obtain rfl : o2 = false := HO2.out
        go_wp2_with fail
        go_meet
        exact ⟨rfl, rfl⟩
      | true =>
        cases he : (e2 == 0) with
        | false =>
          obtain rfl : o2 = false := by rw [HO2.out, he]; rfl
          go_wp2_with fail
          go_meet
          exact ⟨rfl, rfl⟩
        | true =>
          cases hk : (k2 == 1) with
          | false =>
            obtain rfl : o2 = false := by rw [HO2.out, he, hk]; rfl
            go_wp2_with fail
            go_meet
            exact ⟨rfl, rfl⟩
          | true =>
            obtain rfl : o2 = true := by rw [HO2.out, he, hk]; rfl
            go_wp2_with fail
            go_meet
            exact ⟨rfl, rfl⟩
    case rest =>
      obtain ⟨rfl, rfl⟩ := hcut
      clear HO2
      have hb0 : w.heap.size ≤ b + 1 + 1 := by have := HS7.out.lo; omega
      have c1 := HOX.out.gen
      have c2 := HOY.out.gen
      obtain ⟨m, HM⟩ : ∃ m, Hid (m = x.gen) := ⟨_, Lib.hid rfl⟩
      obtain ⟨n, HN⟩ : ∃ n, Hid (n = y.gen) := ⟨_, Lib.hid rfl⟩
      rw [← HM.out] at c1
      rw [← HN.out] at c2
      cases o1 with
      | false =>
        cases o2 with
        | false =>
          have HBT : Hid (best (sbOf p) (sbOf q) = none) := Lib.hid (best_none HI1.out.symm HI2.out.symm)
          go_wp2_with (with_reducible refine stop_at (o := ⟨some 71, _, _, _, _, _⟩) ?_)
          refine wpList_build_sb0 Tryd.sbRef rfl rfl ?_
          refine wpList_store_sb Tryd.sbRef rfl _ _ rfl (b + 2) Sb.zero Sb.zero Sb.Ok.zero Sb.Ok.zero rfl rfl HS7.out.res ?_
          intro w9 HW9 HO9
          go_wp2_with fail
          have hb9 := below_cells_of HS7.out.below HW9.out hb0
          rw [HPP.out]
          exact bodyPost_ret (results_sb2 Tryd.sbRef rfl _ _ (b + 2) Sb.zero (.bool false) rfl rfl HO9.out.at_ Sb.Ok.zero) rfl ⟨by rw [HBT.out]; rfl, hb9⟩
        | true =>
          have HBT : Hid (best (sbOf p) (sbOf q) = some y) := Lib.hid (best_snd (by rw [HY.out]; exact docS_some HI2.out.symm) (.inl HI1.out.symm))
          go_wp2_with (with_reducible refine stop_at (o := ⟨some 70, _, _, _, _, _⟩) ?_)
          refine wpList_load_sb Tryd.sbRef rfl _ rfl d rfl y HYO.out HOY.out.at_ ?_
          refine wpList_store_sb Tryd.sbRef rfl _ _ rfl (b + 2) y Sb.zero HYO.out Sb.Ok.zero rfl rfl HS7.out.res ?_
          intro w9 HW9 HO9
          go_wp2_with fail
          have hb9 := below_cells_of HS7.out.below HW9.out hb0
          rw [HPP.out]
          exact bodyPost_ret (results_sb2 Tryd.sbRef rfl _ _ (b + 2) y (.bool true) rfl rfl HO9.out.at_ HYO.out) rfl ⟨by rw [HBT.out]; rfl, hb9⟩
      | true =>
        cases o2 with
        | false =>
          have HBT : Hid (best (sbOf p) (sbOf q) = some x) := Lib.hid (best_fst (by rw [HX.out]; exact docS_some HI1.out.symm) (.inl HI2.out.symm))
          go_wp2_with (with_reducible refine stop_at (o := ⟨some 68, _, _, _, _, _⟩) ?_)
          refine wpList_load_sb Tryd.sbRef rfl _ rfl c rfl x HXO.out HOX.out.at_ ?_
          refine wpList_store_sb Tryd.sbRef rfl _ _ rfl (b + 2) x Sb.zero HXO.out Sb.Ok.zero rfl rfl HS7.out.res ?_
          intro w9 HW9 HO9
          go_wp2_with fail
          have hb9 := below_cells_of HS7.out.below HW9.out hb0
          rw [HPP.out]
          exact bodyPost_ret (results_sb2 Tryd.sbRef rfl _ _ (b + 2) x (.bool true) rfl rfl HO9.out.at_ HXO.out) rfl ⟨by rw [HBT.out]; rfl, hb9⟩
        | true =>
          by_cases hmn : n ≤ m
          · have HBT : Hid (best (sbOf p) (sbOf q) = some x) := Lib.hid (best_fst (x := x) (by rw [HX.out]; exact docS_some HI1.out.symm) (.inr ⟨y, by rw [HY.out]; exact docS_some HI2.out.symm, by rw [← HM.out, ← HN.out]; exact hmn⟩))
            have hd : decide (n ≤ m) = true := decide_eq_true hmn
            go_wp2_with (with_reducible refine stop_at (o := ⟨some 68, _, _, _, _, _⟩) ?_)
            refine wpList_load_sb Tryd.sbRef rfl _ rfl c rfl x HXO.out HOX.out.at_ ?_
            refine wpList_store_sb Tryd.sbRef rfl _ _ rfl (b + 2) x Sb.zero HXO.out Sb.Ok.zero rfl rfl HS7.out.res ?_
            intro w9 HW9 HO9
            go_wp2_with fail
            have hb9 := below_cells_of HS7.out.below HW9.out hb0
            rw [HPP.out]
            exact bodyPost_ret (results_sb2 Tryd.sbRef rfl _ _ (b + 2) x (.bool true) rfl rfl HO9.out.at_ HXO.out) rfl ⟨by rw [HBT.out]; rfl, hb9⟩
          · have HBT : Hid (best (sbOf p) (sbOf q) = some y) := Lib.hid (best_snd (y := y) (by rw [HY.out]; exact docS_some HI2.out.symm) (.inr ⟨x, by rw [HX.out]; exact docS_some HI1.out.symm, by rw [← HM.out, ← HN.out]; exact hmn⟩))
            have hd : decide (n ≤ m) = false := decide_eq_false hmn
            go_wp2_with (with_reducible refine stop_at (o := ⟨some 70, _, _, _, _, _⟩) ?_)
            refine wpList_load_sb Tryd.sbRef rfl _ rfl d rfl y HYO.out HOY.out.at_ ?_
            refine wpList_store_sb Tryd.sbRef rfl _ _ rfl (b + 2) y Sb.zero HYO.out Sb.Ok.zero rfl rfl HS7.out.res ?_
            intro w9 HW9 HO9
            go_wp2_with fail
            have hb9 := below_cells_of HS7.out.below HW9.out hb0
            rw [HPP.out]
            exact bodyPost_ret (results_sb2 Tryd.sbRef rfl _ _ (b + 2) y (.bool true) rfl rfl HO9.out.at_ HYO.out) rfl ⟨by rw [HBT.out]; rfl, hb9⟩
end Go.Proofs.YtaolkmlgdhnhaaaDoor
