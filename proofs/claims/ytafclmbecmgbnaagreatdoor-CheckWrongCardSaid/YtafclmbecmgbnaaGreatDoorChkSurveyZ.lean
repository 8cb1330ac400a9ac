/-
 ChkSurveyZ. Conditions: as each theorem says.
-/
import Derived.Test.YtafclmbecmgbnaaGreatDoorSm
import Derived.Test.YtafclmbecmgbnaaGreatDoorChkSurSZ
import Derived.Test.YtafclmbecmgbnaaGreatDoorChkLoadNil
import Derived.Test.YtafclmbecmgbnaaGreatDoorChkSorted
import Derived.Test.YtafclmbecmgbnaaGreatDoorSets
import Derived.Test.YtafclmbecmgbnaaGreatDoorTa
import Derived.OwnWalk
namespace Go.Proofs.YtafclmbecmgbnaaGreatDoor
namespace Nz
open Go.RowKit Go.Maps
def SvPost (w : World) (s : Sv) (e : Ending) (w' : World) : Prop :=
 Below w.heap.size w w' ∧ match s.flt with
 | [] => ∃ v, e = .returned (.tuple #[v, .int .i64 s.dep, .nilIface]) ∧ (s.met.Nodup → w'.ownsRow w.heap.size 3 1 v s.met.length ((s.met.mergeSort (fun x y => decide (x ≤ y))).map (Value.int .i64)))
 | c :: _ => ∃ v, e = .returned (.tuple #[.slice none 0 0, .int .i64 0, v]) ∧ ErrFrom w' w.heap.size c v
def SpOk (t : Sp) : Prop := (-9223372036854775808 ≤ t.at_ ∧ t.at_ ≤ 9223372036854775807) ∧ 1 ≤ t.lv ∧ t.lv ≤ 12
theorem svStep_ok {S : TS} {s : Sv} (h : ∀ t ∈ s.wait, SpOk t) : ∀ t ∈ (svStep S s).wait, SpOk t := by
 unfold svStep
 split
 ·exact h
 ·rename_i t rest hw
  rw [hw] at h
  have hr : ∀ u ∈ rest, SpOk u := fun u hu => h u (List.mem_cons_of_mem _ hu)
  split
  ·exact hr
  ·split
   ·exact hr
   ·rename_i x hx
    cases hx
theorem svRun_ok {S : TS} {root : Int} (hr : -9223372036854775808 ≤ root ∧ root ≤ 9223372036854775807) (n : Nat) : ∀ t ∈ (svRun S n (svBegin root)).wait, SpOk t := by
 induction n with
 | zero =>
  intro t ht
  rw [show t = ⟨root, 1, 0, 4294967296⟩ from List.mem_singleton.1 ht]
  exact ⟨hr, (by show (1 : Int) ≤ 1; omega), (by show (1 : Int) ≤ 12; omega)⟩
 | succ n ih => rw [svRun_snoc]; exact svStep_ok ih
theorem Tryz.spotTy : RowTy Tryz.prog 176 4 := ⟨⟨_, Tryz.underlying176, rfl⟩, by kernel_rfl⟩
section
variable {O : PgOwn} (H : PgSpec O)
include H
set_option maxHeartbeats 2000000 in
set_option maxRecDepth 100000 in
theorem survey_nil {w : World} {S : TS} (root : Int) (hr : root ≠ 0) (hrr : -9223372036854775808 ≤ root ∧ root ≤ 9223372036854775807) (N : Nat) (hN : N ≤ 3000) (hdone : (svRun S N (svBegin root)).wait = []) (h1 : (svRun S N (svBegin root)).flt.length ≤ 1)
  (hnd : (svRun S N (svBegin root)).flt = [] → (svRun S N (svBegin root)).met.Nodup) :
  Calls Tryz.prog 80 #[.pointer none, .int .i64 root] w (SvPost w (svRun S N (svBegin root))) := by
 have hmm := @run_makeMap Tryz.prog
 obtain ⟨i0, hi0, hj0, hj1, hj2⟩ := info_parts Tryz.spotInfo
 obtain ⟨i9, hi9, hj3, hj4, hj5⟩ := info_parts Tryz.infoErr
 have HU := Hi (H.nilUsed w)
 obtain ⟨st, HST⟩ : ∃ st, Hid (st = zeroSt) := Hy
 rw [← HST.out] at HU
 have HR := Hi hr
 have HRR := Hi hrr
 have HNN := Hi hN
 have HDN := Hi hdone
 have HF1 := Hi h1
 have HND := Hi hnd
 clear hrr hN hdone h1 hnd
 go_enter Tryz.func80, Tryz.ntmps80
 go_upto_region 3 with (fail)
 have hzs := Tryz.zeroSet
 go_wp2_with fail
 refine HU.out.mono ?_
 rintro e wu ⟨rfl, hb⟩
 have HBU := Hi hb
 clear hb HU
 go_wp2_with (with_reducible refine set_stop (o := ⟨none, _, _, _, _, _⟩) ?_)
 obtain ⟨p, HPP⟩ : ∃ p, Hid (p = wu.heap.size) := Hy
 obtain ⟨wc, HWC⟩ : ∃ wc, Hid (wc = wu.alloc (.cells (stArr zeroSt) 63)) := Hy
 rw [← HWC.out, ← HPP.out]
 have HC : Hid (Below w.heap.size w wc ∧ SOwn wc p zeroSt ∧ w.heap.size ≤ p ∧ p < wc.heap.size) := Hi (by
  rw [HWC.out, HPP.out]
  exact ⟨HBU.out.trans ((Below.refl _ _).alloc HBU.out.size _), SOwn.new _, HBU.out.size, by simp⟩)
 have HSTL : Hid (st.length = 30) := Hi (by rw [HST.out]; exact zeroSt_length)
 clear HWC HPP HBU
 unfold SetStop
 refine wpList_store_set rfl _ _ rfl p st zeroSt HSTL.out zeroSt_length rfl rfl HC.out.2.1 ?_
 intro ws HWS HSS
 have HBS : Hid (Below w.heap.size w ws ∧ p < ws.heap.size ∧ w.heap.size ≤ p) := Hi ⟨below_cells_of HC.out.1 HWS.out HC.out.2.2.1, HSS.out.lt (by rw [HSTL.out]; decide), HC.out.2.2.1⟩
 clear HC HWS
 go_upto_region 6 with (fail)
 obtain ⟨b, HBB⟩ : ∃ b, Hid (b = ws.heap.size) := Hy
 obtain ⟨wm, HWM⟩ : ∃ wm, Hid (wm = ws.alloc (.map #[] 0)) := Hy
 rw [← HWM.out, ← HBB.out]
 have HM : Hid (Below w.heap.size w wm ∧ wm.heap.size = b + 1 ∧ p < b ∧ w.heap.size ≤ p ∧ MetC wm b [] ∧ SOwn wm p st) := Hi (by
  have h2 := HBS.out
  have hb := (Below.refl ws.heap.size ws).alloc (Nat.le_refl _) (.map #[] 0)
  rw [HWM.out, HBB.out]
  exact ⟨h2.1.trans (hb.mono h2.1.size), by simp, h2.2.1, h2.2.2, MetC.new _, HSS.out.below hb h2.2.1⟩)
 clear HWM HBB HBS HSS
 have hbu := Tryz.spotBuilt root 1 0 4294967296
 go_wp2_with (with_reducible refine stop_at (o := ⟨some 23, _, _, _, _, _⟩) ?_)
 refine wpList_rows_own rfl 177 176 4 1 #[(0, .tmp 22)] rfl [[.int .i64 root, .int .i64 1, .int .i64 0, .int .i64 4294967296]] Tryz.underlying177 Tryz.spotSize Tryz.spotZero rfl (by decide) (by decide) (by simp) (by rfl) ?_
 intro w1 HW1
 obtain ⟨q, HQQ⟩ : ∃ q, Hid (q = wm.heap.size) := Hy
 rw [← HQQ.out]
 obtain ⟨s0, HS0⟩ : ∃ s0, Hid (s0 = svBegin root) := Hy
 have HB1 : Hid (Below wm.heap.size wm w1) := Hi (by rw [HW1.out]; exact (Below.refl _ _).alloc (Nat.le_refl _) _)
 have HSV : Hid (SvS w.heap.size p b w wm st (svBegin root) (.slice (some ⟨q, 0, none⟩) 1 1) (.slice none 0 0) w1) := Hi (by
  have hm := HM.out
  have h1 := HB1.out
  refine ⟨hm.1.trans (h1.mono hm.1.size), h1.block p (by omega), h1.size, ⟨rfl, .inr ⟨q, 0, 1, #[.int .i64 root, .int .i64 1, .int .i64 0, .int .i64 4294967296], rfl, ?_, ?_, Nat.le_refl _, by decide, ?_, ?_⟩⟩, hm.2.2.2.2.1.block (h1.block b (by omega)), .inl ⟨rfl, rfl⟩⟩
  ·rw [HQQ.out]; exact Nat.le_refl _
  ·rw [HW1.out, HQQ.out]; exact heap_alloc_new wm _
  ·show 0 + 1 * 4 ≤ 4; omega
  ·rfl)
 clear HW1 HQQ HB1 hbu hmm
 go_wp2_with fail
 go_loopw [8, 10, 11] (fun vd vf vw wr => ∃ k, k ≤ N ∧ SvR S root w.heap.size p b w wm st k vd vf vw wr) (fun vd vf vw wr => N - grt (fun k => SvR S root w.heap.size p b w wm st k vd vf vw wr) N)
 case atStart => exact ⟨0, Nat.zero_le _, rfl, HSV.out⟩
 case round =>
  obtain ⟨k, HK⟩ : ∃ k, Hid (k = grt (fun k => SvR S root w.heap.size p b w wm st k u8 u10 u11 wr) N) := Hy
  have HKN : Hid (k ≤ N) := Hi (by rw [HK.out]; exact grt_le _ _)
  have hrk := grt_holds hrel
  rw [← HK.out] at hrk
  obtain ⟨hd8, hsv⟩ := hrk
  obtain ⟨s, HS⟩ : ∃ s, Hid (s = svRun S k (svBegin root)) := Hy
  rw [← HS.out] at hd8 hsv
  subst hd8
  have HSR := Hi hsv
  clear hsv hrel HSV
  obtain ⟨vw, HVW⟩ : ∃ vw, Hid (vw = u11) := Hy
  obtain ⟨wait, HWT⟩ : ∃ wait, Hid (wait = s.wait) := Hy
  cases wait with
  | nil =>
   have how := HSR.out.wait
   rw [← HWT.out] at how
   have HFIN : Hid (svRun S N (svBegin root) = s) := Hi (by
    have := svRun_add S k (N - k) (svBegin root)
    rw [show k + (N - k) = N by have := HKN.out; omega, ← HS.out] at this
    rw [this]
    exact svRun_done S _ HWT.out.symm)
   have HND2 := HND.out
   rw [HFIN.out] at HND2
   have HNDD := Hi HND2
   clear HND2
   obtain ⟨ao, cap, hvw⟩ : ∃ ao cap, u11 = .slice ao 0 cap := by
    rcases how.2 with ⟨h, _⟩ | ⟨g, off, cap, cur, h, _⟩
    ·exact ⟨none, 0, h⟩
    ·exact ⟨_, _, h⟩
   subst hvw
   clear how
   have HMT : Hid (s.met.length ≤ 3000) := Hi (by
    have := svRun_met S k (svBegin root)
    rw [← HS.out] at this
    have h2 := HKN.out
    have h3 := HNN.out
    simp only [svBegin, List.length_nil] at this
    omega)
   rcases HSR.out.flt with ⟨hf, rfl⟩ | ⟨c, u, g, cf, lo, hi, hf, rfl, h3, h4, h5, h6, h7, h8, h9⟩
   ·have HNN2 := Hi (HNDD.out hf)
    have HF := Hi hf
    clear hf
    obtain ⟨kk, DD, hk1, hk2, hk3, hk4, hk5⟩ := HSR.out.met.own
    have HMM := Hi (And.intro hk1 (And.intro hk2 (And.intro hk3 (And.intro hk4 hk5))))
    clear hk1 hk2 hk3 hk4 hk5
    have HSZ : Hid (Maps.size DD ≤ 3000) := Hi (Nat.le_trans HMM.out.2.1.size_le (Nat.le_trans HMM.out.1 HMT.out))
    go_wp2_with fail
    refine (chkKeys (some b) wr).mono ?_
    rintro e wk ⟨rfl, T, hwk⟩
    have HWK := Hi hwk
    clear hwk
    dsimp only
    go_wp2_with fail
    refine (chkSorted b kk DD _ wr wk T HWK.out HMM.out.2.1 (by have := HSZ.out; unfold maxLen; omega) (by have := HSZ.out; omega)).mono ?_
    rintro e w' ⟨v, ss, rfl, hss, hrow, _, hb⟩
    have HB9 : Hid (Below w.heap.size w w') := Hi (by
     have h1 := HSR.out.below
     have h2 : Below wr.heap.size wr wk := by rw [HWK.out]; exact (Below.refl _ _).alloc (Nat.le_refl _) _
     have h3 := h2.trans (hb.mono h2.size)
     exact h1.trans (h3.mono h1.size))
    have HROW : Hid (w'.ownsRow w.heap.size 3 1 v s.met.length ((s.met.mergeSort (fun x y => decide (x ≤ y))).map (Value.int .i64))) := Hi (by
     have hp : ss.Perm s.met := hss.trans (met_perm HMM.out.2.1 HMM.out.2.2.2.1 HNN2.out).symm
     have h1 := HSR.out.below.size
     have h2 : wk.heap.size = wr.heap.size + 1 := by rw [HWK.out]; simp
     rw [hp.length_eq, mergeSort_of_perm_i hp] at hrow
     exact ownsRow_mono hrow (by omega))
    clear hss hrow hb
    dsimp only
    go_wp2_with fail
    go_ret3
    refine ⟨HB9.out, ?_⟩
    rw [HFIN.out, HF.out]
    exact ⟨v, rfl, fun _ => HROW.out⟩
   ·have HF := Hi hf
    have HG1 := Hi (And.intro h4 (And.intro h5 h8))
    have h3' := h3
    clear hf h4 h5 h6 h7 h9
    go_wp2_with fail
    refine (chkFirst_one h3' h8).mono ?_
    rintro e w' ⟨rfl, hb⟩
    have HB9 : Hid (Below w.heap.size w w') := Hi (HSR.out.below.trans (hb.mono HSR.out.below.size))
    have HE9 : Hid (ErrFrom w' w.heap.size c u) := Hi (((HG1.out.1.keep hb.size fun k _ hk => hb.block k (Nat.lt_of_lt_of_le hk HG1.out.1.1)).err).mono HG1.out.2.1)
    clear hb h3 h3' h8
    dsimp only
    go_wp2_with fail
    go_ret3
    refine ⟨HB9.out, ?_⟩
    rw [HFIN.out, HF.out]
    exact ⟨u, rfl, HE9.out⟩
  | cons t rest =>
   have how := HSR.out.wait
   rw [← HWT.out] at how
   obtain ⟨g, off, cap, rfl, hcap1, hcap2⟩ := how.slice (by simp)
   have HCAP := Hi (And.intro hcap1 hcap2)
   have HRA : Hid (wr.rangeAt g off (spCells t)) := Hi (fun j v hj => by
    have h2 := how.cells rfl j v (by
     show (spCells t ++ spAll rest)[j]? = some v
     rw [List.getElem?_append_left (List.getElem?_eq_some_iff.1 hj).1]
     exact hj)
    rwa [show (⟨g, off, none⟩ : Addr).add j = ⟨g, off + j, none⟩ by unfold Addr.add; split <;> simp_all] at h2)
   obtain ⟨len, HLEN⟩ : ∃ len, Hid (len = (t :: rest).length) := Hy
   have hlen : (0 : Int) < (len : Int) := by rw [HLEN.out]; simp only [List.length_cons]; omega
   have HOW := Hi how
   rw [← HLEN.out]
   clear how hcap1 hcap2
   go_wp2_with (with_reducible refine stop_at (o := ⟨some 31, _, _, _, _, _⟩) ?_)
   unfold Stopped
   refine wpList_load_c Tryz.spotTy (by rfl) _ rfl g off rfl (spCells t) rfl HRA.out ?_
   go_wp2_with (with_reducible refine set_stop (o := ⟨none, _, _, _, _, _⟩) ?_)
   obtain ⟨q, HQQ⟩ : ∃ q, Hid (q = wr.heap.size) := Hy
   obtain ⟨wz, HWZ⟩ : ∃ wz, Hid (wz = wr.alloc (.cells #[.int .i64 0, .int .i64 0, .int .i64 0, .int .i64 0] 176)) := Hy
   rw [← HWZ.out, ← HQQ.out]
   have HCZ : Hid (COwn wz q [.int .i64 0, .int .i64 0, .int .i64 0, .int .i64 0] ∧ Below wr.heap.size wr wz ∧ wr.heap.size ≤ q) := Hi (by
    rw [HWZ.out, HQQ.out]
    exact ⟨COwn.new _ _, (Below.refl _ _).alloc (Nat.le_refl _) _, Nat.le_refl _⟩)
   clear HWZ
   unfold SetStop
   refine wpList_store_c Tryz.spotTy rfl _ _ rfl q _ (spCells t) rfl rfl (by simp [spCells, Value.oneCell']) rfl rfl HCZ.out.1 ?_
   intro wq HWQ HCQ
   have HBQ : Hid (Below wr.heap.size wr wq) := Hi (below_cells9 HCZ.out.2.1 HWQ.out HCZ.out.2.2)
   have HSQ := Hi (HSR.out.carry (by have := HM.out; omega) (by have := HM.out; omega) HBQ.out)
   have HQL : Hid (q < wq.heap.size ∧ wr.heap.size ≤ q) := Hi ⟨HCQ.out.lt (by simp [spCells]), HCZ.out.2.2⟩
   clear HWQ HCZ HRA
   have e0 := HCQ.out.cell (j := 0) rfl
   have hto := svRun_ok (S := S) HRR.out k t (by rw [← HS.out, ← HWT.out]; exact List.mem_cons_self)
   have HTO := Hi hto
   have HKL : Hid (k < N) := Hi (by
    rcases Nat.lt_or_ge k N with h | h
    ·exact h
    ·have := HKN.out
     have h2 := HDN.out
     rw [show N = k by omega, ← HS.out, ← HWT.out] at h2
     cases h2)
   obtain ⟨z, HZ⟩ : ∃ z, Hid (z = t.at_) := Hy
   have hzw : -9223372036854775808 ≤ z ∧ z ≤ 9223372036854775807 := by rw [HZ.out]; exact hto.1
   rw [← HZ.out] at e0
   clear hto
   have hkey : keyOf Tryz.prog 3 (.int .i64 z) = some (.int .i64 z) := keyOf_int_mk Tryz.underlying3 (WalkArith.wf_i64 hzw)
   obtain ⟨kk, DD, hk1, hk2, hk3, hk4, hk5⟩ := HSQ.out.met.own
   have HMM := Hi (And.intro hk1 (And.intro hk2 (And.intro hk3 (And.intro hk4 hk5))))
   clear hk1 hk2 hk3 hk4 hk5
   have hz0 := Tryz.zeroInt
   obtain ⟨c, HC⟩ : ∃ c, Hid (c = ((s.met.count z : Nat) : Int)) := Hy
   have HMT : Hid (s.met.length ≤ 3000) := Hi (by
    have := svRun_met S k (svBegin root)
    rw [← HS.out] at this
    have h2 := HKN.out
    have h3 := HNN.out
    simp only [svBegin, List.length_nil] at this
    omega)
   have hc : 0 ≤ c ∧ c ≤ 3000 := by
    rw [HC.out]
    have := List.count_le_length (a := z) (l := s.met)
    have := HMT.out
    omega
   have hat := HMM.out.2.2.2.2 z
   rw [← HC.out] at hat
   go_wp2_with (with_reducible refine stop_at (o := ⟨some 35, _, _, _, _, _⟩) ?_)
   refine wpList_lookup_own_int _ rfl _ _ 173 rfl 3 3 .i64 Tryz.keyInt Tryz.underlying173 Tryz.underlying3 (hz0 _) b kk DD rfl HMM.out.2.1 _ _ rfl hkey ?_
   intro c' hat2 hwc
   obtain rfl : c = c' := lit_int (hat.symm.trans hat2)
   clear hat2 hwc hat
   have HKEY := Hi hkey
   have hc1 : wrap64 (c + 1) = c + 1 := by unfold wrap64; omega
   have hkm : kk < maxLen := by have := HMM.out.1; have := HMT.out; unfold maxLen; omega
   go_wp2_with (with_reducible refine stop_at (o := ⟨none, _, _, _, _, _⟩) ?_)
   refine wpList_mapUpdate_own _ rfl _ _ _ 173 rfl 3 3 Tryz.keyInt Tryz.underlying173 _ b kk DD rfl HMM.out.2.1 hkm _ (.int .i64 (c + 1)) _ rfl rfl HKEY.out (.lit (.int .i64 (c + 1))) [] (plainElem_int Tryz.underlying3 (WalkArith.wf_i64 (by omega))) ?_
   intro w2 hown2 hgrow2
   have HB2 : Hid (Below wq.heap.size wq wq) := Hi (Below.refl _ _)
   have HAT : Hid ((DD.put (.int .i64 z) (.lit (.int .i64 (c + 1)))).atKey (.int .i64 z) (.lit (.int .i64 0)) = .lit (.int .i64 (c + 1))) := Hi (atKey_put_same (k := .int .i64 z) HMM.out.2.2.1 trivial _ _)
   have HOW2 := Hi hown2
   have HCQ2 : Hid (COwn w2 q (spCells t) ∧ q < w2.heap.size) := Hi ⟨HCQ.out.block (hgrow2.block q HQL.out.1 (by have h1 := HQL.out; have h2 := HM.out; have h3 := HSR.out.size; simp; omega)), Nat.lt_of_lt_of_le HQL.out.1 hgrow2.size⟩
   have HS2 : Hid (SvS w.heap.size p b w wm st ⟨t :: rest, s.met ++ [z], s.dep, s.flt⟩ (.slice (some ⟨g, off, none⟩) (t :: rest).length cap) u10 w2) := Hi (by
    have h := HSQ.out.name (met := s.met ++ [z]) (by have := HM.out; omega) (by have := HM.out; omega) (by have := HM.out; omega) hgrow2 (MetC.push HMM.out.1 HMM.out.2.2.1 HMM.out.2.2.2.1 HMM.out.2.2.2.2 (by rw [← HC.out]; exact hown2))
    rw [← HWT.out] at h
    exact h)
   clear hown2 hgrow2 HB2 HSQ HBQ HCQ HMM e0 HSR
   have e0 := HCQ2.out.1.cell (j := 0) rfl
   rw [← HZ.out] at e0
   dsimp only [Act.put]
   go_wp2_with (with_reducible refine stop_at (o := ⟨some 40, _, _, _, _, _⟩) ?_)
   refine wpList_lookup_own_int _ rfl _ _ 173 rfl 3 3 .i64 Tryz.keyInt Tryz.underlying173 Tryz.underlying3 (hz0 _) b (kk + 1) _ rfl HOW2.out _ _ rfl HKEY.out ?_
   intro c' hat2 hwc
   obtain rfl : c + 1 = c' := lit_int (HAT.out.symm.trans hat2)
   clear hat2 hwc HAT HOW2 hkm
   by_cases hdup : z ∈ s.met
   ·-- it was named before
    have hcd : 1 < c + 1 := by
     have := List.count_pos_iff.2 hdup
     have := HC.out
     omega
    have HSTEP : Hid (svStep S s = ⟨rest, s.met ++ [z], s.dep, s.flt ++ [2]⟩) := Hi (by
     unfold svStep
     rw [← HWT.out]
     simp only
     rw [← HZ.out, if_pos hdup])
    have HFE : Hid (s.flt = [] ∧ u10 = .slice none 0 0) := Hi (by
     have h3 := flt_none HS.out HKL.out (congrArg Sv.flt HSTEP.out) HF1.out
     exact ⟨h3, flt_nil HS2.out.flt h3⟩)
    clear hdup
    rw [HFE.out.2]
    go_wp2_with fail
    refine (chkFault_any 2 (by decide) w2).mono ?_
    rintro e w3 ⟨v, rfl, he, hb⟩
    obtain ⟨tt, xx, rfl⟩ := he.some (by decide)
    obtain ⟨v1, HV1⟩ : ∃ v1, Hid (v1 = Value.iface tt xx) := Hy
    have HO1 : Hid (v1.oneCell' = true) := Hi (by rw [HV1.out]; rfl)
    rw [← HV1.out] at he
    have HE3 := Hi he
    have HB3 := Hi hb
    clear he hb
    dsimp only
    go_wp2_with (with_reducible refine stop_at (o := ⟨some 45, _, _, _, _, _⟩) ?_)
    rw [← HV1.out]
    obtain ⟨wl, HWL⟩ : ∃ wl, Hid (wl = w3.alloc (.cells #[v1] 27)) := Hy
    rw [← HWL.out]
    have HLL : Hid (Below w3.heap.size w3 wl ∧ wl.cell? ⟨w3.heap.size, 0, none⟩ = some v1) := Hi (by
     rw [HWL.out]
     exact ⟨(Below.refl _ _).alloc (Nat.le_refl _) _, (COwn.new [v1] _).cell rfl⟩)
    clear HWL
    refine wpList_append_own _ rfl _ _ 174 rfl w3.heap.size 27 i9 _ 1 16 Tryz.underlying174 hi9 hj3 hj4 hj5 rfl (by decide) _ 0 [] rfl (World.ownsRow_nil _ _ _ _) ⟨w3.heap.size, 0, none⟩ 1 1 [v1] rfl rfl (fun j u hu => by
     rcases List.getElem?_eq_some_iff.1 hu with ⟨hj, rfl⟩
     obtain rfl : j = 0 := by simp at hj; exact hj
     exact HLL.out.2) (by simpa using HO1.out) (by unfold maxLen; omega) (by omega) HLL.out.1.size ?_
    intro v4 w4 hown4 hgrow4 _
    have HB4 : Hid (Below w3.heap.size w3 w4) := Hi (HLL.out.1.grown hgrow4 HLL.out.1.size (fun g hg => by cases hg))
    have HS4 : Hid (SvS w.heap.size p b w wm st ⟨t :: rest, s.met ++ [z], s.dep, s.flt ++ [2]⟩ (.slice (some ⟨g, off, none⟩) len cap) v4 w4) := Hi (by
     rw [HLEN.out]
     exact HS2.out.fault rfl (by have := HM.out; omega) (by have := HM.out; omega) HFE.out.1 HB3.out HE3.out HB4.out hown4)
    clear hown4 hgrow4 HLL HB4 HE3 HB3 HS2 HFE
    go_wp2_with fail
    have h := sv_round (root := root) HS.out HKL.out HS4.out rfl HLEN.out HSTEP.out
    rw [HK.out, ← HLEN.out] at h
    exact h
   ·have HNM := Hi hdup
    have hcd : ¬ 1 < c + 1 := by
     have := List.count_eq_zero.2 hdup
     have := HC.out
     omega
    clear hdup
    have HLD := Hi (chkLoad_nil H w2 t.at_ t.lv t.lo t.hi (by have := HTO.out.2; omega))
    go_wp2_with (with_reducible refine stop_at (o := ⟨some 48, _, _, _, _, _⟩) ?_)
    unfold Stopped
    refine wpList_load_c Tryz.spotTy (by rfl) _ rfl q 0 rfl (spCells t) rfl HCQ2.out.1.at_ ?_
    have HTV : Hid ((.agg (spCells t).toArray : Value) = spV t.at_ t.lv t.lo t.hi) := Hi rfl
    obtain ⟨sp, HSP⟩ : ∃ sp, Hid (sp = spV t.at_ t.lv t.lo t.hi) := Hy
    rw [HTV.out, ← HSP.out]
    rw [← HSP.out] at HLD
    dsimp only [Act.put]
    go_wp2_with fail
    refine HLD.out.mono ?_
    cases hlm : loadZ S t.at_ t.lv with
    | error c2 =>
     rintro e w3 ⟨hc, v, rfl, he, hb⟩
     rw [Except.error.inj (show (Except.error 9 : Except Int Nd) = .error c2 from hlm)] at he hc
     obtain ⟨tt, xx, rfl⟩ := he.some hc
     obtain ⟨v1, HV1⟩ : ∃ v1, Hid (v1 = Value.iface tt xx) := Hy
     have HO1 : Hid (v1.oneCell' = true) := Hi (by rw [HV1.out]; rfl)
     rw [← HV1.out] at he
     have HE3 := Hi he
     have HB3 := Hi hb
     clear he hb
     have HSTEP : Hid (svStep S s = ⟨rest, s.met ++ [z], s.dep, s.flt ++ [c2]⟩) := Hi (by
      unfold svStep
      rw [← HWT.out]
      simp only
      rw [← HZ.out, if_neg HNM.out, HZ.out, hlm])
     have HFE : Hid (s.flt = [] ∧ u10 = .slice none 0 0) := Hi (by
      have h3 := flt_none HS.out HKL.out (congrArg Sv.flt HSTEP.out) HF1.out
      exact ⟨h3, flt_nil HS2.out.flt h3⟩)
     rw [HFE.out.2]
     clear hlm hc
     go_wp2_with (with_reducible refine stop_at (o := ⟨some 57, _, _, _, _, _⟩) ?_)
     rw [← HV1.out]
     obtain ⟨wl, HWL⟩ : ∃ wl, Hid (wl = (w3.alloc (.cells #[.slice Lay3.none_.A Nd.empty.keys.length Lay3.none_.ca, .slice Lay3.none_.B Nd.empty.vals.length Lay3.none_.cb, .slice Lay3.none_.C Nd.empty.kids.length Lay3.none_.cc] 48)).alloc (.cells #[v1] 27)) := Hy
     rw [← HWL.out]
     have HLL : Hid (Below w3.heap.size w3 wl ∧ wl.cell? ⟨w3.heap.size + 1, 0, none⟩ = some v1) := Hi (by
      rw [HWL.out]
      have h2 := (Below.refl w3.heap.size w3).alloc (Nat.le_refl _) (.cells #[.slice Lay3.none_.A Nd.empty.keys.length Lay3.none_.ca, .slice Lay3.none_.B Nd.empty.vals.length Lay3.none_.cb, .slice Lay3.none_.C Nd.empty.kids.length Lay3.none_.cc] 48)
      refine ⟨h2.alloc h2.size _, ?_⟩
      have h3 := (COwn.new (w := w3.alloc (.cells #[.slice Lay3.none_.A Nd.empty.keys.length Lay3.none_.ca, .slice Lay3.none_.B Nd.empty.vals.length Lay3.none_.cb, .slice Lay3.none_.C Nd.empty.kids.length Lay3.none_.cc] 48)) [v1] 27).cell (j := 0) rfl
      rwa [show (w3.alloc (.cells #[.slice Lay3.none_.A Nd.empty.keys.length Lay3.none_.ca, .slice Lay3.none_.B Nd.empty.vals.length Lay3.none_.cb, .slice Lay3.none_.C Nd.empty.kids.length Lay3.none_.cc] 48)).heap.size = w3.heap.size + 1 by simp] at h3)
     clear HWL
     refine wpList_append_own _ rfl _ _ 174 rfl w3.heap.size 27 i9 _ 1 16 Tryz.underlying174 hi9 hj3 hj4 hj5 rfl (by decide) _ 0 [] rfl (World.ownsRow_nil _ _ _ _) ⟨w3.heap.size + 1, 0, none⟩ 1 1 [v1] rfl rfl (fun j u hu => by
      rcases List.getElem?_eq_some_iff.1 hu with ⟨hj, rfl⟩
      obtain rfl : j = 0 := by simp at hj; exact hj
      exact HLL.out.2) (by simpa using HO1.out) (by unfold maxLen; omega) (by omega) HLL.out.1.size ?_
     intro v4 w4 hown4 hgrow4 _
     have HB4 : Hid (Below w3.heap.size w3 w4) := Hi (HLL.out.1.grown hgrow4 HLL.out.1.size (fun g hg => by cases hg))
     have HS4 : Hid (SvS w.heap.size p b w wm st ⟨t :: rest, s.met ++ [z], s.dep, s.flt ++ [c2]⟩ (.slice (some ⟨g, off, none⟩) len cap) v4 w4) := Hi (by
      rw [HLEN.out]
      exact HS2.out.fault rfl (by have := HM.out; omega) (by have := HM.out; omega) HFE.out.1 HB3.out HE3.out HB4.out hown4)
     clear hown4 hgrow4 HLL HB4 HE3 HB3 HS2 HFE
     go_wp2_with fail
     have h := sv_round (root := root) HS.out HKL.out HS4.out rfl HLEN.out HSTEP.out
     rw [HK.out, ← HLEN.out] at h
     exact h
    | ok x => cases hlm
end
end Nz
end Go.Proofs.YtafclmbecmgbnaaGreatDoor
