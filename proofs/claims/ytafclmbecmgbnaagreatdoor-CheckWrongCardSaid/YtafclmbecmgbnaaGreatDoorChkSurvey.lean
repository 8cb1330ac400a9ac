/-
 ChkSurvey. Conditions: as each theorem says.
-/
import Derived.Test.YtafclmbecmgbnaaGreatDoorSm
import Derived.Test.YtafclmbecmgbnaaGreatDoorChkSurS
import Derived.Test.YtafclmbecmgbnaaGreatDoorChkSorted
import Derived.Test.YtafclmbecmgbnaaGreatDoorSets
import Derived.Test.YtafclmbecmgbnaaGreatDoorTa
import Derived.OwnWalk
namespace Go.Proofs.YtafclmbecmgbnaaGreatDoor
open Go.RowKit Go.Maps
def SvPost (w : World) (s : Sv) (e : Ending) (w' : World) : Prop :=
 Below w.heap.size w w' ∧ match s.flt with
 | [] => ∃ v, e = .returned (.tuple #[v, .int .i64 s.dep, .nilIface]) ∧ (s.met.Nodup → w'.ownsRow w.heap.size 3 1 v s.met.length ((s.met.mergeSort (fun x y => decide (x ≤ y))).map (Value.int .i64)))
 | c :: _ => ∃ v, e = .returned (.tuple #[.slice none 0 0, .int .i64 0, v]) ∧ ErrFrom w' w.heap.size c v
def SpOk (t : Sp) : Prop := (-9223372036854775808 ≤ t.at_ ∧ t.at_ ≤ 9223372036854775807) ∧ 1 ≤ t.lv ∧ t.lv ≤ 13
theorem svStep_ok {S : TS} {s : Sv} (h : ∀ t ∈ s.wait, SpOk t) : ∀ t ∈ (svStep S s).wait, SpOk t := by
 unfold svStep
 split
 ·exact h
 ·rename_i t rest hw
  rw [hw] at h
  have hr : ∀ u ∈ rest, SpOk u := fun u hu => h u (List.mem_cons_of_mem _ hu)
  split
  ·exact hr
  ·split
   ·exact hr
   ·rename_i x hx
    intro u hu
    rcases List.mem_append.1 hu with hu | hu
    ·exact hr u hu
    ·have h1 := (h t List.mem_cons_self).2
     have hl : t.lv ≤ 12 := by
      unfold loadM at hx
      split at hx
      ·cases hx
      ·omega
     have hrx := loadM_right hx
     obtain ⟨n, hn⟩ : ∃ n, n = x.kids.length := ⟨_, rfl⟩
     have hall : ∀ n, n ≤ x.kids.length → ∀ u ∈ belowK x t.lv t.lo t.hi n, SpOk u := by
      intro n
      induction n with
      | zero => intro _ u hu; cases hu
      | succ n ih =>
       intro hn u hu
       rw [belowK] at hu
       rcases List.mem_append.1 hu with hu | hu
       ·exact ih (by omega) u hu
       ·rw [List.mem_singleton.1 hu]
        have hk : x.kids.getD n 0 ∈ x.kids := by
         rw [List.getD_eq_getElem?_getD, List.getElem?_eq_getElem (by omega)]
         exact List.getElem_mem _
        have hb : 2 ≤ x.kids.getD n 0 ∧ x.kids.getD n 0 ≤ 239 := by
         rcases (right_parts hrx).2.2 with ⟨h0, _⟩ | ⟨_, h2, _⟩
         ·rw [h0] at hk; cases hk
         ·exact (kidsB_iff.1 h2).1 _ hk
        exact ⟨⟨by show _ ≤ x.kids.getD n 0; omega, by show x.kids.getD n 0 ≤ _; omega⟩, by show 1 ≤ t.lv + 1; omega, by show t.lv + 1 ≤ 13; omega⟩
     exact hall _ (Nat.le_refl _) u hu
theorem svRun_ok {S : TS} {root : Int} (hr : -9223372036854775808 ≤ root ∧ root ≤ 9223372036854775807) (n : Nat) : ∀ t ∈ (svRun S n (svBegin root)).wait, SpOk t := by
 induction n with
 | zero =>
  intro t ht
  rw [show t = ⟨root, 1, 0, 4294967296⟩ from List.mem_singleton.1 ht]
  exact ⟨hr, (by show (1 : Int) ≤ 1; omega), (by show (1 : Int) ≤ 13; omega)⟩
 | succ n ih => rw [svRun_snoc]; exact svStep_ok ih
theorem svStep_len {S : TS} {s : Sv} : (svStep S s).wait.length ≤ s.wait.length + 8 := by
 unfold svStep
 split
 ·omega
 ·rename_i t rest hw
  rw [hw]
  split
  ·simp only [List.length_cons]; omega
  ·split
   ·simp only [List.length_cons]; omega
   ·rename_i x hx
    have hr := right_parts (loadM_right hx)
    have h1 : (belowN x t.lv t.lo t.hi).length = x.kids.length := belowK_length _ _ _ _ _
    simp only [List.length_append, List.length_cons, h1]
    rcases hr.2.2 with ⟨h0, _⟩ | ⟨_, _, _, _, h2⟩
    ·rw [h0]; simp; omega
    ·have := hr.2.1; omega
theorem svRun_len {S : TS} {root : Int} (n : Nat) : (svRun S n (svBegin root)).wait.length ≤ 1 + 8 * n := by
 induction n with
 | zero => exact Nat.le_refl _
 | succ n ih =>
  rw [svRun_snoc]
  have := svStep_len (S := S) (s := svRun S n (svBegin root))
  omega
theorem Tryz.spotTy : RowTy Tryz.prog 176 4 := ⟨⟨_, Tryz.underlying176, rfl⟩, by kernel_rfl⟩
section
variable {O : PgOwn} (H : PgSpec O)
include H
set_option maxHeartbeats 2000000 in
set_option maxRecDepth 100000 in
theorem survey_any {w0 : World} {K : Nat → Prop} {w : World} {P D n : Nat} {S : TS} {firm : Nat → List UInt8} (hl : LawT O w0 K w P D n S firm) (hg : Laid2 w0) (root : Int) (hr : root ≠ 0) (hrr : -9223372036854775808 ≤ root ∧ root ≤ 9223372036854775807) (N : Nat) (hN : N ≤ 3000) (hdone : (svRun S N (svBegin root)).wait = []) (h1 : (svRun S N (svBegin root)).flt.length ≤ 1)
  (hnd : (svRun S N (svBegin root)).flt = [] → (svRun S N (svBegin root)).met.Nodup) :
  Calls Tryz.prog 80 #[ptr P, .int .i64 root] w (SvPost w (svRun S N (svBegin root))) := by
 have hmm := @run_makeMap Tryz.prog
 obtain ⟨i0, hi0, hj0, hj1, hj2⟩ := info_parts Tryz.spotInfo
 obtain ⟨i9, hi9, hj3, hj4, hj5⟩ := info_parts Tryz.infoErr
 have HU := Hi (H.used hl.pg hl.inv)
 obtain ⟨st, HST⟩ : ∃ st, Hid (st = S.s.used) := Hy
 rw [← HST.out] at HU
 have HL := Hi hl
 have HR := Hi hr
 have HRR := Hi hrr
 have HNN := Hi hN
 have HDN := Hi hdone
 have HF1 := Hi h1
 have HND := Hi hnd
 clear hrr hN hdone h1 hnd
 have HG := Hi hg
 clear hl hg
 go_enter Tryz.func80, Tryz.ntmps80
 go_upto_region 3 with (fail)
 have hzs := Tryz.zeroSet
 go_wp2_with fail
 refine HU.out.mono ?_
 rintro e wu ⟨rfl, hb⟩
 have HBU := Hi hb
 clear hb HU
 go_wp2_with (with_reducible refine set_stop (o := ⟨none, _, _, _, _, _⟩) ?_)
 obtain ⟨p, HPP⟩ : ∃ p, Hid (p = wu.heap.size) := Hy
 obtain ⟨wc, HWC⟩ : ∃ wc, Hid (wc = wu.alloc (.cells (stArr zeroSt) 63)) := Hy
 rw [← HWC.out, ← HPP.out]
 have HC : Hid (Below w.heap.size w wc ∧ SOwn wc p zeroSt ∧ w.heap.size ≤ p ∧ p < wc.heap.size) := Hi (by
  rw [HWC.out, HPP.out]
  exact ⟨HBU.out.trans ((Below.refl _ _).alloc HBU.out.size _), SOwn.new _, HBU.out.size, by simp⟩)
 have HSTL : Hid (st.length = 30) := Hi (by rw [HST.out]; exact HL.out.inv.usedOk.1)
 clear HWC HPP HBU
 unfold SetStop
 refine wpList_store_set rfl _ _ rfl p st zeroSt HSTL.out zeroSt_length rfl rfl HC.out.2.1 ?_
 intro ws HWS HSS
 have HBS : Hid (Below w.heap.size w ws ∧ p < ws.heap.size ∧ w.heap.size ≤ p) := Hi ⟨below_cells_of HC.out.1 HWS.out HC.out.2.2.1, HSS.out.lt (by rw [HSTL.out]; decide), HC.out.2.2.1⟩
 clear HC HWS
 go_upto_region 6 with (fail)
 obtain ⟨b, HBB⟩ : ∃ b, Hid (b = ws.heap.size) := Hy
 obtain ⟨wm, HWM⟩ : ∃ wm, Hid (wm = ws.alloc (.map #[] 0)) := Hy
 rw [← HWM.out, ← HBB.out]
 have HM : Hid (Below w.heap.size w wm ∧ wm.heap.size = b + 1 ∧ p < b ∧ w.heap.size ≤ p ∧ MetC wm b [] ∧ SOwn wm p st) := Hi (by
  have h2 := HBS.out
  have hb := (Below.refl ws.heap.size ws).alloc (Nat.le_refl _) (.map #[] 0)
  rw [HWM.out, HBB.out]
  exact ⟨h2.1.trans (hb.mono h2.1.size), by simp, h2.2.1, h2.2.2, MetC.new _, HSS.out.below hb h2.2.1⟩)
 clear HWM HBB HBS HSS
 have hbu := Tryz.spotBuilt root 1 0 4294967296
 go_wp2_with (with_reducible refine stop_at (o := ⟨some 23, _, _, _, _, _⟩) ?_)
 refine wpList_rows_own rfl 177 176 4 1 #[(0, .tmp 22)] rfl [[.int .i64 root, .int .i64 1, .int .i64 0, .int .i64 4294967296]] Tryz.underlying177 Tryz.spotSize Tryz.spotZero rfl (by decide) (by decide) (by simp) (by rfl) ?_
 intro w1 HW1
 obtain ⟨q, HQQ⟩ : ∃ q, Hid (q = wm.heap.size) := Hy
 rw [← HQQ.out]
 obtain ⟨s0, HS0⟩ : ∃ s0, Hid (s0 = svBegin root) := Hy
 have HB1 : Hid (Below wm.heap.size wm w1) := Hi (by rw [HW1.out]; exact (Below.refl _ _).alloc (Nat.le_refl _) _)
 have HSV : Hid (SvS w.heap.size p b w wm st (svBegin root) (.slice (some ⟨q, 0, none⟩) 1 1) (.slice none 0 0) w1) := Hi (by
  have hm := HM.out
  have h1 := HB1.out
  refine ⟨hm.1.trans (h1.mono hm.1.size), h1.block p (by omega), h1.size, ⟨rfl, .inr ⟨q, 0, 1, #[.int .i64 root, .int .i64 1, .int .i64 0, .int .i64 4294967296], rfl, ?_, ?_, Nat.le_refl _, by decide, ?_, ?_⟩⟩, hm.2.2.2.2.1.block (h1.block b (by omega)), .inl ⟨rfl, rfl⟩⟩
  ·rw [HQQ.out]; exact Nat.le_refl _
  ·rw [HW1.out, HQQ.out]; exact heap_alloc_new wm _
  ·show 0 + 1 * 4 ≤ 4; omega
  ·rfl)
 clear HW1 HQQ HB1 hbu hmm
 go_wp2_with fail
 go_loopw [8, 10, 11] (fun vd vf vw wr => ∃ k, k ≤ N ∧ SvR S root w.heap.size p b w wm st k vd vf vw wr) (fun vd vf vw wr => N - grt (fun k => SvR S root w.heap.size p b w wm st k vd vf vw wr) N)
 case atStart => exact ⟨0, Nat.zero_le _, rfl, HSV.out⟩
 case round =>
  obtain ⟨k, HK⟩ : ∃ k, Hid (k = grt (fun k => SvR S root w.heap.size p b w wm st k u8 u10 u11 wr) N) := Hy
  have HKN : Hid (k ≤ N) := Hi (by rw [HK.out]; exact grt_le _ _)
  have hrk := grt_holds hrel
  rw [← HK.out] at hrk
  obtain ⟨hd8, hsv⟩ := hrk
  obtain ⟨s, HS⟩ : ∃ s, Hid (s = svRun S k (svBegin root)) := Hy
  rw [← HS.out] at hd8 hsv
  subst hd8
  have HSR := Hi hsv
  clear hsv hrel HSV
  obtain ⟨vw, HVW⟩ : ∃ vw, Hid (vw = u11) := Hy
  obtain ⟨wait, HWT⟩ : ∃ wait, Hid (wait = s.wait) := Hy
  cases wait with
  | nil =>
   have how := HSR.out.wait
   rw [← HWT.out] at how
   have HFIN : Hid (svRun S N (svBegin root) = s) := Hi (by
    have := svRun_add S k (N - k) (svBegin root)
    rw [show k + (N - k) = N by have := HKN.out; omega, ← HS.out] at this
    rw [this]
    exact svRun_done S _ HWT.out.symm)
   have HND2 := HND.out
   rw [HFIN.out] at HND2
   have HNDD := Hi HND2
   clear HND2
   obtain ⟨ao, cap, hvw⟩ : ∃ ao cap, u11 = .slice ao 0 cap := by
    rcases how.2 with ⟨h, _⟩ | ⟨g, off, cap, cur, h, _⟩
    ·exact ⟨none, 0, h⟩
    ·exact ⟨_, _, h⟩
   subst hvw
   clear how
   have HMT : Hid (s.met.length ≤ 3000) := Hi (by
    have := svRun_met S k (svBegin root)
    rw [← HS.out] at this
    have h2 := HKN.out
    have h3 := HNN.out
    simp only [svBegin, List.length_nil] at this
    omega)
   rcases HSR.out.flt with ⟨hf, rfl⟩ | ⟨c, u, g, cf, lo, hi, hf, rfl, h3, h4, h5, h6, h7, h8, h9⟩
   ·have HNN2 := Hi (HNDD.out hf)
    have HF := Hi hf
    clear hf
    obtain ⟨kk, DD, hk1, hk2, hk3, hk4, hk5⟩ := HSR.out.met.own
    have HMM := Hi (And.intro hk1 (And.intro hk2 (And.intro hk3 (And.intro hk4 hk5))))
    clear hk1 hk2 hk3 hk4 hk5
    have HSZ : Hid (Maps.size DD ≤ 3000) := Hi (Nat.le_trans HMM.out.2.1.size_le (Nat.le_trans HMM.out.1 HMT.out))
    go_wp2_with fail
    refine (chkKeys (some b) wr).mono ?_
    rintro e wk ⟨rfl, T, hwk⟩
    have HWK := Hi hwk
    clear hwk
    dsimp only
    go_wp2_with fail
    refine (chkSorted b kk DD _ wr wk T HWK.out HMM.out.2.1 (by have := HSZ.out; unfold maxLen; omega) (by have := HSZ.out; omega)).mono ?_
    rintro e w' ⟨v, ss, rfl, hss, hrow, _, hb⟩
    have HB9 : Hid (Below w.heap.size w w') := Hi (by
     have h1 := HSR.out.below
     have h2 : Below wr.heap.size wr wk := by rw [HWK.out]; exact (Below.refl _ _).alloc (Nat.le_refl _) _
     have h3 := h2.trans (hb.mono h2.size)
     exact h1.trans (h3.mono h1.size))
    have HROW : Hid (w'.ownsRow w.heap.size 3 1 v s.met.length ((s.met.mergeSort (fun x y => decide (x ≤ y))).map (Value.int .i64))) := Hi (by
     have hp : ss.Perm s.met := hss.trans (met_perm HMM.out.2.1 HMM.out.2.2.2.1 HNN2.out).symm
     have h1 := HSR.out.below.size
     have h2 : wk.heap.size = wr.heap.size + 1 := by rw [HWK.out]; simp
     rw [hp.length_eq, mergeSort_of_perm_i hp] at hrow
     exact ownsRow_mono hrow (by omega))
    clear hss hrow hb
    dsimp only
    go_wp2_with fail
    go_ret3
    refine ⟨HB9.out, ?_⟩
    rw [HFIN.out, HF.out]
    exact ⟨v, rfl, fun _ => HROW.out⟩
   ·have HF := Hi hf
    have HG1 := Hi (And.intro h4 (And.intro h5 h8))
    have h3' := h3
    clear hf h4 h5 h6 h7 h9
    go_wp2_with fail
    refine (chkFirst_one h3' h8).mono ?_
    rintro e w' ⟨rfl, hb⟩
    have HB9 : Hid (Below w.heap.size w w') := Hi (HSR.out.below.trans (hb.mono HSR.out.below.size))
    have HE9 : Hid (ErrFrom w' w.heap.size c u) := Hi (((HG1.out.1.keep hb.size fun k _ hk => hb.block k (Nat.lt_of_lt_of_le hk HG1.out.1.1)).err).mono HG1.out.2.1)
    clear hb h3 h3' h8
    dsimp only
    go_wp2_with fail
    go_ret3
    refine ⟨HB9.out, ?_⟩
    rw [HFIN.out, HF.out]
    exact ⟨u, rfl, HE9.out⟩
  | cons t rest =>
   have how := HSR.out.wait
   rw [← HWT.out] at how
   obtain ⟨g, off, cap, rfl, hcap1, hcap2⟩ := how.slice (by simp)
   have HCAP := Hi (And.intro hcap1 hcap2)
   have HRA : Hid (wr.rangeAt g off (spCells t)) := Hi (fun j v hj => by
    have h2 := how.cells rfl j v (by
     show (spCells t ++ spAll rest)[j]? = some v
     rw [List.getElem?_append_left (List.getElem?_eq_some_iff.1 hj).1]
     exact hj)
    rwa [show (⟨g, off, none⟩ : Addr).add j = ⟨g, off + j, none⟩ by unfold Addr.add; split <;> simp_all] at h2)
   obtain ⟨len, HLEN⟩ : ∃ len, Hid (len = (t :: rest).length) := Hy
   have hlen : (0 : Int) < (len : Int) := by rw [HLEN.out]; simp only [List.length_cons]; omega
   have HOW := Hi how
   rw [← HLEN.out]
   clear how hcap1 hcap2
   go_wp2_with (with_reducible refine stop_at (o := ⟨some 31, _, _, _, _, _⟩) ?_)
   unfold Stopped
   refine wpList_load_c Tryz.spotTy (by rfl) _ rfl g off rfl (spCells t) rfl HRA.out ?_
   go_wp2_with (with_reducible refine set_stop (o := ⟨none, _, _, _, _, _⟩) ?_)
   obtain ⟨q, HQQ⟩ : ∃ q, Hid (q = wr.heap.size) := Hy
   obtain ⟨wz, HWZ⟩ : ∃ wz, Hid (wz = wr.alloc (.cells #[.int .i64 0, .int .i64 0, .int .i64 0, .int .i64 0] 176)) := Hy
   rw [← HWZ.out, ← HQQ.out]
   have HCZ : Hid (COwn wz q [.int .i64 0, .int .i64 0, .int .i64 0, .int .i64 0] ∧ Below wr.heap.size wr wz ∧ wr.heap.size ≤ q) := Hi (by
    rw [HWZ.out, HQQ.out]
    exact ⟨COwn.new _ _, (Below.refl _ _).alloc (Nat.le_refl _) _, Nat.le_refl _⟩)
   clear HWZ
   unfold SetStop
   refine wpList_store_c Tryz.spotTy rfl _ _ rfl q _ (spCells t) rfl rfl (by simp [spCells, Value.oneCell']) rfl rfl HCZ.out.1 ?_
   intro wq HWQ HCQ
   have HBQ : Hid (Below wr.heap.size wr wq) := Hi (below_cells9 HCZ.out.2.1 HWQ.out HCZ.out.2.2)
   have HSQ := Hi (HSR.out.carry (by have := HM.out; omega) (by have := HM.out; omega) HBQ.out)
   have HQL : Hid (q < wq.heap.size ∧ wr.heap.size ≤ q) := Hi ⟨HCQ.out.lt (by simp [spCells]), HCZ.out.2.2⟩
   clear HWQ HCZ HRA
   have e0 := HCQ.out.cell (j := 0) rfl
   have hto := svRun_ok (S := S) HRR.out k t (by rw [← HS.out, ← HWT.out]; exact List.mem_cons_self)
   have HTO := Hi hto
   have HKL : Hid (k < N) := Hi (by
    rcases Nat.lt_or_ge k N with h | h
    ·exact h
    ·have := HKN.out
     have h2 := HDN.out
     rw [show N = k by omega, ← HS.out, ← HWT.out] at h2
     cases h2)
   obtain ⟨z, HZ⟩ : ∃ z, Hid (z = t.at_) := Hy
   have hzw : -9223372036854775808 ≤ z ∧ z ≤ 9223372036854775807 := by rw [HZ.out]; exact hto.1
   rw [← HZ.out] at e0
   clear hto
   have hkey : keyOf Tryz.prog 3 (.int .i64 z) = some (.int .i64 z) := keyOf_int_mk Tryz.underlying3 (WalkArith.wf_i64 hzw)
   obtain ⟨kk, DD, hk1, hk2, hk3, hk4, hk5⟩ := HSQ.out.met.own
   have HMM := Hi (And.intro hk1 (And.intro hk2 (And.intro hk3 (And.intro hk4 hk5))))
   clear hk1 hk2 hk3 hk4 hk5
   have hz0 := Tryz.zeroInt
   obtain ⟨c, HC⟩ : ∃ c, Hid (c = ((s.met.count z : Nat) : Int)) := Hy
   have HMT : Hid (s.met.length ≤ 3000) := Hi (by
    have := svRun_met S k (svBegin root)
    rw [← HS.out] at this
    have h2 := HKN.out
    have h3 := HNN.out
    simp only [svBegin, List.length_nil] at this
    omega)
   have hc : 0 ≤ c ∧ c ≤ 3000 := by
    rw [HC.out]
    have := List.count_le_length (a := z) (l := s.met)
    have := HMT.out
    omega
   have hat := HMM.out.2.2.2.2 z
   rw [← HC.out] at hat
   go_wp2_with (with_reducible refine stop_at (o := ⟨some 35, _, _, _, _, _⟩) ?_)
   refine wpList_lookup_own_int _ rfl _ _ 173 rfl 3 3 .i64 Tryz.keyInt Tryz.underlying173 Tryz.underlying3 (hz0 _) b kk DD rfl HMM.out.2.1 _ _ rfl hkey ?_
   intro c' hat2 hwc
   obtain rfl : c = c' := lit_int (hat.symm.trans hat2)
   clear hat2 hwc hat
   have HKEY := Hi hkey
   have hc1 : wrap64 (c + 1) = c + 1 := by unfold wrap64; omega
   have hkm : kk < maxLen := by have := HMM.out.1; have := HMT.out; unfold maxLen; omega
   go_wp2_with (with_reducible refine stop_at (o := ⟨none, _, _, _, _, _⟩) ?_)
   refine wpList_mapUpdate_own _ rfl _ _ _ 173 rfl 3 3 Tryz.keyInt Tryz.underlying173 _ b kk DD rfl HMM.out.2.1 hkm _ (.int .i64 (c + 1)) _ rfl rfl HKEY.out (.lit (.int .i64 (c + 1))) [] (plainElem_int Tryz.underlying3 (WalkArith.wf_i64 (by omega))) ?_
   intro w2 hown2 hgrow2
   have HB2 : Hid (Below wq.heap.size wq wq) := Hi (Below.refl _ _)
   have HAT : Hid ((DD.put (.int .i64 z) (.lit (.int .i64 (c + 1)))).atKey (.int .i64 z) (.lit (.int .i64 0)) = .lit (.int .i64 (c + 1))) := Hi (atKey_put_same (k := .int .i64 z) HMM.out.2.2.1 trivial _ _)
   have HOW2 := Hi hown2
   have HCQ2 : Hid (COwn w2 q (spCells t) ∧ q < w2.heap.size) := Hi ⟨HCQ.out.block (hgrow2.block q HQL.out.1 (by have h1 := HQL.out; have h2 := HM.out; have h3 := HSR.out.size; simp; omega)), Nat.lt_of_lt_of_le HQL.out.1 hgrow2.size⟩
   have HS2 : Hid (SvS w.heap.size p b w wm st ⟨t :: rest, s.met ++ [z], s.dep, s.flt⟩ (.slice (some ⟨g, off, none⟩) (t :: rest).length cap) u10 w2) := Hi (by
    have h := HSQ.out.name (met := s.met ++ [z]) (by have := HM.out; omega) (by have := HM.out; omega) (by have := HM.out; omega) hgrow2 (MetC.push HMM.out.1 HMM.out.2.2.1 HMM.out.2.2.2.1 HMM.out.2.2.2.2 (by rw [← HC.out]; exact hown2))
    rw [← HWT.out] at h
    exact h)
   clear hown2 hgrow2 HB2 HSQ HBQ HCQ HMM e0 HSR
   have e0 := HCQ2.out.1.cell (j := 0) rfl
   rw [← HZ.out] at e0
   dsimp only [Act.put]
   go_wp2_with (with_reducible refine stop_at (o := ⟨some 40, _, _, _, _, _⟩) ?_)
   refine wpList_lookup_own_int _ rfl _ _ 173 rfl 3 3 .i64 Tryz.keyInt Tryz.underlying173 Tryz.underlying3 (hz0 _) b (kk + 1) _ rfl HOW2.out _ _ rfl HKEY.out ?_
   intro c' hat2 hwc
   obtain rfl : c + 1 = c' := lit_int (HAT.out.symm.trans hat2)
   clear hat2 hwc HAT HOW2 hkm
   by_cases hdup : z ∈ s.met
   ·-- it was named before
    have hcd : 1 < c + 1 := by
     have := List.count_pos_iff.2 hdup
     have := HC.out
     omega
    have HSTEP : Hid (svStep S s = ⟨rest, s.met ++ [z], s.dep, s.flt ++ [2]⟩) := Hi (by
     unfold svStep
     rw [← HWT.out]
     simp only
     rw [← HZ.out, if_pos hdup])
    have HFE : Hid (s.flt = [] ∧ u10 = .slice none 0 0) := Hi (by
     have h3 := flt_none HS.out HKL.out (congrArg Sv.flt HSTEP.out) HF1.out
     exact ⟨h3, flt_nil HS2.out.flt h3⟩)
    clear hdup
    rw [HFE.out.2]
    go_wp2_with fail
    refine (chkFault_any 2 (by decide) w2).mono ?_
    rintro e w3 ⟨v, rfl, he, hb⟩
    obtain ⟨tt, xx, rfl⟩ := he.some (by decide)
    obtain ⟨v1, HV1⟩ : ∃ v1, Hid (v1 = Value.iface tt xx) := Hy
    have HO1 : Hid (v1.oneCell' = true) := Hi (by rw [HV1.out]; rfl)
    rw [← HV1.out] at he
    have HE3 := Hi he
    have HB3 := Hi hb
    clear he hb
    dsimp only
    go_wp2_with (with_reducible refine stop_at (o := ⟨some 45, _, _, _, _, _⟩) ?_)
    rw [← HV1.out]
    obtain ⟨wl, HWL⟩ : ∃ wl, Hid (wl = w3.alloc (.cells #[v1] 27)) := Hy
    rw [← HWL.out]
    have HLL : Hid (Below w3.heap.size w3 wl ∧ wl.cell? ⟨w3.heap.size, 0, none⟩ = some v1) := Hi (by
     rw [HWL.out]
     exact ⟨(Below.refl _ _).alloc (Nat.le_refl _) _, (COwn.new [v1] _).cell rfl⟩)
    clear HWL
    refine wpList_append_own _ rfl _ _ 174 rfl w3.heap.size 27 i9 _ 1 16 Tryz.underlying174 hi9 hj3 hj4 hj5 rfl (by decide) _ 0 [] rfl (World.ownsRow_nil _ _ _ _) ⟨w3.heap.size, 0, none⟩ 1 1 [v1] rfl rfl (fun j u hu => by
     rcases List.getElem?_eq_some_iff.1 hu with ⟨hj, rfl⟩
     obtain rfl : j = 0 := by simp at hj; exact hj
     exact HLL.out.2) (by simpa using HO1.out) (by unfold maxLen; omega) (by omega) HLL.out.1.size ?_
    intro v4 w4 hown4 hgrow4 _
    have HB4 : Hid (Below w3.heap.size w3 w4) := Hi (HLL.out.1.grown hgrow4 HLL.out.1.size (fun g hg => by cases hg))
    have HS4 : Hid (SvS w.heap.size p b w wm st ⟨t :: rest, s.met ++ [z], s.dep, s.flt ++ [2]⟩ (.slice (some ⟨g, off, none⟩) len cap) v4 w4) := Hi (by
     rw [HLEN.out]
     exact HS2.out.fault rfl (by have := HM.out; omega) (by have := HM.out; omega) HFE.out.1 HB3.out HE3.out HB4.out hown4)
    clear hown4 hgrow4 HLL HB4 HE3 HB3 HS2 HFE
    go_wp2_with fail
    have h := sv_round (root := root) HS.out HKL.out HS4.out rfl HLEN.out HSTEP.out
    rw [HK.out, ← HLEN.out] at h
    exact h
   ·have HNM := Hi hdup
    have hcd : ¬ 1 < c + 1 := by
     have := List.count_eq_zero.2 hdup
     have := HC.out
     omega
    clear hdup
    have HL2 := Hi (HL.out.carry H HS2.out.below)
    have HLD := Hi (chkLoad_any H HL2.out HG.out t.at_ t.lv t.lo t.hi)
    go_wp2_with (with_reducible refine stop_at (o := ⟨some 48, _, _, _, _, _⟩) ?_)
    unfold Stopped
    refine wpList_load_c Tryz.spotTy (by rfl) _ rfl q 0 rfl (spCells t) rfl HCQ2.out.1.at_ ?_
    have HTV : Hid ((.agg (spCells t).toArray : Value) = spV t.at_ t.lv t.lo t.hi) := Hi rfl
    obtain ⟨sp, HSP⟩ : ∃ sp, Hid (sp = spV t.at_ t.lv t.lo t.hi) := Hy
    rw [HTV.out, ← HSP.out]
    rw [← HSP.out] at HLD
    dsimp only [Act.put]
    go_wp2_with fail
    refine HLD.out.mono ?_
    cases hlm : loadM S t.at_ t.lv with
    | error c2 =>
     rintro e w3 ⟨hc, v, rfl, he, hb⟩
     obtain ⟨tt, xx, rfl⟩ := he.some hc
     obtain ⟨v1, HV1⟩ : ∃ v1, Hid (v1 = Value.iface tt xx) := Hy
     have HO1 : Hid (v1.oneCell' = true) := Hi (by rw [HV1.out]; rfl)
     rw [← HV1.out] at he
     have HE3 := Hi he
     have HB3 := Hi hb
     clear he hb
     have HSTEP : Hid (svStep S s = ⟨rest, s.met ++ [z], s.dep, s.flt ++ [c2]⟩) := Hi (by
      unfold svStep
      rw [← HWT.out]
      simp only
      rw [← HZ.out, if_neg HNM.out, HZ.out, hlm])
     have HFE : Hid (s.flt = [] ∧ u10 = .slice none 0 0) := Hi (by
      have h3 := flt_none HS.out HKL.out (congrArg Sv.flt HSTEP.out) HF1.out
      exact ⟨h3, flt_nil HS2.out.flt h3⟩)
     rw [HFE.out.2]
     clear hlm hc
     go_wp2_with (with_reducible refine stop_at (o := ⟨some 57, _, _, _, _, _⟩) ?_)
     rw [← HV1.out]
     obtain ⟨wl, HWL⟩ : ∃ wl, Hid (wl = (w3.alloc (.cells #[.slice Lay3.none_.A Nd.empty.keys.length Lay3.none_.ca, .slice Lay3.none_.B Nd.empty.vals.length Lay3.none_.cb, .slice Lay3.none_.C Nd.empty.kids.length Lay3.none_.cc] 48)).alloc (.cells #[v1] 27)) := Hy
     rw [← HWL.out]
     have HLL : Hid (Below w3.heap.size w3 wl ∧ wl.cell? ⟨w3.heap.size + 1, 0, none⟩ = some v1) := Hi (by
      rw [HWL.out]
      have h2 := (Below.refl w3.heap.size w3).alloc (Nat.le_refl _) (.cells #[.slice Lay3.none_.A Nd.empty.keys.length Lay3.none_.ca, .slice Lay3.none_.B Nd.empty.vals.length Lay3.none_.cb, .slice Lay3.none_.C Nd.empty.kids.length Lay3.none_.cc] 48)
      refine ⟨h2.alloc h2.size _, ?_⟩
      have h3 := (COwn.new (w := w3.alloc (.cells #[.slice Lay3.none_.A Nd.empty.keys.length Lay3.none_.ca, .slice Lay3.none_.B Nd.empty.vals.length Lay3.none_.cb, .slice Lay3.none_.C Nd.empty.kids.length Lay3.none_.cc] 48)) [v1] 27).cell (j := 0) rfl
      rwa [show (w3.alloc (.cells #[.slice Lay3.none_.A Nd.empty.keys.length Lay3.none_.ca, .slice Lay3.none_.B Nd.empty.vals.length Lay3.none_.cb, .slice Lay3.none_.C Nd.empty.kids.length Lay3.none_.cc] 48)).heap.size = w3.heap.size + 1 by simp] at h3)
     clear HWL
     refine wpList_append_own _ rfl _ _ 174 rfl w3.heap.size 27 i9 _ 1 16 Tryz.underlying174 hi9 hj3 hj4 hj5 rfl (by decide) _ 0 [] rfl (World.ownsRow_nil _ _ _ _) ⟨w3.heap.size + 1, 0, none⟩ 1 1 [v1] rfl rfl (fun j u hu => by
      rcases List.getElem?_eq_some_iff.1 hu with ⟨hj, rfl⟩
      obtain rfl : j = 0 := by simp at hj; exact hj
      exact HLL.out.2) (by simpa using HO1.out) (by unfold maxLen; omega) (by omega) HLL.out.1.size ?_
     intro v4 w4 hown4 hgrow4 _
     have HB4 : Hid (Below w3.heap.size w3 w4) := Hi (HLL.out.1.grown hgrow4 HLL.out.1.size (fun g hg => by cases hg))
     have HS4 : Hid (SvS w.heap.size p b w wm st ⟨t :: rest, s.met ++ [z], s.dep, s.flt ++ [c2]⟩ (.slice (some ⟨g, off, none⟩) len cap) v4 w4) := Hi (by
      rw [HLEN.out]
      exact HS2.out.fault rfl (by have := HM.out; omega) (by have := HM.out; omega) HFE.out.1 HB3.out HE3.out HB4.out hown4)
     clear hown4 hgrow4 HLL HB4 HE3 HB3 HS2 HFE
     go_wp2_with fail
     have h := sv_round (root := root) HS.out HKL.out HS4.out rfl HLEN.out HSTEP.out
     rw [HK.out, ← HLEN.out] at h
     exact h
    | ok x =>
     rintro e w3 ⟨hr2, l, rfl, hn, hb⟩
     have HRX := Hi hr2
     have HNW := Hi hn
     have HB3 := Hi hb
     clear hb hn hr2
     have HLV : Hid (1 ≤ t.lv ∧ t.lv ≤ 12) := Hi (by
      have := HTO.out.2
      refine ⟨this.1, ?_⟩
      unfold loadM at hlm
      split at hlm
      ·cases hlm
      ·omega)
     have HLM := Hi hlm
     clear hlm
     go_upto_region 16 with (fail)
     obtain ⟨r, HRR3⟩ : ∃ r, Hid (r = w3.heap.size) := Hy
     obtain ⟨w4, HW4⟩ : ∃ w4, Hid (w4 = w3.alloc (.cells #[.slice l.A x.keys.length l.ca, .slice l.B x.vals.length l.cb, .slice l.C x.kids.length l.cc] 48)) := Hy
     rw [← HW4.out, ← HRR3.out]
     have HPB : Hid (p < wm.heap.size ∧ b < wm.heap.size) := Hi (by have := HM.out; omega)
     have HSL : Hid (SvL w.heap.size p b w wm st ⟨t :: rest, s.met ++ [z], s.dep, s.flt⟩ (.slice (some ⟨g, off, none⟩) len cap) u10 q r l x t w4) := Hi (by
      have h34 : Below w3.heap.size w3 w4 := by rw [HW4.out]; exact (Below.refl _ _).alloc (Nat.le_refl _) _
      have h24 := HB3.out.trans (h34.mono HB3.out.size)
      rw [HLEN.out]
      refine ⟨HS2.out.carry HPB.out.1 HPB.out.2 h24, HCQ2.out.1.carry h24 (by simp [spCells]), ?_, HNW.out.is.carry h34⟩
      rw [HW4.out, HRR3.out]
      exact NdBox.new _)
     clear HW4 HRR3 HB3 HNW HS2 HCQ2
     have HOK : Hid (Bits.Ok st) := Hi (by rw [HST.out]; exact HL.out.inv.usedOk)
     obtain ⟨sd, HSD⟩ : ∃ sd, Hid (sd = (hasI st z && fitsN x t.lv t.lo t.hi)) := Hy
     have e0 := HSL.out.c.cell (j := 0) rfl
     rw [← HZ.out] at e0
     go_cut [15] (fun s15 wx => s15 = .bool sd ∧ Hid (SvL w.heap.size p b w wm st ⟨t :: rest, s.met ++ [z], s.dep, s.flt⟩ (.slice (some ⟨g, off, none⟩) len cap) u10 q r l x t wx))
     case first =>
      go_wp2_with (with_reducible refine stop_at (o := ⟨some 58, _, _, _, _, _⟩) ?_)
      unfold Stopped
      refine wpList_load_set (by rfl) _ rfl p rfl st HSTL.out (HSL.out.s.set HM.out.2.2.2.2.2).at_ ?_
      dsimp only [Act.put]
      go_wp2_with fail
      refine (Has_any st HOK.out z _).mono ?_
      rintro e w5 ⟨rfl, hb⟩
      have HS5 := Hi (HSL.out.carry HPB.out.1 HPB.out.2 hb)
      clear hb
      dsimp only
      cases hh : hasZ st z with
      | false =>
       have HSDF : Hid (sd = false) := Hi (by rw [HSD.out, hasI_eq, hh]; rfl)
       clear hh
       go_wp2_with fail
       go_meet
       exact ⟨by rw [HSDF.out], HS5⟩
      | true =>
       have HSDF : Hid (sd = fitsN x t.lv t.lo t.hi) := Hi (by rw [HSD.out, hasI_eq, hh, Bool.true_and])
       clear hh
       go_wp2_with (with_reducible refine stop_at (o := ⟨some 63, _, _, _, _, _⟩) ?_)
       unfold Stopped
       refine wpList_load_nd Tryz.ndProg (by rfl) _ rfl r rfl l x HS5.out.b ?_
       dsimp only [Act.put]
       go_wp2_with (with_reducible refine stop_at (o := ⟨some 64, _, _, _, _, _⟩) ?_)
       unfold Stopped
       refine wpList_load_c Tryz.spotTy (by rfl) _ rfl q 0 rfl (spCells t) rfl HS5.out.c.at_ ?_
       rw [HTV.out]
       dsimp only [Act.put]
       go_wp2_with fail
       refine (chkFits_any HS5.out.is t.at_ t.lv t.lo t.hi).mono ?_
       rintro e w6 ⟨rfl, hb⟩
       have HS6 := Hi (HS5.out.carry HPB.out.1 HPB.out.2 hb)
       clear hb
       rw [← HSDF.out]
       go_wp2_with fail
       go_meet
       exact ⟨rfl, HS6⟩
     case rest =>
      obtain ⟨rfl, hsl⟩ := hcut
      have HSC := Hi hsl.out
      clear hsl HSL e0
      obtain ⟨lv, HLVV⟩ : ∃ lv, Hid (lv = t.lv) := Hy
      obtain ⟨dp, HDP⟩ : ∃ dp, Hid (dp = s.dep) := Hy
      rw [← HDP.out]
      go_wp2_with (with_reducible refine stop_at (o := ⟨some 67, _, _, _, _, _⟩) ?_)
      unfold Stopped
      refine wpList_load_nd Tryz.ndProg (by rfl) _ rfl r rfl l x HSC.out.b ?_
      dsimp only [Act.put]
      go_wp2_with fail
      refine (Leaf_any x).mono ?_
      rintro e w5 ⟨rfl, hb⟩
      have HS5 := Hi (HSC.out.carry HPB.out.1 HPB.out.2 hb)
      clear hb HSC
      have e1 := HS5.out.c.cell (j := 1) rfl
      rw [← HLVV.out] at e1
      dsimp only
      obtain ⟨lf, HLF⟩ : ∃ lf, Hid (lf = decide (x.kids.length = 0)) := Hy
      rw [← HLF.out]
      obtain ⟨dn, HDN2⟩ : ∃ dn, Hid (dn = svDep x t.lv s.dep) := Hy
      obtain ⟨ok, HOKK⟩ : ∃ ok, Hid (ok = svOk S t x s.dep) := Hy
      have HOE : Hid (ok = (sd && (!lf || decide (dn = lv)))) := Hi (by
       rw [HOKK.out, HSD.out, HLF.out, HDN2.out, HLVV.out, HST.out, HZ.out]
       unfold svOk
       by_cases h : x.kids.length = 0 <;> simp [h])
      have HDE : Hid (dn = if lf = true ∧ dp = 0 then lv else dp) := Hi (by
       rw [HDN2.out, HLF.out, HLVV.out, HDP.out]
       unfold svDep
       simp only [decide_eq_true_eq])
      go_upto_if 68 with (fail)
      go_cut [8, 15] (fun s8 s15 wx => s8 = .int .i64 dn ∧ s15 = .bool ok ∧ w5 = wx)
      case first =>
       cases lf with
       | false =>
        have h1 := HDE.out
        have h2 := HOE.out
        simp only [Bool.not_false, Bool.true_or, Bool.and_true, Bool.false_eq_true, false_and, if_false] at h1 h2
        subst h1 h2
        go_wp2_with fail
        go_meet
        exact ⟨rfl, rfl, rfl⟩
       | true =>
        by_cases hd0 : dp = 0
        ·have h1 : Hid (dn = lv) := Hi (by rw [HDE.out, if_pos ⟨rfl, hd0⟩])
         have h2 : Hid (ok = sd) := Hi (by rw [HOE.out, h1.out]; simp)
         cases sd with
         | false =>
          go_wp2_with fail
          go_meet
          exact ⟨by rw [h1.out], by rw [h2.out], rfl⟩
         | true =>
          have hll : (lv == lv) = true := by simp
          go_wp2_with fail
          go_meet
          exact ⟨by rw [h1.out], by rw [h2.out], rfl⟩
        ·have h1 : Hid (dn = dp) := Hi (by rw [HDE.out, if_neg (fun h => hd0 h.2)])
         cases sd with
         | false =>
          have h2 : Hid (ok = false) := Hi (by rw [HOE.out]; rfl)
          go_wp2_with fail
          go_meet
          exact ⟨by rw [h1.out], by rw [h2.out], rfl⟩
         | true =>
          have h2 : Hid (ok = decide (dp = lv)) := Hi (by rw [HOE.out, h1.out]; rfl)
          by_cases hdl : dp = lv
          ·have h3 : Hid (ok = true) := Hi (by rw [h2.out, decide_eq_true hdl])
           have hll : (dp == lv) = true := by simp [hdl]
           clear hdl
           go_wp2_with fail
           go_meet
           exact ⟨by rw [h1.out], by rw [h3.out], rfl⟩
          ·have h3 : Hid (ok = false) := Hi (by rw [h2.out, decide_eq_false hdl])
           have hll : (dp == lv) = false := by simp [hdl]
           clear hdl
           go_wp2_with fail
           go_meet
           exact ⟨by rw [h1.out], by rw [h3.out], rfl⟩
      case rest =>
       obtain ⟨rfl, rfl, rfl⟩ := hcut
       obtain ⟨flt, HFL⟩ : ∃ flt, Hid (flt = if ok = true then s.flt else s.flt ++ [2]) := Hy
       have HSTEP : Hid (svStep S s = ⟨rest ++ belowN x t.lv t.lo t.hi, s.met ++ [z], dn, flt⟩) := Hi (by
        unfold svStep
        rw [← HWT.out]
        simp only
        rw [← HZ.out, if_neg HNM.out, HZ.out, HLM.out]
        simp only
        rw [← HOKK.out, ← HDN2.out, ← HFL.out])
       go_upto_if 81 with (fail)
       go_cut [10] (fun s10 wx => Hid (SvL w.heap.size p b w wm st ⟨t :: rest, s.met ++ [z], s.dep, flt⟩ (.slice (some ⟨g, off, none⟩) len cap) s10 q r l x t wx))
       case first =>
        cases ok with
        | true =>
         have HF0 : Hid (flt = s.flt) := Hi HFL.out
         go_wp2_with fail
         go_meet
         rw [HF0.out]
         exact HS5
        | false =>
         have HF0 : Hid (flt = s.flt ++ [2]) := Hi HFL.out
         have HFE : Hid (s.flt = [] ∧ u10 = .slice none 0 0) := Hi (by
          have h3 := flt_none HS.out HKL.out ((congrArg Sv.flt HSTEP.out).trans HF0.out) HF1.out
          exact ⟨h3, flt_nil HS5.out.s.flt h3⟩)
         rw [HFE.out.2]
         go_wp2_with fail
         refine (chkFault_any 2 (by decide) w5).mono ?_
         rintro e w6 ⟨v, rfl, he, hb⟩
         obtain ⟨tt, xx, rfl⟩ := he.some (by decide)
         obtain ⟨v1, HV1⟩ : ∃ v1, Hid (v1 = Value.iface tt xx) := Hy
         have HO1 : Hid (v1.oneCell' = true) := Hi (by rw [HV1.out]; rfl)
         rw [← HV1.out] at he
         have HE3 := Hi he
         have HB3 := Hi hb
         clear he hb
         dsimp only
         go_wp2_with (with_reducible refine stop_at (o := ⟨some 85, _, _, _, _, _⟩) ?_)
         rw [← HV1.out]
         obtain ⟨wl, HWL⟩ : ∃ wl, Hid (wl = w6.alloc (.cells #[v1] 27)) := Hy
         rw [← HWL.out]
         have HLL : Hid (Below w6.heap.size w6 wl ∧ wl.cell? ⟨w6.heap.size, 0, none⟩ = some v1) := Hi (by
          rw [HWL.out]
          exact ⟨(Below.refl _ _).alloc (Nat.le_refl _) _, (COwn.new [v1] _).cell rfl⟩)
         clear HWL
         refine wpList_append_own _ rfl _ _ 174 rfl w6.heap.size 27 i9 _ 1 16 Tryz.underlying174 hi9 hj3 hj4 hj5 rfl (by decide) _ 0 [] rfl (World.ownsRow_nil _ _ _ _) ⟨w6.heap.size, 0, none⟩ 1 1 [v1] rfl rfl (fun j u hu => by
          rcases List.getElem?_eq_some_iff.1 hu with ⟨hj, rfl⟩
          obtain rfl : j = 0 := by simp at hj; exact hj
          exact HLL.out.2) (by simpa using HO1.out) (by unfold maxLen; omega) (by omega) HLL.out.1.size ?_
         intro v4 w7 hown4 hgrow4 _
         have HB4 : Hid (Below w6.heap.size w6 w7) := Hi (HLL.out.1.grown hgrow4 HLL.out.1.size (fun g hg => by cases hg))
         have HS7 : Hid (SvL w.heap.size p b w wm st ⟨t :: rest, s.met ++ [z], s.dep, flt⟩ (.slice (some ⟨g, off, none⟩) len cap) v4 q r l x t w7) := Hi (by
          rw [HF0.out]
          exact HS5.out.fault rfl HPB.out.1 HPB.out.2 HFE.out.1 HB3.out HE3.out HB4.out hown4)
         clear hown4 hgrow4 HLL HB4 HE3 HB3
         go_wp2_with fail
         go_meet
         exact HS7
       case rest =>
        have HS7 := Hi hcut.out
        clear hcut HS5 e1
        obtain ⟨w0', HW0⟩ : ∃ w0', Hid (w0' = wc) := Hy
        have HKD : Hid (x.kids.length ≤ 255) := Hi (by
         rcases (right_parts HRX.out).2.2 with ⟨h0, _⟩ | ⟨_, _, _, _, h2⟩
         ·rw [h0]; simp
         ·have := (right_parts HRX.out).2.1; omega)
        have HBEL := Hi (chkBelow_any HS7.out.is t.at_ t.lv t.lo t.hi (by have := HLV.out; omega) HKD.out)
        go_wp2_with (with_reducible refine stop_at (o := ⟨some 87, _, _, _, _, _⟩) ?_)
        unfold Stopped
        refine wpList_load_nd Tryz.ndProg (by rfl) _ rfl r rfl l x HS7.out.b ?_
        dsimp only [Act.put]
        go_wp2_with (with_reducible refine stop_at (o := ⟨some 88, _, _, _, _, _⟩) ?_)
        unfold Stopped
        refine wpList_load_c Tryz.spotTy (by rfl) _ rfl q 0 rfl (spCells t) rfl HS7.out.c.at_ ?_
        rw [HTV.out]
        dsimp only [Act.put]
        go_wp2_with fail
        refine HBEL.out.mono ?_
        rintro e w8 ⟨v, rfl, hown8, hb⟩
        have HS8 := Hi (HS7.out.carry HPB.out.1 HPB.out.2 hb)
        have HO8 := Hi hown8
        have HB8 := Hi hb
        clear hown8 hb HS7 HBEL
        dsimp only
        have HML : Hid (w.heap.size ≤ wm.heap.size) := Hi (by have := HM.out; omega)
        have HWL : Hid (len ≤ 30000) := Hi (by
         have := svRun_len (S := S) (root := root) k
         rw [← HS.out, ← HWT.out, ← HLEN.out] at this
         have h2 := HKN.out
         have h3 := HNN.out
         omega)
        rcases HO8.out.2 with ⟨hv, hn0⟩ | ⟨g2, c2, cur2, hv, _⟩
        ·have HBE : Hid (belowN x t.lv t.lo t.hi = []) := Hi (List.length_eq_zero_iff.1 (by show (belowK x t.lv t.lo t.hi x.kids.length).length = 0; rw [belowK_length]; exact hn0))
         subst hv
         have HS9 : Hid (SvS w.heap.size p b w wm st ⟨t :: rest, s.met ++ [z], dn, flt⟩ (.slice (some ⟨g, off, none⟩) len cap) u10 w8) := Hi ⟨HS8.out.s.below, HS8.out.s.box, HS8.out.s.size, HS8.out.s.wait, HS8.out.s.met, HS8.out.s.flt⟩
         have HST2 : Hid (svStep S s = ⟨rest, s.met ++ [z], dn, flt⟩) := Hi (by rw [HSTEP.out, HBE.out, List.append_nil])
         clear hn0
         go_wp2_with (with_reducible refine stop_at (o := ⟨some 90, _, _, _, _, _⟩) ?_)
         unfold Stopped
         refine wpList_append_at_none _ rfl _ _ 177 rfl wm.heap.size 176 i0 4 Tryz.underlying177 hi0 _ _ _ rfl HS9.out.wait rfl ?_
         dsimp only [Act.put]
         go_wp2_with fail
         have h := sv_round (root := root) HS.out HKL.out HS9.out rfl HLEN.out HST2.out
         rw [HK.out, ← HLEN.out] at h
         exact h
        ·subst hv
         have HBL : Hid ((belowN x t.lv t.lo t.hi).length = x.kids.length) := Hi (by show (belowK x t.lv t.lo t.hi x.kids.length).length = x.kids.length; exact belowK_length _ _ _ _ _)
         go_wp2_with (with_reducible refine stop_at (o := ⟨some 90, _, _, _, _, _⟩) ?_)
         unfold Stopped
         refine wpList_append_at _ rfl _ _ 177 rfl wm.heap.size 176 i0 _ 4 32 Tryz.underlying177 hi0 hj0 hj1 hj2 rfl (by decide) _ _ _ rfl HS8.out.s.wait ⟨g2, 0, none⟩ x.kids.length c2 (spAll (belowN x t.lv t.lo t.hi)) rfl HO8.out.1 (HO8.out.cells rfl) (fun u hu => by
          obtain ⟨y, _, hy⟩ := List.mem_flatMap.1 hu
          simp only [spCells, List.mem_cons, List.not_mem_nil, or_false] at hy
          rcases hy with rfl | rfl | rfl | rfl <;> rfl) (by have h1 := HWL.out; have h2 := HKD.out; have h3 := HLEN.out; simp only [List.length_cons] at h3 ⊢; unfold maxLen; omega) (by have h1 := HWL.out; have h2 := HKD.out; have h3 := HLEN.out; simp only [List.length_cons] at h3 ⊢; omega) HS8.out.s.size ?_
         intro v9 w9 hown9 hgrow9 hblk9
         have HS9 : Hid (SvS w.heap.size p b w wm st ⟨t :: rest ++ belowN x t.lv t.lo t.hi, s.met ++ [z], dn, flt⟩ v9 u10 w9) := Hi (HS8.out.s.more HML.out HPB.out.1 HPB.out.2 hgrow9 (by rw [HBL.out]; exact hown9) hblk9 dn)
         obtain ⟨g9, o9, c9, hv9, _⟩ := HS9.out.wait.slice (by simp)
         subst hv9
         clear hown9 hgrow9 hblk9
         obtain ⟨len9, HLEN9⟩ : ∃ n, Hid (n = (t :: rest ++ belowN x t.lv t.lo t.hi).length) := Hy
         have HS10 : Hid (SvS w.heap.size p b w wm st ⟨t :: rest ++ belowN x t.lv t.lo t.hi, s.met ++ [z], dn, flt⟩ (.slice (some ⟨g9, o9, none⟩) len9 c9) u10 w9) := Hi (by rw [HLEN9.out]; exact HS9.out)
         have hl9 : 1 ≤ len9 ∧ len9 ≤ c9 := by
          obtain ⟨_, _, _, h1, h2, _⟩ := HS10.out.wait.slice (by simp)
          simp only [Value.slice.injEq] at h1
          rw [HLEN9.out]
          refine ⟨by simp, ?_⟩
          rw [h1.2.2]; exact h2
         dsimp only [Act.put]
         rw [show (({ wait := t :: rest ++ belowN x t.lv t.lo t.hi, met := s.met ++ [z], dep := dn, flt := flt } : Sv).wait.length) = len9 from HLEN9.out.symm]
         go_wp2_with fail
         have h := sv_round (root := root) HS.out HKL.out HS10.out rfl (by rw [HLEN9.out]; rfl) HSTEP.out
         rw [HK.out, ← HLEN.out] at h
         exact h
end
end Go.Proofs.YtafclmbecmgbnaaGreatDoor
