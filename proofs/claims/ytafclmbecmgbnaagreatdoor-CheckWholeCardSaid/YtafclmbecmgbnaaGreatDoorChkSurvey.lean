/-
 ChkSurvey. Conditions: as each theorem says.
-/
import Derived.Test.YtafclmbecmgbnaaGreatDoorChkSurS
import Derived.Test.YtafclmbecmgbnaaGreatDoorChkSorted
set_option maxRecDepth 100000
set_option maxHeartbeats 2000000
open Nat renaming le_refl -> zee
open List renaming length_cons -> zef, getElem?_eq_some_iff -> zeg
namespace Go.Proofs.YtafclmbecmgbnaaGreatDoor
open Go.RowKit Go.Maps
def zdu (w : World) (s : Sv) (e : Ending) (w' : World) : Prop :=
 Below w.1.size w w' /\ match s.flt with
 | [] => ∃ v, e = .returned (.tuple #[v, .int .i64 s.dep, .nilIface]) /\ (s.met.Nodup -> w'.ownsRow w.1.size 3 1 v s.met.length ((s.met.mergeSort (fun x y => decide (x <= y))).map (Value.int .i64)))
 | c :: _ => ∃ v, e = .returned (.tuple #[.slice none 0 0, .int .i64 0, v]) /\ zi w' w.1.size c v
def za4 (t : Sp) : Prop := (-9223372036854775808 <= t.at_ /\ t.at_ <= 9223372036854775807) /\ 1 <= t.lv /\ t.lv <= 13
theorem zax {S : TS} {s : Sv} (h : ∀ t ∈ s.wait, za4 t) : ∀ t ∈ (yG S s).wait, za4 t := by
 unfold yG;split
 ·exact h
 ·rename_i t rest hw
  rw [hw] at h;have hr : ∀ u ∈ rest, za4 u := fun u hu => h u (List.mem_cons_of_mem _ hu)
  split
  ·exact hr
  ·split
   ·exact hr
   ·rename_i x hx
    intro u hu;rcases List.mem_append.1 hu with hu | hu
    ·exact hr u hu
    ·have h1 := (h t List.mem_cons_self).2;have hl : t.lv <= 12 := by
      unfold yt at hx;split at hx
      ·cases hx
      ·omega
     have hrx := xJ hx;obtain ⟨n, hn⟩ : ∃ n, n = x.kids.length := ⟨_, rfl⟩
     have hall : ∀ n, n <= x.kids.length -> ∀ u ∈ belowK x t.lv t.lo t.hi n, za4 u := by
      intro n;induction n with
      | zero => intro _ u hu; cases hu
      | succ n ih =>
       intro hn u hu;rw [belowK] at hu;rcases List.mem_append.1 hu with hu | hu
       ·exact ih (by omega) u hu
       ·rw [List.mem_singleton.1 hu];have hk : x.kids.getD n 0 ∈ x.kids := by
         rw [List.getD_eq_getElem?_getD, List.getElem?_eq_getElem (by omega)];exact List.getElem_mem _
        have hb : 2 <= x.kids.getD n 0 /\ x.kids.getD n 0 <= 239 := by
         rcases (zl hrx).2.2 with ⟨h0, _⟩ | ⟨_, h2, _⟩
         ·rw [h0] at hk; cases hk
         ·exact (kD.1 h2).1 _ hk
        exact ⟨⟨by show _ <= x.kids.getD n 0; omega, by show x.kids.getD n 0 <= _; omega⟩, by show 1 <= t.lv + 1; omega, by show t.lv + 1 <= 13; omega⟩
     exact hall _ (zee _) u hu
theorem zb9 {S : TS} {root : Int} (hr : -9223372036854775808 <= root /\ root <= 9223372036854775807) (n : Nat) : ∀ t ∈ (xd S n (yd root)).wait, za4 t := by
 induction n with
 | zero =>
  intro t ht;rw [show t = ⟨root, 1, 0, 4294967296⟩ from List.mem_singleton.1 ht];exact ⟨hr, (by show (1 : Int) <= 1; omega), (by show (1 : Int) <= 13; omega)⟩
 | succ n ih => rw [jO]; exact zax ih
theorem J1 {S : TS} {s : Sv} : (yG S s).wait.length <= s.wait.length + 8 := by
 unfold yG;split
 ·omega
 ·rename_i t rest hw
  rw [hw];split
  ·simp only [zef]; omega
  ·split
   ·simp only [zef]; omega
   ·rename_i x hx
    have hr := zl (xJ hx);have h1 : (xq x t.lv t.lo t.hi).length = x.kids.length := wO _ _ _ _ _;simp only [List.length_append, zef, h1];rcases hr.2.2 with ⟨h0, _⟩ | ⟨_, _, _, _, h2⟩
    ·rw [h0]; simp; omega
    ·have := hr.2.1; omega
theorem zav {S : TS} {root : Int} (n : Nat) : (xd S n (yd root)).wait.length <= 1 + 8 * n := by
 induction n with
 | zero => exact zee _
 | succ n ih =>
  rw [jO];have := J1 (S := S) (s := xd S n (yd root));omega
theorem Tryz.spotTy : zdi Tryz.prog 176 4 := ⟨⟨_, Tryz.underlying176, rfl⟩, by kernel_rfl⟩
section
variable {O : yD} (H : yE O)
include H
theorem JY {w0 : World} {K : Nat -> Prop} {w : World} {P D n : Nat} {S : TS} {firm : Nat -> List UInt8} (hl : yy O w0 K w P D n S firm) (hg : yH w0) (root : Int) (hr : root ≠ 0) (hrr : -9223372036854775808 <= root /\ root <= 9223372036854775807) (N : Nat) (hN : N <= 3000) (hdone : (xd S N (yd root)).wait = []) (h1 : (xd S N (yd root)).flt.length <= 1)
  (hnd : (xd S N (yd root)).flt = [] -> (xd S N (yd root)).met.Nodup) :
  Calls Tryz.prog 80 #[ptr P, .int .i64 root] w (zdu w (xd S N (yd root))) := by
 have hmm := @run_makeMap Tryz.prog;obtain ⟨i0, hi0, hj0, hj1, hj2⟩ := info_parts Tryz.spotInfo;obtain ⟨i9, hi9, hj3, hj4, hj5⟩ := info_parts Tryz.infoErr;have HU := Hi (H.used hl.pg hl.inv);obtain ⟨st, HST⟩ : ∃ st, Hid (st = S.s.used) := Hy;rw [<- HST.o] at HU;have HL := Hi hl;have HR := Hi hr;have HRR := Hi hrr;have HNN := Hi hN;have HDN := Hi hdone;have HF1 := Hi h1;have HND := Hi hnd;clear hrr hN hdone h1 hnd;have HG := Hi hg;clear hl hg
 go_enter Tryz.func80, Tryz.ntmps80
 go_upto_region 3 with (fail)
 have hzs := Tryz.zeroSet;go_wp2_with fail;refine HU.o.mono ?_;rintro e wu ⟨rfl, hb⟩;have HBU := Hi hb;clear hb HU;go_wp2_with (with_reducible refine vt (o := ⟨none, _, _, _, _, _⟩) ?_);obtain ⟨p, HPP⟩ : ∃ p, Hid (p = wu.1.size) := Hy;obtain ⟨wc, HWC⟩ : ∃ wc, Hid (wc = wu.alloc (.cells (zY zM) 63)) := Hy;rw [<- HWC.o, <- HPP.o];have HC : Hid (Below w.1.size w wc /\ yw wc p zM /\ w.1.size <= p /\ p < wc.1.size) := Hi (by
  rw [HWC.o, HPP.o];exact ⟨HBU.o.trans ((Below.refl _ _).alloc HBU.o.size _), yw.new _, HBU.o.size, by simp⟩)
 have HSTL : Hid (st.length = 30) := Hi (by rw [HST.o]; exact HL.o.inv.usedOk.1);clear HWC HPP HBU;unfold qM;refine yo rfl _ _ rfl p st zM HSTL.o yv rfl rfl HC.o.2.1 ?_;intro ws HWS HSS;have HBS : Hid (Below w.1.size w ws /\ p < ws.1.size /\ w.1.size <= p) := Hi ⟨zy HC.o.1 HWS.o HC.o.2.2.1, HSS.o.lt (by rw [HSTL.o]; decide), HC.o.2.2.1⟩;clear HC HWS;go_upto_region 6 with (fail)
 obtain ⟨b, HBB⟩ : ∃ b, Hid (b = ws.1.size) := Hy;obtain ⟨wm, HWM⟩ : ∃ wm, Hid (wm = ws.alloc (.map #[] 0)) := Hy;rw [<- HWM.o, <- HBB.o];have HM : Hid (Below w.1.size w wm /\ wm.1.size = b + 1 /\ p < b /\ w.1.size <= p /\ Y0 wm b [] /\ yw wm p st) := Hi (by
  have h2 := HBS.o;have hb := (Below.refl ws.1.size ws).alloc (zee _) (.map #[] 0);rw [HWM.o, HBB.o];exact ⟨h2.1.trans (hb.mono h2.1.size), by simp, h2.2.1, h2.2.2, Y0.new _, HSS.o.below hb h2.2.1⟩)
 clear HWM HBB HBS HSS;have hbu := Tryz.spotBuilt root 1 0 4294967296;go_wp2_with (with_reducible refine zc (o := ⟨some 23, _, _, _, _, _⟩) ?_);refine Y7 rfl 177 176 4 1 #[(0, .tmp 22)] rfl [[.int .i64 root, .int .i64 1, .int .i64 0, .int .i64 4294967296]] Tryz.underlying177 Tryz.spotSize Tryz.spotZero rfl (by decide) (by decide) (by simp) (by rfl) ?_;intro w1 HW1;obtain ⟨q, HQQ⟩ : ∃ q, Hid (q = wm.1.size) := Hy;rw [<- HQQ.o];obtain ⟨s0, HS0⟩ : ∃ s0, Hid (s0 = yd root) := Hy;have HB1 : Hid (Below wm.1.size wm w1) := Hi (by rw [HW1.o]; exact (Below.refl _ _).alloc (zee _) _);have HSV : Hid (SvS w.1.size p b w wm st (yd root) (.slice (some ⟨q, 0, none⟩) 1 1) (.slice none 0 0) w1) := Hi (by
  have hm := HM.o;have h1 := HB1.o;refine ⟨hm.1.trans (h1.mono hm.1.size), h1.block p (by omega), h1.size, ⟨rfl, .inr ⟨q, 0, 1, #[.int .i64 root, .int .i64 1, .int .i64 0, .int .i64 4294967296], rfl, ?_, ?_, zee _, by decide, ?_, ?_⟩⟩, hm.2.2.2.2.1.block (h1.block b (by omega)), .inl ⟨rfl, rfl⟩⟩
  ·rw [HQQ.o]; exact zee _
  ·rw [HW1.o, HQQ.o]; exact heap_alloc_new wm _
  ·show 0 + 1 * 4 <= 4; omega
  ·rfl)
 clear HW1 HQQ HB1 hbu hmm;go_wp2_with fail
 go_loopw [8, 10, 11] (fun vd vf vw wr => ∃ k, k <= N /\ SvR S root w.1.size p b w wm st k vd vf vw wr) (fun vd vf vw wr => N - grt (fun k => SvR S root w.1.size p b w wm st k vd vf vw wr) N)
 case atStart => exact ⟨0, Nat.zero_le _, rfl, HSV.o⟩
 case round =>
  obtain ⟨k, HK⟩ : ∃ k, Hid (k = grt (fun k => SvR S root w.1.size p b w wm st k u8 u10 u11 wr) N) := Hy;have HKN : Hid (k <= N) := Hi (by rw [HK.o]; exact zbn _ _);have hrk := WN hrel;rw [<- HK.o] at hrk;obtain ⟨hd8, hsv⟩ := hrk;obtain ⟨s, HS⟩ : ∃ s, Hid (s = xd S k (yd root)) := Hy;rw [<- HS.o] at hd8 hsv;subst hd8;have HSR := Hi hsv;clear hsv hrel HSV;obtain ⟨vw, HVW⟩ : ∃ vw, Hid (vw = u11) := Hy;obtain ⟨wait, HWT⟩ : ∃ wait, Hid (wait = s.wait) := Hy;cases wait with
  | nil =>
   have how := HSR.o.wait;rw [<- HWT.o] at how;have HFIN : Hid (xd S N (yd root) = s) := Hi (by
    have := WX S k (N - k) (yd root);rw [show k + (N - k) = N by have := HKN.o; omega, <- HS.o] at this;rw [this];exact JZ S _ HWT.o.symm)
   have HND2 := HND.o;rw [HFIN.o] at HND2;have HNDD := Hi HND2;clear HND2;obtain ⟨ao, cap, hvw⟩ : ∃ ao cap, u11 = .slice ao 0 cap := by
    rcases how.2 with ⟨h, _⟩ | ⟨g, off, cap, cur, h, _⟩
    ·exact ⟨none, 0, h⟩
    ·exact ⟨_, _, h⟩
   subst hvw;clear how;have HMT : Hid (s.met.length <= 3000) := Hi (by
    have := Yy S k (yd root);rw [<- HS.o] at this;have h2 := HKN.o;have h3 := HNN.o;simp only [yd, List.length_nil] at this;omega)
   rcases HSR.o.flt with ⟨hf, rfl⟩ | ⟨c, u, g, cf, lo, hi, hf, rfl, h3, h4, h5, h6, h7, h8, h9⟩
   ·have HNN2 := Hi (HNDD.o hf);have HF := Hi hf;clear hf;obtain ⟨kk, DD, hk1, hk2, hk3, hk4, hk5⟩ := HSR.o.met.own;have HMM := Hi (And.intro hk1 (And.intro hk2 (And.intro hk3 (And.intro hk4 hk5))));clear hk1 hk2 hk3 hk4 hk5;have HSZ : Hid (Maps.size DD <= 3000) := Hi (Nat.le_trans HMM.o.2.1.size_le (Nat.le_trans HMM.o.1 HMT.o));go_wp2_with fail;refine (zcL (some b) wr).mono ?_;rintro e wk ⟨rfl, T, hwk⟩;have HWK := Hi hwk;clear hwk;dsimp only;go_wp2_with fail;refine (QO b kk DD _ wr wk T HWK.o HMM.o.2.1 (by have := HSZ.o; unfold maxLen; omega) (by have := HSZ.o; omega)).mono ?_;rintro e w' ⟨v, ss, rfl, hss, hrow, _, hb⟩;have HB9 : Hid (Below w.1.size w w') := Hi (by
     have h1 := HSR.o.below;have h2 : Below wr.1.size wr wk := by rw [HWK.o]; exact (Below.refl _ _).alloc (zee _) _
     have h3 := h2.trans (hb.mono h2.size);exact h1.trans (h3.mono h1.size))
    have HROW : Hid (w'.ownsRow w.1.size 3 1 v s.met.length ((s.met.mergeSort (fun x y => decide (x <= y))).map (Value.int .i64))) := Hi (by
     have hp : ss.Perm s.met := hss.trans (zbH HMM.o.2.1 HMM.o.2.2.2.1 HNN2.o).symm;have h1 := HSR.o.below.size;have h2 : wk.1.size = wr.1.size + 1 := by rw [HWK.o]; simp
     rw [hp.length_eq, mergeSort_of_perm_i hp] at hrow;exact yZ hrow (by omega))
    clear hss hrow hb;dsimp only;go_wp2_with fail;go_ret3;refine ⟨HB9.o, ?_⟩;rw [HFIN.o, HF.o];exact ⟨v, rfl, fun _ => HROW.o⟩
   ·have HF := Hi hf;have HG1 := Hi (And.intro h4 (And.intro h5 h8));have h3' := h3;clear hf h4 h5 h6 h7 h9;go_wp2_with fail;refine (Vk h3' h8).mono ?_;rintro e w' ⟨rfl, hb⟩;have HB9 : Hid (Below w.1.size w w') := Hi (HSR.o.below.trans (hb.mono HSR.o.below.size));have HE9 : Hid (zi w' w.1.size c u) := Hi (((HG1.o.1.keep hb.size fun k _ hk => hb.block k (Nat.lt_of_lt_of_le hk HG1.o.1.1)).err).mono HG1.o.2.1);clear hb h3 h3' h8;dsimp only;go_wp2_with fail;go_ret3;refine ⟨HB9.o, ?_⟩;rw [HFIN.o, HF.o];exact ⟨u, rfl, HE9.o⟩
  | cons t rest =>
   have how := HSR.o.wait;rw [<- HWT.o] at how;obtain ⟨g, off, cap, rfl, hcap1, hcap2⟩ := how.slice (by simp);have HCAP := Hi (And.intro hcap1 hcap2);have HRA : Hid (wr.rangeAt g off (xn t)) := Hi (fun j v hj => by
    have h2 := how.cells rfl j v (by
     show (xn t ++ vC rest)[j]? = some v;rw [List.getElem?_append_left (zeg.1 hj).1];exact hj)
    rwa [show (⟨g, off, none⟩ : Addr).add j = ⟨g, off + j, none⟩ by unfold Addr.add; split <;> simp_all] at h2)
   obtain ⟨len, HLEN⟩ : ∃ len, Hid (len = (t :: rest).length) := Hy;have hlen : (0 : Int) < (len : Int) := by rw [HLEN.o]; simp only [zef]; omega
   have HOW := Hi how;rw [<- HLEN.o];clear how hcap1 hcap2;go_wp2_with (with_reducible refine zc (o := ⟨some 31, _, _, _, _, _⟩) ?_);unfold vg;refine vT Tryz.spotTy (by rfl) _ rfl g off rfl (xn t) rfl HRA.o ?_;go_wp2_with (with_reducible refine vt (o := ⟨none, _, _, _, _, _⟩) ?_);obtain ⟨q, HQQ⟩ : ∃ q, Hid (q = wr.1.size) := Hy;obtain ⟨wz, HWZ⟩ : ∃ wz, Hid (wz = wr.alloc (.cells #[.int .i64 0, .int .i64 0, .int .i64 0, .int .i64 0] 176)) := Hy;rw [<- HWZ.o, <- HQQ.o];have HCZ : Hid (wL wz q [.int .i64 0, .int .i64 0, .int .i64 0, .int .i64 0] /\ Below wr.1.size wr wz /\ wr.1.size <= q) := Hi (by
    rw [HWZ.o, HQQ.o];exact ⟨wL.new _ _, (Below.refl _ _).alloc (zee _) _, zee _⟩)
   clear HWZ;unfold qM;refine Wf Tryz.spotTy rfl _ _ rfl q _ (xn t) rfl rfl (by simp [xn, Value.oneCell']) rfl rfl HCZ.o.1 ?_;intro wq HWQ HCQ;have HBQ : Hid (Below wr.1.size wr wq) := Hi (Vg HCZ.o.2.1 HWQ.o HCZ.o.2.2);have HSQ := Hi (HSR.o.carry (by have := HM.o; omega) (by have := HM.o; omega) HBQ.o);have HQL : Hid (q < wq.1.size /\ wr.1.size <= q) := Hi ⟨HCQ.o.lt (by simp [xn]), HCZ.o.2.2⟩;clear HWQ HCZ HRA;have e0 := HCQ.o.cell (j := 0) rfl;have hto := zb9 (S := S) HRR.o k t (by rw [<- HS.o, <- HWT.o]; exact List.mem_cons_self);have HTO := Hi hto;have HKL : Hid (k < N) := Hi (by
    rcases Nat.lt_or_ge k N with h | h
    ·exact h
    ·have := HKN.o;have h2 := HDN.o;rw [show N = k by omega, <- HS.o, <- HWT.o] at h2;cases h2)
   obtain ⟨z, HZ⟩ : ∃ z, Hid (z = t.at_) := Hy;have hzw : -9223372036854775808 <= z /\ z <= 9223372036854775807 := by rw [HZ.o]; exact hto.1
   rw [<- HZ.o] at e0;clear hto;have hkey : keyOf Tryz.prog 3 (.int .i64 z) = some (.int .i64 z) := keyOf_int_mk Tryz.underlying3 (WalkArith.wf_i64 hzw);obtain ⟨kk, DD, hk1, hk2, hk3, hk4, hk5⟩ := HSQ.o.met.own;have HMM := Hi (And.intro hk1 (And.intro hk2 (And.intro hk3 (And.intro hk4 hk5))));clear hk1 hk2 hk3 hk4 hk5;have hz0 := Tryz.zeroInt;obtain ⟨c, HC⟩ : ∃ c, Hid (c = ((s.met.count z : Nat) : Int)) := Hy;have HMT : Hid (s.met.length <= 3000) := Hi (by
    have := Yy S k (yd root);rw [<- HS.o] at this;have h2 := HKN.o;have h3 := HNN.o;simp only [yd, List.length_nil] at this;omega)
   have hc : 0 <= c /\ c <= 3000 := by
    rw [HC.o];have := List.count_le_length (a := z) (l := s.met);have := HMT.o;omega
   have hat := HMM.o.2.2.2.2 z;rw [<- HC.o] at hat;go_wp2_with (with_reducible refine zc (o := ⟨some 35, _, _, _, _, _⟩) ?_);refine wpList_lookup_own_int _ rfl _ _ 173 rfl 3 3 .i64 Tryz.keyInt Tryz.underlying173 Tryz.underlying3 (hz0 _) b kk DD rfl HMM.o.2.1 _ _ rfl hkey ?_;intro c' hat2 hwc;obtain rfl : c = c' := ZZ (hat.symm.trans hat2);clear hat2 hwc hat;have HKEY := Hi hkey;have hc1 : wrap64 (c + 1) = c + 1 := by unfold wrap64; omega
   have hkm : kk < maxLen := by have := HMM.o.1; have := HMT.o; unfold maxLen; omega
   go_wp2_with (with_reducible refine zc (o := ⟨none, _, _, _, _, _⟩) ?_);refine wpList_mapUpdate_own _ rfl _ _ _ 173 rfl 3 3 Tryz.keyInt Tryz.underlying173 _ b kk DD rfl HMM.o.2.1 hkm _ (.int .i64 (c + 1)) _ rfl rfl HKEY.o (.lit (.int .i64 (c + 1))) [] (plainElem_int Tryz.underlying3 (WalkArith.wf_i64 (by omega))) ?_;intro w2 hown2 hgrow2;have HB2 : Hid (Below wq.1.size wq wq) := Hi (Below.refl _ _);have HAT : Hid ((DD.put (.int .i64 z) (.lit (.int .i64 (c + 1)))).atKey (.int .i64 z) (.lit (.int .i64 0)) = .lit (.int .i64 (c + 1))) := Hi (atKey_put_same (k := .int .i64 z) HMM.o.2.2.1 trivial _ _);have HOW2 := Hi hown2;have HCQ2 : Hid (wL w2 q (xn t) /\ q < w2.1.size) := Hi ⟨HCQ.o.block (hgrow2.block q HQL.o.1 (by have h1 := HQL.o; have h2 := HM.o; have h3 := HSR.o.size; simp; omega)), Nat.lt_of_lt_of_le HQL.o.1 hgrow2.size⟩;have HS2 : Hid (SvS w.1.size p b w wm st ⟨t :: rest, s.met ++ [z], s.dep, s.flt⟩ (.slice (some ⟨g, off, none⟩) (t :: rest).length cap) u10 w2) := Hi (by
    have h := HSQ.o.name (met := s.met ++ [z]) (by have := HM.o; omega) (by have := HM.o; omega) (by have := HM.o; omega) hgrow2 (Y0.push HMM.o.1 HMM.o.2.2.1 HMM.o.2.2.2.1 HMM.o.2.2.2.2 (by rw [<- HC.o]; exact hown2));rw [<- HWT.o] at h;exact h)
   clear hown2 hgrow2 HB2 HSQ HBQ HCQ HMM e0 HSR;have e0 := HCQ2.o.1.cell (j := 0) rfl;rw [<- HZ.o] at e0;dsimp only [Act.put];go_wp2_with (with_reducible refine zc (o := ⟨some 40, _, _, _, _, _⟩) ?_);refine wpList_lookup_own_int _ rfl _ _ 173 rfl 3 3 .i64 Tryz.keyInt Tryz.underlying173 Tryz.underlying3 (hz0 _) b (kk + 1) _ rfl HOW2.o _ _ rfl HKEY.o ?_;intro c' hat2 hwc;obtain rfl : c + 1 = c' := ZZ (HAT.o.symm.trans hat2);clear hat2 hwc HAT HOW2 hkm;by_cases hdup : z ∈ s.met
   ·-- it was named before
    have hcd : 1 < c + 1 := by
     have := List.count_pos_iff.2 hdup;have := HC.o;omega
    have HSTEP : Hid (yG S s = ⟨rest, s.met ++ [z], s.dep, s.flt ++ [2]⟩) := Hi (by
     unfold yG;rw [<- HWT.o];simp only;rw [<- HZ.o, if_pos hdup])
    have HFE : Hid (s.flt = [] /\ u10 = .slice none 0 0) := Hi (by
     have h3 := XK HS.o HKL.o (congrArg Sv.flt HSTEP.o) HF1.o;exact ⟨h3, Vp HS2.o.flt h3⟩)
    clear hdup;rw [HFE.o.2];go_wp2_with fail;refine (kt 2 (by decide) w2).mono ?_;rintro e w3 ⟨v, rfl, he, hb⟩;obtain ⟨tt, xx, rfl⟩ := he.some (by decide);obtain ⟨v1, HV1⟩ : ∃ v1, Hid (v1 = Value.iface tt xx) := Hy;have HO1 : Hid (v1.oneCell' = true) := Hi (by rw [HV1.o]; rfl);rw [<- HV1.o] at he;have HE3 := Hi he;have HB3 := Hi hb;clear he hb;dsimp only;go_wp2_with (with_reducible refine zc (o := ⟨some 45, _, _, _, _, _⟩) ?_);rw [<- HV1.o];obtain ⟨wl, HWL⟩ : ∃ wl, Hid (wl = w3.alloc (.cells #[v1] 27)) := Hy;rw [<- HWL.o];have HLL : Hid (Below w3.1.size w3 wl /\ wl.cell? ⟨w3.1.size, 0, none⟩ = some v1) := Hi (by
     rw [HWL.o];exact ⟨(Below.refl _ _).alloc (zee _) _, (wL.new [v1] _).cell rfl⟩)
    clear HWL;refine wpList_append_own _ rfl _ _ 174 rfl w3.1.size 27 i9 _ 1 16 Tryz.underlying174 hi9 hj3 hj4 hj5 rfl (by decide) _ 0 [] rfl (World.ownsRow_nil _ _ _ _) ⟨w3.1.size, 0, none⟩ 1 1 [v1] rfl rfl (fun j u hu => by
     rcases zeg.1 hu with ⟨hj, rfl⟩
     obtain rfl : j = 0 := by simp at hj; exact hj
     exact HLL.o.2) (by simpa using HO1.o) (by unfold maxLen; omega) (by omega) HLL.o.1.size ?_
    intro v4 w4 hown4 hgrow4 _;have HB4 : Hid (Below w3.1.size w3 w4) := Hi (HLL.o.1.grown hgrow4 HLL.o.1.size (fun g hg => by cases hg));have HS4 : Hid (SvS w.1.size p b w wm st ⟨t :: rest, s.met ++ [z], s.dep, s.flt ++ [2]⟩ (.slice (some ⟨g, off, none⟩) len cap) v4 w4) := Hi (by
     rw [HLEN.o];exact HS2.o.fault rfl (by have := HM.o; omega) (by have := HM.o; omega) HFE.o.1 HB3.o HE3.o HB4.o hown4)
    clear hown4 hgrow4 HLL HB4 HE3 HB3 HS2 HFE;go_wp2_with fail;have h := Ya (root := root) HS.o HKL.o HS4.o rfl HLEN.o HSTEP.o;rw [HK.o, <- HLEN.o] at h;exact h
   ·have HNM := Hi hdup;have hcd : ¬ 1 < c + 1 := by
     have := List.count_eq_zero.2 hdup;have := HC.o;omega
    clear hdup;have HL2 := Hi (HL.o.carry H HS2.o.below);have HLD := Hi (VY H HL2.o HG.o t.at_ t.lv t.lo t.hi);go_wp2_with (with_reducible refine zc (o := ⟨some 48, _, _, _, _, _⟩) ?_);unfold vg;refine vT Tryz.spotTy (by rfl) _ rfl q 0 rfl (xn t) rfl HCQ2.o.1.at_ ?_;have HTV : Hid ((.agg (xn t).toArray : Value) = spV t.at_ t.lv t.lo t.hi) := Hi rfl;obtain ⟨sp, HSP⟩ : ∃ sp, Hid (sp = spV t.at_ t.lv t.lo t.hi) := Hy;rw [HTV.o, <- HSP.o];rw [<- HSP.o] at HLD;dsimp only [Act.put];go_wp2_with fail;refine HLD.o.mono ?_;cases hlm : yt S t.at_ t.lv with
    | error c2 =>
     rintro e w3 ⟨hc, v, rfl, he, hb⟩;obtain ⟨tt, xx, rfl⟩ := he.some hc;obtain ⟨v1, HV1⟩ : ∃ v1, Hid (v1 = Value.iface tt xx) := Hy;have HO1 : Hid (v1.oneCell' = true) := Hi (by rw [HV1.o]; rfl);rw [<- HV1.o] at he;have HE3 := Hi he;have HB3 := Hi hb;clear he hb;have HSTEP : Hid (yG S s = ⟨rest, s.met ++ [z], s.dep, s.flt ++ [c2]⟩) := Hi (by
      unfold yG;rw [<- HWT.o];simp only;rw [<- HZ.o, if_neg HNM.o, HZ.o, hlm])
     have HFE : Hid (s.flt = [] /\ u10 = .slice none 0 0) := Hi (by
      have h3 := XK HS.o HKL.o (congrArg Sv.flt HSTEP.o) HF1.o;exact ⟨h3, Vp HS2.o.flt h3⟩)
     rw [HFE.o.2];clear hlm hc;go_wp2_with (with_reducible refine zc (o := ⟨some 57, _, _, _, _, _⟩) ?_);rw [<- HV1.o];obtain ⟨wl, HWL⟩ : ∃ wl, Hid (wl = (w3.alloc (.cells #[.slice zd.none_.A Nd.empty.keys.length zd.none_.ca, .slice zd.none_.B Nd.empty.vals.length zd.none_.cb, .slice zd.none_.C Nd.empty.kids.length zd.none_.cc] 48)).alloc (.cells #[v1] 27)) := Hy;rw [<- HWL.o];have HLL : Hid (Below w3.1.size w3 wl /\ wl.cell? ⟨w3.1.size + 1, 0, none⟩ = some v1) := Hi (by
      rw [HWL.o];have h2 := (Below.refl w3.1.size w3).alloc (zee _) (.cells #[.slice zd.none_.A Nd.empty.keys.length zd.none_.ca, .slice zd.none_.B Nd.empty.vals.length zd.none_.cb, .slice zd.none_.C Nd.empty.kids.length zd.none_.cc] 48);refine ⟨h2.alloc h2.size _, ?_⟩;have h3 := (wL.new (w := w3.alloc (.cells #[.slice zd.none_.A Nd.empty.keys.length zd.none_.ca, .slice zd.none_.B Nd.empty.vals.length zd.none_.cb, .slice zd.none_.C Nd.empty.kids.length zd.none_.cc] 48)) [v1] 27).cell (j := 0) rfl
      rwa [show (w3.alloc (.cells #[.slice zd.none_.A Nd.empty.keys.length zd.none_.ca, .slice zd.none_.B Nd.empty.vals.length zd.none_.cb, .slice zd.none_.C Nd.empty.kids.length zd.none_.cc] 48)).1.size = w3.1.size + 1 by simp] at h3)
     clear HWL;refine wpList_append_own _ rfl _ _ 174 rfl w3.1.size 27 i9 _ 1 16 Tryz.underlying174 hi9 hj3 hj4 hj5 rfl (by decide) _ 0 [] rfl (World.ownsRow_nil _ _ _ _) ⟨w3.1.size + 1, 0, none⟩ 1 1 [v1] rfl rfl (fun j u hu => by
      rcases zeg.1 hu with ⟨hj, rfl⟩
      obtain rfl : j = 0 := by simp at hj; exact hj
      exact HLL.o.2) (by simpa using HO1.o) (by unfold maxLen; omega) (by omega) HLL.o.1.size ?_
     intro v4 w4 hown4 hgrow4 _;have HB4 : Hid (Below w3.1.size w3 w4) := Hi (HLL.o.1.grown hgrow4 HLL.o.1.size (fun g hg => by cases hg));have HS4 : Hid (SvS w.1.size p b w wm st ⟨t :: rest, s.met ++ [z], s.dep, s.flt ++ [c2]⟩ (.slice (some ⟨g, off, none⟩) len cap) v4 w4) := Hi (by
      rw [HLEN.o];exact HS2.o.fault rfl (by have := HM.o; omega) (by have := HM.o; omega) HFE.o.1 HB3.o HE3.o HB4.o hown4)
     clear hown4 hgrow4 HLL HB4 HE3 HB3 HS2 HFE;go_wp2_with fail;have h := Ya (root := root) HS.o HKL.o HS4.o rfl HLEN.o HSTEP.o;rw [HK.o, <- HLEN.o] at h;exact h
    | ok x =>
     rintro e w3 ⟨hr2, l, rfl, hn, hb⟩;have HRX := Hi hr2;have HNW := Hi hn;have HB3 := Hi hb;clear hb hn hr2;have HLV : Hid (1 <= t.lv /\ t.lv <= 12) := Hi (by
      have := HTO.o.2;refine ⟨this.1, ?_⟩;unfold yt at hlm;split at hlm
      ·cases hlm
      ·omega)
     have HLM := Hi hlm;clear hlm;go_upto_region 16 with (fail)
     obtain ⟨r, HRR3⟩ : ∃ r, Hid (r = w3.1.size) := Hy;obtain ⟨w4, HW4⟩ : ∃ w4, Hid (w4 = w3.alloc (.cells #[.slice l.A x.keys.length l.ca, .slice l.B x.vals.length l.cb, .slice l.C x.kids.length l.cc] 48)) := Hy;rw [<- HW4.o, <- HRR3.o];have HPB : Hid (p < wm.1.size /\ b < wm.1.size) := Hi (by have := HM.o; omega);have HSL : Hid (SvL w.1.size p b w wm st ⟨t :: rest, s.met ++ [z], s.dep, s.flt⟩ (.slice (some ⟨g, off, none⟩) len cap) u10 q r l x t w4) := Hi (by
      have h34 : Below w3.1.size w3 w4 := by rw [HW4.o]; exact (Below.refl _ _).alloc (zee _) _
      have h24 := HB3.o.trans (h34.mono HB3.o.size);rw [HLEN.o];refine ⟨HS2.o.carry HPB.o.1 HPB.o.2 h24, HCQ2.o.1.carry h24 (by simp [xn]), ?_, HNW.o.is.carry h34⟩;rw [HW4.o, HRR3.o];exact zb.new _)
     clear HW4 HRR3 HB3 HNW HS2 HCQ2;have HOK : Hid (Bits.Ok st) := Hi (by rw [HST.o]; exact HL.o.inv.usedOk);obtain ⟨sd, HSD⟩ : ∃ sd, Hid (sd = (vJ st z && qp x t.lv t.lo t.hi)) := Hy;have e0 := HSL.o.c.cell (j := 0) rfl;rw [<- HZ.o] at e0;go_cut [15] (fun s15 wx => s15 = .bool sd /\ Hid (SvL w.1.size p b w wm st ⟨t :: rest, s.met ++ [z], s.dep, s.flt⟩ (.slice (some ⟨g, off, none⟩) len cap) u10 q r l x t wx))
     case first =>
      go_wp2_with (with_reducible refine zc (o := ⟨some 58, _, _, _, _, _⟩) ?_);unfold vg;refine ya (by rfl) _ rfl p rfl st HSTL.o (HSL.o.s.set HM.o.2.2.2.2.2).at_ ?_;dsimp only [Act.put];go_wp2_with fail;refine (jD st HOK.o z _).mono ?_;rintro e w5 ⟨rfl, hb⟩;have HS5 := Hi (HSL.o.carry HPB.o.1 HPB.o.2 hb);clear hb;dsimp only;cases hh : Zq st z with
      | false =>
       have HSDF : Hid (sd = false) := Hi (by rw [HSD.o, Vq, hh]; rfl);clear hh;go_wp2_with fail
       go_meet
       exact ⟨by rw [HSDF.o], HS5⟩
      | true =>
       have HSDF : Hid (sd = qp x t.lv t.lo t.hi) := Hi (by rw [HSD.o, Vq, hh, Bool.true_and]);clear hh;go_wp2_with (with_reducible refine zc (o := ⟨some 63, _, _, _, _, _⟩) ?_);unfold vg;refine zf Tryz.ndProg (by rfl) _ rfl r rfl l x HS5.o.b ?_;dsimp only [Act.put];go_wp2_with (with_reducible refine zc (o := ⟨some 64, _, _, _, _, _⟩) ?_);unfold vg;refine vT Tryz.spotTy (by rfl) _ rfl q 0 rfl (xn t) rfl HS5.o.c.at_ ?_;rw [HTV.o];dsimp only [Act.put];go_wp2_with fail;refine (VX HS5.o.is t.at_ t.lv t.lo t.hi).mono ?_;rintro e w6 ⟨rfl, hb⟩;have HS6 := Hi (HS5.o.carry HPB.o.1 HPB.o.2 hb);clear hb;rw [<- HSDF.o];go_wp2_with fail
       go_meet
       exact ⟨rfl, HS6⟩
     case rest =>
      obtain ⟨rfl, hsl⟩ := hcut;have HSC := Hi hsl.out;clear hsl HSL e0;obtain ⟨lv, HLVV⟩ : ∃ lv, Hid (lv = t.lv) := Hy;obtain ⟨dp, HDP⟩ : ∃ dp, Hid (dp = s.dep) := Hy;rw [<- HDP.o];go_wp2_with (with_reducible refine zc (o := ⟨some 67, _, _, _, _, _⟩) ?_);unfold vg;refine zf Tryz.ndProg (by rfl) _ rfl r rfl l x HSC.o.b ?_;dsimp only [Act.put];go_wp2_with fail;refine (wN x).mono ?_;rintro e w5 ⟨rfl, hb⟩;have HS5 := Hi (HSC.o.carry HPB.o.1 HPB.o.2 hb);clear hb HSC;have e1 := HS5.o.c.cell (j := 1) rfl;rw [<- HLVV.o] at e1;dsimp only;obtain ⟨lf, HLF⟩ : ∃ lf, Hid (lf = decide (x.kids.length = 0)) := Hy;rw [<- HLF.o];obtain ⟨dn, HDN2⟩ : ∃ dn, Hid (dn = Z9 x t.lv s.dep) := Hy;obtain ⟨ok, HOKK⟩ : ∃ ok, Hid (ok = KH S t x s.dep) := Hy;have HOE : Hid (ok = (sd && (!lf || decide (dn = lv)))) := Hi (by
       rw [HOKK.o, HSD.o, HLF.o, HDN2.o, HLVV.o, HST.o, HZ.o];unfold KH;by_cases h : x.kids.length = 0 <;> simp [h])
      have HDE : Hid (dn = if lf = true /\ dp = 0 then lv else dp) := Hi (by
       rw [HDN2.o, HLF.o, HLVV.o, HDP.o];unfold Z9;simp only [decide_eq_true_eq])
      go_upto_if 68 with (fail)
      go_cut [8, 15] (fun s8 s15 wx => s8 = .int .i64 dn /\ s15 = .bool ok /\ w5 = wx)
      case first =>
       cases lf with
       | false =>
        have h1 := HDE.o;have h2 := HOE.o;simp only [Bool.not_false, Bool.true_or, Bool.and_true, Bool.false_eq_true, false_and, if_false] at h1 h2;subst h1 h2;go_wp2_with fail
        go_meet
        exact ⟨rfl, rfl, rfl⟩
       | true =>
        by_cases hd0 : dp = 0
        ·have h1 : Hid (dn = lv) := Hi (by rw [HDE.o, if_pos ⟨rfl, hd0⟩]);have h2 : Hid (ok = sd) := Hi (by rw [HOE.o, h1.out]; simp);cases sd with
         | false =>
          go_wp2_with fail
          go_meet
          exact ⟨by rw [h1.out], by rw [h2.out], rfl⟩
         | true =>
          have hll : (lv == lv) = true := by simp
          go_wp2_with fail
          go_meet
          exact ⟨by rw [h1.out], by rw [h2.out], rfl⟩
        ·have h1 : Hid (dn = dp) := Hi (by rw [HDE.o, if_neg (fun h => hd0 h.2)]);cases sd with
         | false =>
          have h2 : Hid (ok = false) := Hi (by rw [HOE.o]; rfl);go_wp2_with fail
          go_meet
          exact ⟨by rw [h1.out], by rw [h2.out], rfl⟩
         | true =>
          have h2 : Hid (ok = decide (dp = lv)) := Hi (by rw [HOE.o, h1.out]; rfl);by_cases hdl : dp = lv
          ·have h3 : Hid (ok = true) := Hi (by rw [h2.out, decide_eq_true hdl]);have hll : (dp == lv) = true := by simp [hdl]
           clear hdl;go_wp2_with fail
           go_meet
           exact ⟨by rw [h1.out], by rw [h3.out], rfl⟩
          ·have h3 : Hid (ok = false) := Hi (by rw [h2.out, decide_eq_false hdl]);have hll : (dp == lv) = false := by simp [hdl]
           clear hdl;go_wp2_with fail
           go_meet
           exact ⟨by rw [h1.out], by rw [h3.out], rfl⟩
      case rest =>
       obtain ⟨rfl, rfl, rfl⟩ := hcut;obtain ⟨flt, HFL⟩ : ∃ flt, Hid (flt = if ok = true then s.flt else s.flt ++ [2]) := Hy;have HSTEP : Hid (yG S s = ⟨rest ++ xq x t.lv t.lo t.hi, s.met ++ [z], dn, flt⟩) := Hi (by
        unfold yG;rw [<- HWT.o];simp only;rw [<- HZ.o, if_neg HNM.o, HZ.o, HLM.o];simp only;rw [<- HOKK.o, <- HDN2.o, <- HFL.o])
       go_upto_if 81 with (fail)
       go_cut [10] (fun s10 wx => Hid (SvL w.1.size p b w wm st ⟨t :: rest, s.met ++ [z], s.dep, flt⟩ (.slice (some ⟨g, off, none⟩) len cap) s10 q r l x t wx))
       case first =>
        cases ok with
        | true =>
         have HF0 : Hid (flt = s.flt) := Hi HFL.o;go_wp2_with fail
         go_meet
         rw [HF0.o];exact HS5
        | false =>
         have HF0 : Hid (flt = s.flt ++ [2]) := Hi HFL.o;have HFE : Hid (s.flt = [] /\ u10 = .slice none 0 0) := Hi (by
          have h3 := XK HS.o HKL.o ((congrArg Sv.flt HSTEP.o).trans HF0.o) HF1.o;exact ⟨h3, Vp HS5.o.s.flt h3⟩)
         rw [HFE.o.2];go_wp2_with fail;refine (kt 2 (by decide) w5).mono ?_;rintro e w6 ⟨v, rfl, he, hb⟩;obtain ⟨tt, xx, rfl⟩ := he.some (by decide);obtain ⟨v1, HV1⟩ : ∃ v1, Hid (v1 = Value.iface tt xx) := Hy;have HO1 : Hid (v1.oneCell' = true) := Hi (by rw [HV1.o]; rfl);rw [<- HV1.o] at he;have HE3 := Hi he;have HB3 := Hi hb;clear he hb;dsimp only;go_wp2_with (with_reducible refine zc (o := ⟨some 85, _, _, _, _, _⟩) ?_);rw [<- HV1.o];obtain ⟨wl, HWL⟩ : ∃ wl, Hid (wl = w6.alloc (.cells #[v1] 27)) := Hy;rw [<- HWL.o];have HLL : Hid (Below w6.1.size w6 wl /\ wl.cell? ⟨w6.1.size, 0, none⟩ = some v1) := Hi (by
          rw [HWL.o];exact ⟨(Below.refl _ _).alloc (zee _) _, (wL.new [v1] _).cell rfl⟩)
         clear HWL;refine wpList_append_own _ rfl _ _ 174 rfl w6.1.size 27 i9 _ 1 16 Tryz.underlying174 hi9 hj3 hj4 hj5 rfl (by decide) _ 0 [] rfl (World.ownsRow_nil _ _ _ _) ⟨w6.1.size, 0, none⟩ 1 1 [v1] rfl rfl (fun j u hu => by
          rcases zeg.1 hu with ⟨hj, rfl⟩
          obtain rfl : j = 0 := by simp at hj; exact hj
          exact HLL.o.2) (by simpa using HO1.o) (by unfold maxLen; omega) (by omega) HLL.o.1.size ?_
         intro v4 w7 hown4 hgrow4 _;have HB4 : Hid (Below w6.1.size w6 w7) := Hi (HLL.o.1.grown hgrow4 HLL.o.1.size (fun g hg => by cases hg));have HS7 : Hid (SvL w.1.size p b w wm st ⟨t :: rest, s.met ++ [z], s.dep, flt⟩ (.slice (some ⟨g, off, none⟩) len cap) v4 q r l x t w7) := Hi (by
          rw [HF0.o];exact HS5.o.fault rfl HPB.o.1 HPB.o.2 HFE.o.1 HB3.o HE3.o HB4.o hown4)
         clear hown4 hgrow4 HLL HB4 HE3 HB3;go_wp2_with fail
         go_meet
         exact HS7
       case rest =>
        have HS7 := Hi hcut.out;clear hcut HS5 e1;obtain ⟨w0', HW0⟩ : ∃ w0', Hid (w0' = wc) := Hy;have HKD : Hid (x.kids.length <= 255) := Hi (by
         rcases (zl HRX.o).2.2 with ⟨h0, _⟩ | ⟨_, _, _, _, h2⟩
         ·rw [h0]; simp
         ·have := (zl HRX.o).2.1; omega)
        have HBEL := Hi (Vj HS7.o.is t.at_ t.lv t.lo t.hi (by have := HLV.o; omega) HKD.o);go_wp2_with (with_reducible refine zc (o := ⟨some 87, _, _, _, _, _⟩) ?_);unfold vg;refine zf Tryz.ndProg (by rfl) _ rfl r rfl l x HS7.o.b ?_;dsimp only [Act.put];go_wp2_with (with_reducible refine zc (o := ⟨some 88, _, _, _, _, _⟩) ?_);unfold vg;refine vT Tryz.spotTy (by rfl) _ rfl q 0 rfl (xn t) rfl HS7.o.c.at_ ?_;rw [HTV.o];dsimp only [Act.put];go_wp2_with fail;refine HBEL.o.mono ?_;rintro e w8 ⟨v, rfl, hown8, hb⟩;have HS8 := Hi (HS7.o.carry HPB.o.1 HPB.o.2 hb);have HO8 := Hi hown8;have HB8 := Hi hb;clear hown8 hb HS7 HBEL;dsimp only;have HML : Hid (w.1.size <= wm.1.size) := Hi (by have := HM.o; omega);have HWL : Hid (len <= 30000) := Hi (by
         have := zav (S := S) (root := root) k;rw [<- HS.o, <- HWT.o, <- HLEN.o] at this;have h2 := HKN.o;have h3 := HNN.o;omega)
        rcases HO8.o.2 with ⟨hv, hn0⟩ | ⟨g2, c2, cur2, hv, _⟩
        ·have HBE : Hid (xq x t.lv t.lo t.hi = []) := Hi (List.length_eq_zero_iff.1 (by show (belowK x t.lv t.lo t.hi x.kids.length).length = 0; rw [wO]; exact hn0));subst hv;have HS9 : Hid (SvS w.1.size p b w wm st ⟨t :: rest, s.met ++ [z], dn, flt⟩ (.slice (some ⟨g, off, none⟩) len cap) u10 w8) := Hi ⟨HS8.o.s.below, HS8.o.s.box, HS8.o.s.size, HS8.o.s.wait, HS8.o.s.met, HS8.o.s.flt⟩;have HST2 : Hid (yG S s = ⟨rest, s.met ++ [z], dn, flt⟩) := Hi (by rw [HSTEP.o, HBE.o, List.append_nil]);clear hn0;go_wp2_with (with_reducible refine zc (o := ⟨some 90, _, _, _, _, _⟩) ?_);unfold vg;refine qd _ rfl _ _ 177 rfl wm.1.size 176 i0 4 Tryz.underlying177 hi0 _ _ _ rfl HS9.o.wait rfl ?_;dsimp only [Act.put];go_wp2_with fail;have h := Ya (root := root) HS.o HKL.o HS9.o rfl HLEN.o HST2.o;rw [HK.o, <- HLEN.o] at h;exact h
        ·subst hv;have HBL : Hid ((xq x t.lv t.lo t.hi).length = x.kids.length) := Hi (by show (belowK x t.lv t.lo t.hi x.kids.length).length = x.kids.length; exact wO _ _ _ _ _);go_wp2_with (with_reducible refine zc (o := ⟨some 90, _, _, _, _, _⟩) ?_);unfold vg;refine Yz _ rfl _ _ 177 rfl wm.1.size 176 i0 _ 4 32 Tryz.underlying177 hi0 hj0 hj1 hj2 rfl (by decide) _ _ _ rfl HS8.o.s.wait ⟨g2, 0, none⟩ x.kids.length c2 (vC (xq x t.lv t.lo t.hi)) rfl HO8.o.1 (HO8.o.cells rfl) (fun u hu => by
          obtain ⟨y, _, hy⟩ := List.mem_flatMap.1 hu;simp only [xn, List.mem_cons, List.not_mem_nil, or_false] at hy;rcases hy with rfl | rfl | rfl | rfl <;> rfl) (by have h1 := HWL.o; have h2 := HKD.o; have h3 := HLEN.o; simp only [zef] at h3 ⊢; unfold maxLen; omega) (by have h1 := HWL.o; have h2 := HKD.o; have h3 := HLEN.o; simp only [zef] at h3 ⊢; omega) HS8.o.s.size ?_
         intro v9 w9 hown9 hgrow9 hblk9;have HS9 : Hid (SvS w.1.size p b w wm st ⟨t :: rest ++ xq x t.lv t.lo t.hi, s.met ++ [z], dn, flt⟩ v9 u10 w9) := Hi (HS8.o.s.more HML.o HPB.o.1 HPB.o.2 hgrow9 (by rw [HBL.o]; exact hown9) hblk9 dn);obtain ⟨g9, o9, c9, hv9, _⟩ := HS9.o.wait.slice (by simp);subst hv9;clear hown9 hgrow9 hblk9;obtain ⟨len9, HLEN9⟩ : ∃ n, Hid (n = (t :: rest ++ xq x t.lv t.lo t.hi).length) := Hy;have HS10 : Hid (SvS w.1.size p b w wm st ⟨t :: rest ++ xq x t.lv t.lo t.hi, s.met ++ [z], dn, flt⟩ (.slice (some ⟨g9, o9, none⟩) len9 c9) u10 w9) := Hi (by rw [HLEN9.o]; exact HS9.o);have hl9 : 1 <= len9 /\ len9 <= c9 := by
          obtain ⟨_, _, _, h1, h2, _⟩ := HS10.o.wait.slice (by simp);simp only [Value.slice.injEq] at h1;rw [HLEN9.o];refine ⟨by simp, ?_⟩;rw [h1.2.2]; exact h2
         dsimp only [Act.put];rw [show (({ wait := t :: rest ++ xq x t.lv t.lo t.hi, met := s.met ++ [z], dep := dn, flt := flt } : Sv).wait.length) = len9 from HLEN9.o.symm];go_wp2_with fail;have h := Ya (root := root) HS.o HKL.o HS10.o rfl (by rw [HLEN9.o]; rfl) HSTEP.o;rw [HK.o, <- HLEN.o] at h;exact h
end
end Go.Proofs.YtafclmbecmgbnaaGreatDoor
