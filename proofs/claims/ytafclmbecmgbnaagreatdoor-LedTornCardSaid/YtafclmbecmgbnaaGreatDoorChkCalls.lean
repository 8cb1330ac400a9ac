/-
 ChkSurvey. Conditions: as each theorem says.
-/
import Derived.Test.YtafclmbecmgbnaaGreatDoorChkSurS
import Derived.Test.YtafclmbecmgbnaaGreatDoorChkSorted
set_option maxRecDepth 100000
set_option maxHeartbeats 2000000
open Nat renaming le_refl -> zfI
open List renaming length_cons -> zfJ,getElem?_eq_some_iff -> zfK
namespace Go.Proofs.YtafclmbecmgbnaaGreatDoor
open Go.RowKit Go.Maps
def zeX (w:World) (s:Sv) (e:Ending) (w':World):Prop :=
 Below w.1.size w w' /\ match s.flt with
 | []=>∃ v,e = .returned (.tuple #[v,.int .i64 s.dep,.nilIface]) /\ (s.met.Nodup -> w'.ownsRow w.1.size 3 1 v s.met.length ((s.met.mergeSort (fun x y=>decide (x <= y))).map (Value.int .i64)))
 | c :: _=>∃ v,e = .returned (.tuple #[.slice none 0 0,.int .i64 0,v]) /\ zi w' w.1.size c v
def zcn (t:Sp):Prop:=(-9223372036854775808 <= t.at_ /\ t.at_ <= 9223372036854775807) /\ 1 <= t.lv /\ t.lv <= 13
theorem zbS {S:TS} {s:Sv} (h:∀ t ∈ s.wait,zcn t):∀ t ∈ (yO S s).wait,zcn t:=by
 unfold yO;split
 ·exact h
 ·rename_i t rest hw
  rw [hw] at h;have hr:∀ u ∈ rest,zcn u:=fun u hu=>h u (List.mem_cons_of_mem _ hu)
  split
  ·exact hr
  ·split
   ·exact hr
   ·rename_i x hx
    intro u hu;rcases List.mem_append.1 hu with hu | hu
    ·exact hr u hu
    ·have h1:=(h t List.mem_cons_self).2;have hl:t.lv <= 12:=by
      unfold yp at hx;split at hx
      ·cases hx
      ·omega
     have hrx:=xB hx;obtain ⟨n,hn⟩:∃ n,n = x.kids.length:=⟨_,rfl⟩
     have hall:∀ n,n <= x.kids.length -> ∀ u ∈ belowK x t.lv t.lo t.hi n,zcn u:=by
      intro n;induction n with
      | zero=>intro _ u hu; cases hu
      | succ n ih =>
       intro hn u hu;rw [belowK] at hu;rcases List.mem_append.1 hu with hu | hu
       ·exact ih (by omega) u hu
       ·rw [List.mem_singleton.1 hu];have hk:x.kids.getD n 0 ∈ x.kids:=by
         rw [List.getD_eq_getElem?_getD,List.getElem?_eq_getElem (by omega)];exact List.getElem_mem _
        have hb:2 <= x.kids.getD n 0 /\ x.kids.getD n 0 <= 239:=by
         rcases (zm hrx).2.2 with ⟨h0,_⟩ | ⟨_,h2,_⟩
         ·rw [h0] at hk; cases hk
         ·exact (kZ.1 h2).1 _ hk
        exact ⟨⟨by show _ <= x.kids.getD n 0; omega,by show x.kids.getD n 0 <= _; omega⟩,by show 1 <= t.lv + 1; omega,by show t.lv + 1 <= 13; omega⟩
     exact hall _ (zfI _) u hu
theorem zdA {S:TS} {root:Int} (hr:-9223372036854775808 <= root /\ root <= 9223372036854775807) (n:Nat):∀ t ∈ (xj S n (yl root)).wait,zcn t:=by
 induction n with
 | zero =>
  intro t ht;rw [show t = ⟨root,1,0,4294967296⟩ from List.mem_singleton.1 ht];exact ⟨hr,(by show (1:Int) <= 1; omega),(by show (1:Int) <= 13; omega)⟩
 | succ n ih=>rw [qB]; exact zbS ih
theorem Q9 {S:TS} {s:Sv}:(yO S s).wait.length <= s.wait.length + 8:=by
 unfold yO;split
 ·omega
 ·rename_i t rest hw
  rw [hw];split
  ·simp only [zfJ]; omega
  ·split
   ·simp only [zfJ]; omega
   ·rename_i x hx
    have hr:=zm (xB hx);have h1:(xG x t.lv t.lo t.hi).length = x.kids.length:=vg _ _ _ _ _;simp only [List.length_append,zfJ,h1];rcases hr.2.2 with ⟨h0,_⟩ | ⟨_,_,_,_,h2⟩
    ·rw [h0]; simp; omega
    ·have:=hr.2.1; omega
theorem zbQ {S:TS} {root:Int} (n:Nat):(xj S n (yl root)).wait.length <= 1 + 8 * n:=by
 induction n with
 | zero=>exact zfI _
 | succ n ih =>
  rw [qB];have:=Q9 (S:=S) (s:=xj S n (yl root));omega
theorem Tryz.spotTy:zcm Tryz.prog 176 4:=⟨⟨_,Tryz.underlying176,rfl⟩,by kernel_rfl⟩
section
variable {O:ye} (H:ym O)
include H
theorem Q6 {w0:World} {K:Nat -> Prop} {w:World} {P D n:Nat} {S:TS} {firm:Nat -> List UInt8} (hl:zX O w0 K w P D n S firm) (hg:yL w0) (root:Int) (hr:root ≠ 0) (hrr:-9223372036854775808 <= root /\ root <= 9223372036854775807) (N:Nat) (hN:N <= 3000) (hdone:(xj S N (yl root)).wait = []) (h1:(xj S N (yl root)).flt.length <= 1)
  (hnd:(xj S N (yl root)).flt = [] -> (xj S N (yl root)).met.Nodup) :
  Calls Tryz.prog 80 #[ptr P,.int .i64 root] w (zeX w (xj S N (yl root))):=by
 have hmm:=@run_makeMap Tryz.prog;obtain ⟨i0,hi0,hj0,hj1,hj2⟩:=info_parts Tryz.spotInfo;obtain ⟨i9,hi9,hj3,hj4,hj5⟩:=info_parts Tryz.infoErr;have HU:=Hi (H.used hl.pg hl.inv);obtain ⟨st,HST⟩:=hY (S.s.used);rw [<- HST.o] at HU;have HL:=Hi hl;have HR:=Hi hr;have HRR:=Hi hrr;have HNN:=Hi hN;have HDN:=Hi hdone;have HF1:=Hi h1;have HND:=Hi hnd;clear hrr hN hdone h1 hnd;have HG:=Hi hg;clear hl hg
 go_enter Tryz.func80,Tryz.ntmps80
 go_upto_region 3 with (fail)
 have hzs:=Tryz.zeroSet;go_wp2_with fail;refine HU.o.mono ?_;rintro e wu ⟨rfl,hb⟩;have HBU:=Hi hb;clear hb HU;go_wp2_with (with_reducible refine vN (o:=⟨none,_,_,_,_,_⟩) ?_);obtain ⟨p,HPP⟩:=hY (wu.1.size);obtain ⟨wc,HWC⟩:=hY (wu.alloc (.cells (yg zQ) 63));rw [<- HWC.o,<- HPP.o];have HC:=hI (Below w.1.size w wc /\ yE wc p zQ /\ w.1.size <= p /\ p < wc.1.size) (by
  rw [HWC.o,HPP.o];exact ⟨HBU.o.trans ((Below.refl _ _).alloc HBU.o.size _),yE.new _,HBU.o.size,by simp⟩)
 have HSTL:=hI (st.length = 30) (by rw [HST.o]; exact HL.o.inv.usedOk.1);clear HWC HPP HBU;unfold Zv;refine yy rfl _ _ rfl p st zQ HSTL.o yD rfl rfl HC.o.2.1 ?_;intro ws HWS HSS;have HBS:=hI (Below w.1.size w ws /\ p < ws.1.size /\ w.1.size <= p) ⟨zD HC.o.1 HWS.o HC.o.2.2.1,HSS.o.lt (by rw [HSTL.o]; decide),HC.o.2.2.1⟩;clear HC HWS;go_upto_region 6 with (fail)
 obtain ⟨b,HBB⟩:=hY (ws.1.size);obtain ⟨wm,HWM⟩:=hY (ws.alloc (.map #[] 0));rw [<- HWM.o,<- HBB.o];have HM:=hI (Below w.1.size w wm /\ wm.1.size = b + 1 /\ p < b /\ w.1.size <= p /\ XJ wm b [] /\ yE wm p st) (by
  have h2:=HBS.o;have hb:=(Below.refl ws.1.size ws).alloc (zfI _) (.map #[] 0);rw [HWM.o,HBB.o];exact ⟨h2.1.trans (hb.mono h2.1.size),by simp,h2.2.1,h2.2.2,XJ.new _,HSS.o.below hb h2.2.1⟩)
 clear HWM HBB HBS HSS;have hbu:=Tryz.spotBuilt root 1 0 4294967296;go_wp2_with (with_reducible refine xD9 (some 23) ?_);refine XQ rfl 177 176 4 1 #[(0,.tmp 22)] rfl [[.int .i64 root,.int .i64 1,.int .i64 0,.int .i64 4294967296]] Tryz.underlying177 Tryz.spotSize Tryz.spotZero rfl (by decide) (by decide) (by simp) (by rfl) ?_;intro w1 HW1;obtain ⟨q,HQQ⟩:=hY (wm.1.size);rw [<- HQQ.o];obtain ⟨s0,HS0⟩:=hY (yl root);have HB1:=hI (Below wm.1.size wm w1) (by rw [HW1.o]; exact bA);have HSV:=hI (SvS w.1.size p b w wm st (yl root) (.slice (some ⟨q,0,none⟩) 1 1) (.slice none 0 0) w1) (by
  have hm:=HM.o;have h1:=HB1.o;refine ⟨hm.1.trans (h1.mono hm.1.size),h1.block p (by omega),h1.size,⟨rfl,.inr ⟨q,0,1,#[.int .i64 root,.int .i64 1,.int .i64 0,.int .i64 4294967296],rfl,?_,?_,zfI _,by decide,?_,?_⟩⟩,hm.2.2.2.2.1.block (h1.block b (by omega)),.inl ⟨rfl,rfl⟩⟩
  ·rw [HQQ.o]; exact zfI _
  ·rw [HW1.o,HQQ.o]; exact heap_alloc_new wm _
  ·show 0 + 1 * 4 <= 4; omega
  ·rfl)
 clear HW1 HQQ HB1 hbu hmm;go_wp2_with fail
 go_loopw [8,10,11] (fun vd vf vw wr=>∃ k,k <= N /\ SvR S root w.1.size p b w wm st k vd vf vw wr) (fun vd vf vw wr=>N - grt (fun k=>SvR S root w.1.size p b w wm st k vd vf vw wr) N)
 case atStart=>exact ⟨0,Nat.zero_le _,rfl,HSV.o⟩
 case round =>
  obtain ⟨k,HK⟩:=hY (grt (fun k=>SvR S root w.1.size p b w wm st k u8 u10 u11 wr) N);have HKN:=hI (k <= N) (by rw [HK.o]; exact zcL _ _);have hrk:=VC hrel;rw [<- HK.o] at hrk;obtain ⟨hd8,hsv⟩:=hrk;obtain ⟨s,HS⟩:=hY (xj S k (yl root));rw [<- HS.o] at hd8 hsv;subst hd8;have HSR:=Hi hsv;clear hsv hrel HSV;obtain ⟨vw,HVW⟩:=hY (u11);obtain ⟨wait,HWT⟩:=hY (s.wait);cases wait with
  | nil =>
   have how:=HSR.o.wait;rw [<- HWT.o] at how;have HFIN:=hI (xj S N (yl root) = s) (by
    have:=VP S k (N - k) (yl root);rw [show k + (N - k) = N by have:=HKN.o; omega,<- HS.o] at this;rw [this];exact Q7 S _ HWT.o.symm)
   have HND2:=HND.o;rw [HFIN.o] at HND2;have HNDD:=Hi HND2;clear HND2;obtain ⟨ao,cap,hvw⟩:∃ ao cap,u11 = .slice ao 0 cap:=by
    rcases how.2 with ⟨h,_⟩ | ⟨g,off,cap,cur,h,_⟩
    ·exact ⟨none,0,h⟩
    ·exact ⟨_,_,h⟩
   subst hvw;clear how;have HMT:=hI (s.met.length <= 3000) (by
    have:=Xc S k (yl root);rw [<- HS.o] at this;have h2:=HKN.o;have h3:=HNN.o;simp only [yl,List.length_nil] at this;omega)
   rcases HSR.o.flt with ⟨hf,rfl⟩ | ⟨c,u,g,cf,lo,hi,hf,rfl,h3,h4,h5,h6,h7,h8,h9⟩
   ·have HNN2:=Hi (HNDD.o hf);have HF:=Hi hf;clear hf;obtain ⟨kk,DD,hk1,hk2,hk3,hk4,hk5⟩:=HSR.o.met.own;have HMM:=Hi (And.intro hk1 (And.intro hk2 (And.intro hk3 (And.intro hk4 hk5))));clear hk1 hk2 hk3 hk4 hk5;have HSZ:=hI (Maps.size DD <= 3000) (Nat.le_trans HMM.o.2.1.size_le (Nat.le_trans HMM.o.1 HMT.o));go_wp2_with fail;refine (zee (some b) wr).mono ?_;rintro e wk ⟨rfl,T,hwk⟩;have HWK:=Hi hwk;clear hwk;dsimp only;go_wp2_with fail;refine (za3 b kk DD _ wr wk T HWK.o HMM.o.2.1 (by have:=HSZ.o; unfold maxLen; omega) (by have:=HSZ.o; omega)).mono ?_;rintro e w' ⟨v,ss,rfl,hss,hrow,_,hb⟩;have HB9:=hI (Below w.1.size w w') (by
     have h1:=HSR.o.below;have h2:Below wr.1.size wr wk:=by rw [HWK.o]; exact bA
     have h3:=h2.trans (hb.mono h2.size);exact h1.trans (h3.mono h1.size))
    have HROW:=hI (w'.ownsRow w.1.size 3 1 v s.met.length ((s.met.mergeSort (fun x y=>decide (x <= y))).map (Value.int .i64))) (by
     have hp:ss.Perm s.met:=hss.trans (zc7 HMM.o.2.1 HMM.o.2.2.2.1 HNN2.o).symm;have h1:=HSR.o.below.size;have h2:wk.1.size = wr.1.size + 1:=by rw [HWK.o]; simp
     rw [hp.length_eq,mergeSort_of_perm_i hp] at hrow;exact yG hrow (by omega))
    clear hss hrow hb;dsimp only;go_wp2_with fail;go_ret3;refine ⟨HB9.o,?_⟩;rw [HFIN.o,HF.o];exact ⟨v,rfl,fun _=>HROW.o⟩
   ·have HF:=Hi hf;have HG1:=Hi (And.intro h4 (And.intro h5 h8));have h3':=h3;clear hf h4 h5 h6 h7 h9;go_wp2_with fail;refine (Kc h3' h8).mono ?_;rintro e w' ⟨rfl,hb⟩;have HB9:=hI (Below w.1.size w w') (HSR.o.below.trans (hb.mono HSR.o.below.size));have HE9:=hI (zi w' w.1.size c u) (((HG1.o.1.keep hb.size fun k _ hk=>hb.block k (Nat.lt_of_lt_of_le hk HG1.o.1.1)).err).mono HG1.o.2.1);clear hb h3 h3' h8;dsimp only;go_wp2_with fail;go_ret3;refine ⟨HB9.o,?_⟩;rw [HFIN.o,HF.o];exact ⟨u,rfl,HE9.o⟩
  | cons t rest =>
   have how:=HSR.o.wait;rw [<- HWT.o] at how;obtain ⟨g,off,cap,rfl,hcap1,hcap2⟩:=how.slice (by simp);have HCAP:=Hi (And.intro hcap1 hcap2);have HRA:=hI (wr.rangeAt g off (xD t)) (fun j v hj=>by
    have h2:=how.cells rfl j v (by
     show (xD t ++ vT rest)[j]? = some v;rw [List.getElem?_append_left (zfK.1 hj).1];exact hj)
    rwa [show (⟨g,off,none⟩:Addr).add j = ⟨g,off + j,none⟩ by unfold Addr.add; split <;> simp_all] at h2)
   obtain ⟨len,HLEN⟩:=hY ((t :: rest).length);have hlen:(0:Int) < (len:Int):=by rw [HLEN.o]; simp only [zfJ]; omega
   have HOW:=Hi how;rw [<- HLEN.o];clear how hcap1 hcap2;go_wp2_with (with_reducible refine xD9 (some 31) ?_);unfold xA;refine vi Tryz.spotTy (by rfl) _ rfl g off rfl (xD t) rfl HRA.o ?_;go_wp2_with (with_reducible refine vN (o:=⟨none,_,_,_,_,_⟩) ?_);obtain ⟨q,HQQ⟩:=hY (wr.1.size);obtain ⟨wz,HWZ⟩:=hY (wr.alloc (.cells #[.int .i64 0,.int .i64 0,.int .i64 0,.int .i64 0] 176));rw [<- HWZ.o,<- HQQ.o];have HCZ:=hI (wE wz q [.int .i64 0,.int .i64 0,.int .i64 0,.int .i64 0] /\ Below wr.1.size wr wz /\ wr.1.size <= q) (by
    rw [HWZ.o,HQQ.o];exact ⟨wE.new _ _,(Below.refl _ _).alloc (zfI _) _,zfI _⟩)
   clear HWZ;unfold Zv;refine WZ Tryz.spotTy rfl _ _ rfl q _ (xD t) rfl rfl (by simp [xD,Value.oneCell']) rfl rfl HCZ.o.1 ?_;intro wq HWQ HCQ;have HBQ:=hI (Below wr.1.size wr wq) (V8 HCZ.o.2.1 HWQ.o HCZ.o.2.2);have HSQ:=Hi (HSR.o.carry (by have:=HM.o; omega) (by have:=HM.o; omega) HBQ.o);have HQL:=hI (q < wq.1.size /\ wr.1.size <= q) ⟨HCQ.o.lt (by simp [xD]),HCZ.o.2.2⟩;clear HWQ HCZ HRA;have e0:=HCQ.o.cell (j:=0) rfl;have hto:=zdA (S:=S) HRR.o k t (by rw [<- HS.o,<- HWT.o]; exact List.mem_cons_self);have HTO:=Hi hto;have HKL:=hI (k < N) (by
    rcases Nat.lt_or_ge k N with h | h
    ·exact h
    ·have:=HKN.o;have h2:=HDN.o;rw [show N = k by omega,<- HS.o,<- HWT.o] at h2;cases h2)
   obtain ⟨z,HZ⟩:=hY (t.at_);have hzw:-9223372036854775808 <= z /\ z <= 9223372036854775807:=by rw [HZ.o]; exact hto.1
   rw [<- HZ.o] at e0;clear hto;have hkey:keyOf Tryz.prog 3 (.int .i64 z) = some (.int .i64 z):=keyOf_int_mk Tryz.underlying3 (WalkArith.wf_i64 hzw);obtain ⟨kk,DD,hk1,hk2,hk3,hk4,hk5⟩:=HSQ.o.met.own;have HMM:=Hi (And.intro hk1 (And.intro hk2 (And.intro hk3 (And.intro hk4 hk5))));clear hk1 hk2 hk3 hk4 hk5;have hz0:=Tryz.zeroInt;obtain ⟨c,HC⟩:=hY (((s.met.count z:Nat):Int));have HMT:=hI (s.met.length <= 3000) (by
    have:=Xc S k (yl root);rw [<- HS.o] at this;have h2:=HKN.o;have h3:=HNN.o;simp only [yl,List.length_nil] at this;omega)
   have hc:0 <= c /\ c <= 3000:=by
    rw [HC.o];have:=List.count_le_length (a:=z) (l:=s.met);have:=HMT.o;omega
   have hat:=HMM.o.2.2.2.2 z;rw [<- HC.o] at hat;go_wp2_with (with_reducible refine xD9 (some 35) ?_);refine wpList_lookup_own_int _ rfl _ _ 173 rfl 3 3 .i64 Tryz.keyInt Tryz.underlying173 Tryz.underlying3 (hz0 _) b kk DD rfl HMM.o.2.1 _ _ rfl hkey ?_;intro c' hat2 hwc;obtain rfl:c = c':=YB (hat.symm.trans hat2);clear hat2 hwc hat;have HKEY:=Hi hkey;have hc1:wrap64 (c + 1) = c + 1:=by unfold wrap64; omega
   have hkm:kk < maxLen:=by have:=HMM.o.1; have:=HMT.o; unfold maxLen; omega
   go_wp2_with (with_reducible refine xD9 (none) ?_);refine wpList_mapUpdate_own _ rfl _ _ _ 173 rfl 3 3 Tryz.keyInt Tryz.underlying173 _ b kk DD rfl HMM.o.2.1 hkm _ (.int .i64 (c + 1)) _ rfl rfl HKEY.o (.lit (.int .i64 (c + 1))) [] (plainElem_int Tryz.underlying3 (WalkArith.wf_i64 (by omega))) ?_;intro w2 hown2 hgrow2;have HB2:=hI (Below wq.1.size wq wq) (Below.refl _ _);have HAT:=hI ((DD.put (.int .i64 z) (.lit (.int .i64 (c + 1)))).atKey (.int .i64 z) (.lit (.int .i64 0)) = .lit (.int .i64 (c + 1))) (atKey_put_same (k:=.int .i64 z) HMM.o.2.2.1 trivial _ _);have HOW2:=Hi hown2;have HCQ2:=hI (wE w2 q (xD t) /\ q < w2.1.size) ⟨HCQ.o.block (hgrow2.block q HQL.o.1 (by have h1:=HQL.o; have h2:=HM.o; have h3:=HSR.o.size; simp; omega)),Nat.lt_of_lt_of_le HQL.o.1 hgrow2.size⟩;have HS2:=hI (SvS w.1.size p b w wm st ⟨t :: rest,s.met ++ [z],s.dep,s.flt⟩ (.slice (some ⟨g,off,none⟩) (t :: rest).length cap) u10 w2) (by
    have h:=HSQ.o.name (met:=s.met ++ [z]) (by have:=HM.o; omega) (by have:=HM.o; omega) (by have:=HM.o; omega) hgrow2 (XJ.push HMM.o.1 HMM.o.2.2.1 HMM.o.2.2.2.1 HMM.o.2.2.2.2 (by rw [<- HC.o]; exact hown2));rw [<- HWT.o] at h;exact h)
   clear hown2 hgrow2 HB2 HSQ HBQ HCQ HMM e0 HSR;have e0:=HCQ2.o.1.cell (j:=0) rfl;rw [<- HZ.o] at e0;dsimp only [Act.put];go_wp2_with (with_reducible refine xD9 (some 40) ?_);refine wpList_lookup_own_int _ rfl _ _ 173 rfl 3 3 .i64 Tryz.keyInt Tryz.underlying173 Tryz.underlying3 (hz0 _) b (kk + 1) _ rfl HOW2.o _ _ rfl HKEY.o ?_;intro c' hat2 hwc;obtain rfl:c + 1 = c':=YB (HAT.o.symm.trans hat2);clear hat2 hwc HAT HOW2 hkm;by_cases hdup:z ∈ s.met
   ·-- it was named before
    have hcd:1 < c + 1:=by
     have:=List.count_pos_iff.2 hdup;have:=HC.o;omega
    have HSTEP:=hI (yO S s = ⟨rest,s.met ++ [z],s.dep,s.flt ++ [2]⟩) (by
     unfold yO;rw [<- HWT.o];simp only;rw [<- HZ.o,if_pos hdup])
    have HFE:=hI (s.flt = [] /\ u10 = .slice none 0 0) (by
     have h3:=Wu HS.o HKL.o (congrArg Sv.flt HSTEP.o) HF1.o;exact ⟨h3,Kh HS2.o.flt h3⟩)
    clear hdup;rw [HFE.o.2];go_wp2_with fail;refine (kT 2 (by decide) w2).mono ?_;rintro e w3 ⟨v,rfl,he,hb⟩;obtain ⟨tt,xx,rfl⟩:=he.some (by decide);obtain ⟨v1,HV1⟩:=hY (Value.iface tt xx);have HO1:=hI (v1.oneCell' = true) (by rw [HV1.o]; rfl);rw [<- HV1.o] at he;have HE3:=Hi he;have HB3:=Hi hb;clear he hb;dsimp only;go_wp2_with (with_reducible refine xD9 (some 45) ?_);rw [<- HV1.o];obtain ⟨wl,HWL⟩:=hY (w3.alloc (.cells #[v1] 27));rw [<- HWL.o];have HLL:=hI (Below w3.1.size w3 wl /\ wl.cell? ⟨w3.1.size,0,none⟩ = some v1) (by
     rw [HWL.o];exact ⟨(Below.refl _ _).alloc (zfI _) _,(wE.new [v1] _).cell rfl⟩)
    clear HWL;refine wpList_append_own _ rfl _ _ 174 rfl w3.1.size 27 i9 _ 1 16 Tryz.underlying174 hi9 hj3 hj4 hj5 rfl (by decide) _ 0 [] rfl (World.ownsRow_nil _ _ _ _) ⟨w3.1.size,0,none⟩ 1 1 [v1] rfl rfl (fun j u hu=>by
     rcases zfK.1 hu with ⟨hj,rfl⟩
     obtain rfl:j = 0:=by simp at hj; exact hj
     exact HLL.o.2) (by simpa using HO1.o) (by unfold maxLen; omega) (by omega) HLL.o.1.size ?_
    intro v4 w4 hown4 hgrow4 _;have HB4:=hI (Below w3.1.size w3 w4) (HLL.o.1.grown hgrow4 HLL.o.1.size (fun g hg=>by cases hg));have HS4:=hI (SvS w.1.size p b w wm st ⟨t :: rest,s.met ++ [z],s.dep,s.flt ++ [2]⟩ (.slice (some ⟨g,off,none⟩) len cap) v4 w4) (by
     rw [HLEN.o];exact HS2.o.fault rfl (by have:=HM.o; omega) (by have:=HM.o; omega) HFE.o.1 HB3.o HE3.o HB4.o hown4)
    clear hown4 hgrow4 HLL HB4 HE3 HB3 HS2 HFE;go_wp2_with fail;have h:=YN (root:=root) HS.o HKL.o HS4.o rfl HLEN.o HSTEP.o;rw [HK.o,<- HLEN.o] at h;exact h
   ·have HNM:=Hi hdup;have hcd:¬ 1 < c + 1:=by
     have:=List.count_eq_zero.2 hdup;have:=HC.o;omega
    clear hdup;have HL2:=Hi (HL.o.carry H HS2.o.below);have HLD:=Hi (KV H HL2.o HG.o t.at_ t.lv t.lo t.hi);go_wp2_with (with_reducible refine xD9 (some 48) ?_);unfold xA;refine vi Tryz.spotTy (by rfl) _ rfl q 0 rfl (xD t) rfl HCQ2.o.1.at_ ?_;have HTV:=hI ((.agg (xD t).toArray:Value) = spV t.at_ t.lv t.lo t.hi) rfl;obtain ⟨sp,HSP⟩:=hY (spV t.at_ t.lv t.lo t.hi);rw [HTV.o,<- HSP.o];rw [<- HSP.o] at HLD;dsimp only [Act.put];go_wp2_with fail;refine HLD.o.mono ?_;cases hlm:yp S t.at_ t.lv with
    | error c2 =>
     rintro e w3 ⟨hc,v,rfl,he,hb⟩;obtain ⟨tt,xx,rfl⟩:=he.some hc;obtain ⟨v1,HV1⟩:=hY (Value.iface tt xx);have HO1:=hI (v1.oneCell' = true) (by rw [HV1.o]; rfl);rw [<- HV1.o] at he;have HE3:=Hi he;have HB3:=Hi hb;clear he hb;have HSTEP:=hI (yO S s = ⟨rest,s.met ++ [z],s.dep,s.flt ++ [c2]⟩) (by
      unfold yO;rw [<- HWT.o];simp only;rw [<- HZ.o,if_neg HNM.o,HZ.o,hlm])
     have HFE:=hI (s.flt = [] /\ u10 = .slice none 0 0) (by
      have h3:=Wu HS.o HKL.o (congrArg Sv.flt HSTEP.o) HF1.o;exact ⟨h3,Kh HS2.o.flt h3⟩)
     rw [HFE.o.2];clear hlm hc;go_wp2_with (with_reducible refine xD9 (some 57) ?_);rw [<- HV1.o];obtain ⟨wl,HWL⟩:=hY ((w3.alloc (.cells #[.slice zd.none_.A Nd.empty.keys.length zd.none_.ca,.slice zd.none_.B Nd.empty.vals.length zd.none_.cb,.slice zd.none_.C Nd.empty.kids.length zd.none_.cc] 48)).alloc (.cells #[v1] 27));rw [<- HWL.o];have HLL:=hI (Below w3.1.size w3 wl /\ wl.cell? ⟨w3.1.size + 1,0,none⟩ = some v1) (by
      rw [HWL.o];have h2:=(Below.refl w3.1.size w3).alloc (zfI _) (.cells #[.slice zd.none_.A Nd.empty.keys.length zd.none_.ca,.slice zd.none_.B Nd.empty.vals.length zd.none_.cb,.slice zd.none_.C Nd.empty.kids.length zd.none_.cc] 48);refine ⟨h2.alloc h2.size _,?_⟩;have h3:=(wE.new (w:=w3.alloc (.cells #[.slice zd.none_.A Nd.empty.keys.length zd.none_.ca,.slice zd.none_.B Nd.empty.vals.length zd.none_.cb,.slice zd.none_.C Nd.empty.kids.length zd.none_.cc] 48)) [v1] 27).cell (j:=0) rfl
      rwa [show (w3.alloc (.cells #[.slice zd.none_.A Nd.empty.keys.length zd.none_.ca,.slice zd.none_.B Nd.empty.vals.length zd.none_.cb,.slice zd.none_.C Nd.empty.kids.length zd.none_.cc] 48)).1.size = w3.1.size + 1 by simp] at h3)
     clear HWL;refine wpList_append_own _ rfl _ _ 174 rfl w3.1.size 27 i9 _ 1 16 Tryz.underlying174 hi9 hj3 hj4 hj5 rfl (by decide) _ 0 [] rfl (World.ownsRow_nil _ _ _ _) ⟨w3.1.size + 1,0,none⟩ 1 1 [v1] rfl rfl (fun j u hu=>by
      rcases zfK.1 hu with ⟨hj,rfl⟩
      obtain rfl:j = 0:=by simp at hj; exact hj
      exact HLL.o.2) (by simpa using HO1.o) (by unfold maxLen; omega) (by omega) HLL.o.1.size ?_
     intro v4 w4 hown4 hgrow4 _;have HB4:=hI (Below w3.1.size w3 w4) (HLL.o.1.grown hgrow4 HLL.o.1.size (fun g hg=>by cases hg));have HS4:=hI (SvS w.1.size p b w wm st ⟨t :: rest,s.met ++ [z],s.dep,s.flt ++ [c2]⟩ (.slice (some ⟨g,off,none⟩) len cap) v4 w4) (by
      rw [HLEN.o];exact HS2.o.fault rfl (by have:=HM.o; omega) (by have:=HM.o; omega) HFE.o.1 HB3.o HE3.o HB4.o hown4)
     clear hown4 hgrow4 HLL HB4 HE3 HB3 HS2 HFE;go_wp2_with fail;have h:=YN (root:=root) HS.o HKL.o HS4.o rfl HLEN.o HSTEP.o;rw [HK.o,<- HLEN.o] at h;exact h
    | ok x =>
     rintro e w3 ⟨hr2,l,rfl,hn,hb⟩;have HRX:=Hi hr2;have HNW:=Hi hn;have HB3:=Hi hb;clear hb hn hr2;have HLV:=hI (1 <= t.lv /\ t.lv <= 12) (by
      have:=HTO.o.2;refine ⟨this.1,?_⟩;unfold yp at hlm;split at hlm
      ·cases hlm
      ·omega)
     have HLM:=Hi hlm;clear hlm;go_upto_region 16 with (fail)
     obtain ⟨r,HRR3⟩:=hY (w3.1.size);obtain ⟨w4,HW4⟩:=hY (w3.alloc (.cells #[.slice l.A x.keys.length l.ca,.slice l.B x.vals.length l.cb,.slice l.C x.kids.length l.cc] 48));rw [<- HW4.o,<- HRR3.o];have HPB:=hI (p < wm.1.size /\ b < wm.1.size) (by have:=HM.o; omega);have HSL:=hI (SvL w.1.size p b w wm st ⟨t :: rest,s.met ++ [z],s.dep,s.flt⟩ (.slice (some ⟨g,off,none⟩) len cap) u10 q r l x t w4) (by
      have h34:Below w3.1.size w3 w4:=by rw [HW4.o]; exact bA
      have h24:=HB3.o.trans (h34.mono HB3.o.size);rw [HLEN.o];refine ⟨HS2.o.carry HPB.o.1 HPB.o.2 h24,HCQ2.o.1.carry h24 (by simp [xD]),?_,HNW.o.is.carry h34⟩;rw [HW4.o,HRR3.o];exact zb.new _)
     clear HW4 HRR3 HB3 HNW HS2 HCQ2;have HOK:=hI (Bits.Ok st) (by rw [HST.o]; exact HL.o.inv.usedOk);obtain ⟨sd,HSD⟩:=hY ((vH st z && Za x t.lv t.lo t.hi));have e0:=HSL.o.c.cell (j:=0) rfl;rw [<- HZ.o] at e0;go_cut [15] (fun s15 wx=>s15 = .bool sd /\ Hid (SvL w.1.size p b w wm st ⟨t :: rest,s.met ++ [z],s.dep,s.flt⟩ (.slice (some ⟨g,off,none⟩) len cap) u10 q r l x t wx))
     case first =>
      go_wp2_with (with_reducible refine xD9 (some 58) ?_);unfold xA;refine yi (by rfl) _ rfl p rfl st HSTL.o (HSL.o.s.set HM.o.2.2.2.2.2).at_ ?_;dsimp only [Act.put];go_wp2_with fail;refine (qg st HOK.o z _).mono ?_;rintro e w5 ⟨rfl,hb⟩;have HS5:=Hi (HSL.o.carry HPB.o.1 HPB.o.2 hb);clear hb;dsimp only;cases hh:Z0 st z with
      | false =>
       have HSDF:=hI (sd = false) (by rw [HSD.o,Ki,hh]; rfl);clear hh;go_wp2_with fail
       go_meet
       exact ⟨by rw [HSDF.o],HS5⟩
      | true =>
       have HSDF:=hI (sd = Za x t.lv t.lo t.hi) (by rw [HSD.o,Ki,hh,Bool.true_and]);clear hh;go_wp2_with (with_reducible refine xD9 (some 63) ?_);unfold xA;refine zg Tryz.ndProg (by rfl) _ rfl r rfl l x HS5.o.b ?_;dsimp only [Act.put];go_wp2_with (with_reducible refine xD9 (some 64) ?_);unfold xA;refine vi Tryz.spotTy (by rfl) _ rfl q 0 rfl (xD t) rfl HS5.o.c.at_ ?_;rw [HTV.o];dsimp only [Act.put];go_wp2_with fail;refine (KU HS5.o.is t.at_ t.lv t.lo t.hi).mono ?_;rintro e w6 ⟨rfl,hb⟩;have HS6:=Hi (HS5.o.carry HPB.o.1 HPB.o.2 hb);clear hb;rw [<- HSDF.o];go_wp2_with fail
       go_meet
       exact ⟨rfl,HS6⟩
     case rest =>
      obtain ⟨rfl,hsl⟩:=hcut;have HSC:=Hi hsl.out;clear hsl HSL e0;obtain ⟨lv,HLVV⟩:=hY (t.lv);obtain ⟨dp,HDP⟩:=hY (s.dep);rw [<- HDP.o];go_wp2_with (with_reducible refine xD9 (some 67) ?_);unfold xA;refine zg Tryz.ndProg (by rfl) _ rfl r rfl l x HSC.o.b ?_;dsimp only [Act.put];go_wp2_with fail;refine (va x).mono ?_;rintro e w5 ⟨rfl,hb⟩;have HS5:=Hi (HSC.o.carry HPB.o.1 HPB.o.2 hb);clear hb HSC;have e1:=HS5.o.c.cell (j:=1) rfl;rw [<- HLVV.o] at e1;dsimp only;obtain ⟨lf,HLF⟩:=hY (decide (x.kids.length = 0));rw [<- HLF.o];obtain ⟨dn,HDN2⟩:=hY (YM x t.lv s.dep);obtain ⟨ok,HOKK⟩:=hY (JG S t x s.dep);have HOE:=hI (ok = (sd && (!lf || decide (dn = lv)))) (by
       rw [HOKK.o,HSD.o,HLF.o,HDN2.o,HLVV.o,HST.o,HZ.o];unfold JG;by_cases h:x.kids.length = 0 <;> simp [h])
      have HDE:=hI (dn = if lf = true /\ dp = 0 then lv else dp) (by
       rw [HDN2.o,HLF.o,HLVV.o,HDP.o];unfold YM;simp only [decide_eq_true_eq])
      go_upto_if 68 with (fail)
      go_cut [8,15] (fun s8 s15 wx=>s8 = .int .i64 dn /\ s15 = .bool ok /\ w5 = wx)
      case first =>
       cases lf with
       | false =>
        have h1:=HDE.o;have h2:=HOE.o;simp only [Bool.not_false,Bool.true_or,Bool.and_true,Bool.false_eq_true,false_and,if_false] at h1 h2;subst h1 h2;go_wp2_with fail
        go_meet
        exact ⟨rfl,rfl,rfl⟩
       | true =>
        by_cases hd0:dp = 0
        ·have h1:=hI (dn = lv) (by rw [HDE.o,if_pos ⟨rfl,hd0⟩]);have h2:=hI (ok = sd) (by rw [HOE.o,h1.out]; simp);cases sd with
         | false =>
          go_wp2_with fail
          go_meet
          exact ⟨by rw [h1.out],by rw [h2.out],rfl⟩
         | true =>
          have hll:(lv == lv) = true:=by simp
          go_wp2_with fail
          go_meet
          exact ⟨by rw [h1.out],by rw [h2.out],rfl⟩
        ·have h1:=hI (dn = dp) (by rw [HDE.o,if_neg (fun h=>hd0 h.2)]);cases sd with
         | false =>
          have h2:=hI (ok = false) (by rw [HOE.o]; rfl);go_wp2_with fail
          go_meet
          exact ⟨by rw [h1.out],by rw [h2.out],rfl⟩
         | true =>
          have h2:=hI (ok = decide (dp = lv)) (by rw [HOE.o,h1.out]; rfl);by_cases hdl:dp = lv
          ·have h3:=hI (ok = true) (by rw [h2.out,decide_eq_true hdl]);have hll:(dp == lv) = true:=by simp [hdl]
           clear hdl;go_wp2_with fail
           go_meet
           exact ⟨by rw [h1.out],by rw [h3.out],rfl⟩
          ·have h3:=hI (ok = false) (by rw [h2.out,decide_eq_false hdl]);have hll:(dp == lv) = false:=by simp [hdl]
           clear hdl;go_wp2_with fail
           go_meet
           exact ⟨by rw [h1.out],by rw [h3.out],rfl⟩
      case rest =>
       obtain ⟨rfl,rfl,rfl⟩:=hcut;obtain ⟨flt,HFL⟩:=hY (if ok = true then s.flt else s.flt ++ [2]);have HSTEP:=hI (yO S s = ⟨rest ++ xG x t.lv t.lo t.hi,s.met ++ [z],dn,flt⟩) (by
        unfold yO;rw [<- HWT.o];simp only;rw [<- HZ.o,if_neg HNM.o,HZ.o,HLM.o];simp only;rw [<- HOKK.o,<- HDN2.o,<- HFL.o])
       go_upto_if 81 with (fail)
       go_cut [10] (fun s10 wx=>Hid (SvL w.1.size p b w wm st ⟨t :: rest,s.met ++ [z],s.dep,flt⟩ (.slice (some ⟨g,off,none⟩) len cap) s10 q r l x t wx))
       case first =>
        cases ok with
        | true =>
         have HF0:=hI (flt = s.flt) HFL.o;go_wp2_with fail
         go_meet
         rw [HF0.o];exact HS5
        | false =>
         have HF0:=hI (flt = s.flt ++ [2]) HFL.o;have HFE:=hI (s.flt = [] /\ u10 = .slice none 0 0) (by
          have h3:=Wu HS.o HKL.o ((congrArg Sv.flt HSTEP.o).trans HF0.o) HF1.o;exact ⟨h3,Kh HS5.o.s.flt h3⟩)
         rw [HFE.o.2];go_wp2_with fail;refine (kT 2 (by decide) w5).mono ?_;rintro e w6 ⟨v,rfl,he,hb⟩;obtain ⟨tt,xx,rfl⟩:=he.some (by decide);obtain ⟨v1,HV1⟩:=hY (Value.iface tt xx);have HO1:=hI (v1.oneCell' = true) (by rw [HV1.o]; rfl);rw [<- HV1.o] at he;have HE3:=Hi he;have HB3:=Hi hb;clear he hb;dsimp only;go_wp2_with (with_reducible refine xD9 (some 85) ?_);rw [<- HV1.o];obtain ⟨wl,HWL⟩:=hY (w6.alloc (.cells #[v1] 27));rw [<- HWL.o];have HLL:=hI (Below w6.1.size w6 wl /\ wl.cell? ⟨w6.1.size,0,none⟩ = some v1) (by
          rw [HWL.o];exact ⟨(Below.refl _ _).alloc (zfI _) _,(wE.new [v1] _).cell rfl⟩)
         clear HWL;refine wpList_append_own _ rfl _ _ 174 rfl w6.1.size 27 i9 _ 1 16 Tryz.underlying174 hi9 hj3 hj4 hj5 rfl (by decide) _ 0 [] rfl (World.ownsRow_nil _ _ _ _) ⟨w6.1.size,0,none⟩ 1 1 [v1] rfl rfl (fun j u hu=>by
          rcases zfK.1 hu with ⟨hj,rfl⟩
          obtain rfl:j = 0:=by simp at hj; exact hj
          exact HLL.o.2) (by simpa using HO1.o) (by unfold maxLen; omega) (by omega) HLL.o.1.size ?_
         intro v4 w7 hown4 hgrow4 _;have HB4:=hI (Below w6.1.size w6 w7) (HLL.o.1.grown hgrow4 HLL.o.1.size (fun g hg=>by cases hg));have HS7:=hI (SvL w.1.size p b w wm st ⟨t :: rest,s.met ++ [z],s.dep,flt⟩ (.slice (some ⟨g,off,none⟩) len cap) v4 q r l x t w7) (by
          rw [HF0.o];exact HS5.o.fault rfl HPB.o.1 HPB.o.2 HFE.o.1 HB3.o HE3.o HB4.o hown4)
         clear hown4 hgrow4 HLL HB4 HE3 HB3;go_wp2_with fail
         go_meet
         exact HS7
       case rest =>
        have HS7:=Hi hcut.out;clear hcut HS5 e1;obtain ⟨w0',HW0⟩:∃ w0',Hid (w0' = wc):=Hy;have HKD:=hI (x.kids.length <= 255) (by
         rcases (zm HRX.o).2.2 with ⟨h0,_⟩ | ⟨_,_,_,_,h2⟩
         ·rw [h0]; simp
         ·have:=(zm HRX.o).2.1; omega)
        have HBEL:=Hi (Kb HS7.o.is t.at_ t.lv t.lo t.hi (by have:=HLV.o; omega) HKD.o);go_wp2_with (with_reducible refine xD9 (some 87) ?_);unfold xA;refine zg Tryz.ndProg (by rfl) _ rfl r rfl l x HS7.o.b ?_;dsimp only [Act.put];go_wp2_with (with_reducible refine xD9 (some 88) ?_);unfold xA;refine vi Tryz.spotTy (by rfl) _ rfl q 0 rfl (xD t) rfl HS7.o.c.at_ ?_;rw [HTV.o];dsimp only [Act.put];go_wp2_with fail;refine HBEL.o.mono ?_;rintro e w8 ⟨v,rfl,hown8,hb⟩;have HS8:=Hi (HS7.o.carry HPB.o.1 HPB.o.2 hb);have HO8:=Hi hown8;have HB8:=Hi hb;clear hown8 hb HS7 HBEL;dsimp only;have HML:=hI (w.1.size <= wm.1.size) (by have:=HM.o; omega);have HWL:=hI (len <= 30000) (by
         have:=zbQ (S:=S) (root:=root) k;rw [<- HS.o,<- HWT.o,<- HLEN.o] at this;have h2:=HKN.o;have h3:=HNN.o;omega)
        rcases HO8.o.2 with ⟨hv,hn0⟩ | ⟨g2,c2,cur2,hv,_⟩
        ·have HBE:=hI (xG x t.lv t.lo t.hi = []) (List.length_eq_zero_iff.1 (by show (belowK x t.lv t.lo t.hi x.kids.length).length = 0; rw [vg]; exact hn0));subst hv;have HS9:=hI (SvS w.1.size p b w wm st ⟨t :: rest,s.met ++ [z],dn,flt⟩ (.slice (some ⟨g,off,none⟩) len cap) u10 w8) ⟨HS8.o.s.below,HS8.o.s.box,HS8.o.s.size,HS8.o.s.wait,HS8.o.s.met,HS8.o.s.flt⟩;have HST2:=hI (yO S s = ⟨rest,s.met ++ [z],dn,flt⟩) (by rw [HSTEP.o,HBE.o,List.append_nil]);clear hn0;go_wp2_with (with_reducible refine xD9 (some 90) ?_);unfold xA;refine qQ _ rfl _ _ 177 rfl wm.1.size 176 i0 4 Tryz.underlying177 hi0 _ _ _ rfl HS9.o.wait rfl ?_;dsimp only [Act.put];go_wp2_with fail;have h:=YN (root:=root) HS.o HKL.o HS9.o rfl HLEN.o HST2.o;rw [HK.o,<- HLEN.o] at h;exact h
        ·subst hv;have HBL:=hI ((xG x t.lv t.lo t.hi).length = x.kids.length) (by show (belowK x t.lv t.lo t.hi x.kids.length).length = x.kids.length; exact vg _ _ _ _ _);go_wp2_with (with_reducible refine xD9 (some 90) ?_);unfold xA;refine Xe _ rfl _ _ 177 rfl wm.1.size 176 i0 _ 4 32 Tryz.underlying177 hi0 hj0 hj1 hj2 rfl (by decide) _ _ _ rfl HS8.o.s.wait ⟨g2,0,none⟩ x.kids.length c2 (vT (xG x t.lv t.lo t.hi)) rfl HO8.o.1 (HO8.o.cells rfl) (fun u hu=>by
          obtain ⟨y,_,hy⟩:=List.mem_flatMap.1 hu;simp only [xD,List.mem_cons,List.not_mem_nil,or_false] at hy;rcases hy with rfl | rfl | rfl | rfl <;> rfl) (by have h1:=HWL.o; have h2:=HKD.o; have h3:=HLEN.o; simp only [zfJ] at h3 ⊢; unfold maxLen; omega) (by have h1:=HWL.o; have h2:=HKD.o; have h3:=HLEN.o; simp only [zfJ] at h3 ⊢; omega) HS8.o.s.size ?_
         intro v9 w9 hown9 hgrow9 hblk9;have HS9:=hI (SvS w.1.size p b w wm st ⟨t :: rest ++ xG x t.lv t.lo t.hi,s.met ++ [z],dn,flt⟩ v9 u10 w9) (HS8.o.s.more HML.o HPB.o.1 HPB.o.2 hgrow9 (by rw [HBL.o]; exact hown9) hblk9 dn);obtain ⟨g9,o9,c9,hv9,_⟩:=HS9.o.wait.slice (by simp);subst hv9;clear hown9 hgrow9 hblk9;obtain ⟨len9,HLEN9⟩:=hY ((t :: rest ++ xG x t.lv t.lo t.hi).length);have HS10:=hI (SvS w.1.size p b w wm st ⟨t :: rest ++ xG x t.lv t.lo t.hi,s.met ++ [z],dn,flt⟩ (.slice (some ⟨g9,o9,none⟩) len9 c9) u10 w9) (by rw [HLEN9.o]; exact HS9.o);have hl9:1 <= len9 /\ len9 <= c9:=by
          obtain ⟨_,_,_,h1,h2,_⟩:=HS10.o.wait.slice (by simp);simp only [Value.slice.injEq] at h1;rw [HLEN9.o];refine ⟨by simp,?_⟩;rw [h1.2.2]; exact h2
         dsimp only [Act.put];rw [show (({ wait:=t :: rest ++ xG x t.lv t.lo t.hi,met:=s.met ++ [z],dep:=dn,flt:=flt }:Sv).wait.length) = len9 from HLEN9.o.symm];go_wp2_with fail;have h:=YN (root:=root) HS.o HKL.o HS10.o rfl (by rw [HLEN9.o]; rfl) HSTEP.o;rw [HK.o,<- HLEN.o] at h;exact h
end
end Go.Proofs.YtafclmbecmgbnaaGreatDoor
set_option maxRecDepth 100000
set_option maxHeartbeats 1000000
namespace Go.Proofs.YtafclmbecmgbnaaGreatDoor
open Go.RowKit Go.Maps
def Svd (S:TS) (root:Int) (s:Sv):Prop :=
 (root = 0 /\ s = ⟨[],[],0,[]⟩) \/ (root ≠ 0 /\ (-9223372036854775808 <= root /\ root <= 9223372036854775807) /\ s.wait = [] /\ s.flt.length <= 1 /\ (s.flt = [] -> s.met.Nodup) /\ ∃ N,N <= 3000 /\ xj S N (yl root) = s)
def Kg (s:Sv):Int:=s.flt.headD 0
def zfw (s:Sv):Int:=if s.flt = [] then s.dep else 0
def WT (l:List Int):List Int:=l.mergeSort fun x y=>decide (x <= y)
def zch (w':World) (b:Nat) (s:Sv) (v:Value):Prop:=(s.flt = [] -> w'.ownsRow b 3 1 v s.met.length ((WT s.met).map (Value.int .i64))) /\ (s.flt ≠ [] -> v = .slice none 0 0)
def zao (w:World) (s:Sv) (e:Ending) (w':World):Prop :=
 ∃ v u,e = .returned (.tuple #[v,.int .i64 (zfw s),u]) /\ zi w' w.1.size (Kg s) u /\ zch w' w.1.size s v /\ Below w.1.size w w'
section
variable {O:ye} (H:ym O)
include H
theorem zbO {w0:World} {K:Nat -> Prop} {w:World} {P D n:Nat} {S:TS} {firm:Nat -> List UInt8} (hl:zX O w0 K w P D n S firm) (hg:yL w0) {root:Int} {s:Sv} (h:Svd S root s):Calls Tryz.prog 80 #[ptr P,.int .i64 root] w (zao w s):=by
 rcases h with ⟨rfl,rfl⟩ | ⟨h0,h1,h2,h3,h4,N,h5,rfl⟩
 ·clear hl hg
  go_enter Tryz.func80,Tryz.ntmps80
  go_wp2_with fail;go_ret3;exact ⟨.slice none 0 0,.nilIface,rfl,.nil _ _,⟨fun _=>by rw [show WT [] = [] by simp [WT]]; exact World.ownsRow_nil _ _ _ _,fun h=>absurd rfl h⟩,Below.refl _ _⟩
 ·refine (Q6 H hl hg root h0 h1 N h5 h2 h3 h4).mono ?_;rintro e w' ⟨hb,hp⟩;obtain ⟨s,hs⟩:∃ s,s = xj S N (yl root):=⟨_,rfl⟩
  rw [<- hs] at hp h4 h3 ⊢;unfold zao Kg zfw zch;cases hf:s.flt with
  | nil =>
   rw [hf] at hp;obtain ⟨v,rfl,h6⟩:=hp;exact ⟨v,_,by rw [if_pos rfl],.nil _ _,⟨fun _=>h6 (h4 hf),fun h=>absurd rfl h⟩,hb⟩
  | cons c l =>
   rw [hf] at hp;obtain ⟨v,rfl,h6⟩:=hp;exact ⟨_,v,by rw [if_neg (by simp)],h6,⟨(fun h=>by cases h),fun _=>rfl⟩,hb⟩
theorem KW {w0:World} {K:Nat -> Prop} {w:World} {P D n:Nat} {S:TS} {firm:Nat -> List UInt8} (hl:zX O w0 K w P D n S firm) (hg:yL w0) {root:Int} {s:Sv} (h:Svd S root s):Calls Tryz.prog 32 #[ptr P,.int .i64 root] w
  fun e w'=>∃ v u,e = .returned (.tuple #[v,u]) /\ zi w' w.1.size (Kg s) u /\ zch w' w.1.size s v /\ Below w.1.size w w':=by
 have HC:=Hi (zbO H hl hg h);clear hl hg h
 go_enter Tryz.func32,Tryz.ntmps32
 go_wp2_with fail;refine HC.o.mono ?_;rintro e w' ⟨v,u,rfl,he,hp,hb⟩;have HE:=Hi he;have HB:=Hi hb;have HP:=Hi hp;clear he hb hp HC;dsimp only;go_wp2_with fail
 go_ret2
 exact ⟨v,u,rfl,HE.o,HP.o,HB.o⟩
end
def kj (l:List Int):List Nat:=l.foldl jl zQ
theorem Xb (l:List Int):Bits.Ok (kj l):=by
 have:∀ (l:List Int) (s:List Nat),Bits.Ok s -> Bits.Ok (l.foldl jl s):=by
  intro l;induction l with
  | nil=>intro s h; exact h
  | cons z l ih=>intro s h; exact ih _ (JM h z)
 exact this l zQ xC
def wholeZ (S:TS) (s:Sv):Int:=if s.flt = [] then (if S.s.used = kj (WT s.met) then 0 else 2) else Kg s
theorem JF (l:List Int) (z:Int):kj (l ++ [z]) = jl (kj l) z:=by unfold kj; rw [List.foldl_append]; rfl
structure WhS (w:World) (b q:Nat) (v:Value) (l:List Int) (k:Nat) (wr:World):Prop where
 set:yE wr q (kj (l.take k))
 row:wr.ownsRow b 3 1 v l.length (l.map (Value.int .i64))
 far:∀ g,v.ownBlock = some g -> g ≠ q
 below:Below w.1.size w wr
 low:w.1.size <= q
theorem jj (l:List Int):(kj l).length = 30:=(Xb l).len
section
variable {O:ye} (H:ym O)
include H
theorem KX {w0:World} {K:Nat -> Prop} {w:World} {P D n:Nat} {S:TS} {firm:Nat -> List UInt8} (hl:zX O w0 K w P D n S firm) (hg:yL w0) {s:Sv} (h:Svd S S.s.sup.root s):Calls Tryz.prog 24 #[ptr P] w (xb (wholeZ S s) w.1.size w):=by
 have HL:=Hi hl;have HG:=Hi hg;have HSV:=Hi h;have hzs:=Tryz.zeroSet;clear hl hg h
 go_enter Tryz.func24,Tryz.ntmps24
 go_wp2_with fail;refine (H.pgRoot HL.o.pg).mono ?_;rintro e w1 ⟨rfl,hb⟩;have HL1:=Hi (HL.o.carry H hb);have HB1:=Hi hb;clear hb;dsimp only;go_wp2_with fail;refine (KW H HL1.o HG.o HSV.o).mono ?_;rintro e w2 ⟨v,u,rfl,he,hp,hb⟩;have HL2:=Hi (HL1.o.carry H hb);have HB2:=Hi (HB1.o.trans (hb.mono HB1.o.size));have HE2:=Hi (he.mono HB1.o.size);have HP2:=Hi hp;have HS1:=Hi HB1.o.size;clear hb he hp HL1;cases hf:s.flt with
 | cons c l =>
  have HF:=hI (wholeZ S s = Kg s /\ Kg s = c) (by unfold wholeZ Kg; rw [hf]; exact ⟨if_neg (by simp),rfl⟩);by_cases hc:c = 0
  ·have HC0:=Hi hc;have hu:=HE2.o;rw [HF.o.2,hc] at hu;obtain rfl:=hu.zero;have h3:=HP2.o.2 (by rw [hf]; simp);subst h3;exact absurd hc (by
    rcases HSV.o with ⟨_,rfl⟩ | ⟨_,_,_,_,_,N,_,h⟩
    ·cases hf
    ·exact fun hc=>(zdz S N (s:=yl S.s.sup.root) (fun c hc=>by cases hc)) c (by rw [h,hf]; simp) hc)
  ·have hu:=HE2.o;rw [HF.o.2] at hu;obtain ⟨tt,xx,rfl⟩:=hu.some hc;have HU:=Hi hu;have HW:=hI (wholeZ S s = c) (by rw [HF.o.1,HF.o.2]);clear hu hf hc;dsimp only;go_wp2_with fail
   go_ret
   rw [HW.o];exact ⟨_,rfl,HU.o,HB2.o⟩
 | nil =>
  have hu:=HE2.o;rw [show Kg s = 0 by unfold Kg; rw [hf]; rfl] at hu;obtain rfl:=hu.zero;obtain ⟨l,HLL⟩:=hY (WT s.met);have HLN:=hI (s.met.length = l.length) (by rw [HLL.o]; exact (List.mergeSort_perm _ _).length_eq.symm);have HROW:=hI (w2.ownsRow w1.1.size 3 1 v l.length (l.map (Value.int .i64))) (by
   have:=HP2.o.1 hf;rw [HLN.o,<- HLL.o] at this;exact this)
  have HWZ:=hI (wholeZ S s = if S.s.used = kj l then 0 else 2) (by unfold wholeZ; rw [if_pos hf,HLL.o]);obtain ⟨st,HST⟩:=hY (S.s.used);obtain ⟨nn,HNN⟩:=hY (l.length);have HLB:=hI (l.length <= 3000) (by
   rw [<- HLN.o];rcases HSV.o with ⟨_,rfl⟩ | ⟨_,_,_,_,_,N,h,rfl⟩
   ·simp
   ·have:=Xc S N (yl S.s.sup.root);simp only [yl,List.length_nil] at this ⊢;omega)
  obtain ⟨A,cap,hv,hA⟩:∃ A cap,v = .slice A l.length cap /\ (0 < l.length -> ∃ g,A = some ⟨g,0,none⟩):=by
   rcases HROW.o.2 with ⟨h1,h2⟩ | ⟨g,cap,cur,h1,_⟩
   ·exact ⟨none,0,by rw [h1,h2],fun h=>by omega⟩
   ·exact ⟨_,cap,h1,fun _=>⟨g,rfl⟩⟩
  subst hv;have HAA:=Hi hA;clear hu hf HP2 HE2 hA;rw [<- HNN.o];dsimp only;go_upto_region 5 with (fail)
  obtain ⟨q,HQQ⟩:=hY (w2.1.size);obtain ⟨wc,HWC⟩:=hY (w2.alloc (.cells (yg zQ) 63));rw [<- HWC.o,<- HQQ.o];have HW0:=hI (WhS w w1.1.size q (.slice A l.length cap) l 0 wc) (by
   rw [HWC.o,HQQ.o];have h3:=(Below.refl w2.1.size w2).alloc (Nat.le_refl _) (.cells (yg zQ) 63);refine ⟨by rw [List.take_zero]; exact yE.new _,HROW.o.alloc _,fun g hg=>?_,HB2.o.trans (h3.mono HB2.o.size),HB2.o.size⟩;have:=(HROW.o.lt g hg).2;omega)
  clear HWC HQQ HROW HB2;go_wp2_with fail
  go_loopw [20] (fun i wr=>∃ k,k <= l.length /\ i = .int .i64 (k:Int) /\ WhS w w1.1.size q (.slice A l.length cap) l k wr) (fun i _=>l.length - (intOf i).toNat)
  case atStart=>exact ⟨0,Nat.zero_le _,rfl,HW0.o⟩
  case round =>
   obtain ⟨k,hk,rfl,hs⟩:=hrel;have HS:=Hi hs;clear hs HW0;by_cases hlt:k < l.length
   ·obtain ⟨g,hg⟩:=HAA.o (by omega);subst hg;obtain ⟨z,HZ⟩:=hY (l[k]);have hc0:wr.cell? ((⟨g,0,none⟩:Addr).add k) = some (.int .i64 z):=HS.o.row.cells rfl k _ (by rw [List.getElem?_map,List.getElem?_eq_getElem hlt,HZ.o]; rfl);have hc:wr.cell? ⟨g,k,none⟩ = some (.int .i64 z):=by rwa [show (⟨g,0,none⟩:Addr).add k = ⟨g,k,none⟩ by unfold Addr.add; split <;> simp_all] at hc0
    have hkn:(k:Int) < (nn:Int):=by rw [HNN.o]; omega
    obtain ⟨sk,HSK⟩:=hY (kj (l.take k));have HSO:=hI (yE wr q sk) (by rw [HSK.o]; exact HS.o.set);go_wp2_with (with_reducible refine vN (o:=⟨some 24,_,_,_,_,_⟩) ?_);unfold Zv;refine yi (by rfl) _ rfl q rfl sk (by rw [HSK.o]; exact jj _) HSO.o.at_ ?_;dsimp only [Act.put];go_wp2_with fail;refine (zcs sk (by rw [HSK.o]; exact Xb _) z wr).mono ?_;rintro e w3 ⟨rfl,hb⟩;have HB3:=Hi hb;have HSO3:=Hi (HSO.o.below hb (HSO.o.lt (by rw [HSK.o,jj]; decide)));clear hb hc hc0;obtain ⟨sn,HSN⟩:=hY (jl sk z);rw [<- HSN.o];dsimp only;go_wp2_with (with_reducible refine vN (o:=⟨none,_,_,_,_,_⟩) ?_);unfold Zv;have HTK:=hI (sn = kj (l.take (k + 1))) (by
     rw [HSN.o,HSK.o,HZ.o,List.take_add_one,List.getElem?_eq_getElem hlt];exact (JF _ _).symm)
    refine yy rfl _ _ rfl q sn sk (by rw [HTK.o]; exact jj _) (by rw [HSK.o]; exact jj _) rfl rfl HSO3.o ?_;intro w4 HW4 HSO4;have HS4:=hI (WhS w w1.1.size q (.slice (some ⟨g,0,none⟩) l.length cap) l (k + 1) w4) (by
     have h3:=HS.o;have h4:Below w.1.size w w3:=h3.below.trans (HB3.o.mono h3.below.size);refine ⟨by rw [<- HTK.o]; exact HSO4.o,?_,h3.far,zD h4 HW4.o h3.low,h3.low⟩;refine zA h3.row fun i hi=>?_
     rw [HW4.o,ZN q (h3.far i hi)];exact HB3.o.block i (h3.row.lt i hi).2)
    clear HS HB3 HSO HSO3 HW4 HSO4;go_wp2_with fail
    go_roundw
    case rel=>exact ⟨k + 1,hlt,congrArg (Value.int .i64) (by have:=HLB.o; unfold wrap64; omega),HS4.o⟩
    case measure=>have:=HLB.o; rw [show wrap64 ((k:Int) + 1) = (k:Int) + 1 by unfold wrap64; omega]; simp [intOf]; omega
   ·obtain rfl:k = l.length:=by omega
    have hkn:¬ ((l.length:Nat):Int) < (nn:Int):=by rw [HNN.o]; omega
    obtain ⟨sk,HSK⟩:=hY (kj l);have HSO:=hI (yE wr q sk) (by have:=HS.o.set; rw [List.take_length] at this; rw [HSK.o]; exact this);have HLW:=Hi (HL.o.carry H HS.o.below);go_upto_region 10 with (fail)
    have HB9:=Hi HS.o.below;have HSZ2:=HS1.o;clear HS;refine wp_region_held (S:=fun w=>yE w q sk) (by kernel_rfl) ?_;change wpAnyH _ _ _ _ _ _ _ _ wr.drew;obtain ⟨wa,HWA⟩:=hY (wr.drew);rw [<- HWA.o];have hS:yE wa q sk:=by rw [HWA.o]; exact HSO.o.drew
    have HBA:=hI (Below wr.1.size wr wa) (by rw [HWA.o]; exact (Below.refl _ _).drew);have HLA:=Hi (HLW.o.carry H HBA.o);have HUA:=hI (Calls Tryz.prog 36 #[ptr P] wa fun e w'=>e = .returned (stV st) /\ Below wa.1.size wa w') (by rw [HST.o]; exact H.used HLA.o.pg HLA.o.inv);have HSKL:=hI (sk.length = 30 /\ st.length = 30) (by rw [HSK.o,HST.o]; exact ⟨jj _,HL.o.inv.usedOk.len⟩);clear HWA HSO;refine xA9 0 28 (ptr P) hS ?_;refine xG9 2 30 (stV sk) rfl (KB (by rfl) _ rfl q rfl sk HSKL.o.1 (fun _ h=>h.at_)) hS ?_;refine xJ9 1 (some 29) (fun K0 hK=>?_);go_simp;refine HUA.o.mono ?_;rintro e wn ⟨rfl,hb⟩;have hS2:=hS.below hb (hS.lt (by rw [HSKL.o.1]; decide));have HBN:=Hi (HB9.o.trans ((HBA.o.trans (hb.mono HBA.o.size)).mono HB9.o.size));clear hb hS;refine hK.out _ _ hS2 ?_;clear hK K0;have heq:=fun w=>Kf HSKL.o.2 HSKL.o.1 w
    have hgd:=zcM;obtain ⟨ne,HNE⟩:=hY (!decide (st = sk));refine xG9 3 31 (.bool ne) rfl (.inl ⟨by rfl,fun _ _=>by go_simp; rw [HNE.o,Bool.not_not]⟩) hS2 ?_;refine wpAnyH_done (by kernel_rfl) ?_ _;clear heq hgd hS2;have HRES:=hI (wholeZ S s = if ne = true then 2 else 0) (by
     rw [HWZ.o,HNE.o,HST.o,HSK.o];by_cases h:S.s.used = kj l <;> simp [h])
    cases ne with
    | true =>
     go_wp2_with fail;refine (kT 2 (by decide) wn).mono ?_;rintro e w9 ⟨u,rfl,he,hb⟩;have HE9:=Hi he;have HB10:=Hi hb;clear he hb;dsimp only;go_wp2_with fail
     go_ret
     rw [HRES.o];exact ⟨u,rfl,HE9.o.mono HBN.o.size,HBN.o.trans (HB10.o.mono HBN.o.size)⟩
    | false =>
     go_wp2_with fail
     go_ret
     rw [HRES.o];exact ⟨_,rfl,.nil _ _,HBN.o⟩
end
