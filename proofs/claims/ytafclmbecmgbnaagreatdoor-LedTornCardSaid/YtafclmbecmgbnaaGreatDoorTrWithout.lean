/-
 TrWithout. Conditions: as each theorem says.
-/
import Derived.Test.YtafclmbecmgbnaaGreatDoorTrDelRow
import Derived.Test.YtafclmbecmgbnaaGreatDoorTrDelModel
set_option maxRecDepth 100000
set_option maxHeartbeats 4000000
open Nat renaming le_refl -> zfI
namespace Go.Proofs.YtafclmbecmgbnaaGreatDoor
open Go.RowKit
def zct (w:World) (b:Nat) (l:zd) (R:Except Int Nd) (e:Ending) (w':World):Prop :=
 zw l.has w w' /\ match R with
 | .error c=>c ≠ 0 /\ ∃ v,e = .returned (.tuple #[ndV zd.none_ Nd.empty,v]) /\ zi w' w.1.size c v
 | .ok y=>∃ l',e = .returned (.tuple #[ndV l' y,.nilIface]) /\ zo w' b l' y /\ ∀ g,l'.has g -> l.has g
structure WoS (w:World) (p q:Nat) (l:zd) (x:Nd) (wr:World):Prop where
 bx:zb wr p l x
 bq:zb wr q zd.none_ Nd.empty
 fq:∀ j,wr.frozen? ⟨q,j,none⟩ = false
 turn:zw l.has w wr
 lw:∀ g,l.has g -> g < w.1.size
 wp:w.1.size <= p
 wq:w.1.size <= q
theorem WoS.step {w wr w':World} {p q:Nat} {l:zd} {x:Nd} {M:Nat -> Prop} (h:WoS w p q l x wr) (ht:zw M wr w') (hM:∀ g,M g -> l.has g):WoS w p q l x w':=by
 have hn:∀ g,w.1.size <= g -> ¬ M g:=fun g hg hm=>by have:=h.lw g (hM g hm); omega
 have hbq:=ht.block q ⟨h.bq.lt,hn q h.wq⟩;exact ⟨h.bx.turn ht (hn p h.wp),h.bq.turn ht (hn q h.wq),fun j=>(World.frozen?_of_block (w:=wr) (a:=⟨q,j,none⟩) hbq).trans (h.fq j),h.turn.trans (ht.more fun k _ hk=>.inl (hM k hk)),h.lw,h.wp,h.wq⟩
theorem JN {w:World} {b:Nat} {l:zd} {x:Nd} (h:zo w b l x) (hb:b <= w.1.size) (hr:zM x = true) (hlf:x.kids.length = 0) (key:Int) :
  Calls Tryz.prog 101 #[ndV l x,.int .i64 key] w (zct w b l (wP x key)):=by
 have h7:=(zm hr).2.1;have hvl:=((yh hr).leaf hlf)
 obtain ⟨p,HPP⟩:=hY (w.1.size);obtain ⟨q,HQQ⟩:=hY (p + 1);have HPQ:=hI (p ≠ q) (by rw [HQQ.o]; omega);obtain ⟨w1,HW1⟩:=hY ((w.alloc (.cells #[.slice l.A x.keys.length l.ca,.slice l.B x.vals.length l.cb,.slice l.C x.kids.length l.cc] 48)).alloc (.cells #[.slice none 0 0,.slice none 0 0,.slice none 0 0] 48));have HB1:=hI (Below w.1.size w w1) (by rw [HW1.o]; exact ((Below.refl _ _).alloc (zfI _) _).alloc (by simp) _);have HS1:=hI (WoS w p q l x w1) (by
  have ht:zw l.has w w1:=zw.of_below HB1.o;rw [HW1.o] at ht ⊢;obtain ⟨wa,hwa⟩:∃ wa,wa = w.alloc (.cells #[.slice l.A x.keys.length l.ca,.slice l.B x.vals.length l.cb,.slice l.C x.kids.length l.cc] 48):=⟨_,rfl⟩
  have hsa:wa.1.size = w.1.size + 1:=by rw [hwa]; simp
  have e1:=zb.new (w:=w) (l:=l) (x:=x) 48;rw [<- hwa] at e1 ht ⊢;have hab:Below wa.1.size wa (wa.alloc (.cells #[.slice none 0 0,.slice none 0 0,.slice none 0 0] 48)):=(Below.refl _ _).alloc (zfI _) _;have e3:=zb.new (w:=wa) (l:=zd.none_) (x:=Nd.empty) 48;have f3:=ya wa #[.slice none 0 0,.slice none 0 0,.slice none 0 0] 48;rw [hsa] at e3 f3;rw [HQQ.o,HPP.o];exact ⟨e1.carry hab e1.lt,e3,f3,ht,fun g hg=>(h.lt g hg).2,zfI _,by omega⟩)
 have HM1:=hI (zo w1 b l x) (h.carry HB1.o);have HBW:=hI (b <= w.1.size) hb;have HSZ:=hI (x.keys.length <= 7 /\ x.vals.length = x.keys.length /\ x.kids.length = 0) ⟨h7,hvl,hlf⟩;obtain ⟨a,HAA⟩:=hY ((yA x key).1);obtain ⟨fd,HFD⟩:=hY ((yA x key).2);have HSE:=hI (yA x key = (less x.keys key,decide (x.keys[less x.keys key]? = some key))) (by unfold yA; rw [if_pos hr]);have HSK:=Hi (Ym HM1.o.is key);rw [<- HAA.o,<- HFD.o] at HSK;obtain ⟨R,HRR⟩:=hY (wP x key);have HX':=hI (R = if fd = true then .ok ⟨x.keys.take a ++ x.keys.drop (a + 1),x.vals.take a ++ x.vals.drop (a + 1),[]⟩ else .error 4) (by rw [HRR.o,HFD.o,HAA.o]; rfl);rw [<- HRR.o];clear h hb hr hlf h7 hvl HRR
 go_enter Tryz.func101,Tryz.ntmps101
 go_upto_region 1 with (fail)
 rw [<- HW1.o,<- HPP.o,<- HQQ.o];clear HW1 HPP HQQ;go_wp2_with (with_reducible refine xD9 (some 9) ?_);refine zg Tryz.ndProg (by rfl) _ rfl p rfl l x HS1.o.bx ?_;go_wp2_with fail;refine HSK.o.mono ?_;rintro e w2 ⟨rfl,hb⟩;have HM2:=Hi (HM1.o.carry hb);have HS2:=hI (WoS w p q l x w2) (HS1.o.step (M:=fun _=>False) (zw.of_below hb) (fun _ h=>h.elim));clear hb HSK HS1 HM1;cases fd with
 | false =>
  have HR:=hI (R = .error 4) (by rw [HX'.o]; rfl);go_wp2_with fail;refine (xX 4 (by decide) _).mono ?_;rintro e w3 ⟨v,rfl,he,hb⟩;obtain ⟨tt,xx,rfl⟩:=he.some (by decide);have HE:=Hi he;have HS3:=hI (WoS w p q l x w3) (HS2.o.step (M:=fun _=>False) (zw.of_below hb) (fun _ h=>h.elim));have HLT:=hI (q < w2.1.size) HS2.o.bq.lt;have HWS:=hI (w.1.size <= w2.1.size) HS2.o.turn.size;clear he hb HS2 HM2;have f0:=HS3.o.fq 0;have f1:=HS3.o.fq 1;have f2:=HS3.o.fq 2;have HBQ:=Hi HS3.o.bq;have d0:=HBQ.o.c0;have d1:=HBQ.o.c1;have d2:=HBQ.o.c2;obtain ⟨w4,HWw4⟩:=hY (((w3.setCell ⟨q,0,none⟩ (.slice none 0 0)).setCell ⟨q,1,none⟩ (.slice none 0 0)).setCell ⟨q,2,none⟩ (.slice none 0 0));have HSw4:=hI (w4 = zC w3 q zd.none_ Nd.empty) HWw4.o;have HXw4:=hI (zb w4 q zd.none_ Nd.empty) (by rw [HSw4.o]; exact zF HBQ.o);go_wp2_with fail;rw [<- HWw4.o];refine bodyPost_ret (zr Tryz.ndProg rfl _ _ q zd.none_ Nd.empty (.iface tt xx) rfl rfl HXw4.o) rfl ?_;rw [HR.o];have hT4:zw (fun k=>k = q) w3 w4:=⟨by rw [HSw4.o]; rfl,by rw [HSw4.o]; rfl,by rw [HSw4.o]; rfl,by rw [HSw4.o,zN]; exact zfI _,fun k hk=>by rw [HSw4.o]; exact zj hk.2⟩
  refine ⟨HS3.o.turn.trans (hT4.more fun k _ hk=>.inr (by rw [hk]; exact HS3.o.wq)),by decide,_,rfl,?_⟩;rw [HSw4.o];exact (yV HE.o HLT.o).mono HWS.o
 | true =>
  have HAV:=hI (a < x.keys.length) (by
   have h:=HFD.o;rw [HSE.o] at h;have h2:=of_decide_eq_true h.symm;have h3:less x.keys key = a:=by rw [HAA.o,HSE.o]
   rw [h3] at h2;exact (List.getElem?_eq_some_iff.1 h2).1)
  obtain ⟨ks,HKS⟩:=hY (x.keys.take a ++ x.keys.drop (a + 1));obtain ⟨vs,HVS⟩:=hY (x.vals.take a ++ x.vals.drop (a + 1));have HR:=hI (R = .ok ⟨ks,vs,[]⟩) (by rw [HX'.o,HKS.o,HVS.o]; rfl);have hw8:IntKind.i64.wrap ((a:Int) + 1) = (a:Int) + 1:=by
   have:=HAV.o;have:=HSZ.o.1;rw [IntKind.wrap_i64]; omega
  clear HX' HFD HSE HAA;go_upto_region 4 with (fail)
  refine wp_region_held (S:=fun w9=>zb w9 p l x) (by kernel_rfl) ?_;change wpAnyH _ _ _ _ _ _ _ _ w2.drew;obtain ⟨wa,HWA⟩:=hY (w2.drew);rw [<- HWA.o];have hdr:Below w2.1.size w2 wa:=by rw [HWA.o]; exact (Below.refl _ _).drew
  have hW:WoS w p q l x wa:=HS2.o.step (M:=fun _=>False) (zw.of_below hdr) (fun _ h=>h.elim);have HW:=Hi hW;have hS:zb wa p l x:=hW.bx;have HKA:=Hi (zy HM2.o.k (M:=fun _=>False) (zw.of_below hdr) (fun _ _ h=>h.elim));have HVA:=Hi (zy HM2.o.v (M:=fun _=>False) (zw.of_below hdr) (fun _ _ h=>h.elim));have HNE:=hI (∀ a c,l.A = some a -> l.B = some c -> a.block ≠ c.block) HM2.o.akv;have HIS:=hI (xF w2 l x) HM2.o.is;clear HWA hdr HS2 HM2 hW;refine xA9 0 18 (.pointer (some ⟨p,0,none⟩)) hS ?_;refine xG9 1 19 (.slice l.A x.keys.length l.ca) rfl (.inl ⟨by rfl,fun _ h=>by have c0:=h.c0; go_simp⟩) hS ?_;refine xA9 2 20 (.int .i64 (a:Int)) hS ?_;refine xA9 3 21 (.int .i64 (a:Int)) hS ?_;refine xA9 4 22 (.int .i64 ((a:Int) + 1)) hS ?_;refine xA9 6 24 (.pointer (some ⟨p,1,none⟩)) hS ?_;refine xG9 7 25 (.slice l.B x.vals.length l.cb) rfl (.inl ⟨by rfl,fun _ h=>by have c1:=h.c1; go_simp⟩) hS ?_;refine xA9 8 26 (.int .i64 (a:Int)) hS ?_;refine xA9 9 27 (.int .i64 (a:Int)) hS ?_;refine xA9 10 28 (.int .i64 ((a:Int) + 1)) hS ?_;refine xJ9 5 (some 23) (fun K0 hK=>?_);go_simp;refine (ze0 HKA.o HAV.o).mono ?_;rintro e wb ⟨rfl,hown,ht⟩;rw [<- HKS.o] at hown ⊢;have HKA:=Hi hown;have HVA:=Hi (zy HVA.o ht (fun g hg ⟨c,e1,e2⟩=>by cases hB:l.B with | none=>(rw [hB] at hg; cases hg) | some d=>(rw [hB] at hg; cases hg; exact HNE.o c d e1 hB e2)));have hW2:=HW.o.step ht (fun _ ⟨c,e1,e2⟩=>.inl ⟨c,e1,e2⟩);have HW:=Hi hW2;have hS2:=hW2.bx;clear hS ht hown hW2;refine hK.out _ _ hS2 ?_;clear hK K0;have hS:=hS2;clear hS2;refine xJ9 11 (some 29) (fun K0 hK=>?_);go_simp;refine (ze1 HVA.o (by rw [HSZ.o.2.1]; exact HAV.o)).mono ?_;rintro e wc ⟨rfl,hown,ht⟩;rw [<- HVS.o] at hown ⊢;have HVA:=Hi hown;have HKA:=Hi (zy HKA.o ht (fun g hg ⟨d,e1,e2⟩=>by cases hA:l.A with | none=>(rw [hA] at hg; cases hg) | some c=>(rw [hA] at hg; cases hg; exact HNE.o c d hA e1 e2.symm)));have hW2:=HW.o.step ht (fun _ ⟨c,e1,e2⟩=>.inr (.inl ⟨c,e1,e2⟩));have HW:=Hi hW2;have hS2:=hW2.bx;clear hS ht hown hW2;refine hK.out _ _ hS2 ?_;clear hK K0;have hS:=hS2;clear hS2;refine xA9 12 30 (.agg #[.slice l.A ks.length l.ca,.slice l.B vs.length l.cb,.slice none 0 0]) hS ?_;refine xJ9 13 (none) (fun K0 hK=>?_);have HBQ:=Hi HW.o.bq;have f0:=HW.o.fq 0;have f1:=HW.o.fq 1;have f2:=HW.o.fq 2;obtain ⟨x2,HX2⟩:∃ x2:Nd,Hid (x2 = ⟨ks,vs,[]⟩):=Hy;have d0:=HBQ.o.c0;have d1:=HBQ.o.c1;have d2:=HBQ.o.c2;obtain ⟨w4,HWw4⟩:=hY (((wc.setCell ⟨q,0,none⟩ (.slice l.A ks.length l.ca)).setCell ⟨q,1,none⟩ (.slice l.B vs.length l.cb)).setCell ⟨q,2,none⟩ (.slice none 0 0));have HSw4:=hI (w4 = zC wc q ⟨l.A,l.B,none,l.ca,l.cb,0⟩ x2) (by rw [HX2.o]; exact HWw4.o);have HXw4:=hI (zb w4 q ⟨l.A,l.B,none,l.ca,l.cb,0⟩ x2) (by rw [HSw4.o]; exact zF HBQ.o);go_simp;rw [<- HWw4.o];have hT4:zw (fun k=>k = q) wc w4:=⟨by rw [HSw4.o]; rfl,by rw [HSw4.o]; rfl,by rw [HSw4.o]; rfl,by rw [HSw4.o,zN]; exact zfI _,fun k hk=>by rw [HSw4.o]; exact zj hk.2⟩
  have hpq:p ≠ q:=HPQ.o;have hS4:zb w4 p l x:=hS.keep (by rw [HSw4.o]; exact zj hpq);have HT4:=Hi hT4;clear hS hT4 d0 d1 d2 f0 f1 f2;refine hK.out _ _ hS4 ?_;clear hK K0;refine xA9 14 5 (.nilIface) hS4 ?_;refine wpAnyH_done (by kernel_rfl) ?_ _;go_wp2_with fail;refine bodyPost_ret (zr Tryz.ndProg rfl _ _ q ⟨l.A,l.B,none,l.ca,l.cb,0⟩ x2 (.nilIface) rfl rfl HXw4.o) rfl ?_;have hqA:∀ c,l.A = some c -> c.block ≠ q:=fun c e h=>by have:=HW.o.lw c.block (.inl ⟨c,e,rfl⟩); have:=HW.o.wq; omega
  have hqB:∀ c,l.B = some c -> c.block ≠ q:=fun c e h=>by have:=HW.o.lw c.block (.inr (.inl ⟨c,e,rfl⟩)); have:=HW.o.wq; omega
  rw [HR.o,<- HX2.o];refine ⟨HW.o.turn.trans (HT4.o.more fun k _ hk=>.inr (by rw [hk]; exact HW.o.wq)),_,rfl,?_,?_⟩
  ·rw [HX2.o];refine zo.of_own (zy HKA.o HT4.o ?_) (zy HVA.o HT4.o ?_) (World.ownsRow_nil _ _ _ _) HNE.o (fun _ _ _ h=>(by cases h)) (fun _ _ _ h=>(by cases h)) ?_ ?_ (Nat.zero_le _) ?_ ?_ (fun z hz=>(by cases hz))
   ·intro g hg e;cases hA:l.A with
    | none=>rw [hA] at hg; cases hg
    | some c=>rw [hA] at hg; cases hg; exact hqA c hA e
   ·intro g hg e;cases hA:l.B with
    | none=>rw [hA] at hg; cases hg
    | some c=>rw [hA] at hg; cases hg; exact hqB c hA e
   ·show ks.length <= 100;rw [HKS.o,Zx HAV.o]; have:=HSZ.o; omega
   ·show vs.length <= 100;rw [HVS.o,Zx (by rw [HSZ.o.2.1]; exact HAV.o)]; have:=HSZ.o; omega
   ·intro z hz;have hz2:z ∈ x.keys.take a ++ x.keys.drop (a + 1):=by rw [<- HKS.o]; exact hz
    exact HIS.o.kw z ((List.mem_append.1 hz2).elim List.mem_of_mem_take List.mem_of_mem_drop)
   ·intro z hz;have hz2:z ∈ x.vals.take a ++ x.vals.drop (a + 1):=by rw [<- HVS.o]; exact hz
    exact HIS.o.vw z ((List.mem_append.1 hz2).elim List.mem_of_mem_take List.mem_of_mem_drop)
  ·rintro g (⟨c,e,rfl⟩ | ⟨c,e,rfl⟩ | ⟨c,e,rfl⟩)
   ·exact .inl ⟨c,e,rfl⟩
   ·exact .inr (.inl ⟨c,e,rfl⟩)
   ·cases e
