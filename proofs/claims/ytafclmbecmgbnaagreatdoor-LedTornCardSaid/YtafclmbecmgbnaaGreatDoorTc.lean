/-
  Tc. Conditions: as said.
-/
import Derived.Test.YtafclmbecmgbnaaGreatDoorTw
set_option maxRecDepth 100000
set_option maxHeartbeats 4000000
open Nat renaming le_refl -> zfI,lt_of_lt_of_le -> zfG,le_trans -> zfH
open List renaming getElem?_cons_zero -> zgw
namespace Go.Proofs.YtafclmbecmgbnaaGreatDoor
open Go.RowKit
section
def xz (O:ye) (w0:World) (K:Nat -> Prop) (w:World) (P D n:Nat) (firm:Nat -> List UInt8) (R:Except Int Nd × TS) (e:Ending) (w':World):Prop :=
 zf K w w' /\ match R.1 with
 | .error c=>zX O w0 K w' P D n R.2 firm /\ c ≠ 0 /\ ∃ v,e = .returned (.tuple #[ndV zd.none_ Nd.empty,v]) /\ zi w' w.1.size c v
 | .ok x=>∃ l',zX O w0 (fun g=>K g \/ l'.has g) w' P D n R.2 firm /\ e = .returned (.tuple #[ndV l' x,.nilIface]) /\ zo w' w.1.size l' x
def jr (O:ye) (w0:World) (L:Nat -> Prop) (lo:Nat) (P D n:Nat) (firm:Nat -> List UInt8) (R:Except Int Nd × TS) (lk:zd) (xk:Nd) (v:Value) (wr:World):Prop :=
 zX O w0 (fun g=>L g \/ lk.has g) wr P D n R.2 firm /\ ((∃ cd,R.1 = .error cd /\ cd ≠ 0 /\ lk = zd.none_ /\ xk = Nd.empty /\ zi wr lo cd v) \/ (R.1 = .ok xk /\ v = .nilIface /\ zo wr lo lk xk))
structure PuS (O:ye) (w0:World) (K:Nat -> Prop) (w:World) (P D n:Nat) (firm:Nat -> List UInt8) (q r c b:Nat) (l:zd) (x:Nd) (R:Except Int Nd × TS) (lk:zd) (xk:Nd) (v:Value) (wr:World):Prop where
 bq:zb wr q l x
 bc:zb wr c lk xk
 br:zb wr r zd.none_ Nd.empty
 fr:∀ j,wr.frozen? ⟨r,j,none⟩ = false
 mi:zo wr b l x
 kept:zf K w wr
 out:∃ lo,(∀ g,l.has g -> g < lo) /\ r < lo /\ b <= lo /\ jr O w0 (fun g=>K g \/ g = r \/ l.has g) lo P D n firm R lk xk v wr
section
variable {O:ye} (H:ym O)
include H
theorem XY {w0:World} {L:Nat -> Prop} {w1 w2:World} {P D n:Nat} {firm:Nat -> List UInt8} {R:Except Int Nd × TS} {e:Ending} (h:xz O w0 L w1 P D n firm R e w2) (hlow:∀ k,k < w0.1.size -> L k) :
  ∃ lk xk v,e = .returned (.tuple #[ndV lk xk,v]) /\ zf L w1 w2 /\ jr O w0 L w1.1.size P D n firm R lk xk v w2:=by
 obtain ⟨R1,R2⟩:=R;obtain ⟨h1,h2⟩:=h;cases R1 with
 | error cd =>
  obtain ⟨h3,h4,v,h5,h6⟩:=h2;exact ⟨_,_,_,h5,h1,h3.less H (fun k hk=>hk.elim id fun h=>absurd h (zd.has_none k)) (fun k hk=>.inl (hlow k hk)),.inl ⟨cd,rfl,h4,rfl,rfl,h6⟩⟩
 | ok x =>
  obtain ⟨l',h3,h4,h5⟩:=h2;exact ⟨_,_,_,h4,h1,h3,.inr ⟨rfl,rfl,h5⟩⟩
theorem jr.turn {w0:World} {L:Nat -> Prop} {lo:Nat} {P D n:Nat} {firm:Nat -> List UInt8} {R:Except Int Nd × TS} {lk:zd} {xk:Nd} {v:Value} {wr w':World} {M L':Nat -> Prop} (h:jr O w0 L lo P D n firm R lk xk v wr) (ht:zw M wr w')
  (hM:∀ k,M k -> k < wr.1.size -> L k /\ w0.1.size <= k /\ k < lo) (hL:∀ k,L' k -> L k \/ wr.1.size <= k) (hLt:zR L' w') (hlow:∀ k,k < w0.1.size -> L' k):jr O w0 L' lo P D n firm R lk xk v w':=by
 obtain ⟨h1,h2⟩:=h;have hth:=h1.there;have ht2:zw (fun k=>M k /\ k < wr.1.size) wr w':=⟨ht.os,ht.tape,ht.output,ht.size,fun k hk=>ht.block k ⟨hk.1,fun hm=>hk.2 ⟨hm,hk.1⟩⟩⟩
 refine ⟨h1.off H ht2 (fun k hk=>⟨.inl (hM k hk.1 hk.2).1,(hM k hk.1 hk.2).2.1⟩) (fun k hk=>?_) (fun k hk=>?_) (fun k hk=>.inl (hlow k hk)),?_⟩
 ·rcases hk with hk | hk
  ·exact (hL k hk).imp .inl id
  ·exact .inl (.inr hk)
 ·rcases hk with hk | hk
  ·exact hLt k hk
  ·exact zfG (hth k (.inr hk)) ht.size
 ·rcases h2 with ⟨cd,e1,e2,e3,e4,e5⟩ | ⟨e1,e2,e3⟩
  ·exact .inl ⟨cd,e1,e2,e3,e4,e5.carry ht.size fun i h3 h4=>ht.block i ⟨h4,fun hm=>by have:=(hM i hm h4).2.2; omega⟩⟩
  ·exact .inr ⟨e1,e2,e3.keep ht.size fun g hg=>ht.block g ⟨(e3.lt g hg).2,fun hm=>by have:=(hM g hm (e3.lt g hg).2).2.2; have:=(e3.lt g hg).1; omega⟩⟩
theorem jr.ret {w0:World} {K L:Nat -> Prop} {lo r:Nat} {P D n:Nat} {firm:Nat -> List UInt8} {R:Except Int Nd × TS} {lk:zd} {xk:Nd} {v:Value} {w wr:World} (h:jr O w0 L lo P D n firm R lk xk v wr) (hk:zf K w wr) (hK:zR K w) (hKL:∀ k,K k -> L k) (hr:L r) (hrs:r < wr.1.size) (hwr:w.1.size <= r) (hrl:r < lo)
  (hw0:w0.1.size <= w.1.size) (hlow:∀ k,k < w0.1.size -> K k):xz O w0 K w P D n firm R (.returned (.tuple #[ndV lk xk,v])) (zC wr r lk xk):=by
 have ht:zw (fun k=>k = r) wr (zC wr r lk xk):=⟨rfl,rfl,rfl,by rw [zN]; exact zfI _,fun k hk=>zj hk.2⟩
 obtain ⟨h1,h2⟩:=h.turn H (L':=L) ht (fun k hk _=>by have hk':k = r:=hk; subst hk'; exact ⟨hr,by omega,hrl⟩) (fun k hk=>.inl hk) (fun k hk=>by rw [zN]; exact h.1.there k (.inl hk)) (fun k hk=>hKL k (hlow k hk));refine ⟨hk.trans ⟨rfl,rfl,rfl,by rw [zN]; exact zfI _,fun k hk2=>zj (by have:=hK k hk2; omega)⟩,?_⟩;obtain ⟨R1,R2⟩:=R;rcases h2 with ⟨cd,e1,e2,rfl,rfl,e5⟩ | ⟨e1,rfl,e3⟩
 ·obtain rfl:R1 = .error cd:=e1;exact ⟨h1.less H (fun k hk=>.inl (hKL k hk)) hlow,e2,v,rfl,e5.mono (by omega)⟩
 ·obtain rfl:R1 = .ok xk:=e1;exact ⟨lk,h1.less H (fun k hk=>hk.imp (hKL k) id) (fun k hk=>.inl (hlow k hk)),rfl,e3.mono (by omega)⟩
theorem PuS.make {w0:World} {K L:Nat -> Prop} {w wn wz:World} {P D n:Nat} {firm:Nat -> List UInt8} {q r c b lo:Nat} {l:zd} {x:Nd} {R:Except Int Nd × TS} {lk:zd} {xk:Nd} {v:Value} (hbq:zb wn q l x) (hbr:zb wn r zd.none_ Nd.empty) (hfr:∀ j,wn.frozen? ⟨r,j,none⟩ = false)
  (hmi:zo wn b l x) (hkn:zf K w wn) (ho:jr O w0 L lo P D n firm R lk xk v wn) (ht:zw (fun k=>k = c) wn wz) (hbc:zb wz c lk xk) (hc:c < wn.1.size -> L c /\ c < lo) (hL:∀ k,K k \/ k = r \/ l.has k -> L k) (hqc:q ≠ c) (hrc:r ≠ c) (hlc:¬ l.has c)
  (hwc:w.1.size <= c) (hlo:b <= lo) (hrl:r < lo) (hll:∀ g,l.has g -> g < lo) (hK:zR K w) (hw0:w0.1.size <= w.1.size) (hlow:∀ k,k < w0.1.size -> K k) :
  PuS O w0 K w P D n firm q r c b l x R lk xk v wz:=by
 have bq:=ht.block q ⟨hbq.lt,hqc⟩;have br:=ht.block r ⟨hbr.lt,hrc⟩;have hkz:zf K wn wz:=⟨ht.os,ht.tape,ht.output,ht.size,fun k hk=>ht.block k ⟨zfG (hK k hk) hkn.size,fun e=>by have:=hK k hk; omega⟩⟩
 refine ⟨hbq.keep bq,hbc,hbr.keep br,fun j=>(World.frozen?_of_block (w:=wn) (a:=⟨r,j,none⟩) br).trans (hfr j),hmi.keep ht.size fun g hg=>ht.block g ⟨(hmi.lt g hg).2,fun e=>hlc (by have e':g = c:=e; rw [<- e']; exact hg)⟩,hkn.trans hkz,⟨lo,hll,hrl,hlo,?_⟩⟩;refine ho.turn H ht (fun k hk hlt=>?_) (fun k hk=>.inl (hL k hk)) (fun k hk=>?_) (fun k hk=>.inl (hlow k hk))
 ·have hk':k = c:=hk;subst hk';exact ⟨(hc hlt).1,by omega,(hc hlt).2⟩
 ·rcases hk with hk | hk | hk
  ·exact zfG (hK k hk) (zfH hkn.size ht.size)
  ·rw [hk]; exact zfG hbr.lt ht.size
  ·exact zfG (hmi.lt k hk).2 ht.size
theorem Jx {w0:World} {L:Nat -> Prop} {w1 w2:World} {P D n:Nat} {firm:Nat -> List UInt8} {b:Nat} {l:zd} {R:Except Int Nd × TS} {e:Ending} (h:Wd O w0 L w1 P D n firm b l R e w2) (hb:b <= w1.1.size) (hlow:∀ k,k < w0.1.size -> L k) :
  ∃ lk xk v,e = .returned (.tuple #[ndV lk xk,v]) /\ zf (fun g=>L g /\ ¬ l.has g) w1 w2 /\ jr O w0 L b P D n firm R lk xk v w2:=by
 obtain ⟨R1,R2⟩:=R;obtain ⟨h1,h2⟩:=h;cases R1 with
 | error cd =>
  obtain ⟨h3,h4,v,h5,h6⟩:=h2;exact ⟨_,_,_,h5,h1,h3.less H (fun k hk=>hk.elim id fun h=>absurd h (zd.has_none k)) (fun k hk=>.inl (hlow k hk)),.inl ⟨cd,rfl,h4,rfl,rfl,h6.mono hb⟩⟩
 | ok x =>
  obtain ⟨l',h3,h4,h5,_⟩:=h2;exact ⟨_,_,_,h4,h1,h3,.inr ⟨rfl,rfl,h5⟩⟩
theorem zex {w0:World} {P D n:Nat} {firm:Nat -> List UInt8} (hg:yL w0) {key:Int} (hk:-9223372036854775808 <= key /\ key <= 9223372036854775807) {val:ByteArray} (hv:val.size <= maxLen) (f:Nat) (hf:f <= 12) {K:Nat -> Prop} {w:World} {S:TS} (hl:zX O w0 K w P D n S firm) (hs:S.d.soft.length + 2 * f <= 99990) (i:Int) :
  Calls Tryz.prog 68 #[ptr P,.int .i64 i,.int .i64 (13 - (f:Int)),.agg #[.int .i64 key,.string val]] w (xz O w0 K w P D n firm (jg n f S i key val)):=by
 have hbn:=Tryz.nodeNone;have hz:=Tryz.zeroNode;induction f generalizing w K i S with
 | zero =>
  have HL:=Hi hl;have HW0:=hI (w0.1.size <= w.1.size) hl.below.size;have HTH:=hI (zR K w) hl.there;obtain ⟨R,HRR⟩:=hY (jg n 0 S i key val);rw [<- HRR.o];obtain ⟨p,HPP⟩:=hY (w.1.size);obtain ⟨r,HRC⟩:=hY (p + 1);obtain ⟨w1,HW1⟩:=hY ((w.alloc (.cells #[.int .i64 key,.string val] 97)).alloc (.cells #[.slice none 0 0,.slice none 0 0,.slice none 0 0] 48));have HB1:=hI (Below w.1.size w w1 /\ w1.1.size = w.1.size + 2) (by rw [HW1.o]; exact ⟨((Below.refl _ _).alloc (zfI _) _).alloc (by simp) _,by simp⟩);have HX1:=hI (w1.cell? ⟨p,0,none⟩ = some (.int .i64 key) /\ w1.cell? ⟨p,1,none⟩ = some (.string val) /\ zb w1 r zd.none_ Nd.empty /\ ∀ j,w1.frozen? ⟨r,j,none⟩ = false) (by
   rw [HW1.o];obtain ⟨wa,hwa⟩:∃ wa,wa = w.alloc (.cells #[.int .i64 key,.string val] 97):=⟨_,rfl⟩
   have hsa:wa.1.size = w.1.size + 1:=by rw [hwa]; simp
   have e1:wa.cell? ⟨w.1.size,0,none⟩ = some (.int .i64 key):=by rw [hwa]; simp
   have e2:wa.cell? ⟨w.1.size,1,none⟩ = some (.string val):=by rw [hwa]; simp
   rw [<- hwa];have hab:Below wa.1.size wa (wa.alloc (.cells #[.slice none 0 0,.slice none 0 0,.slice none 0 0] 48)):=(Below.refl _ _).alloc (zfI _) _;have e3:=zb.new (w:=wa) (l:=zd.none_) (x:=Nd.empty) 48;have f3:=ya wa #[.slice none 0 0,.slice none 0 0,.slice none 0 0] 48;rw [hsa] at e3 f3;rw [HRC.o,HPP.o];exact ⟨(hab.cell (p:=⟨w.1.size,0,none⟩) (by show w.1.size < _; omega)).trans e1,(hab.cell (p:=⟨w.1.size,1,none⟩) (by show w.1.size < _; omega)).trans e2,e3,f3⟩)
  have HLD:=Hi (kI H (hl.carry H HB1.o.1) hg i 13);have HM:=hI (yp S i 13 = .error 2) (by unfold yp; rw [if_pos (by decide)]);rw [HM.o] at HLD;have HG0:=hI (R = (.error 2,S)) HRR.o;rw [show (13:Int) - ((0:Nat):Int) = 13 from rfl];clear hl hs hk hv HRR
  go_enter Tryz.func68,Tryz.ntmps68
  go_upto_region 1 with (fail)
  rw [<- HW1.o,<- HPP.o,<- HRC.o];clear HW1;go_wp2_with fail;refine HLD.o.mono ?_;rintro e w2 ⟨hc,v,rfl,he,hb⟩;obtain ⟨tt,xx,rfl⟩:=he.some hc;have HE:=Hi he;have HB:=Hi hb;have HC:=Hi hc;clear he hb HLD hc;obtain ⟨q,HCq⟩:=hY (w2.1.size);obtain ⟨w3,HWw3⟩:=hY (w2.alloc (.cells #[.slice zd.none_.A Nd.empty.keys.length zd.none_.ca,.slice zd.none_.B Nd.empty.vals.length zd.none_.cb,.slice zd.none_.C Nd.empty.kids.length zd.none_.cc] 48));have HBw3:=hI (Below w2.1.size w2 w3 /\ w3.1.size = w2.1.size + 1) (by rw [HWw3.o]; exact ⟨(Below.refl _ _).alloc (zfI _) _,by simp⟩);go_upto_region 2 with (fail)
  rw [<- HWw3.o,<- HCq.o];have HB13:=hI (Below w1.1.size w1 w3) (HB.o.trans (HBw3.o.1.mono HB.o.size));have HR3:=hI (zb w3 r zd.none_ Nd.empty /\ ∀ j,w3.frozen? ⟨r,j,none⟩ = false) ⟨HX1.o.2.2.1.carry HB13.o HX1.o.2.2.1.lt,zl HB13.o HX1.o.2.2.1.lt HX1.o.2.2.2⟩;have HO3:=hI (jr O w0 (fun g=>K g \/ g = r) w1.1.size P D n firm R zd.none_ Nd.empty (.iface tt xx) w3) (by
   refine ⟨?_,.inl ⟨2,by rw [HG0.o],HC.o,rfl,rfl,HE.o.below HBw3.o.1⟩⟩;rw [HG0.o];refine (HL.o.grow H (HB1.o.1.trans (HB13.o.mono HB1.o.1.size))).less H (fun k hk=>?_) fun k hk=>.inl (.inl (HL.o.low k hk))
   rcases hk with (hk | hk) | hk
   ·exact .inl hk
   ·have:=HR3.o.1.lt;have:=HRC.o;have:=HPP.o;exact .inr (by omega)
   ·exact absurd hk (zd.has_none k))
  clear HWw3 HCq;have f0:=HR3.o.2 0;have f1:=HR3.o.2 1;have f2:=HR3.o.2 2;have HBR9:=Hi HR3.o.1;have d0:=HBR9.o.c0;have d1:=HBR9.o.c1;have d2:=HBR9.o.c2;obtain ⟨w9,HW9⟩:=hY (((w3.setCell ⟨r,0,none⟩ (.slice none 0 0)).setCell ⟨r,1,none⟩ (.slice none 0 0)).setCell ⟨r,2,none⟩ (.slice none 0 0));have HS9:=hI (w9 = zC w3 r zd.none_ Nd.empty) HW9.o;have HX9:=hI (zb w9 r zd.none_ Nd.empty) (by rw [HS9.o]; exact zF HBR9.o);have HP9:=hI (xz O w0 K w P D n firm R (.returned (.tuple #[ndV zd.none_ Nd.empty,.iface tt xx])) w9) (by
   rw [HS9.o];have hpl:w.1.size <= p /\ w.1.size <= r /\ p < w1.1.size /\ r < w1.1.size /\ w1.1.size = w.1.size + 2:=by rw [HRC.o,HPP.o,HB1.o.2]; omega
   exact HO3.o.ret H (zf.of_below (HB1.o.1.trans (HB13.o.mono HB1.o.1.size)) HTH.o) HTH.o (fun k hk=>.inl hk) (.inr rfl) HR3.o.1.lt hpl.2.1 hpl.2.2.2.1 HW0.o HL.o.low)
  go_wp2_with fail;rw [<- HW9.o];exact bodyPost_ret (zr Tryz.ndProg rfl _ _ r zd.none_ Nd.empty (.iface tt xx) rfl rfl HX9.o) rfl HP9.o
 | succ f ih =>
  obtain ⟨lv,HLV⟩:∃ lv:Int,Hid (lv = 12 - (f:Int)):=Hy;have HLW:=hI (wrap64 (lv + 1) = 13 - (f:Int)) (by rw [HLV.o]; unfold wrap64; omega);have HLW2:=hI (IntKind.i64.wrap (lv + 1) = 13 - (f:Int)) (by rw [IntKind.wrap_i64,HLV.o]; omega);rw [show (13:Int) - ((f + 1:Nat):Int) = lv by rw [HLV.o]; omega];have HL:=Hi hl;have HW0:=hI (w0.1.size <= w.1.size) hl.below.size;have HTH:=hI (zR K w) hl.there;have HOK:=hI (OkT n S firm) hl.inv;have HSS:=hI (S.d.soft.length + 2 * (f + 1) <= 99990) hs;have HKV:=Hi (And.intro hk hv);have HIH:Hid (∀ {K:Nat -> Prop} {w:World},zX O w0 K w P D n S firm -> ∀ i:Int,Calls Tryz.prog 68 #[ptr P,.int .i64 i,.int .i64 (13 - (f:Int)),.agg #[.int .i64 key,.string val]] w (xz O w0 K w P D n firm (jg n f S i key val))):=Hi fun h i=>ih (by omega) h (by omega) i
  obtain ⟨R,HRR⟩:=hY (jg n (f + 1) S i key val);rw [<- HRR.o];obtain ⟨p,HPP⟩:=hY (w.1.size);obtain ⟨r,HRC⟩:=hY (p + 1);obtain ⟨w1,HW1⟩:=hY ((w.alloc (.cells #[.int .i64 key,.string val] 97)).alloc (.cells #[.slice none 0 0,.slice none 0 0,.slice none 0 0] 48));have HB1:=hI (Below w.1.size w w1 /\ w1.1.size = w.1.size + 2) (by rw [HW1.o]; exact ⟨((Below.refl _ _).alloc (zfI _) _).alloc (by simp) _,by simp⟩);have HX1:=hI (w1.cell? ⟨p,0,none⟩ = some (.int .i64 key) /\ w1.cell? ⟨p,1,none⟩ = some (.string val) /\ zb w1 r zd.none_ Nd.empty /\ ∀ j,w1.frozen? ⟨r,j,none⟩ = false) (by
   rw [HW1.o];obtain ⟨wa,hwa⟩:∃ wa,wa = w.alloc (.cells #[.int .i64 key,.string val] 97):=⟨_,rfl⟩
   have hsa:wa.1.size = w.1.size + 1:=by rw [hwa]; simp
   have e1:wa.cell? ⟨w.1.size,0,none⟩ = some (.int .i64 key):=by rw [hwa]; simp
   have e2:wa.cell? ⟨w.1.size,1,none⟩ = some (.string val):=by rw [hwa]; simp
   rw [<- hwa];have hab:Below wa.1.size wa (wa.alloc (.cells #[.slice none 0 0,.slice none 0 0,.slice none 0 0] 48)):=(Below.refl _ _).alloc (zfI _) _;have e3:=zb.new (w:=wa) (l:=zd.none_) (x:=Nd.empty) 48;have f3:=ya wa #[.slice none 0 0,.slice none 0 0,.slice none 0 0] 48;rw [hsa] at e3 f3;rw [HRC.o,HPP.o];exact ⟨(hab.cell (p:=⟨w.1.size,0,none⟩) (by show w.1.size < _; omega)).trans e1,(hab.cell (p:=⟨w.1.size,1,none⟩) (by show w.1.size < _; omega)).trans e2,e3,f3⟩)
  have HLD:=Hi (kI H (hl.carry H HB1.o.1) hg i lv);clear hl ih hs hk hv;cases hlm:yp S i lv with
  | error c =>
   have HG0:=hI (R = (.error c,S)) (by rw [HRR.o]; unfold jg; rw [<- HLV.o,hlm]);rw [hlm] at HLD;clear hlm HRR
   go_enter Tryz.func68,Tryz.ntmps68
   go_upto_region 1 with (fail)
   rw [<- HW1.o,<- HPP.o,<- HRC.o];clear HW1;go_wp2_with fail;refine HLD.o.mono ?_;rintro e w2 ⟨hc,v,rfl,he,hb⟩;obtain ⟨tt,xx,rfl⟩:=he.some hc;have HE:=Hi he;have HB:=Hi hb;have HC:=Hi hc;clear he hb HLD hc;obtain ⟨q,HCq⟩:=hY (w2.1.size);obtain ⟨w3,HWw3⟩:=hY (w2.alloc (.cells #[.slice zd.none_.A Nd.empty.keys.length zd.none_.ca,.slice zd.none_.B Nd.empty.vals.length zd.none_.cb,.slice zd.none_.C Nd.empty.kids.length zd.none_.cc] 48));have HBw3:=hI (Below w2.1.size w2 w3 /\ w3.1.size = w2.1.size + 1) (by rw [HWw3.o]; exact ⟨(Below.refl _ _).alloc (zfI _) _,by simp⟩);go_upto_region 2 with (fail)
   rw [<- HWw3.o,<- HCq.o];have HB13:=hI (Below w1.1.size w1 w3) (HB.o.trans (HBw3.o.1.mono HB.o.size));have HR3:=hI (zb w3 r zd.none_ Nd.empty /\ ∀ j,w3.frozen? ⟨r,j,none⟩ = false) ⟨HX1.o.2.2.1.carry HB13.o HX1.o.2.2.1.lt,zl HB13.o HX1.o.2.2.1.lt HX1.o.2.2.2⟩;have HO3:=hI (jr O w0 (fun g=>K g \/ g = r) w1.1.size P D n firm R zd.none_ Nd.empty (.iface tt xx) w3) (by
    refine ⟨?_,.inl ⟨c,by rw [HG0.o],HC.o,rfl,rfl,HE.o.below HBw3.o.1⟩⟩;rw [HG0.o];refine (HL.o.grow H (HB1.o.1.trans (HB13.o.mono HB1.o.1.size))).less H (fun k hk=>?_) fun k hk=>.inl (.inl (HL.o.low k hk))
    rcases hk with (hk | hk) | hk
    ·exact .inl hk
    ·have:=HR3.o.1.lt;have:=HRC.o;have:=HPP.o;exact .inr (by omega)
    ·exact absurd hk (zd.has_none k))
   clear HWw3 HCq;have f0:=HR3.o.2 0;have f1:=HR3.o.2 1;have f2:=HR3.o.2 2;have HBR9:=Hi HR3.o.1;have d0:=HBR9.o.c0;have d1:=HBR9.o.c1;have d2:=HBR9.o.c2;obtain ⟨w9,HW9⟩:=hY (((w3.setCell ⟨r,0,none⟩ (.slice none 0 0)).setCell ⟨r,1,none⟩ (.slice none 0 0)).setCell ⟨r,2,none⟩ (.slice none 0 0));have HS9:=hI (w9 = zC w3 r zd.none_ Nd.empty) HW9.o;have HX9:=hI (zb w9 r zd.none_ Nd.empty) (by rw [HS9.o]; exact zF HBR9.o);have HP9:=hI (xz O w0 K w P D n firm R (.returned (.tuple #[ndV zd.none_ Nd.empty,.iface tt xx])) w9) (by
    rw [HS9.o];have hpl:w.1.size <= p /\ w.1.size <= r /\ p < w1.1.size /\ r < w1.1.size /\ w1.1.size = w.1.size + 2:=by rw [HRC.o,HPP.o,HB1.o.2]; omega
    exact HO3.o.ret H (zf.of_below (HB1.o.1.trans (HB13.o.mono HB1.o.1.size)) HTH.o) HTH.o (fun k hk=>.inl hk) (.inr rfl) HR3.o.1.lt hpl.2.1 hpl.2.2.2.1 HW0.o HL.o.low)
   go_wp2_with fail;rw [<- HW9.o];exact bodyPost_ret (zr Tryz.ndProg rfl _ _ r zd.none_ Nd.empty (.iface tt xx) rfl rfl HX9.o) rfl HP9.o
  | ok x =>
   have HRT:=Hi (xB hlm);have HG0:=hI (R = if x.kids.length = 0 then (.ok (qe x key val),S) else match jg n f S (x.kids.getD (yF x key) 0) key val with
    | (.error c,S1)=>(.error c,S1)
    | (.ok kid,S1)=>zS n S1 x (yF x key) 1 kid) (by
    rw [HRR.o];show (match yp S i (12 - f:Int) with | .error c=>(Except.error c,S) | .ok x=>_) = _;rw [<- HLV.o,hlm];rfl)
   rw [hlm] at HLD;clear hlm HRR
   go_enter Tryz.func68,Tryz.ntmps68
   go_upto_region 1 with (fail)
   rw [<- HW1.o,<- HPP.o,<- HRC.o];clear HW1;go_wp2_with fail;refine HLD.o.mono ?_;rintro e w2 ⟨_,l,rfl,hn,hb⟩;have HN:=Hi hn;have HB:=Hi hb;clear hn hb HLD;obtain ⟨q,HCq⟩:=hY (w2.1.size);obtain ⟨w3,HWw3⟩:=hY (w2.alloc (.cells #[.slice l.A x.keys.length l.ca,.slice l.B x.vals.length l.cb,.slice l.C x.kids.length l.cc] 48));have HBw3:=hI (Below w2.1.size w2 w3 /\ w3.1.size = w2.1.size + 1) (by rw [HWw3.o]; exact ⟨(Below.refl _ _).alloc (zfI _) _,by simp⟩);have HQ3:=hI (zb w3 q l x) (by rw [HWw3.o,HCq.o]; exact zb.new _);go_upto_region 2 with (fail)
   rw [<- HWw3.o,<- HCq.o];have HB13:=hI (Below w1.1.size w1 w3) (HB.o.trans (HBw3.o.1.mono HB.o.size));have HR3:=hI (zb w3 r zd.none_ Nd.empty /\ ∀ j,w3.frozen? ⟨r,j,none⟩ = false) ⟨HX1.o.2.2.1.carry HB13.o HX1.o.2.2.1.lt,zl HB13.o HX1.o.2.2.1.lt HX1.o.2.2.2⟩;have HN3:=hI (zo w3 w1.1.size l x) (HN.o.carry HBw3.o.1);have HLB:=hI (∀ g,l.has g -> w1.1.size <= g /\ g < w2.1.size) HN.o.lt;have HQL:=hI (w2.1.size <= q) (by rw [HCq.o]; exact zfI _);have HQ3L:=hI (q < w3.1.size) HQ3.o.lt;have HP3:=hI (w3.cell? ⟨p,0,none⟩ = some (.int .i64 key) /\ w3.cell? ⟨p,1,none⟩ = some (.string val)) (by
    have hp:p < w1.1.size:=by rw [HPP.o,HB1.o.2]; omega
    exact ⟨(HB13.o.cell (p:=⟨p,0,none⟩) hp).trans HX1.o.1,(HB13.o.cell (p:=⟨p,1,none⟩) hp).trans HX1.o.2.1⟩)
   have HB03:=hI (Below w.1.size w w3) (HB1.o.1.trans (HB13.o.mono HB1.o.1.size));have HSZ3:=hI (w2.1.size + 1 = w3.1.size /\ w1.1.size <= w2.1.size) ⟨HBw3.o.2.symm,HB.o.size⟩;clear HWw3 HCq HN HBw3 HB;go_wp2_with (with_reducible refine xD9 (some 25) ?_);refine zg Tryz.ndProg (by rfl) _ rfl q rfl l x HQ3.o ?_;go_wp2_with fail;refine (va x).mono ?_;rintro e w4 ⟨rfl,hb⟩;have HB4:=Hi hb;have HQ4:=Hi (HQ3.o.carry hb HQ3.o.lt);have HR4:=hI (zb w4 r zd.none_ Nd.empty /\ ∀ j,w4.frozen? ⟨r,j,none⟩ = false) ⟨HR3.o.1.carry hb HR3.o.1.lt,zl hb HR3.o.1.lt HR3.o.2⟩;have HN4:=Hi (HN3.o.carry hb);have HP4:=hI (w4.cell? ⟨p,0,none⟩ = some (.int .i64 key) /\ w4.cell? ⟨p,1,none⟩ = some (.string val)) (by
    have hp:p < w3.1.size:=zp HP3.o.1;exact ⟨(hb.cell (p:=⟨p,0,none⟩) hp).trans HP3.o.1,(hb.cell (p:=⟨p,1,none⟩) hp).trans HP3.o.2⟩)
   have HB04:=hI (Below w.1.size w w4) (HB03.o.trans (hb.mono HB03.o.size));clear hb HQ3 HR3 HN3 HP3;by_cases hlf:x.kids.length = 0
   ·rw [decide_eq_true hlf];have HG1:=hI (R = (.ok (qe x key val),S)) (by rw [HG0.o,if_pos hlf]);have HWI:=Hi (zdL HN4.o (by have:=HSZ3.o; have:=HB4.o.size; omega) HRT.o hlf HKV.o.1 HKV.o.2);obtain ⟨xo,HXO⟩:=hY (qe x key val);rw [<- HXO.o] at HWI HG1;have p0:=HP4.o.1;have p1:=HP4.o.2;clear hlf HG0;go_wp2_with (with_reducible refine xD9 (some 27) ?_);refine zg Tryz.ndProg (by rfl) _ rfl q rfl l x HQ4.o ?_;go_wp2_with fail;refine HWI.o.mono ?_;rintro e w5 ⟨lk,rfl,hn,ht,hbl⟩;have hpl:w.1.size <= p /\ w.1.size <= r /\ p < w1.1.size /\ r < w1.1.size /\ w1.1.size = w.1.size + 2:=by rw [HRC.o,HPP.o,HB1.o.2]; omega
    have hrb:=ht.block r ⟨HR4.o.1.lt,fun h=>by have:=(HLB.o r h).1; omega⟩;have HR5:=hI (zb w5 r zd.none_ Nd.empty /\ ∀ j,w5.frozen? ⟨r,j,none⟩ = false) ⟨HR4.o.1.keep hrb,fun j=>(World.frozen?_of_block (w:=w4) (a:=⟨r,j,none⟩) hrb).trans (HR4.o.2 j)⟩;have HO5:=hI (jr O w0 (fun g=>K g \/ g = r) w1.1.size P D n firm R lk xo .nilIface w5) (by
     refine ⟨?_,.inr ⟨by rw [HG1.o],rfl,hn⟩⟩;rw [HG1.o];have h4:=HL.o.grow H HB04.o;have hw0:=HW0.o;have hb4:=HB4.o.size;have hs3:=HSZ3.o;have hin:∀ g,l.has g -> K g \/ (w.1.size <= g /\ g < w4.1.size):=fun g hg=>.inr (by have:=HLB.o g hg; omega)
     refine h4.off H ht (fun k hk=>⟨hin k hk,by have:=(HLB.o k hk).1; omega⟩) (fun k hk=>?_) (fun k hk=>?_) fun k hk=>.inl (.inl (HL.o.low k hk))
     ·rcases hk with (hk | hk) | hk
      ·exact .inl (.inl hk)
      ·have:=HR4.o.1.lt;exact .inl (.inr (by omega))
      ·rcases hbl k hk with h | h
       ·exact .inl (hin k h)
       ·exact .inr h
     ·have hts:=ht.size;rcases hk with (hk | hk) | hk
      ·have:=HTH.o k hk; have:=HB04.o.size; omega
      ·have:=HR4.o.1.lt; omega
      ·exact (hn.lt k hk).2)
    have HK5:=hI (zf K w w5) ((zf.of_below HB04.o HTH.o).trans ⟨ht.os,ht.tape,ht.output,ht.size,fun k hk=>ht.block k ⟨by have:=HTH.o k hk; have:=HB04.o.size; omega,fun h=>by have:=HTH.o k hk; have:=(HLB.o k h).1; omega⟩⟩);clear hn ht hbl hpl hrb HWI;have f0:=HR5.o.2 0;have f1:=HR5.o.2 1;have f2:=HR5.o.2 2;have HBR9:=Hi HR5.o.1;have d0:=HBR9.o.c0;have d1:=HBR9.o.c1;have d2:=HBR9.o.c2;obtain ⟨w9,HW9⟩:=hY (((w5.setCell ⟨r,0,none⟩ (.slice lk.A xo.keys.length lk.ca)).setCell ⟨r,1,none⟩ (.slice lk.B xo.vals.length lk.cb)).setCell ⟨r,2,none⟩ (.slice lk.C xo.kids.length lk.cc));have HS9:=hI (w9 = zC w5 r lk xo) HW9.o;have HX9:=hI (zb w9 r lk xo) (by rw [HS9.o]; exact zF HBR9.o);have HP9:=hI (xz O w0 K w P D n firm R (.returned (.tuple #[ndV lk xo,.nilIface])) w9) (by
     rw [HS9.o];have hpl:w.1.size <= p /\ w.1.size <= r /\ p < w1.1.size /\ r < w1.1.size /\ w1.1.size = w.1.size + 2:=by rw [HRC.o,HPP.o,HB1.o.2]; omega
     exact HO5.o.ret H HK5.o HTH.o (fun k hk=>.inl hk) (.inr rfl) HR5.o.1.lt hpl.2.1 hpl.2.2.2.1 HW0.o HL.o.low)
    go_wp2_with fail;rw [<- HW9.o];exact bodyPost_ret (zr Tryz.ndProg rfl _ _ r lk xo (.nilIface) rfl rfl HX9.o) rfl HP9.o
   ·rw [decide_eq_false hlf];have HNE:=Hi hlf;have HKL:=Hi (kY HRT.o hlf key);obtain ⟨k,HK⟩:=hY (yF x key);obtain ⟨z,HZ⟩:=hY (x.kids.getD k 0);obtain ⟨RK,HRK⟩:=hY (jg n f S z key val);have HG1:=hI (R = match (generalizing:=false) RK with
     | (.error c,S1)=>(.error c,S1)
     | (.ok kid,S1)=>zS n S1 x k 1 kid) (by rw [HG0.o,if_neg hlf,HRK.o,HZ.o,HK.o])
    have HKA:=Hi (Y4 HN4.o.is key);rw [<- HK.o] at HKL HKA;obtain ⟨C,HC0,hc⟩:=yj HN4.o.is.kids (i:=k) HKL.o;rw [show x.kids[k]'HKL.out = z by rw [HZ.o,List.getD_eq_getElem?_getD,List.getElem?_eq_getElem HKL.o]; rfl] at hc;have HCC:=Hi HC0;have HCL:=Hi hc;have p0:=HP4.o.1;clear hlf HG0 HC0 hc;go_wp2_with (with_reducible refine xD9 (some 30) ?_);refine zg Tryz.ndProg (by rfl) _ rfl q rfl l x HQ4.o ?_;go_wp2_with fail;refine HKA.o.mono ?_;rintro e w5 ⟨rfl,hb⟩;have hbl:C.block < w4.1.size:=by have:=zp HCL.o; rwa [yP] at this
    have HB05:=hI (Below w.1.size w w5) (HB04.o.trans (hb.mono HB04.o.size));have HSZ5:=hI (w3.1.size <= w5.1.size) (zfH HB4.o.size hb.size);have HR5:=hI (zb w5 r zd.none_ Nd.empty /\ ∀ j,w5.frozen? ⟨r,j,none⟩ = false) ⟨HR4.o.1.carry hb HR4.o.1.lt,zl hb HR4.o.1.lt HR4.o.2⟩;have HN5:=Hi (HN4.o.carry hb);have HS5:=hI (zb w5 q l x /\ w5.cell? ⟨p,0,none⟩ = some (.int .i64 key) /\ w5.cell? ⟨p,1,none⟩ = some (.string val) /\ w5.cell? (C.add k) = some (.int .i64 z)) (by
     have hp:p < w4.1.size:=zp HP4.o.1;exact ⟨HQ4.o.carry hb HQ4.o.lt,(hb.cell (p:=⟨p,0,none⟩) hp).trans HP4.o.1,(hb.cell (p:=⟨p,1,none⟩) hp).trans HP4.o.2,(hb.cell (p:=C.add k) (by rw [yP]; exact hbl)).trans HCL.o⟩)
    have hkl:(k:Int) < (x.kids.length:Int):=by have:=HKL.o; omega
    have hlw:=HLW2.o;have hlw2:=HLW.o;clear hb hbl HCL HP4 HN4 HR4 HQ4 HKA p0 HB04;go_upto_region 7 with (fail)
    refine wp_region_held (S:=fun w9=>zb w9 q l x /\ w9.cell? ⟨p,0,none⟩ = some (.int .i64 key) /\ w9.cell? ⟨p,1,none⟩ = some (.string val) /\ w9.cell? (C.add k) = some (.int .i64 z)) (by kernel_rfl) ?_;change wpAnyH _ _ _ _ _ _ _ _ w5.drew;obtain ⟨wa,HWA⟩:=hY (w5.drew);rw [<- HWA.o];have hdr:Below w5.1.size w5 wa:=by rw [HWA.o]; exact (Below.refl _ _).drew
    have HBA:=hI (Below w.1.size w wa /\ w3.1.size <= wa.1.size) ⟨HB05.o.trans (hdr.mono HB05.o.size),zfH HSZ5.o hdr.size⟩;have HRA:=hI (zb wa r zd.none_ Nd.empty /\ ∀ j,wa.frozen? ⟨r,j,none⟩ = false) ⟨HR5.o.1.carry hdr HR5.o.1.lt,zl hdr HR5.o.1.lt HR5.o.2⟩;have HNA:=Hi (HN5.o.carry hdr);have hS:zb wa q l x /\ wa.cell? ⟨p,0,none⟩ = some (.int .i64 key) /\ wa.cell? ⟨p,1,none⟩ = some (.string val) /\ wa.cell? (C.add k) = some (.int .i64 z):=⟨HS5.o.1.carry hdr HS5.o.1.lt,(hdr.cell (p:=⟨p,0,none⟩) (zp HS5.o.2.1)).trans HS5.o.2.1,(hdr.cell (p:=⟨p,1,none⟩) (zp HS5.o.2.2.1)).trans HS5.o.2.2.1,(hdr.cell (p:=C.add k) (zp HS5.o.2.2.2)).trans HS5.o.2.2.2⟩
    have HCW:=hI (∀ w',(zb w' q l x /\ w'.cell? ⟨p,0,none⟩ = some (.int .i64 key) /\ w'.cell? ⟨p,1,none⟩ = some (.string val) /\ w'.cell? (C.add k) = some (.int .i64 z)) -> w'.cell? ⟨q,2,none⟩ = some (.slice (some C) x.kids.length l.cc)) fun w' h=>by have:=h.1.c2; rwa [HCC.o] at this
    have HCH:=hI (∀ wr,Below w.1.size w wr -> Calls Tryz.prog 68 #[ptr P,.int .i64 z,.int .i64 (13 - (f:Int)),.agg #[.int .i64 key,.string val]] wr fun e w2=>∃ lk xk v,e = .returned (.tuple #[ndV lk xk,v]) /\ zf (fun k=>K k \/ (w.1.size <= k /\ k < wr.1.size)) wr w2 /\ jr O w0 (fun k=>K k \/ (w.1.size <= k /\ k < wr.1.size)) wr.1.size P D n firm RK lk xk v w2) fun wr hb=>by
     have h1:=HL.o.grow H hb;have:=HIH.o h1 z;rw [<- HRK.o] at this;exact this.mono fun e w2 h=>XY H h h1.low
    have HQP:=hI (p < w1.1.size /\ r < w1.1.size /\ w.1.size <= r /\ w1.1.size <= q /\ q < w3.1.size /\ w1.1.size <= w2.1.size /\ w2.1.size <= w3.1.size /\ w.1.size <= w1.1.size) (by
     have h1:=HSZ3.o;have h2:=HQL.o;have h3:=HQ3L.o;rw [HRC.o,HPP.o,HB1.o.2];have:=HB1.o.2;omega)
    clear HWA hdr HB05 HR5 HN5 HS5 HSZ5 HIH;refine xA9 0 35 (ptr P) hS ?_;refine xA9 1 36 (.pointer (some ⟨q,2,none⟩)) hS ?_;refine xG9 2 37 (.slice (some C) x.kids.length l.cc) rfl (.inl ⟨by rfl,fun _ h=>by have c0:=HCW.o _ h; go_simp⟩) hS ?_;refine xA9 3 38 (.int .i64 (k:Int)) hS ?_;refine xA9 4 39 (.pointer (some (C.add k))) hS ?_;refine xG9 5 40 (.int .i64 z) rfl (.inl ⟨by rfl,fun _ h=>by have c0:=h.2.2.2; go_simp⟩) hS ?_;refine xA9 6 41 (.int .i64 lv) hS ?_;refine xA9 7 42 (.int .i64 (13 - (f:Int))) hS ?_;refine xG9 8 43 (.agg #[.int .i64 key,.string val]) rfl (.inl ⟨by rfl,fun _ h=>by have c0:=h.2.1; have c1:=h.2.2.1; go_simp⟩) hS ?_;refine JI (i:=9) (j:=13) (oi:=⟨some 44,_,_,_,_,_⟩) (oj:=⟨some 13,_,_,_,_,_⟩) rfl rfl (by kernel_rfl) (fun K0 hK=>?_) (fun K0 hK=>?_)
    case' refine_1 =>
     have HBX:=Hi HBA.o.1;go_simp;refine (HCH.o wa HBA.o.1).mono ?_;rintro e wn ⟨lk,xk,v,rfl,hk,ho⟩;have hCb:w1.1.size <= C.block /\ C.block < w2.1.size:=HLB.o _ (.inr (.inr ⟨C,HCC.o,rfl⟩));have hqp:=HQP.o;have hba:=HBA.o.2;have hbp:=hk.block p (.inr ⟨by rw [HPP.o]; exact zfI _,by omega⟩);have hbq:=hk.block q (.inr ⟨by omega,by omega⟩);have hbr:=hk.block r (.inr ⟨by omega,by omega⟩);have hbC:=hk.block C.block (.inr ⟨by omega,by omega⟩);have HMN:=hI (zo wn w1.1.size l x) (HNA.o.keep hk.size fun g hg=>hk.block g (.inr (by have:=HLB.o g hg; omega)));have HKN:=Hi hk;have HON:=Hi ho;have HXN:=hI (zb wn r zd.none_ Nd.empty /\ ∀ j,wn.frozen? ⟨r,j,none⟩ = false) ⟨HRA.o.1.keep hbr,fun j=>(World.frozen?_of_block (w:=wa) (a:=⟨r,j,none⟩) hbr).trans (HRA.o.2 j)⟩;have hS2:zb wn q l x /\ wn.cell? ⟨p,0,none⟩ = some (.int .i64 key) /\ wn.cell? ⟨p,1,none⟩ = some (.string val) /\ wn.cell? (C.add k) = some (.int .i64 z):=⟨hS.1.keep hbq,(World.cell?_of_block (w:=wa) (a:=⟨p,0,none⟩) hbp).trans hS.2.1,(World.cell?_of_block (w:=wa) (a:=⟨p,1,none⟩) hbp).trans hS.2.2.1,(World.cell?_of_block (w:=wa) (a:=C.add k) (by rw [yP]; exact hbC)).trans hS.2.2.2⟩
     clear hk ho hbp hbq hbr hbC hS hCb hqp hba;refine hK.out _ _ hS2 ?_;clear hK K0;have hS:=hS2;clear hS2;refine xA9 10 34 (.tuple #[ndV lk xk,v]) hS ?_;refine xA9 11 45 (ndV lk xk) hS ?_;refine xA9 12 46 (v) hS ?_;refine xJ9 13 (some 13) (fun K0 hK=>?_);go_simp;obtain ⟨c,HCB⟩:=hY (wn.1.size);obtain ⟨wc,HWwc⟩:=hY (wn.alloc (.cells #[.slice none 0 0,.slice none 0 0,.slice none 0 0] 48));rw [<- HWwc.o,<- HCB.o];have HBB:=hI (Below wn.1.size wn wc /\ wc.1.size = wn.1.size + 1) (by rw [HWwc.o]; exact ⟨(Below.refl _ _).alloc (zfI _) _,by simp⟩);have HXC:=hI (zb wc c zd.none_ Nd.empty /\ ∀ j,wc.frozen? ⟨c,j,none⟩ = false) (by rw [HWwc.o,HCB.o]; exact ⟨zb.new (l:=zd.none_) (x:=Nd.empty) _,ya _ _ _⟩);clear HWwc;have hS2:zb wc q l x /\ wc.cell? ⟨p,0,none⟩ = some (.int .i64 key) /\ wc.cell? ⟨p,1,none⟩ = some (.string val) /\ wc.cell? (C.add k) = some (.int .i64 z):=⟨hS.1.carry HBB.o.1 hS.1.lt,(HBB.o.1.cell (p:=⟨p,0,none⟩) (zp hS.2.1)).trans hS.2.1,(HBB.o.1.cell (p:=⟨p,1,none⟩) (zp hS.2.2.1)).trans hS.2.2.1,(HBB.o.1.cell (p:=C.add k) (zp hS.2.2.2)).trans hS.2.2.2⟩
     have HQN:=hI (zb wn q l x) hS.1;clear hS;refine hK.out _ _ hS2 ?_;clear hK K0;have hS:=hS2;clear hS2;refine xJ9 14 (none) (fun K0 hK=>?_);have HBC:=Hi HXC.o.1;have f0:=HXC.o.2 0;have f1:=HXC.o.2 1;have f2:=HXC.o.2 2;have d0:=HBC.o.c0;have d1:=HBC.o.c1;have d2:=HBC.o.c2;obtain ⟨wz,HWY⟩:=hY (((wc.setCell ⟨c,0,none⟩ (.slice lk.A xk.keys.length lk.ca)).setCell ⟨c,1,none⟩ (.slice lk.B xk.vals.length lk.cb)).setCell ⟨c,2,none⟩ (.slice lk.C xk.kids.length lk.cc));have HWZ:=hI (wz = zC wc c lk xk) HWY.o;go_simp;rw [<- HWY.o];clear d0 d1 d2 f0 f1 f2;have HSC:=hI (PuS O w0 K w P D n firm q r c w1.1.size l x RK lk xk v wz) (by
      have hqp:=HQP.o;have hsz:=HKN.o.size;have hsb:=HBB.o.2;have hcb:=HCB.o;have hba:=HBA.o.1.size;have hba2:=HBA.o.2;have hkn:zf K w wn:=(zf.of_below HBX.o HTH.o).trans (HKN.o.less8 fun k hk=>.inl hk);refine PuS.make H HQN.o HXN.o.1 HXN.o.2 HMN.o hkn HON.o ⟨by rw [HWZ.o]; exact HBB.o.1.os,by rw [HWZ.o]; exact HBB.o.1.tape,by rw [HWZ.o]; exact HBB.o.1.output,by rw [HWZ.o,zN]; exact HBB.o.1.size,fun k hk=>by rw [HWZ.o,zj hk.2]; exact HBB.o.1.block k hk.1⟩ (by rw [HWZ.o]; exact zF HXC.o.1) (fun h=>by omega) (fun k hk=>?_) (by omega) (by omega) (fun h=>by have:=HLB.o c h; omega) (by omega) (by omega) (by omega) (fun g hg=>by have:=HLB.o g hg; omega) HTH.o HW0.o HL.o.low;rcases hk with hk | hk | hk
      ·exact .inl hk
      ·exact .inr ⟨by omega,by omega⟩
      ·exact .inr (by have:=HLB.o k hk; omega))
     have hCb:w1.1.size <= C.block /\ C.block < w2.1.size:=HLB.o _ (.inr (.inr ⟨C,HCC.o,rfl⟩));have hqp:=HQP.o;have hba:=HBA.o.2;have hcb:=HCB.o;have hsb:=HBB.o.2;have hkn:=HKN.o.size;have hbq:wz.1[q]? = wc.1[q]?:=by rw [HWZ.o]; exact zj (by omega)
     have hbp:wz.1[p]? = wc.1[p]?:=by rw [HWZ.o]; exact zj (by omega)
     have hbC:wz.1[C.block]? = wc.1[C.block]?:=by rw [HWZ.o]; exact zj (by omega)
     have hS2:zb wz q l x /\ wz.cell? ⟨p,0,none⟩ = some (.int .i64 key) /\ wz.cell? ⟨p,1,none⟩ = some (.string val) /\ wz.cell? (C.add k) = some (.int .i64 z):=⟨hS.1.keep hbq,(World.cell?_of_block (w:=wc) (a:=⟨p,0,none⟩) hbp).trans hS.2.1,(World.cell?_of_block (w:=wc) (a:=⟨p,1,none⟩) hbp).trans hS.2.2.1,(World.cell?_of_block (w:=wc) (a:=C.add k) (by rw [yP]; exact hbC)).trans hS.2.2.2⟩
     clear hS hbp hbq hbC hCb hqp hba hcb hsb hkn;refine hK.out _ _ hS2 ?_;clear hK K0;have hS:=hS2;clear hS2;refine xA9 15 11 (v) hS ?_;refine wpAnyH_done (by kernel_rfl) ?_ _
    case' refine_2 =>
     go_simp;obtain ⟨c,HCB⟩:=hY (wa.1.size);obtain ⟨wb,HWwb⟩:=hY (wa.alloc (.cells #[.slice none 0 0,.slice none 0 0,.slice none 0 0] 48));rw [<- HWwb.o,<- HCB.o];have HBB:=hI (Below wa.1.size wa wb /\ wb.1.size = wa.1.size + 1) (by rw [HWwb.o]; exact ⟨(Below.refl _ _).alloc (zfI _) _,by simp⟩);have HXC:=hI (zb wb c zd.none_ Nd.empty /\ ∀ j,wb.frozen? ⟨c,j,none⟩ = false) (by rw [HWwb.o,HCB.o]; exact ⟨zb.new (l:=zd.none_) (x:=Nd.empty) _,ya _ _ _⟩);clear HWwb;have HBX:=hI (Below w.1.size w wb) (HBA.o.1.trans (HBB.o.1.mono HBA.o.1.size));have HXB:=hI (zb wb r zd.none_ Nd.empty /\ ∀ j,wb.frozen? ⟨r,j,none⟩ = false) ⟨HRA.o.1.carry HBB.o.1 HRA.o.1.lt,zl HBB.o.1 HRA.o.1.lt HRA.o.2⟩;have HNB:=Hi (HNA.o.carry HBB.o.1);have hS2:zb wb q l x /\ wb.cell? ⟨p,0,none⟩ = some (.int .i64 key) /\ wb.cell? ⟨p,1,none⟩ = some (.string val) /\ wb.cell? (C.add k) = some (.int .i64 z):=⟨hS.1.carry HBB.o.1 hS.1.lt,(HBB.o.1.cell (p:=⟨p,0,none⟩) (zp hS.2.1)).trans hS.2.1,(HBB.o.1.cell (p:=⟨p,1,none⟩) (zp hS.2.2.1)).trans hS.2.2.1,(HBB.o.1.cell (p:=C.add k) (zp hS.2.2.2)).trans hS.2.2.2⟩
     clear hS;refine hK.out _ _ hS2 ?_;clear hK K0;have hS:=hS2;clear hS2;refine xJ9 9 (some 44) (fun K0 hK=>?_);go_simp;refine (HCH.o wb HBX.o).mono ?_;rintro e wn ⟨lk,xk,v,rfl,hk,ho⟩;have hCb:w1.1.size <= C.block /\ C.block < w2.1.size:=HLB.o _ (.inr (.inr ⟨C,HCC.o,rfl⟩));have hqp:=HQP.o;have hsb:=HBB.o.2;have hcb:=HCB.o;have hba:=HBA.o.2;have hbp:=hk.block p (.inr ⟨by rw [HPP.o]; exact zfI _,by omega⟩);have hbq:=hk.block q (.inr ⟨by omega,by omega⟩);have hbr:=hk.block r (.inr ⟨by omega,by omega⟩);have hbC:=hk.block C.block (.inr ⟨by omega,by omega⟩);have hbc:=hk.block c (.inr ⟨by omega,by omega⟩);have HMN:=hI (zo wn w1.1.size l x) (HNB.o.keep hk.size fun g hg=>hk.block g (.inr (by have:=HLB.o g hg; omega)));have HKN:=Hi hk;have HON:=Hi ho;have HXN:=hI (zb wn r zd.none_ Nd.empty /\ ∀ j,wn.frozen? ⟨r,j,none⟩ = false) ⟨HXB.o.1.keep hbr,fun j=>(World.frozen?_of_block (w:=wb) (a:=⟨r,j,none⟩) hbr).trans (HXB.o.2 j)⟩;have HXC:=hI (zb wn c zd.none_ Nd.empty /\ ∀ j,wn.frozen? ⟨c,j,none⟩ = false) ⟨HXC.o.1.keep hbc,fun j=>(World.frozen?_of_block (w:=wb) (a:=⟨c,j,none⟩) hbc).trans (HXC.o.2 j)⟩;have hS2:zb wn q l x /\ wn.cell? ⟨p,0,none⟩ = some (.int .i64 key) /\ wn.cell? ⟨p,1,none⟩ = some (.string val) /\ wn.cell? (C.add k) = some (.int .i64 z):=⟨hS.1.keep hbq,(World.cell?_of_block (w:=wb) (a:=⟨p,0,none⟩) hbp).trans hS.2.1,(World.cell?_of_block (w:=wb) (a:=⟨p,1,none⟩) hbp).trans hS.2.2.1,(World.cell?_of_block (w:=wb) (a:=C.add k) (by rw [yP]; exact hbC)).trans hS.2.2.2⟩
     have HQN:=hI (zb wn q l x) hS2.1;clear hk ho hbp hbq hbr hbC hbc hS hsb hcb hba hCb hqp;refine hK.out _ _ hS2 ?_;clear hK K0;have hS:=hS2;clear hS2;refine xA9 10 34 (.tuple #[ndV lk xk,v]) hS ?_;refine xA9 11 45 (ndV lk xk) hS ?_;refine xA9 12 46 (v) hS ?_;refine xJ9 14 (none) (fun K0 hK=>?_);have HBC:=Hi HXC.o.1;have f0:=HXC.o.2 0;have f1:=HXC.o.2 1;have f2:=HXC.o.2 2;have d0:=HBC.o.c0;have d1:=HBC.o.c1;have d2:=HBC.o.c2;obtain ⟨wz,HWY⟩:=hY (((wn.setCell ⟨c,0,none⟩ (.slice lk.A xk.keys.length lk.ca)).setCell ⟨c,1,none⟩ (.slice lk.B xk.vals.length lk.cb)).setCell ⟨c,2,none⟩ (.slice lk.C xk.kids.length lk.cc));have HWZ:=hI (wz = zC wn c lk xk) HWY.o;go_simp;rw [<- HWY.o];clear d0 d1 d2 f0 f1 f2;have HSC:=hI (PuS O w0 K w P D n firm q r c w1.1.size l x RK lk xk v wz) (by
      have hqp:=HQP.o;have hsz:=HKN.o.size;have hsb:=HBB.o.2;have hcb:=HCB.o;have hba:=HBA.o.1.size;have hba2:=HBA.o.2;have hkn:zf K w wn:=(zf.of_below HBX.o HTH.o).trans (HKN.o.less8 fun k hk=>.inl hk);refine PuS.make H HQN.o HXN.o.1 HXN.o.2 HMN.o hkn HON.o ⟨by rw [HWZ.o]; rfl,by rw [HWZ.o]; rfl,by rw [HWZ.o]; rfl,by rw [HWZ.o,zN]; exact zfI _,fun k hk=>by rw [HWZ.o]; exact zj hk.2⟩ (by rw [HWZ.o]; exact zF HXC.o.1) (fun h=>⟨.inr ⟨by omega,by omega⟩,by omega⟩) (fun k hk=>?_) (by omega) (by omega) (fun h=>by have:=HLB.o c h; omega) (by omega) (by omega) (by omega) (fun g hg=>by have:=HLB.o g hg; omega) HTH.o HW0.o HL.o.low;rcases hk with hk | hk | hk
      ·exact .inl hk
      ·exact .inr ⟨by omega,by omega⟩
      ·exact .inr (by have:=HLB.o k hk; omega))
     have hCb:w1.1.size <= C.block /\ C.block < w2.1.size:=HLB.o _ (.inr (.inr ⟨C,HCC.o,rfl⟩));have hqp:=HQP.o;have hba:=HBA.o.2;have hcb:=HCB.o;have hsb:=HBB.o.2;have hkn:=HKN.o.size;have hbq:wz.1[q]? = wn.1[q]?:=by rw [HWZ.o]; exact zj (by omega)
     have hbp:wz.1[p]? = wn.1[p]?:=by rw [HWZ.o]; exact zj (by omega)
     have hbC:wz.1[C.block]? = wn.1[C.block]?:=by rw [HWZ.o]; exact zj (by omega)
     have hS2:zb wz q l x /\ wz.cell? ⟨p,0,none⟩ = some (.int .i64 key) /\ wz.cell? ⟨p,1,none⟩ = some (.string val) /\ wz.cell? (C.add k) = some (.int .i64 z):=⟨hS.1.keep hbq,(World.cell?_of_block (w:=wn) (a:=⟨p,0,none⟩) hbp).trans hS.2.1,(World.cell?_of_block (w:=wn) (a:=⟨p,1,none⟩) hbp).trans hS.2.2.1,(World.cell?_of_block (w:=wn) (a:=C.add k) (by rw [yP]; exact hbC)).trans hS.2.2.2⟩
     clear hS hbp hbq hbC hCb hqp hba hcb hsb hkn;refine hK.out _ _ hS2 ?_;clear hK K0;have hS:=hS2;clear hS2;refine xA9 15 11 (v) hS ?_;refine wpAnyH_done (by kernel_rfl) ?_ _
    all_goals
     clear HXN HKN HON HXC HCB HBB HBA HCH HWZ HWY HMN HQN HBX HNA HRA hS;obtain ⟨lo,hll,hrl,hbl,hout⟩:=HSC.o.out;have HLO:=Hi (And.intro hll (And.intro hrl hbl));have HOU:=Hi hout;obtain ⟨hlaw,hcase⟩:=hout;obtain ⟨R1,S2⟩:=RK;rcases hcase with ⟨cd,e1,e2,rfl,rfl,e5⟩ | ⟨e1,rfl,e3⟩
     ·obtain rfl:R1 = .error cd:=e1;have HR9:=hI (R = (.error cd,S2)) HG1.o;obtain ⟨tt,xx,rfl⟩:=e5.some e2;clear e2 e5 hlaw hll hrl hbl;have f0:=HSC.o.fr 0;have f1:=HSC.o.fr 1;have f2:=HSC.o.fr 2;have HBR9:=Hi HSC.o.br;have d0:=HBR9.o.c0;have d1:=HBR9.o.c1;have d2:=HBR9.o.c2;obtain ⟨w9,HW9⟩:=hY (((wz.setCell ⟨r,0,none⟩ (.slice none 0 0)).setCell ⟨r,1,none⟩ (.slice none 0 0)).setCell ⟨r,2,none⟩ (.slice none 0 0));have HS9:=hI (w9 = zC wz r zd.none_ Nd.empty) HW9.o;have HX9:=hI (zb w9 r zd.none_ Nd.empty) (by rw [HS9.o]; exact zF HBR9.o);have HP9:=hI (xz O w0 K w P D n firm R (.returned (.tuple #[ndV zd.none_ Nd.empty,.iface tt xx])) w9) (by
       rw [HS9.o];have hpl:w.1.size <= p /\ w.1.size <= r /\ p < w1.1.size /\ r < w1.1.size /\ w1.1.size = w.1.size + 2:=by rw [HRC.o,HPP.o,HB1.o.2]; omega
       exact by rw [HR9.o]; exact HOU.o.ret H HSC.o.kept HTH.o (fun k hk=>.inl hk) (.inr (.inl rfl)) HSC.o.br.lt hpl.2.1 HLO.o.2.1 HW0.o HL.o.low)
      go_wp2_with fail;rw [<- HW9.o];exact bodyPost_ret (zr Tryz.ndProg rfl _ _ r zd.none_ Nd.empty (.iface tt xx) rfl rfl HX9.o) rfl HP9.o
     ·obtain rfl:R1 = .ok xk:=e1;have HR9:=hI (R = zS n S2 x k 1 xk) HG1.o;have HRP:=Hi (jA H (at_:=k) (many:=1) hlaw hg (by
        have h1:=(jW f HOK.o z key val).soft;rw [<- HRK.o] at h1;have h2:S2.d.soft.length <= S.d.soft.length + 2 * f:=h1;have:=HSS.o;omega) HSC.o.mi (fun g hg=>.inl (.inr (.inr hg))) HRT.o HNE.o e3 (fun g hg=>.inr hg) (WH f HRK.o.symm) (fun g h1 h2=>by have:=hll g h1; have:=(e3.lt g h2).1; omega)
        (by have:=HSC.o.mi.lt; have:=HSC.o.br.lt; have:=HSC.o.kept.size; have:=hlaw.there; exact Nat.le_of_lt (Nat.lt_of_le_of_lt HQP.o.2.2.2.1 HSC.o.bq.lt)) (zfH HW0.o HQP.o.2.2.2.2.2.2.2) (zfI _) (by decide) HKL.o)
      rw [<- HR9.o,show ((1:Nat):Int) = 1 from rfl] at HRP;have HBZ:=hI (w1.1.size <= wz.1.size) (Nat.le_of_lt (Nat.lt_of_le_of_lt HQP.o.2.2.2.1 HSC.o.bq.lt));clear e3 hlaw hll hrl hbl;go_wp2_with (with_reducible refine xD9 (some 52) ?_);refine zg Tryz.ndProg (by rfl) _ rfl q rfl l x HSC.o.bq ?_;go_wp2_with (with_reducible refine xD9 (some 54) ?_);refine zg Tryz.ndProg (by rfl) _ rfl c rfl lk xk HSC.o.bc ?_;go_wp2_with fail;refine HRP.o.mono ?_;rintro e w5 hrp;obtain ⟨l5,x5,v5,rfl,hk5,ho5⟩:=Jx H hrp HBZ.o (fun k hk=>.inl (.inl (HL.o.low k hk)));have hpl:w.1.size <= p /\ w.1.size <= r /\ p < w1.1.size /\ r < w1.1.size /\ w1.1.size = w.1.size + 2:=by rw [HRC.o,HPP.o,HB1.o.2]; omega
      have hrb:=hk5.block r ⟨.inl (.inr (.inl rfl)),fun h=>by have:=(HLB.o r h).1; omega⟩;have HR5:=hI (zb w5 r zd.none_ Nd.empty /\ ∀ j,w5.frozen? ⟨r,j,none⟩ = false) ⟨HSC.o.br.keep hrb,fun j=>(World.frozen?_of_block (w:=wz) (a:=⟨r,j,none⟩) hrb).trans (HSC.o.fr j)⟩;have HK5:=hI (zf K w w5) (HSC.o.kept.trans (hk5.less8 fun k hk=>⟨.inl (.inl hk),fun h=>by have:=HTH.o k hk; have:=(HLB.o k h).1; omega⟩));have HO5:=Hi ho5;clear hrp hk5 ho5 hpl hrb HRP;have f0:=HR5.o.2 0;have f1:=HR5.o.2 1;have f2:=HR5.o.2 2;have HBR9:=Hi HR5.o.1;have d0:=HBR9.o.c0;have d1:=HBR9.o.c1;have d2:=HBR9.o.c2;obtain ⟨w9,HW9⟩:=hY (((w5.setCell ⟨r,0,none⟩ (.slice l5.A x5.keys.length l5.ca)).setCell ⟨r,1,none⟩ (.slice l5.B x5.vals.length l5.cb)).setCell ⟨r,2,none⟩ (.slice l5.C x5.kids.length l5.cc));have HS9:=hI (w9 = zC w5 r l5 x5) HW9.o;have HX9:=hI (zb w9 r l5 x5) (by rw [HS9.o]; exact zF HBR9.o);have HP9:=hI (xz O w0 K w P D n firm R (.returned (.tuple #[ndV l5 x5,v5])) w9) (by
       rw [HS9.o];have hpl:w.1.size <= p /\ w.1.size <= r /\ p < w1.1.size /\ r < w1.1.size /\ w1.1.size = w.1.size + 2:=by rw [HRC.o,HPP.o,HB1.o.2]; omega
       exact HO5.o.ret H HK5.o HTH.o (fun k hk=>.inl (.inl hk)) (.inl (.inr (.inl rfl))) HR5.o.1.lt hpl.2.1 hpl.2.2.2.1 HW0.o HL.o.low)
      go_wp2_with fail;rw [<- HW9.o];exact bodyPost_ret (zr Tryz.ndProg rfl _ _ r l5 x5 (v5) rfl rfl HX9.o) rfl HP9.o
end
end
section
theorem zdk {w:World} (key:Int) (val:ByteArray) (hk:-9223372036854775808 <= key /\ key <= 9223372036854775807) (hv:val.size <= maxLen) :
  xF ((w.alloc (.cells #[.int .i64 key] 3)).alloc (.cells #[.string val] 9)) ⟨some ⟨w.1.size,0,none⟩,some ⟨w.1.size + 1,0,none⟩,none,1,1,0⟩ ⟨[key],[val],[]⟩:=by
 refine ⟨fun _=>⟨_,rfl,by simp; omega,fun i z hz=>?_⟩,⟨rfl,fun _=>⟨_,rfl,by simp,fun i z hz=>?_⟩⟩,Nums.none_ _ _ _,by show 1 <= maxLen; unfold maxLen; decide,by show 1 <= maxLen; unfold maxLen; decide,Nat.zero_le _,fun z hz=>?_,fun v hv2=>?_,fun z hz=>by cases hz⟩
 ·cases i with
  | zero =>
   simp only [zgw,Option.some.injEq] at hz;subst hz;rw [Addr.add_mid];refine (World.cell?_of_block (w:=w.alloc (.cells #[.int .i64 key] 3)) ?_).trans (by simp);exact ((Below.refl _ _).alloc (zfI _) _).block _ (by simp)
  | succ i=>simp at hz
 ·cases i with
  | zero =>
   simp only [zgw,Option.some.injEq] at hz;subst hz;rw [Addr.add_mid];have:w.1.size + 1 = (w.alloc (.cells #[.int .i64 key] 3)).1.size:=by simp
   rw [this];simp
  | succ i=>simp at hz
 ·rw [List.mem_singleton.1 hz]; exact hk
 ·rw [List.mem_singleton.1 hv2]; exact hv
theorem Yi.is {O:ye} {w0:World} {L:Nat -> Prop} {lo:Nat} {P D n:Nat} {firm:Nat -> List UInt8} {l2:zd} {R:Except Int (List Int × List Int) × TS} {lr:zd} {xr:Nd} {v:Value} {wr:World} (h:Yi O w0 L lo P D n firm l2 R lr xr v wr) {bk ks:List Int} {S1:TS} (hR:R = (.ok (bk,ks),S1)) (hb:bk.length <= 1) (hk:ks.length <= 2) (hbw:∀ z ∈ bk,-9223372036854775808 <= z /\ z <= 9223372036854775807) (hkw:∀ z ∈ ks,0 <= z /\ z < 240) :
  xF wr lr xr /\ v = .nilIface /\ xr = ⟨bk,[],ks⟩ /\ zX O w0 (fun g=>L g \/ lr.has g) wr P D n S1 firm:=by
 obtain ⟨h1,h2⟩:=h;rw [hR] at h1 h2;rcases h2 with ⟨cd,e1,_⟩ | ⟨bk2,ks2,e1,e2,e3,e4,e5,e6,_⟩
 ·cases e1
 ·simp only [Except.ok.injEq,Prod.mk.injEq] at e1;obtain ⟨rfl,rfl⟩:=e1;refine ⟨?_,e2,e3,h1⟩;obtain ⟨A,c,e,hn⟩:=vr e6;simp only [Value.slice.injEq] at e;rw [<- e.1] at hn;rw [e3];exact ⟨e4,by rw [e5]; exact Strs.none_ _ _,hn,by show bk.length <= maxLen; unfold maxLen; omega,Nat.zero_le _,by show ks.length <= maxLen; unfold maxLen; omega,hbw,(fun v hv=>by cases hv),fun z hz=>by have:=hkw z hz; omega⟩
section
variable {O:ye} (H:ym O)
include H
theorem zal {w0:World} {K:Nat -> Prop} {w:World} {P D n:Nat} {S:TS} {firm:Nat -> List UInt8} (hl:zX O w0 K w P D n S firm) (hg:yL w0) (hs:S.d.soft.length <= 99900) (root:Int) {key:Int} (hk:-9223372036854775808 <= key /\ key <= 9223372036854775807) {val:ByteArray} (hv:val.size <= maxLen) :
  Calls Tryz.prog 20 #[ptr P,.int .i64 root,.int .i64 key,.string val] w (Yb O w0 K w P D n firm (xf n S root key val)):=by
 obtain ⟨R,HRR⟩:=hY (xf n S root key val);have HL:=Hi hl;have HTH:=hI (zR K w) hl.there;have HSS:=Hi hs;rw [<- HRR.o];by_cases hbad:key < 0 \/ 4294967295 < key \/ val.size ≠ 12
 ·have HR9:=hI (R = (.error 1,S)) (by rw [HRR.o]; unfold xf; rw [if_pos hbad]);have h1:(decide (key < 0) = true) \/ (decide (key < 0) = false /\ decide (4294967295 < key) = true) \/ (decide (key < 0) = false /\ decide (4294967295 < key) = false /\ ((val.size:Int) != 12) = true):=by
   by_cases a1:key < 0
   ·exact .inl (decide_eq_true a1)
   ·by_cases a2:4294967295 < key
    ·exact .inr (.inl ⟨decide_eq_false a1,decide_eq_true a2⟩)
    ·refine .inr (.inr ⟨decide_eq_false a1,decide_eq_false a2,?_⟩);simp only [bne_iff_ne,ne_eq];omega
  clear hl hs hk hv hbad HRR;rcases h1 with h1 | ⟨h1,h2⟩ | ⟨h1,h2,h3⟩
  all_goals
   go_enter Tryz.func20,Tryz.ntmps20
   go_wp2_with fail;refine (xX 1 (by decide) _).mono ?_;rintro e w1 ⟨v,rfl,he,hb⟩;have HE:=Hi he;have HB:=Hi hb;clear he hb;go_wp2_with fail
   go_ret2
   rw [HR9.o];exact ⟨HL.o.carry H HB.o,zf.of_below HB.o HTH.o,by decide,_,rfl,HE.o⟩
 ·have h1:decide (key < 0) = false:=decide_eq_false (by omega);have h2:decide (4294967295 < key) = false:=decide_eq_false (by omega);have h3:((val.size:Int) != 12) = false:=by simp; omega
  by_cases h0:root = 0
  ·subst h0;have HR9:=hI (R = xK n S ⟨[key],[val],[]⟩) (by rw [HRR.o]; unfold xf; rw [if_neg hbad,if_pos rfl]);obtain ⟨w1,HW1⟩:=hY ((w.alloc (.cells #[.int .i64 key] 3)).alloc (.cells #[.string val] 9));have HB1:=hI (Below w.1.size w w1) (by rw [HW1.o]; exact ((Below.refl _ _).alloc (zfI _) _).alloc (by simp) _);have HND:=Hi (zdk (w:=w) key val hk hv);rw [<- HW1.o] at HND;have HAD:=Hi (V7 H (hl.carry H HB1.o) hg (by omega) HND.o);rw [<- HR9.o] at HAD;clear hl hs hk hv hbad HRR
   go_enter Tryz.func20,Tryz.ntmps20
   go_wp2_with fail;rw [<- HW1.o];refine HAD.o.mono ?_;rintro e w2 ⟨hlaw,hkept,hm⟩;have HO2:=hI (∃ k v,e = .returned (.tuple #[.int .i64 k,v]) /\ Yb O w0 K w P D n firm R (.returned (.tuple #[.int .i64 k,v])) w2) (by
    have hk2:zf K w w2:=(zf.of_below HB1.o HTH.o).trans hkept;unfold Yb;cases hR1:R.1 with
    | error c =>
     rw [hR1] at hm;obtain ⟨h1,v,rfl,h3⟩:=hm;exact ⟨_,_,rfl,hlaw,hk2,h1,v,rfl,h3.mono HB1.o.size⟩
    | ok k =>
     rw [hR1] at hm;exact ⟨_,_,hm,hlaw,hk2,rfl⟩)
   obtain ⟨k,v,rfl,hp⟩:=HO2.o;have HP:=Hi hp;clear hlaw hkept hm HO2 hp HAD HND HW1;go_wp2_with fail
   go_ret2
   exact HP.o
  ·obtain ⟨RK,HRK⟩:=hY (jg n 12 S root key val);have HR9:=hI (R = match (generalizing:=false) RK with
    | (.error c,S1)=>(.error c,S1)
    | (.ok x,S1)=>match yt n S1 x [root] with
     | (.error c,S2)=>(.error c,S2)
     | (.ok (bk,ks),S2)=>if bk.length = 0 then (.ok (ks.getD 0 0),S2)
      else match xK n S2 ⟨bk,[],ks⟩ with
       | (.error c,S3)=>(.error c,S3)
       | (.ok k,S3)=>match xR S3 k key with
        | .error c=>(.error c,S3)
        | .ok _=>(.ok k,S3)) (by
    rw [HRR.o,HRK.o];unfold xf;rw [if_neg hbad,if_neg h0];rfl)
   have HPU:=Hi (zex H hg hk hv 12 (zfI _) hl (by omega) root);rw [show (13:Int) - ((12:Nat):Int) = 1 from rfl,<- HRK.o] at HPU;have HST:=hI (RK.2.d.soft.length <= S.d.soft.length + 24) (by rw [HRK.o]; exact (jW 12 hl.inv root key val).soft);have HW0:=hI (w0.1.size <= w.1.size) hl.below.size;have hz:(root == 0) = false:=by simp [h0]
   clear hl hs hk hv hbad HRR
   go_enter Tryz.func20,Tryz.ntmps20
   go_wp2_with fail;refine HPU.o.mono ?_;rintro e w2 hpp;obtain ⟨lk,xk,v,rfl,hk2,ho⟩:=XY H hpp HL.o.low;have HK2:=Hi hk2;obtain ⟨R1,S1⟩:=RK;obtain ⟨hlaw,hcase⟩:=ho;have HLW:=Hi hlaw;obtain ⟨q,HCq⟩:=hY (w2.1.size);obtain ⟨w3,HWw3⟩:=hY (w2.alloc (.cells #[.slice lk.A xk.keys.length lk.ca,.slice lk.B xk.vals.length lk.cb,.slice lk.C xk.kids.length lk.cc] 48));have HB3:=hI (Below w2.1.size w2 w3 /\ w3.1.size = w2.1.size + 1) (by rw [HWw3.o]; exact ⟨(Below.refl _ _).alloc (zfI _) _,by simp⟩);have HQ3:=hI (zb w3 q lk xk) (by rw [HWw3.o,HCq.o]; exact zb.new _);go_upto_region 6 with (fail)
   rw [<- HWw3.o,<- HCq.o];clear HWw3 HPU hpp hk2 hlaw;rcases hcase with ⟨cd,e1,e2,rfl,rfl,e5⟩ | ⟨e1,rfl,e3⟩
   ·obtain rfl:R1 = .error cd:=e1;have HR8:=hI (R = (.error cd,S1)) HR9.o;obtain ⟨tt,xx,rfl⟩:=e5.some e2;have HE:=Hi (e5.below HB3.o.1);have HC0:=Hi e2;clear e2 e5;go_wp2_with fail
    go_ret2
    rw [HR8.o];exact ⟨(HLW.o.less H (fun k hk=>.inl hk) HL.o.low).carry H HB3.o.1,HK2.o.trans (zf.of_below HB3.o.1 fun k hk=>zfG (HTH.o k hk) HK2.o.size),HC0.o,_,rfl,HE.o⟩
   ·obtain rfl:R1 = .ok xk:=e1;obtain ⟨RC,HRC⟩:=hY (yt n S1 xk [root]);have HR8:=hI (R = match (generalizing:=false) RC with
     | (.error c,S2)=>(.error c,S2)
     | (.ok (bk,ks),S2)=>if bk.length = 0 then (.ok (ks.getD 0 0),S2)
      else match xK n S2 ⟨bk,[],ks⟩ with
       | (.error c,S3)=>(.error c,S3)
       | (.ok k,S3)=>match xR S3 k key with
        | .error c=>(.error c,S3)
        | .ok _=>(.ok k,S3)) (by rw [HRC.o]; exact HR9.o)
    have HN2:=Hi e3;clear e3 HR9;go_wp2_with (with_reducible refine xD9 (some 53) ?_);refine zg Tryz.ndProg (by rfl) _ rfl q rfl lk xk HQ3.o ?_;obtain ⟨g,HG⟩:=hY (w3.1.size);obtain ⟨w4,HW4⟩:=hY (w3.alloc (.cells #[.int .i64 root] 3));have HB4:=hI (Below w2.1.size w2 w4 /\ w4.1.size = w2.1.size + 2) (by rw [HW4.o]; exact ⟨HB3.o.1.alloc HB3.o.1.size _,by simp [HB3.o.2]⟩);have HNU:=hI (Nums w4 .i64 (some ⟨g,0,none⟩) [root]) (by
     rw [HW4.o,HG.o];refine fun _=>⟨_,rfl,by simp,fun i z hz=>?_⟩
     cases i with
     | zero=>simp only [zgw,Option.some.injEq] at hz; subst hz; rw [Addr.add_mid]; simp
     | succ i=>simp at hz)
    have HL4:=Hi (HLW.o.grow H HB4.o.1);have HCH:=Hi (ZU H HL4.o hg (by have:=HST.o; have h2:S1.d.soft.length <= S.d.soft.length + 24:=this; have:=HSS.o; omega) (HN2.o.carry HB4.o.1) (fun g hg=>.inl (.inr hg)) (WH 12 HRK.o.symm) HNU.o (oc:=1) (fun a ha _=>.inr (by cases ha; show w2.1.size <= g /\ g < w4.1.size; have:=HG.o; have:=HB3.o.2; have:=HB4.o.2; omega)) (by show 1 <= 2; decide));rw [<- HRC.o,show [root].length = 1 from rfl] at HCH;have HKX:=hI (∀ z ∈ xk.keys,-9223372036854775808 <= z /\ z <= 9223372036854775807) HN2.o.is.kw;go_wp2_with fail;rw [<- HW4.o,<- HG.o];refine HCH.o.mono ?_;rintro e w5 hcp;obtain ⟨lr,xr,v,rfl,hk5,ho5⟩:=ZV H hcp (fun k hk=>.inl (.inl (HL.o.low k hk)));have HK5:=hI (zf K w w5) (HK2.o.trans ((zf.of_below HB4.o.1 fun k hk=>zfG (HTH.o k hk) HK2.o.size).trans (hk5.less8 fun k hk=>.inl (.inl hk))));have HO5:=Hi ho5;obtain ⟨c,HCc⟩:=hY (w5.1.size);obtain ⟨w6,HW6⟩:=hY (w5.alloc (.cells #[.slice lr.A xr.keys.length lr.ca,.slice lr.B xr.vals.length lr.cb,.slice lr.C xr.kids.length lr.cc] 48));have HB6:=hI (Below w5.1.size w5 w6) (by rw [HW6.o]; exact bA);have HC6:=hI (zb w6 c lr xr) (by rw [HW6.o,HCc.o]; exact zb.new _);have HK6:=hI (zf K w w6) (HK5.o.trans (zf.of_below HB6.o fun k hk=>zfG (HTH.o k hk) HK5.o.size));have HSZ:=hI (w.1.size <= w4.1.size) (zfH HK2.o.size HB4.o.1.size);go_upto_region 9 with (fail)
    rw [<- HW6.o,<- HCc.o];clear HW6 HCH hcp hk5 ho5 HW4 HNU HN2;obtain ⟨R2,S2⟩:=RC;have hcase:=HO5.o.2;rcases hcase with ⟨cd,e1,e2,rfl,rfl,e5⟩ | ⟨bk,ks,e1,rfl,e3,-,-,-,-,-⟩
    ·obtain rfl:R2 = .error cd:=e1;have HR7:=hI (R = (.error cd,S2)) HR8.o;obtain ⟨tt,xx,rfl⟩:=e5.some e2;have HE:=Hi ((e5.below HB6.o).mono HSZ.o);have HC0:=Hi e2;have HFK:=Hi (vG (xF.empty w6));clear e2 e5;go_wp2_with (with_reducible refine xD9 (some 67) ?_);refine zg Tryz.ndProg (by rfl) _ rfl c rfl zd.none_ Nd.empty HC6.o ?_;go_wp2_with fail;refine HFK.o.mono ?_;rintro e w7 ⟨rfl,hb⟩;have HB7:=Hi hb;clear hb;go_wp2_with fail
     go_ret2
     rw [HR7.o];refine ⟨((HO5.o.1.less H (fun k hk=>.inl (.inl (.inl hk))) HL.o.low).carry H HB6.o).carry H HB7.o,HK6.o.trans (zf.of_below HB7.o fun k hk=>zfG (HTH.o k hk) HK6.o.size),HC0.o,_,rfl,HE.o.below HB7.o⟩
    ·obtain rfl:R2 = .ok (bk,ks):=e1;obtain ⟨h5,h6⟩:=kF HRC.o.symm;have hbl:bk.length <= 1:=by rw [h5]; exact vj xk
     have hrg:=jE HLW.o.inv HRC.o.symm;obtain ⟨hnd,-,-,hlw5⟩:=HO5.o.is rfl hbl (by omega) (fun z hz=>HKX.o z (Z3 (by rw [<- h5]; exact hz))) hrg;obtain ⟨hxk,hxc⟩:bk = xr.keys /\ ks = xr.kids:=by rw [e3]; exact ⟨rfl,rfl⟩
     have HR7:=hI (R = if xr.keys.length = 0 then (.ok (xr.kids.getD 0 0),S2)
      else match xK n S2 xr with
       | (.error c,S3)=>(.error c,S3)
       | (.ok k,S3)=>match xR S3 k key with
        | .error c=>(.error c,S3)
        | .ok _=>(.ok k,S3)) (by rw [e3]; exact HR8.o)
     have HN6:=Hi (hnd.carry HB6.o);have HL6:=hI (zX O w0 K w6 P D n S2 firm) ((hlw5.less H (fun k hk=>.inl (.inl (.inl hk))) HL.o.low).carry H HB6.o);have HS2:=hI (S2.d.soft.length <= S1.d.soft.length + 2) (by have h:=(vF HLW.o.inv xk [root]).soft; rw [<- HRC.o] at h; exact h);have c0:=HC6.o.c0;clear h5 h6 hbl hrg hnd hlw5 hxk hxc e3 HR8;by_cases hke:xr.keys.length = 0
     ·have HR6:=hI (R = (.ok (xr.kids.getD 0 0),S2)) (by rw [HR7.o,if_pos hke]);have hz0:((xr.keys.length:Int) == 0) = true:=by rw [hke]; rfl
      have HFK:=Hi (vG HN6.o);clear hke;go_wp2_with (with_reducible refine xD9 (some 67) ?_);clear hz0 c0;refine zg Tryz.ndProg (by rfl) _ rfl c rfl lr xr HC6.o ?_;go_wp2_with fail;refine HFK.o.mono ?_;rintro e w7 ⟨rfl,hb⟩;have HB7:=Hi hb;clear hb;go_wp2_with fail
      go_ret2
      rw [HR6.o];exact ⟨HL6.o.carry H HB7.o,HK6.o.trans (zf.of_below HB7.o fun k hk=>zfG (HTH.o k hk) HK6.o.size),rfl⟩
     ·obtain ⟨RA,HRA⟩:=hY (xK n S2 xr);have HR6:=hI (R = match (generalizing:=false) RA with
       | (.error c,S3)=>(.error c,S3)
       | (.ok k,S3)=>match xR S3 k key with
        | .error c=>(.error c,S3)
        | .ok _=>(.ok k,S3)) (by rw [HR7.o,if_neg hke,HRA.o])
      have hz0:((xr.keys.length:Int) == 0) = false:=by rw [beq_eq_false_iff_ne]; omega
      have HAD:=Hi (V7 H HL6.o hg (by have h1:=HS2.o; have h2:S1.d.soft.length <= S.d.soft.length + 24:=HST.o; have h3:=HSS.o; omega) HN6.o);rw [<- HRA.o] at HAD;clear hke HR7;go_wp2_with (with_reducible refine xD9 (some 72) ?_);clear hz0 c0;refine zg Tryz.ndProg (by rfl) _ rfl c rfl lr xr HC6.o ?_;go_wp2_with fail;refine HAD.o.mono ?_;rintro e w7 ⟨hlaw,hkept,hm⟩;obtain ⟨R3,S3⟩:=RA;have HL7:=Hi hlaw;have HK7:=hI (zf K w w7) (HK6.o.trans hkept);clear hlaw hkept HAD;cases R3 with
      | error cd =>
       obtain ⟨h1,v,rfl,h3⟩:=hm;obtain ⟨tt,xx,rfl⟩:=h3.some h1;have HR5:=hI (R = (.error cd,S3)) HR6.o;have HE:=Hi (h3.mono HK6.o.size);have HC0:=Hi h1;clear h1 h3;go_wp2_with fail
       go_ret2
       rw [HR5.o];exact ⟨HL7.o,HK7.o,HC0.o,_,rfl,HE.o⟩
      | ok k =>
       obtain rfl:=hm;have HR5:=hI (R = match (generalizing:=false) xR S3 k key with
        | .error c=>(.error c,S3)
        | .ok _=>(.ok k,S3)) HR6.o
       have HGT:=Hi (VX H hg HL7.o k key);go_wp2_with fail;refine HGT.o.mono ?_;rintro e w8 hgp;cases hgg:xR S3 k key with
       | error cd =>
        rw [hgg] at hgp;have HR4:=hI (R = (.error cd,S3)) (by rw [HR5.o,hgg]);obtain ⟨h1,v,rfl,h3,hb⟩:=hgp;obtain ⟨tt,xx,rfl⟩:=h3.some h1;have HE:=Hi (h3.mono HK7.o.size);have HC0:=Hi h1;have HB8:=Hi hb;clear h1 h3 hb hgg HGT HR5;go_wp2_with fail
        go_ret2
        rw [HR4.o];exact ⟨HL7.o.carry H HB8.o,HK7.o.trans (zf.of_below HB8.o fun k hk=>zfG (HTH.o k hk) HK7.o.size),HC0.o,_,rfl,HE.o⟩
       | ok sv =>
        rw [hgg] at hgp;have HR4:=hI (R = (.ok k,S3)) (by rw [HR5.o,hgg]);obtain ⟨rfl,hb⟩:=hgp;have HB8:=Hi hb;clear hb hgg HGT HR5;go_wp2_with fail
        go_ret2
        rw [HR4.o];exact ⟨HL7.o.carry H HB8.o,HK7.o.trans (zf.of_below HB8.o fun k hk=>zfG (HTH.o k hk) HK7.o.size),rfl⟩
end
end
