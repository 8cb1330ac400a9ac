/-
  Pgr. Conditions: as said.
-/
import Derived.Test.YtafclmbecmgbnaaGreatDoorPgSpec
import Derived.Test.YtafclmbecmgbnaaGreatDoorTagSame
import Derived.Lib.SliceRun
/-
 zW. Conditions: as each theorem says.
-/
set_option maxRecDepth 100000
set_option maxHeartbeats 2000000
open Nat renaming le_refl -> ze3,lt_of_lt_of_le -> ze1
namespace Go.Proofs.YtafclmbecmgbnaaGreatDoor
open Go.RowKit
section
open Bits (Ok has with_ without both minus)
def kt (D:Nat) (s:Pst):List Value:=[ptr D] ++ zN s.sup ++ zp s.new ++ zp s.gone
structure yH (w:World) (P D:Nat) (s:Pst):Prop where
 sup:s.sup.Ok
 new:Ok s.new
 gone:Ok s.gone
 disk:w.rangeAt P 0 [ptr D]
 sb:w.rangeAt P 1 (zN s.sup)
 fresh:w.rangeAt P 33 (zp s.new)
 going:w.rangeAt P 63 (zp s.gone)
 free:∀ j,w.frozen? ⟨P,j,none⟩ = false
theorem qK {w:World} {b o:Nat} {xs ys:List Value} (h:w.rangeAt b o (xs ++ ys)):w.rangeAt b o xs /\ w.rangeAt b (o + xs.length) ys :=
 ⟨fun j v hv=>h j v (by rw [List.getElem?_append_left (List.getElem?_eq_some_iff.1 hv).1]; exact hv),fun j v hv=>by
  have:=h (xs.length + j) v (by rw [List.getElem?_append_right (Nat.le_add_right _ _),Nat.add_sub_cancel_left]; exact hv)
  rwa [<- Nat.add_assoc] at this⟩
theorem yH.of_cells {w:World} {P D:Nat} {s:Pst} (h1:s.sup.Ok) (h2:Ok s.new) (h3:Ok s.gone) (h:w.rangeAt P 0 (kt D s)) (hf:∀ j,w.frozen? ⟨P,j,none⟩ = false):yH w P D s:=by
 obtain ⟨h,g⟩:=qK h;obtain ⟨h,f⟩:=qK h;obtain ⟨h,b⟩:=qK h;have e1:(zN s.sup).length = 32:=zG h1;have e2:(zp s.new).length = 30:=by rw [zF,h2.len]
 simp only [List.length_append,List.length_singleton,e1,e2] at g f b;exact ⟨h1,h2,h3,h,b,f,g,hf⟩
theorem yH.lt {w:World} {P D:Nat} {s:Pst} (h:yH w P D s):P < w.1.size:=zt (h.disk 0 _ rfl)
theorem yH.block {w w':World} {P D:Nat} {s:Pst} (h:yH w P D s) (hb:w'.1[P]? = w.1[P]?):yH w' P D s :=
 ⟨h.sup,h.new,h.gone,fun j v hv=>(World.cell?_of_block (w:=w) (a:=⟨P,0 + j,none⟩) hb).trans (h.disk j v hv),fun j v hv=>(World.cell?_of_block (w:=w) (a:=⟨P,1 + j,none⟩) hb).trans (h.sb j v hv),
  fun j v hv=>(World.cell?_of_block (w:=w) (a:=⟨P,33 + j,none⟩) hb).trans (h.fresh j v hv),fun j v hv=>(World.cell?_of_block (w:=w) (a:=⟨P,63 + j,none⟩) hb).trans (h.going j v hv),
  fun j=>(World.frozen?_of_block (w:=w) (a:=⟨P,j,none⟩) hb).trans (h.free j)⟩
theorem yH.below {w w':World} {P D:Nat} {s:Pst} (h:yH w P D s) (hb:Below w.1.size w w'):yH w' P D s:=h.block (hb.block P h.lt)
theorem yH.at0 {w:World} {P D:Nat} {s:Pst} (h:yH w P D s):w.cell? ⟨P,0,none⟩ = some (ptr D):=h.disk 0 _ rfl
theorem yH.genC {w:World} {P D:Nat} {s:Pst} (h:yH w P D s):w.cell? ⟨P,1,none⟩ = some (.int .u32 (s.sup.gen:Int)):=h.sb 0 _ rfl
theorem yH.rootC {w:World} {P D:Nat} {s:Pst} (h:yH w P D s):w.cell? ⟨P,2,none⟩ = some (.int .i64 s.sup.root):=h.sb 1 _ rfl
theorem yH.usedC {w:World} {P D:Nat} {s:Pst} (h:yH w P D s):w.rangeAt P 3 (zp s.sup.used):=fun j v hv=>by
 have:=h.sb (2 + j) v (by rw [Nat.add_comm]; exact hv)
 rwa [<- Nat.add_assoc] at this
theorem yQ {w:World} {b o n:Nat} {cs:List Value} (h:w.rangeAt b o cs) (hl:cs.length = n) (hf:∀ j,w.frozen? ⟨b,j,none⟩ = false):w.there b o n :=
 fun j hj=>⟨by rw [h j _ (List.getElem?_eq_getElem (by omega))]; rfl,hf _⟩
theorem yH.putFresh {w:World} {P D:Nat} {s:Pst} (h:yH w P D s) {t:List Nat} (ht:Ok t):yH (w.setCells P 33 (zp t)) P D ⟨s.sup,t,s.gone⟩:=by
 have e1:(zN s.sup).length = 32:=zG h.sup;have e2:(zp t).length = 30:=by rw [zF,ht.len]
 have e3:(zp s.new).length = 30:=by rw [zF,h.new.len]
 exact ⟨h.sup,ht,h.gone,World.rangeAt_setCells_apart h.disk _ _ _ (.inr (.inl (by simp))),World.rangeAt_setCells_apart h.sb _ _ _ (.inr (.inl (by rw [e1]; decide))),
  World.rangeAt_setCells_same _ _ _ _ (yQ h.fresh (by rw [e2,e3]) h.free),World.rangeAt_setCells_apart h.going _ _ _ (.inr (.inr (by rw [e2]; decide))),fun j=>by rw [World.frozen?_setCells]; exact h.free j⟩
theorem yH.putGoing {w:World} {P D:Nat} {s:Pst} (h:yH w P D s) {t:List Nat} (ht:Ok t):yH (w.setCells P 63 (zp t)) P D ⟨s.sup,s.new,t⟩:=by
 have e1:(zN s.sup).length = 32:=zG h.sup;have e2:(zp t).length = 30:=by rw [zF,ht.len]
 have e3:(zp s.new).length = 30:=by rw [zF,h.new.len]
 have e4:(zp s.gone).length = 30:=by rw [zF,h.gone.len]
 exact ⟨h.sup,h.new,ht,World.rangeAt_setCells_apart h.disk _ _ _ (.inr (.inl (by simp))),World.rangeAt_setCells_apart h.sb _ _ _ (.inr (.inl (by rw [e1]; decide))),
  World.rangeAt_setCells_apart h.fresh _ _ _ (.inr (.inl (by rw [e3]; decide))),World.rangeAt_setCells_same _ _ _ _ (yQ h.going (by rw [e2,e4]) h.free),fun j=>by rw [World.frozen?_setCells]; exact h.free j⟩
theorem yH.putSb {w:World} {P D:Nat} {s:Pst} (h:yH w P D s) {x:Sb} (hx:x.Ok):yH (w.setCells P 1 (zN x)) P D ⟨x,s.new,s.gone⟩:=by
 have e1:(zN s.sup).length = 32:=zG h.sup;have e2:(zN x).length = 32:=zG hx;exact ⟨hx,h.new,h.gone,World.rangeAt_setCells_apart h.disk _ _ _ (.inr (.inl (by simp))),World.rangeAt_setCells_same _ _ _ _ (yQ h.sb (by rw [e1,e2]) h.free),
  World.rangeAt_setCells_apart h.fresh _ _ _ (.inr (.inr (by rw [e2]; decide))),World.rangeAt_setCells_apart h.going _ _ _ (.inr (.inr (by rw [e2]; decide))),fun j=>by rw [World.frozen?_setCells]; exact h.free j⟩
abbrev wS (P:Nat) (w w':World):Prop:=zh (fun b=>b < w.1.size /\ b ≠ P) w w'
theorem wS.of_below {P:Nat} {w w':World} (hb:Below w.1.size w w'):wS P w w':=zh.of_below hb fun _ h=>h.1
theorem wS.setCells {P:Nat} {w0 w:World} (h:wS P w0 w) (o:Nat) (vs:List Value):wS P w0 (w.setCells P o vs):=by
 exact zh.setCells h (fun hk=>hk.2 rfl) o vs
theorem wS.trans {P:Nat} {w w1 w2:World} (h:wS P w w1) (h2:wS P w1 w2):wS P w w2:=zh.trans h (h2.less fun _ hk=>⟨ze1 hk.1 h.size,hk.2⟩)
theorem wO {ops:Array Oper} {rest:List Oper} {op:Oper} {a:Act} {w:World} {Q:Exit -> Act -> World -> Prop} (hgd:op.guard = none) (x y:Operand) (ho:op.op = .store 63 x y)
  (b o:Nat) (s:List Nat) (hl:s.length = 30) (hx:a.eval x = .pointer (some ⟨b,o,none⟩)) (hy:a.eval y = stV s) (hb:w.there b o 30)
  (h:∀ w2,Hid (w2 = w.setCells b o (zp s)) -> wpList Tryz.prog ops Q rest (a.put op.dst undef) w2):wpList Tryz.prog ops Q (op :: rest) a w :=
 wpList_store_mid hgd _ x y ho b o (yb s) hx hy (by rw [yN,hl]; exact hb) (by rw [yN,hl]; exact Tryz.setSize) (jA s) (h _ (Hi rfl))
def Zi:zV:=fun B w P D s=>(∀ b,B b ↔ b = P) /\ yH w P D s
end
section
open Bits (Ok has with_ without both minus)
theorem yS (c:Int) (hc:c ≠ 0) (w:World):Calls Tryz.prog 57 #[.int .i64 c] w (yZ c w.1.size w):=by
 have H:=Hi hc;clear hc
 go_enter Tryz.func57,Tryz.ntmps57
 go_wp2_with fail;refine (yi _ w.1.size c _ w (.inr ⟨H.o,.base⟩) (ze3 _)).mono ?_;rintro e w' ⟨v,rfl,h1,h4⟩;have H1:=Hi h1;have H4:=Hi h4;clear h1 h4;go_wp2_with fail
 go_ret
 exact ⟨v,rfl,H1.o,H4.o⟩
theorem wX {ops:Array Oper} {S:World -> Prop} {op:Oper} {a:Act} (hw:Region.wanted op (yielded ops a.tmps) = true) (x:Operand) (ho:op.op = .load 63 x)
  (b o:Nat) (hx:a.eval x = .pointer (some ⟨b,o,none⟩)) (s:List Nat) (hl:s.length = 30) (hS:∀ w,S w -> w.rangeAt b o (zp s)):YieldsIf Tryz.prog ops S op (stV s) a :=
 yieldsIf_load_mid hw _ x ho b o hx (zp s) _ hS Tryz.underlying63 rfl (by rw [zF,hl]; exact Tryz.setSize)
structure ZV (w:World) (P D b:Nat) (s:Pst) (wr:World):Prop where
 own:yH wr P D s
 res:yA wr b zO
 below:Below w.1.size w wr
theorem ZV.carry {w wr w':World} {P D b:Nat} {s:Pst} (h:ZV w P D b s wr) (hb:Below wr.1.size wr w'):ZV w P D b s w' :=
 ⟨h.own.below hb,h.res.below hb (h.res.lt (by decide)),h.below.trans (hb.mono h.below.size)⟩
theorem ZV.new {w:World} {P D:Nat} {s:Pst} (h:yH w P D s):ZV w P D w.1.size s (w.alloc (.cells (yb zO) 63)):=by
 have hb:Below w.1.size w (w.alloc (.cells (yb zO) 63)):=(Below.refl _ _).alloc (ze3 _) _;exact ⟨h.below hb,yA.new _,hb⟩
theorem qk {w:World} {P D:Nat} {s:Pst} (h:yH w P D s) (hu:Ok s.sup.used):Calls Tryz.prog 78 #[ptr P] w fun e w'=>e = .returned (stV (both s.sup.used s.new)) /\ Below w.1.size w w':=by
 have hz:=Tryz.zeroSet;have HU:=Hi hu;have HN:=Hi h.new;obtain ⟨w1,HW⟩:=hY (w.alloc (.cells (yb zO) 63));obtain ⟨b,HBB⟩:=hY (w.1.size);have HS:=hI (ZV w P D b s w1) (by rw [HW.o,HBB.o]; exact .new h);have hbb:w.1.size <= b:=by rw [HBB.o]; exact ze3 _
 have HLE:=Hi hbb;clear h hu hbb
 go_enter Tryz.func78,Tryz.ntmps78
 go_upto_region 1 with (fail)
 rw [<- HW.o,<- HBB.o];clear HW HBB;refine wG (ZV w P D b s) 10 (by kernel_rfl) (by kernel_rfl) (fun wa HWA=>?_);have hS:ZV w P D b s wa:=by rw [HWA.o]; exact HS.o.carry (Below.refl _ _).drew
 clear HWA HS;refine xA9 0 3 (ptr P) hS ?_;refine xA9 1 4 (.pointer (some ⟨P,0,none⟩)) hS ?_;refine xA9 2 5 (.pointer (some ⟨P,1,none⟩)) hS ?_;refine xA9 3 6 (.pointer (some ⟨P,3,none⟩)) hS ?_;refine xG9 4 7 (stV s.sup.used) rfl (wX (by rfl) _ rfl P 3 rfl s.sup.used HU.o.len (fun _ h=>h.own.usedC)) hS ?_;refine xA9 5 8 (ptr P) hS ?_;refine xA9 6 9 (.pointer (some ⟨P,0,none⟩)) hS ?_;refine xA9 7 10 (.pointer (some ⟨P,33,none⟩)) hS ?_;refine xG9 8 11 (stV s.new) rfl (wX (by rfl) _ rfl P 33 rfl s.new HN.o.len (fun _ h=>h.own.fresh)) hS ?_;refine xJ9 9 (some 12) (fun K hK=>?_);go_simp;refine (zbk _ _ HU.o HN.o _).mono ?_;rintro e wn ⟨rfl,hb⟩;have hS2:=hS.carry hb;clear hb hS;refine hK.out _ _ hS2 ?_;clear hK K;have hS:=hS2;clear hS2
 try simp only [Act.put,pU]
 refine wpAnyH_done (by kernel_rfl) ?_ _;unfold wQ;simp only [List.drop_succ_cons,List.drop_zero];have hl:=(HU.o.both HN.o).len;refine yt rfl _ _ rfl b (both s.sup.used s.new) zO hl yz rfl rfl hS.res ?_;intro w4 HW4 HO4;go_wp2_with fail;exact bodyPost_ret (wB rfl _ _ b _ rfl HO4.o.at_ hl) rfl ⟨rfl,zA hS.below HW4.o HLE.o⟩
theorem yA.blockEq {w w':World} {b:Nat} {s:List Nat} (h:yA w b s) (hb:w'.1[b]? = w.1[b]?):yA w' b s :=
 ⟨fun j v hv=>(World.cell?_of_block (w:=w) (a:=⟨b,0 + j,none⟩) hb).trans (h.at_ j v hv),fun j=>(World.frozen?_of_block (w:=w) (a:=⟨b,j,none⟩) hb).trans (h.free j)⟩
structure WV (w:World) (P D b u:Nat) (s:Pst) (k:Nat) (wr:World):Prop where
 own:yH wr P D s
 res:yA wr b zO
 set:yA wr u (minus (both s.sup.used s.new) s.gone k)
 below:Below w.1.size w wr
 lo:w.1.size <= b
 lo2:w.1.size <= u
 ne:b ≠ u
 was:P < w.1.size
theorem WV.carry {w wr w':World} {P D b u k:Nat} {s:Pst} (hl:(minus (both s.sup.used s.new) s.gone k).length = 30) (h:WV w P D b u s k wr) (hb:Below wr.1.size wr w'):WV w P D b u s k w' :=
 ⟨h.own.below hb,h.res.below hb (h.res.lt (by decide)),h.set.below hb (h.set.lt (by omega)),h.below.trans (hb.mono h.below.size),h.lo,h.lo2,h.ne,h.was⟩
def zdm (w:World) (P D b u:Nat) (s:Pst) (i:Value) (wr:World):Prop:=∃ k:Nat,k <= 240 /\ i = .int .i64 (k:Int) /\ WV w P D b u s k wr
theorem qo {w:World} {P D:Nat} {s:Pst} (h:yH w P D s) (hu:Ok s.sup.used):Calls Tryz.prog 36 #[ptr P] w fun e w'=>e = .returned (stV s.used) /\ Below w.1.size w w':=by
 have hz:=Tryz.zeroSet;have HU:=Hi (hu.both h.new);have HU0:=Hi hu;have HG:=Hi h.gone;obtain ⟨w1,HW⟩:=hY (w.alloc (.cells (yb zO) 63));obtain ⟨b,HBB⟩:=hY (w.1.size);have HS:=hI (ZV w P D b s w1) (by rw [HW.o,HBB.o]; exact .new h);have hbb:w.1.size <= b:=by rw [HBB.o]; exact ze3 _
 have HLE:=Hi hbb;have HP:=Hi h.lt;clear h hu hbb
 go_enter Tryz.func36,Tryz.ntmps36
 go_upto_region 1 with (fail)
 rw [<- HW.o,<- HBB.o];clear HW HBB;go_wp2_with fail;refine (qk HS.o.own HU0.o).mono ?_;rintro e w2 ⟨rfl,hb⟩;have HS2:=Hi (HS.o.carry hb);obtain ⟨t,HT⟩:=hY (both s.sup.used s.new);have HTL:=hI (t.length = 30) (by rw [HT.o]; exact HU.o.len);rw [<- HT.o];clear hb HS;go_wp2_with (with_reducible refine xD9 (none) ?_);refine zw rfl _ _ _ rfl (yb zO) (yb t) _ rfl rfl rfl (by rw [yN,HTL.o]; exact Tryz.setSize) (by rw [yN,yN,HTL.o]; rfl) (jA _) ?_;obtain ⟨u,HUU⟩:=hY (w2.1.size);obtain ⟨w3,HW⟩:=hY (w2.alloc (.cells (yb t) 63));rw [<- HW.o,<- HUU.o];have HS3:=hI (WV w P D b u s 0 w3) (by
  have hb:Below w2.1.size w2 w3:=by rw [HW.o]; exact bA
  have hl:=HS2.o.res.lt (by decide);have h3:=HS2.o.carry hb;refine ⟨h3.own,h3.res,?_,h3.below,HLE.o,by rw [HUU.o]; exact HS2.o.below.size,by rw [HUU.o]; omega,HP.o⟩;show yA w3 u (both s.sup.used s.new);rw [<- HT.o,HW.o,HUU.o];exact yA.new _)
 clear HW HUU HS2 HT HTL;go_wp2_with fail
 go_loopw [10] (fun i wr=>zdm w P D b u s i wr) (fun i _=>240 - (intOf i).toNat)
 case atStart=>exact ⟨0,by decide,rfl,HS3.o⟩
 case round =>
  obtain ⟨k,hk,rfl,hst⟩:=hrel;have HML:=Hi (HU.o.minus (t:=s.gone) k).len;have HS:=Hi hst;clear hst HS3;by_cases hlt:k < 240
  ·go_wp2_with (with_reducible refine xD9 (some 16) ?_);refine yG (by rfl) _ rfl P 63 rfl s.gone HG.o.len HS.o.own.going ?_;go_wp2_with fail;refine (ZT s.gone HG.o k hlt _).mono ?_;have HM:=hI (minus (both s.sup.used s.new) s.gone (k + 1) = if has s.gone k then without (minus (both s.sup.used s.new) s.gone k) k else minus (both s.sup.used s.new) s.gone k) rfl;have HMO:=Hi (HU.o.minus (t:=s.gone) k);obtain ⟨v,HV⟩:=hY (has s.gone k);rw [<- HV.o];rintro e w4 ⟨rfl,hb⟩;have HS4:=Hi (HS.o.carry HML.o hb);clear hb HS;cases v with
   | true =>
    rw [<- HV.o,if_pos rfl] at HM;obtain ⟨m,HMM⟩:=hY (minus (both s.sup.used s.new) s.gone k);rw [<- HMM.o] at HM HMO HML;have HSET:=hI (yA w4 u m) (by rw [HMM.o]; exact HS4.o.set);go_wp2_with (with_reducible refine xD9 (some 19) ?_);refine yd (by rfl) _ rfl u rfl m HML.o HSET.o.at_ ?_;go_wp2_with fail;refine (YT m HMO.o k hlt _).mono ?_;rintro e w5 ⟨rfl,hb⟩;have HS5:=hI (WV w P D b u s k w5) (HS4.o.carry (by rw [<- HMM.o]; exact HML.o) hb);have HSET5:=Hi (HSET.o.below hb (HSET.o.lt (by have:=HML.o; omega)));have HWL:=hI ((without m k).length = 30) (HMO.o.without k).len;obtain ⟨q,HQ⟩:=hY (without m k);rw [<- HQ.o] at HWL ⊢;clear hb HS4 HSET;go_wp2_with (with_reducible refine xD9 (none) ?_);refine yt rfl _ _ rfl u q m HWL.o HML.o rfl rfl HSET5.o ?_;intro w6 HW6 HO6;go_wp2_with fail
    go_roundw
    case rel =>
     refine ⟨k + 1,hlt,by go_num,?_⟩;have h5:=HS5.o;have hk6:zh (fun j=>j ≠ u) w5 w6:=by rw [HW6.o]; exact zh.setCells (zh.refl _ _) (fun hh=>hh rfl) _ _
     have hne:P ≠ u:=by
      have:=h5.was;have:=h5.lo2;omega
     exact ⟨h5.own.block (hk6.block P hne),h5.res.blockEq (hk6.block b h5.ne),by rw [HM.o,<- HQ.o]; exact HO6.o,zA h5.below HW6.o h5.lo2,h5.lo,h5.lo2,h5.ne,h5.was⟩
    case measure=>simp [intOf]; omega
   | false =>
    rw [<- HV.o,if_neg (by decide)] at HM;go_wp2_with fail
    go_roundw
    case rel=>exact ⟨k + 1,hlt,by go_num,HS4.o.own,HS4.o.res,by rw [HM.o]; exact HS4.o.set,HS4.o.below,HS4.o.lo,HS4.o.lo2,HS4.o.ne,HS4.o.was⟩
    case measure=>simp [intOf]; omega
  ·obtain rfl:k = 240:=by omega
   have HSU:=hI (yA wr u s.used) HS.o.set;have HUL:Hid (s.used.length = 30):=HML;go_wp2_with (with_reducible refine xD9 (some 23) ?_);refine yd (by rfl) _ rfl u rfl s.used HUL.o HSU.o.at_ ?_;refine yt rfl _ _ rfl b s.used zO HUL.o yz rfl rfl HS.o.res ?_;intro w6 HW6 HO6;go_wp2_with fail;exact bodyPost_ret (wB rfl _ _ b _ rfl HO6.o.at_ HUL.o) rfl ⟨rfl,zA HS.o.below HW6.o HS.o.lo⟩
theorem zbF (w:World):Calls Tryz.prog 36 #[.pointer none] w fun e w'=>e = .returned (stV zO) /\ Below w.1.size w w':=by
 have hz:=Tryz.zeroSet;obtain ⟨w1,HW⟩:=hY (w.alloc (.cells (yb zO) 63));obtain ⟨b,HBB⟩:=hY (w.1.size);have HO:=hI (yA w1 b zO) (by rw [HW.o,HBB.o]; exact yA.new _);have HB:=hI (Below w.1.size w w1) (by rw [HW.o]; exact bA)
 go_enter Tryz.func36,Tryz.ntmps36
 go_upto_region 1 with (fail)
 rw [<- HW.o,<- HBB.o];clear HW;go_wp2_with (with_reducible refine xD9 (some 7) ?_);refine jE rfl rfl ?_;refine yt rfl _ _ rfl b zO zO yz yz rfl rfl HO.o ?_;intro w6 HW6 HO6;go_wp2_with fail;exact bodyPost_ret (wB rfl _ _ b _ rfl HO6.o.at_ yz) rfl ⟨rfl,zA HB.o HW6.o (by rw [HBB.o]; exact ze3 _)⟩
end
section
open Bits (Ok has with_ without both minus)
theorem zbA {w:World} {P D:Nat} {s:Pst} (h:yH w P D s):Calls Tryz.prog 19 #[ptr P] w fun e w'=>e = .returned (.int .i64 s.sup.root) /\ Below w.1.size w w':=by
 have hc:=h.rootC;clear h
 go_enter Tryz.func19,Tryz.ntmps19
 go_wp2_with fail
 go_ret
 exact ⟨rfl,Below.refl _ _⟩
theorem zda {w:World} {P D:Nat} {s:Pst} (h:yH w P D s):Calls Tryz.prog 53 #[ptr P] w fun e w'=>e = .returned (.int .u32 (s.sup.gen:Int)) /\ Below w.1.size w w':=by
 have hc:=h.genC;clear h
 go_enter Tryz.func53,Tryz.ntmps53
 go_wp2_with fail
 go_ret
 exact ⟨rfl,Below.refl _ _⟩
theorem zbB (w:World):Calls Tryz.prog 19 #[.pointer none] w fun e w'=>e = .returned (.int .i64 0) /\ Below w.1.size w w':=by
 go_enter Tryz.func19,Tryz.ntmps19
 go_wp2_with fail
 go_ret
 exact ⟨rfl,Below.refl _ _⟩
theorem zdb (w:World):Calls Tryz.prog 53 #[.pointer none] w fun e w'=>e = .returned (.int .u32 0) /\ Below w.1.size w w':=by
 go_enter Tryz.func53,Tryz.ntmps53
 go_wp2_with fail
 go_ret
 exact ⟨rfl,Below.refl _ _⟩
theorem QZ (w:World):Calls Tryz.prog 23 #[.pointer none] w fun e w'=>e = .returned (.tuple #[]) /\ Below w.1.size w w':=by
 go_enter Tryz.func23,Tryz.ntmps23
 go_wp2_with fail;exact bodyPost_ret (results_none rfl _ _ _) rfl ⟨rfl,Below.refl _ _⟩
theorem zbt (w:World) (i:Int):Calls Tryz.prog 123 #[.pointer none,.int .i64 i] w (Two (txt []) 9 w):=by
 go_enter Tryz.func123,Tryz.ntmps123
 go_wp2_with fail;refine (yS 9 (by decide) w).mono ?_;rintro e w' ⟨v,rfl,he,hb⟩;have HE:=Hi he;have HB:=Hi hb;clear he hb;go_wp2_with fail
 go_ret2
 exact ⟨v,rfl,HE.o,HB.o⟩
theorem zdi (w:World) (t:ByteArray):Calls Tryz.prog 30 #[.pointer none,.string t] w (Two (.int .i64 0) 9 w):=by
 go_enter Tryz.func30,Tryz.ntmps30
 go_wp2_with fail;refine (yS 9 (by decide) w).mono ?_;rintro e w' ⟨v,rfl,he,hb⟩;have HE:=Hi he;have HB:=Hi hb;clear he hb;go_wp2_with fail
 go_ret2
 exact ⟨v,rfl,HE.o,HB.o⟩
theorem zbm (w:World) (i:Int):Calls Tryz.prog 106 #[.pointer none,.int .i64 i] w (yZ 9 w.1.size w):=by
 go_enter Tryz.func106,Tryz.ntmps106
 go_wp2_with fail;refine (yS 9 (by decide) w).mono ?_;rintro e w' ⟨v,rfl,he,hb⟩;have HE:=Hi he;have HB:=Hi hb;clear he hb;go_wp2_with fail
 go_ret
 exact ⟨v,rfl,HE.o,HB.o⟩
theorem Jh (w:World) (i:Int):Calls Tryz.prog 22 #[.pointer none,.int .i64 i] w (yZ 9 w.1.size w):=by
 go_enter Tryz.func22,Tryz.ntmps22
 go_wp2_with fail;refine (yS 9 (by decide) w).mono ?_;rintro e w' ⟨v,rfl,he,hb⟩;have HE:=Hi he;have HB:=Hi hb;clear he hb;go_wp2_with fail
 go_ret
 exact ⟨v,rfl,HE.o,HB.o⟩
theorem zc3 (w:World):(zeroValue 5).run Tryz.prog w = .ok (.int .u8 0) w:=by kernel_rfl
theorem WW {w:World} {P o:Nat} {s:List Nat} (h:w.rangeAt P o (zp s)) (hl:s.length = 30) (hf:∀ j,w.frozen? ⟨P,j,none⟩ = false) (ty:TypeId) :
  (Builtin.clear_ #[75] ty #[.slice (some ⟨P,o,none⟩) 30 30]).run Tryz.prog w = .ok (.tuple #[]) (w.setCells P o (zp wU)) :=
 Lib.run_clear_slice w _ _ ty (.int .u8 0) Tryz.underlying75 zc3 rfl rfl P o 30 30 (by decide) (fun j hj=>(yQ h (by rw [zF,hl]) hf j hj).1) (fun j _=>hf _)
theorem vI {w:World} {P D:Nat} {s:Pst} (h:yH w P D s):Calls Tryz.prog 70 #[ptr P] w fun e w'=>e = .returned (.tuple #[]) /\ yH w' P D s.abort /\ wS P w w':=by
 have hc1:=WW h.fresh h.new.len h.free;obtain ⟨w1,HW⟩:=hY (w.setCells P 33 (zp wU));have h1:yH w1 P D ⟨s.sup,wU,s.gone⟩:=by rw [HW.o]; exact h.putFresh xM
 have HK:=hI (wS P w w1) (by rw [HW.o]; exact wS.setCells (zh.refl _ _) _ _);rw [<- HW.o] at hc1;have hc2:=WW h1.going h1.gone.len h1.free;obtain ⟨w2,HW2⟩:=hY (w1.setCells P 63 (zp wU));have H2:=hI (yH w2 P D s.abort) (by rw [HW2.o]; exact h1.putGoing xM);have HK2:=hI (wS P w w2) (by rw [HW2.o]; exact wS.setCells HK.o _ _);rw [<- HW2.o] at hc2;clear h h1 HW HW2 HK
 go_enter Tryz.func70,Tryz.ntmps70
 go_wp2_with fail;exact bodyPost_end (results_none rfl _ _ _) rfl ⟨rfl,H2.o,HK2.o⟩
theorem QY {w:World} {P D:Nat} {s:Pst} (h:yH w P D s):Calls Tryz.prog 23 #[ptr P] w fun e w'=>e = .returned (.tuple #[]) /\ yH w' P D s.abort /\ wS P w w':=by
 have HF:=Hi (vI h);clear h
 go_enter Tryz.func23,Tryz.ntmps23
 go_wp2_with fail;refine HF.o.mono ?_;rintro e w' ⟨rfl,h1,h2⟩;have H1:=Hi h1;have H2:=Hi h2;clear h1 h2 HF;go_wp2_with fail;exact bodyPost_end (results_none rfl _ _ _) rfl ⟨rfl,H1.o,H2.o⟩
theorem zdD {s:Pst} (h1:Ok s.sup.used) (h2:Ok s.new) (i:Int):ZD (both s.sup.used s.new) i = jb s i:=by
 unfold ZD jb ju;by_cases hi:0 <= i /\ i < 240
 ·rw [Bits.has_both h1 h2 (by omega)]; rfl
 ·rw [decide_eq_false hi]; rfl
theorem zbs {K:Nat -> Prop} {w:World} {P D n:Nat} {d:Dk} {s:Pst} {data firm:Nat -> List UInt8} (ho:yH w P D s) (hd:zE K w D n d) (h:yP n d s data firm) (hdn:d.down = false) (hg:zM w) (i:Int) :
  Calls Tryz.prog 123 #[ptr P,.int .i64 i] w (Two (if jb s i = true then txt (data i.toNat) else txt []) (if jb s i = true then 0 else 4) w):=by
 have HO:=Hi ho;have HU:=Hi h.held.good.used;have HD:=Hi hd;have HG:=Hi hg;have HBO:=Hi (h.held.good.used.both h.newOk);have HZ:=Hi (zdD h.held.good.used h.newOk i);cases hi:jb s i with
 | false =>
  rw [hi] at HZ;clear h ho hd hg hdn hi;rw [if_neg (by decide),if_neg (by decide)]
  go_enter Tryz.func123,Tryz.ntmps123
  go_wp2_with fail;refine (qk HO.o HU.o).mono ?_;rintro e w1 ⟨rfl,hb⟩;have HB1:=Hi hb;clear hb;go_wp2_with fail;refine (jF _ HBO.o i w1).mono ?_;rw [HZ.o];rintro e w2 ⟨rfl,hb⟩;have HB2:=Hi (HB1.o.trans (hb.mono HB1.o.size));clear hb;go_wp2_with fail;refine (yS 4 (by decide) w2).mono ?_;rintro e w3 ⟨v,rfl,he,hb⟩;have HE:=Hi (he.mono HB2.o.size);have HB3:=Hi (HB2.o.trans (hb.mono HB2.o.size));clear he hb;go_wp2_with fail
  go_ret2
  exact ⟨v,rfl,HE.o,HB3.o⟩
 | true =>
  rw [hi] at HZ;rw [if_pos rfl,if_pos rfl];have hi2:(0 <= i /\ i < 240) /\ s.isIn i.toNat = true:=by
   unfold jb at hi;rw [Bool.and_eq_true,decide_eq_true_eq] at hi;exact hi
  obtain ⟨k,rfl⟩:∃ k:Nat,i = (k:Int):=⟨i.toNat,by omega⟩
  have hk:k < 240:=by omega
  have hin:s.isIn k = true:=hi2.2;obtain ⟨hsec,hlen⟩:=h.page hk hin;have hkn:=(h.in_range hk hin).2;have hc0:xF d.down n (k:Int) = 0:=by rw [hdn]; exact qx hkn
  have hcl:xX 0 2 (vh (data k)) = 0:=by
   unfold xX vh;rw [if_neg (by decide),if_neg (by rw [WX (by decide) hlen]; decide),if_pos (by rw [JX]; rfl)]
  have HL:=hI (∀ w2,Below w.1.size w w2 -> Calls Tryz.prog 127 #[ptr D,.int .i64 (k:Int),.int .i64 2] w2 (jH 0 (vh (data k)) w2)) fun w2 hb=>by
   have:=Xy (hd.carry hb) (k:Int) 2 (vh (data k)) hsec.2 (fun _=>hsec.1) (hg.carry hb);rw [hc0,hcl] at this;exact this
  have HT:=hI (Value.string ⟨(dB (vh (data k))).toArray⟩ = txt (data k)) (by
   unfold vh txt;rw [JG hlen])
  obtain ⟨x,HX⟩:=hY (data k);rw [Int.toNat_natCast,<- HX.o];rw [<- HX.o] at HT HL;clear h ho hd hg hdn hi hi2 hin hsec hlen hkn hc0 hcl HX
  go_enter Tryz.func123,Tryz.ntmps123
  go_wp2_with fail;refine (qk HO.o HU.o).mono ?_;rintro e w1 ⟨rfl,hb⟩;have HB1:=Hi hb;clear hb;go_wp2_with fail;refine (jF _ HBO.o (k:Int) w1).mono ?_;rw [HZ.o];rintro e w2 ⟨rfl,hb⟩;have HB2:=Hi (HB1.o.trans (hb.mono HB1.o.size));have hc:=(HO.o.below HB2.o).at0;clear hb;go_wp2_with fail;refine (HL.o w2 HB2.o).mono ?_;rintro e w3 ⟨v,rfl,he,hb⟩;obtain rfl:=he.zero;rw [if_pos rfl,HT.o];have HB3:=Hi (HB2.o.trans (hb.mono HB2.o.size));clear he hb hc;unfold txt;go_wp2_with fail;refine (yi _ w3.1.size 0 _ w3 (.nil _ _) (ze3 _)).mono ?_;rintro e w4 ⟨v,rfl,he,hb⟩;obtain rfl:=he.zero;have HB4:=Hi (HB3.o.trans (hb.mono HB3.o.size));clear he hb;go_wp2_with fail
  go_ret2
  exact ⟨.nilIface,rfl,.nil _ _,HB4.o⟩
end
section
open Bits (Ok has with_ without both minus)
theorem zW.own {K:Nat -> Prop} {w:World} {P D n:Nat} {d:Dk} {s:Pst} (h:zW Zi K w P D n d s):yH w P D s:=by
 obtain ⟨B,h1,_⟩:=h;exact h1.2
theorem zW.notK {K:Nat -> Prop} {w:World} {P D n:Nat} {d:Dk} {s:Pst} (h:zW Zi K w P D n d s):¬ K P:=by
 obtain ⟨B,h1,h2,h3,h4⟩:=h;exact h4 P ((h1.1 P).2 rfl)
theorem zW.there {K:Nat -> Prop} {w:World} {P D n:Nat} {d:Dk} {s:Pst} (h:zW Zi K w P D n d s):zZ K w:=by
 obtain ⟨B,h1,h2,h3,h4⟩:=h;exact h3
theorem zW.diskP {K:Nat -> Prop} {w:World} {P D n:Nat} {d:Dk} {s:Pst} (h:zW Zi K w P D n d s):zE (fun b=>K b \/ b = P) w D n d:=by
 obtain ⟨B,h1,h2,h3,h4⟩:=h;refine h2.more (Below.refl _ _) fun k hk=>?_
 rcases hk with hk | hk
 ·exact .inl (.inl hk)
 ·exact .inl (.inr ((h1.1 k).2 hk))
theorem zW.mk {K:Nat -> Prop} {w:World} {P D n:Nat} {d:Dk} {s:Pst} (h1:yH w P D s) (h2:zE (fun b=>K b \/ b = P) w D n d) (h3:zZ K w) (h4:¬ K P):zW Zi K w P D n d s :=
 ⟨fun b=>b = P,⟨fun _=>Iff.rfl,h1⟩,h2,h3,fun b hb=>by rw [hb]; exact h4⟩
theorem zW.off {K:Nat -> Prop} {w w':World} {P D n:Nat} {d:Dk} {s s':Pst} (h:zW Zi K w P D n d s) (ho:yH w' P D s') (hk:wS P w w'):zW Zi K w' P D n d s' /\ zh K w w':=by
 have hK:∀ k,K k -> k < w.1.size /\ k ≠ P:=fun k hk=>⟨h.there k hk,fun e=>h.notK (e ▸ hk)⟩
 refine ⟨zW.mk ho (h.diskP.off (B:=fun b=>b = P) (fun b hb=>.inr hb) hk fun k hk=>.inl hk) (fun k hk2=>ze1 (h.there k hk2) hk.size) h.notK,hk.less hK⟩
theorem zc9 {w:World} {P D:Nat} {s:Pst} (h:yH w P D s) (i:Int) (hi:vD s.used i = false):Calls Tryz.prog 106 #[ptr P,.int .i64 i] w (yZ 4 w.1.size w):=by
 have HO:=Hi h;have HUO:=hI (Ok s.used) ((h.sup.used.both h.new).minus 240);have HI:=hI (ZD s.used i = false) hi;clear h hi
 go_enter Tryz.func106,Tryz.ntmps106
 go_wp2_with fail;refine (qo HO.o HO.o.sup.used).mono ?_;rintro e w1 ⟨rfl,hb⟩;have HB1:=Hi hb;clear hb;go_wp2_with fail;refine (jF _ HUO.o i w1).mono ?_;rw [HI.o];rintro e w2 ⟨rfl,hb⟩;have HB2:=Hi (HB1.o.trans (hb.mono HB1.o.size));clear hb;go_wp2_with fail;refine (yS 4 (by decide) w2).mono ?_;rintro e w3 ⟨v,rfl,he,hb⟩;have HE:=Hi (he.mono HB2.o.size);have HB3:=Hi (HB2.o.trans (hb.mono HB2.o.size));clear he hb;go_wp2_with fail
 go_ret
 exact ⟨v,rfl,HE.o,HB3.o⟩
theorem zbn {w:World} {P D:Nat} {s:Pst} (h:yH w P D s) (k:Nat) (hk:k < 240) (hu:has s.used k = true) :
  Calls Tryz.prog 106 #[ptr P,.int .i64 (k:Int)] w fun e w'=>e = .returned .nilIface /\ yH w' P D (s.drop k) /\ wS P w w':=by
 have HO:=Hi h;have HUO:=hI (Ok s.used) ((h.sup.used.both h.new).minus 240);have HI:=Hi hu;have HNO:=Hi h.new;have HGO:=Hi h.gone;clear h hu
 go_enter Tryz.func106,Tryz.ntmps106
 go_wp2_with fail;refine (qo HO.o HO.o.sup.used).mono ?_;rintro e w1 ⟨rfl,hb⟩;have HB1:=Hi hb;clear hb;go_wp2_with fail;refine (ZT _ HUO.o k hk w1).mono ?_;rw [HI.o];rintro e w2 ⟨rfl,hb⟩;have HB2:=Hi (HB1.o.trans (hb.mono HB1.o.size));have HO2:=Hi (HO.o.below HB2.o);clear hb;go_wp2_with (with_reducible refine xD9 (some 17) ?_);refine yG (by rfl) _ rfl P 33 rfl s.new HNO.o.len HO2.o.fresh ?_;go_wp2_with fail;refine (ZT _ HNO.o k hk w2).mono ?_;obtain ⟨v,HV⟩:=hY (has s.new k);rw [<- HV.o];rintro e w3 ⟨rfl,hb⟩;have HB3:=Hi (HB2.o.trans (hb.mono HB2.o.size));have HO3:=Hi (HO.o.below HB3.o);clear hb HO2 HB2;cases v with
 | true =>
  go_wp2_with (with_reducible refine xD9 (some 24) ?_);refine yG (by rfl) _ rfl P 33 rfl s.new HNO.o.len HO3.o.fresh ?_;go_wp2_with fail;refine (YT _ HNO.o k hk w3).mono ?_;rintro e w4 ⟨rfl,hb⟩;have HB4:=Hi (HB3.o.trans (hb.mono HB3.o.size));have HO4:=Hi (HO.o.below HB4.o);have HSL:=hI (s.drop k = ⟨s.sup,without s.new k,s.gone⟩) (by unfold Pst.drop; rw [if_pos (by rw [<- HV.o])]);have HTO:=Hi (HNO.o.without k);obtain ⟨t,HT⟩:=hY (without s.new k);rw [<- HT.o] at HSL HTO ⊢;clear hb HB3 HO3;go_wp2_with (with_reducible refine xD9 (none) ?_);refine wO rfl _ _ rfl P 33 t HTO.o.len rfl rfl (yQ HO4.o.fresh (by rw [zF,HNO.o.len]) HO4.o.free) ?_;intro w5 HW5;go_wp2_with fail
  go_ret
  refine ⟨rfl,by rw [HSL.o,HW5.o]; exact HO4.o.putFresh HTO.o,by rw [HW5.o]; exact wS.setCells (wS.of_below HB4.o) _ _⟩
 | false =>
  go_wp2_with (with_reducible refine xD9 (some 33) ?_);refine yG (by rfl) _ rfl P 63 rfl s.gone HGO.o.len HO3.o.going ?_;go_wp2_with fail;refine (XJ _ HGO.o k hk w3).mono ?_;rintro e w4 ⟨rfl,hb⟩;have HB4:=Hi (HB3.o.trans (hb.mono HB3.o.size));have HO4:=Hi (HO.o.below HB4.o);have HSL:=hI (s.drop k = ⟨s.sup,s.new,with_ s.gone k⟩) (by unfold Pst.drop; rw [if_neg (by rw [<- HV.o]; decide)]);have HTO:=Hi (HGO.o.with_ k);obtain ⟨t,HT⟩:=hY (with_ s.gone k);rw [<- HT.o] at HSL HTO ⊢;clear hb HB3 HO3;go_wp2_with (with_reducible refine xD9 (none) ?_);refine wO rfl _ _ rfl P 63 t HTO.o.len rfl rfl (yQ HO4.o.going (by rw [zF,HGO.o.len]) HO4.o.free) ?_;intro w5 HW5;go_wp2_with fail
  go_ret
  refine ⟨rfl,by rw [HSL.o,HW5.o]; exact HO4.o.putGoing HTO.o,by rw [HW5.o]; exact wS.setCells (wS.of_below HB4.o) _ _⟩
end
section
open Bits (Ok has with_ without both minus)
theorem vm {L:Nat -> Prop} {D n:Nat} {d:Dk} {w:World} (h:zE L w D n d) (ht:zZ L w) (hd:d.down = false) (hn:3 <= n) (g:Nat) (r:Int) (u:List Nat) (hu:Ok u) (hgl:g + 1 < 4294967296) (hr:yD ⟨g + 1,r,u⟩ = true)
  (hg:∀ w',zh L w w' -> zM w') :
  Calls Tryz.prog 60 #[ptr D,.int .u32 (g:Int),.int .i64 r,stV u] w fun e w'=>e = .returned (.tuple #[sbV ⟨g + 1,r,u⟩,.nilIface]) /\ zE L w' D n (K7 d ⟨g + 1,r,u⟩) /\ zh L w w':=by
 have hz:=Tryz.sbProg.zero;obtain ⟨m,HM⟩:=hY (g + 1);rw [<- HM.o] at hr hgl ⊢;have hwr:IntKind.u32.wrap ((g:Int) + 1) = (m:Int):=by
  have:=HM.o;rw [IntKind.wrap_u32];omega
 have hne:((g:Int) == 4294967295) = false:=by
  have:=HM.o;simp;omega
 have HXO:=hI ((⟨m,r,u⟩:Sb).Ok) ⟨hgl,hu⟩;have HR:=Hi hr;have HT:=Hi ht;have HG:=Hi hg;have HUO:=Hi hu;obtain ⟨b,HB⟩:=hY (w.1.size);obtain ⟨w1,HW⟩:=hY ((w.alloc (.cells (yb u) 63)).alloc (.cells (zR Sb.zero) 103));have HST:=hI (yA w1 b u /\ zY w1 (b + 1) Sb.zero /\ Below w.1.size w w1) (by
  rw [HW.o,HB.o];refine ⟨(yA.new (w:=w) 63).below ((Below.refl _ _).alloc (ze3 _) _) (by simp),?_,((Below.refl _ _).alloc (ze3 _) _).alloc (by simp) _⟩;have:=zY.new (w:=w.alloc (.cells (yb u) 63)) (x:=Sb.zero) 103;simpa using this)
 have HD:=Hi h;have HDN:=Hi hd;have HN:=Hi hn;clear h ht hd hn hr hg hu hgl
 go_enter Tryz.func60,Tryz.ntmps60
 go_upto_region 1 with (fail)
 rw [<- HW.o,<- HB.o];clear HW;go_wp2_with (with_reducible refine xD9 (some 19) ?_);refine yd (by rfl) _ rfl b rfl u HUO.o.len HST.o.1.at_ ?_;refine YO Tryz.sbProg rfl _ _ _ rfl ⟨m,r,u⟩ HXO.o rfl rfl rfl ?_;obtain ⟨x,HX⟩:∃ x:Sb,Hid (x = ⟨m,r,u⟩):=Hy;rw [<- HX.o] at HXO HR ⊢;go_wp2_with (with_reducible refine xD9 (none) ?_);refine zw rfl _ _ _ rfl (zR Sb.zero) (zR x) _ rfl rfl rfl (by rw [zH HXO.o]; exact Tryz.sbProg.size) (by rw [zH HXO.o,zH Sb.Ok.zero]) (xj _) ?_;obtain ⟨c,HC⟩:=hY (w1.1.size);obtain ⟨w2,HW⟩:=hY (w1.alloc (.cells (zR x) 103));rw [<- HW.o,<- HC.o];have hb2:Below w1.1.size w1 w2:=by rw [HW.o]; exact bA
 have HB2:=hI (Below w.1.size w w2) (HST.o.2.2.trans (hb2.mono HST.o.2.2.size));have HO2:=hI (zY w2 (b + 1) Sb.zero) (HST.o.2.1.below hb2 HST.o.2.1.lt);have HN2:=hI (zY w2 c x) (by rw [HW.o,HC.o]; exact zY.new _);have HCL:=hI (w.1.size <= c) (by rw [HC.o]; exact HST.o.2.2.size);have HBL:=hI (w.1.size <= b + 1) (by rw [HB.o]; omega);have HNE:=hI (c ≠ b + 1) (by have:=HST.o.2.1.lt; rw [HC.o]; omega);obtain ⟨L2,HL2⟩:∃ L2:Nat -> Prop,Hid (L2 = fun k=>L k \/ k = b + 1 \/ k = c):=Hy;have HD2:=hI (zE L2 w2 D n d) (HD.o.more HB2.o fun k hk=>by
  rw [HL2.o] at hk;rcases hk with hk | rfl | rfl
  ·exact .inl hk
  ·exact .inr HBL.o
  ·exact .inr HCL.o)
 have HT2:=hI (zZ L2 w2) fun k hk=>by
  rw [HL2.o] at hk;rcases hk with hk | rfl | rfl
  ·exact ze1 (HT.o k hk) HB2.o.size
  ·exact HO2.o.lt
  ·exact HN2.o.lt
 have HLL:=hI (∀ k,L k -> L2 k) fun k hk=>by rw [HL2.o]; exact .inl hk
 have HL21:=hI (L2 (b + 1)) (by rw [HL2.o]; exact .inr (.inl rfl));have HL22:=hI (L2 c) (by rw [HL2.o]; exact .inr (.inr rfl));have HG2:=hI (∀ w',zh L2 w2 w' -> zM w') fun w' hk=>HG.o w' ((zh.of_below HB2.o fun k hk=>HT.o k hk).trans (hk.less HLL.o))
 clear hb2 HW HST HD HC HL2;go_wp2_with (with_reducible refine xD9 (some 22) ?_);refine zX Tryz.sbProg (by rfl) _ rfl c rfl x HXO.o HN2.o.at_ ?_;go_wp2_with fail;refine (Jv HD2.o HT2.o HDN.o HN.o x HXO.o HR.o HG2.o).mono ?_;rintro e w3 ⟨rfl,hd3,hk3⟩;have HD3:=Hi hd3;have HO3:=Hi (HO2.o.block (hk3.block _ HL21.o));have HN3:=Hi (HN2.o.block (hk3.block _ HL22.o));have HK3:=hI (zh L w w3) ((zh.of_below HB2.o fun k hk=>HT.o k hk).trans (hk3.less HLL.o));clear hd3 hk3 HD2 HO2 HN2;go_wp2_with (with_reducible refine xD9 (some 29) ?_);refine zX Tryz.sbProg (by rfl) _ rfl c rfl x HXO.o HN3.o.at_ ?_;refine yr Tryz.sbProg rfl _ _ rfl (b + 1) x Sb.zero HXO.o Sb.Ok.zero rfl rfl HO3.o ?_;intro w5 HW5 HO5;go_wp2_with fail;have hk5:zh (fun k=>k < w3.1.size /\ ¬ k = b + 1) w3 w5:=by rw [HW5.o]; exact zh.setCells (zh.refl _ _) (fun hh=>hh.2 rfl) _ _
 refine bodyPost_ret (xd Tryz.sbProg rfl _ _ (b + 1) x .nilIface rfl rfl HO5.o.at_ HXO.o) rfl ⟨by rw [HX.o],?_,?_⟩
 ·rw [<- HX.o];exact HD3.o.off (B:=fun k=>k = b + 1) (fun k hk=>by rw [hk]; exact HL21.o) hk5 fun k hk=>.inl (HLL.o k hk)
 ·rw [HW5.o];refine zh.setCells HK3.o (fun hh=>?_) _ _;have:=HT.o _ hh;have:=HBL.o;omega
def Yi:Array Value:=([Value.pointer none] ++ zN Sb.zero ++ zp wU ++ zp wU).toArray
theorem Tryz.pagerTwo (x y:Value):Tryz.prog.built 118 [(0,x),(1,y)] = Instr.fill ((#[(0,1),(1,32),(33,30),(63,30)]:Array (Nat × Nat))[·]?) Yi [(0,x),(1,y)]:=by kernel_rfl
theorem YX (D:Nat) {x:Sb} (hx:x.Ok):Tryz.prog.built 118 [(0,ptr D),(1,sbV x)] = some (kt D (Pst.opened x)).toArray:=by
 rw [Tryz.pagerTwo];have hl:(zN Sb.zero).length = 32:=zG Sb.Ok.zero;have hn:(zp wU).length = 30:=by rw [zF]; exact xM.len
 have hx2:(zR x).size = 32:=zH hx;have hz:Yi.size = 93:=by simp [Yi,hl,hn]
 rw [vg _ _ 0 _ _ 0 1 rfl rfl (by rw [hz]; decide)];have e0:Yi.toList = .pointer none :: (zN Sb.zero ++ zp wU ++ zp wU):=by simp [Yi]
 rw [e0];rw [vg _ _ 1 (sbV x) _ 1 32 rfl hx2 (by simp [Value.cells,hl,hn])];rw [Instr.fill];congr 1;simp [Value.cells,kt,zR,Pst.opened,hl]
theorem kW {ops:Array Oper} {rest:List Oper} {o:Oper} {a:Act} {w:World} {Q:Exit -> Act -> World -> Prop} (hgd:o.guard = none) (x y:Operand) (ho:o.op = .build 118 #[(0,x),(1,y)]) (D:Nat) (s:Sb) (hs:s.Ok)
  (hx:a.eval x = ptr D) (hy:a.eval y = sbV s)
  (h:wpList Tryz.prog ops Q rest (a.put o.dst (.agg (kt D (Pst.opened s)).toArray)) w):wpList Tryz.prog ops Q (o :: rest) a w :=
 wpList_plain hgd fun _ hK=>by
  have e:(#[(0,x),(1,y)].map fun (i,x)=>(i,a.eval x)).toList = [(0,ptr D),(1,sbV s)]:=by
   simp only [List.map_toArray,List.map_cons,List.map_nil,hx,hy]
  exact wp_build 118 _ ho (by rw [e,YX D hs]; rfl) (hK _ _ (by rw [e,YX D hs]; exact h))
theorem yH.newP {w:World} {D:Nat} {x:Sb} (hx:x.Ok) (t:TypeId):yH (w.alloc (.cells (kt D (Pst.opened x)).toArray t)) w.1.size D (Pst.opened x):=by
 refine yH.of_cells hx xM xM (fun j v hv=>?_) fun j=>?_
 ·have hb:(w.alloc (.cells (kt D (Pst.opened x)).toArray t)).1[w.1.size]? = some (.cells (kt D (Pst.opened x)).toArray t (0,0)):=heap_alloc_last w _;rw [cell_of_row _ w.1.size (0 + j) _ _ _ hb,Nat.zero_add];simpa using hv
 ·exact frozen_of_row _ _ j _ _ (heap_alloc_last w _)
theorem Vl {D:Value} {w:World} (c:Int) (h0:c ≠ 0) (h:Calls Tryz.prog 52 #[D] w (kK c none w)):Calls Tryz.prog 27 #[D] w (Two (.pointer none) c w):=by
 have HC:=Hi h0;have HH:=Hi h;clear h h0;have hz:=Tryz.sbProg.zero
 go_enter Tryz.func27,Tryz.ntmps27
 go_wp2_with fail;refine HH.o.mono ?_;rintro e w1 ⟨v,rfl,he,hb⟩;obtain ⟨t,y,rfl⟩:=he.some HC.o;have HE:=Hi he;have HB:=Hi hb;clear he hb HH;go_wp2_with (with_reducible refine xD9 (none) ?_);refine zw rfl _ _ _ rfl (zR Sb.zero) (zR Sb.zero) _ rfl rfl rfl (by rw [zH Sb.Ok.zero]; exact Tryz.sbProg.size) rfl (xj _) ?_;obtain ⟨w2,HW⟩:=hY (w1.alloc (.cells (zR Sb.zero) 103));rw [<- HW.o];have hb2:Below w1.1.size w1 w2:=by rw [HW.o]; exact bA
 have HB2:=hI (Below w.1.size w w2) (HB.o.trans (hb2.mono HB.o.size));have HE2:=Hi (HE.o.below hb2);clear hb2 HW HB HE;go_wp2_with fail;refine (yi _ w.1.size c _ w2 HE2.o HB2.o.size).mono ?_;rintro e w3 ⟨v,rfl,he,hb⟩;have HE3:=Hi he;have HB3:=Hi (HB2.o.trans (hb.mono HB2.o.size));clear he hb;go_wp2_with fail
 go_ret2
 exact ⟨v,rfl,HE3.o,HB3.o⟩
theorem zbu {D:Nat} {w:World} {x:Sb} (hx:x.Ok) (h:Calls Tryz.prog 52 #[ptr D] w (kK 0 (some x) w)):Calls Tryz.prog 27 #[ptr D] w fun e w' =>
  ∃ P,e = .returned (.tuple #[ptr P,.nilIface]) /\ yH w' P D (Pst.opened x) /\ w.1.size <= P /\ Below w.1.size w w':=by
 have HXO:=Hi hx;have HH:=hI (Calls Tryz.prog 52 #[ptr D] w fun e w'=>e = .returned (.tuple #[sbV x,.nilIface]) /\ Below w.1.size w w') (h.mono (by
  rintro e w' ⟨v,rfl,he,hb⟩;obtain rfl:=he.zero;exact ⟨rfl,hb⟩))
 clear h hx;have hz:=Tryz.sbProg.zero
 go_enter Tryz.func27,Tryz.ntmps27
 go_wp2_with fail;refine HH.o.mono ?_;rintro e w1 ⟨rfl,hb⟩;have HB:=Hi hb;clear hb HH;go_wp2_with (with_reducible refine xD9 (none) ?_);refine zw rfl _ _ _ rfl (zR Sb.zero) (zR x) _ rfl rfl rfl (by rw [zH HXO.o]; exact Tryz.sbProg.size) (by rw [zH HXO.o,zH Sb.Ok.zero]) (xj _) ?_;obtain ⟨c,HC⟩:=hY (w1.1.size);obtain ⟨w2,HW⟩:=hY (w1.alloc (.cells (zR x) 103));rw [<- HW.o,<- HC.o];have HN:=hI (zY w2 c x) (by rw [HW.o,HC.o]; exact zY.new _);have hb2:Below w1.1.size w1 w2:=by rw [HW.o]; exact bA
 have HB2:=hI (Below w.1.size w w2) (HB.o.trans (hb2.mono HB.o.size));clear hb2 HW HB;go_wp2_with (with_reducible refine xD9 (some 16) ?_);refine zX Tryz.sbProg (by rfl) _ rfl c rfl x HXO.o HN.o.at_ ?_;refine kW rfl _ _ rfl D x HXO.o rfl rfl ?_;go_wp2_with fail
 go_ret2
 exact ⟨w2.1.size,rfl,.newP HXO.o _,HB2.o.size,HB2.o.alloc HB2.o.size _⟩
end
section
open Bits (Ok has with_ without both minus)
structure Jr (L:Nat -> Prop) (w:World) (P D n:Nat) (d:Dk) (s:Pst) (wr:World):Prop where
 own:yH wr P D s
 disk:zE L wr D n d
 below:Below w.1.size w wr
theorem Jr.carry {L:Nat -> Prop} {w wr w':World} {P D n:Nat} {d:Dk} {s:Pst} (h:Jr L w P D n d s wr) (hb:Below wr.1.size wr w'):Jr L w P D n d s w' :=
 ⟨h.own.below hb,h.disk.carry hb,h.below.trans (hb.mono h.below.size)⟩
theorem zW.ofStore {K:Nat -> Prop} {w w4 w5:World} {P D n:Nat} {d:Dk} {s:Pst} (hK:¬ K P) (ht:zZ K w) (hd:zE (fun b=>K b \/ b = P) w4 D n d) (hk:zh (fun b=>K b \/ b = P) w w4) (ho:yH w5 P D s) (h5:wS P w4 w5) :
  zW Zi K w5 P D n d s /\ zh K w w5:=by
 have h4:zh K w w5:=(hk.less fun k hk=>.inl hk).trans (h5.less fun k hk2=>⟨ze1 (ht k hk2) hk.size,fun e=>hK (e ▸ hk2)⟩);exact ⟨zW.mk ho (hd.off (B:=fun b=>b = P) (fun b hb=>.inr hb) h5 fun k hk=>.inl hk) (fun k hk2=>ze1 (ht k hk2) h4.size) hK,h4⟩
theorem V8 (P:Nat) (w:World) (t:ByteArray) (ht:120 < t.size):Calls Tryz.prog 30 #[ptr P,.string t] w (Two (.int .i64 0) 8 w):=by
 have hl:(120:Int) < (t.size:Int):=by omega
 clear ht
 go_enter Tryz.func30,Tryz.ntmps30
 go_wp2_with fail;refine (yS 8 (by decide) w).mono ?_;rintro e w' ⟨v,rfl,he,hb⟩;have HE:=Hi he;have HB:=Hi hb;clear he hb;go_wp2_with fail
 go_ret2
 exact ⟨v,rfl,HE.o,HB.o⟩
theorem V7 {K:Nat -> Prop} {w:World} {P D n:Nat} {d:Dk} {s:Pst} {data firm:Nat -> List UInt8} (hA:zW Zi K w P D n d s) (h:yP n d s data firm) (t:ByteArray) (ht:t.size <= 120) (hf:s.first n = none) :
  Calls Tryz.prog 30 #[ptr P,.string t] w (Two (.int .i64 0) 6 w):=by
 obtain ⟨L,HL⟩:∃ L:Nat -> Prop,Hid (L = fun b=>K b \/ b = P):=Hy;have HO:=Hi hA.own;have HD:=Hi hA.diskP;have HU:=Hi h.held.good.used;have HBO:=Hi (h.held.good.used.both h.newOk);have HF:=hI (ZC (both s.sup.used s.new) 2 (n:Int) = none) (by
  have:=h.le;rw [<- hf];unfold ZC Pst.first;congr 1;omega)
 have hlen:¬ (120:Int) < (t.size:Int):=by omega
 rw [<- HL.o] at HD;clear hA h ht hf HL
 go_enter Tryz.func30,Tryz.ntmps30
 go_upto_region 5 with (fail)
 refine wp_region_held (S:=Jr L w P D n d s) (by kernel_rfl) ?_;change wpAnyH _ _ _ _ _ _ _ _ w.drew;obtain ⟨wa,HWA⟩:=hY (w.drew);rw [<- HWA.o];have hS:Jr L w P D n d s wa:=by rw [HWA.o]; exact ⟨HO.o.below (Below.refl _ _).drew,HD.o.carry (Below.refl _ _).drew,(Below.refl _ _).drew⟩
 clear HWA;refine xA9 0 17 (ptr P) hS ?_;refine xA9 2 19 (ptr P) hS ?_;refine xA9 3 20 (.pointer (some ⟨P,0,none⟩)) hS ?_;refine xA9 4 21 (.pointer (some ⟨P,0,none⟩)) hS ?_;refine xG9 5 22 (ptr D) rfl (.inl ⟨by rfl,fun _ h=>by have c0:=h.own.at0; go_simp⟩) hS ?_;refine xJ9 1 (some 18) (fun K0 hK=>?_);go_simp;refine (qk hS.own HU.o).mono ?_;rintro e wn ⟨rfl,hb⟩;have hS2:=hS.carry hb;clear hb hS;refine hK.out _ _ hS2 ?_;clear hK K0;have hS:=hS2;clear hS2;refine xJ9 6 (some 23) (fun K0 hK=>?_);go_simp;refine (kL hS.disk).mono ?_;rintro e wn ⟨rfl,rfl⟩;refine hK.out _ _ hS ?_;clear hK K0;refine xJ9 7 (some 24) (fun K0 hK=>?_);go_simp;refine (WO _ HBO.o 2 (n:Int) _).mono ?_;rw [HF.o];rintro e wn ⟨rfl,hb⟩;have hS2:=hS.carry hb;clear hb hS;unfold JL;dsimp only;refine hK.out _ _ hS2 ?_;clear hK K0;have hS:=hS2;clear hS2;refine xA9 8 16 (.tuple #[.int .i64 0,.bool false]) hS ?_;refine xA9 9 25 (.int .i64 0) hS ?_;refine xA9 10 26 (.bool false) hS ?_;refine xA9 11 6 (.int .i64 0) hS ?_;refine xA9 12 7 (.bool false) hS ?_;refine wpAnyH_done (by kernel_rfl) ?_ _;clear HD HO;have HS:=Hi hS;clear hS;go_wp2_with fail;refine (yS 6 (by decide) _).mono ?_;rintro e w' ⟨v,rfl,he,hb⟩;have HE:=Hi (he.mono HS.o.below.size);have HB:=Hi (HS.o.below.trans (hb.mono HS.o.below.size));clear he hb;go_wp2_with fail
 go_ret2
 exact ⟨v,rfl,HE.o,HB.o⟩
theorem XP {t:ByteArray} (ht:t.size <= 120):jU 2 t = 0:=by
 unfold jU;rw [if_neg (by decide),if_neg (by omega)]
theorem Qa {t:ByteArray} (ht:t.size <= 120):jY 2 t = pgB (vh t.data.toList):=by
 unfold jY;rw [if_pos (XP ht)];rfl
theorem Jq {K:Nat -> Prop} {w:World} {P D n:Nat} {d:Dk} {s:Pst} {data firm:Nat -> List UInt8} (hA:zW Zi K w P D n d s) (h:yP n d s data firm) (hdn:d.down = false) (hg:∀ w',zh K w w' -> yC w') (hsl:d.soft.length <= 100000)
  (t:ByteArray) (ht:t.size <= 120) (k:Nat) (hf:s.first n = some k) :
  Calls Tryz.prog 30 #[ptr P,.string t] w fun e w'=>e = .returned (.tuple #[.int .i64 (k:Int),.nilIface]) /\ zW Zi K w' P D n (d.write k (pgB (vh t.data.toList))) (s.at_ k) /\ zh K w w':=by
 obtain ⟨L,HL⟩:∃ L:Nat -> Prop,Hid (L = fun b=>K b \/ b = P):=Hy;have HNK:=Hi hA.notK;have HT:=Hi hA.there;have HKN:=hI (k < n /\ k < 240) (by
  have:=h.first_some hf;have:=h.le;omega)
 have HTL:=hI (zZ L w) fun j hj=>by
  rw [HL.o] at hj;rcases hj with hj | rfl
  ·exact hA.there j hj
  ·exact hA.own.lt
 have HLP:=hI (L P) (by rw [HL.o]; exact .inr rfl);have HLK:=hI (∀ j,K j -> L j) fun j hj=>by rw [HL.o]; exact .inl hj
 have HG:=Hi hg;have HDN:=Hi hdn;have HSL:=hI (d.soft.length <= 1000000) (by omega);have HPL:=Hi (Qa ht);have HCL:=Hi (XP ht);have HNO:=Hi h.newOk;have HO:=Hi hA.own;have HD:=Hi hA.diskP;have HU:=Hi h.held.good.used;have HBO:=Hi (h.held.good.used.both h.newOk);have HF:=hI (ZC (both s.sup.used s.new) 2 (n:Int) = some k) (by
  have:=h.le;rw [<- hf];unfold ZC Pst.first;congr 1;omega)
 have hlen:¬ (120:Int) < (t.size:Int):=by omega
 rw [<- HL.o] at HD;clear hA h ht hf hdn hg hsl
 go_enter Tryz.func30,Tryz.ntmps30
 go_upto_region 5 with (fail)
 refine wp_region_held (S:=Jr L w P D n d s) (by kernel_rfl) ?_;change wpAnyH _ _ _ _ _ _ _ _ w.drew;obtain ⟨wa,HWA⟩:=hY (w.drew);rw [<- HWA.o];have hS:Jr L w P D n d s wa:=by rw [HWA.o]; exact ⟨HO.o.below (Below.refl _ _).drew,HD.o.carry (Below.refl _ _).drew,(Below.refl _ _).drew⟩
 clear HWA;refine xA9 0 17 (ptr P) hS ?_;refine xA9 2 19 (ptr P) hS ?_;refine xA9 3 20 (.pointer (some ⟨P,0,none⟩)) hS ?_;refine xA9 4 21 (.pointer (some ⟨P,0,none⟩)) hS ?_;refine xG9 5 22 (ptr D) rfl (.inl ⟨by rfl,fun _ h=>by have c0:=h.own.at0; go_simp⟩) hS ?_;refine xJ9 1 (some 18) (fun K0 hK=>?_);go_simp;refine (qk hS.own HU.o).mono ?_;rintro e wn ⟨rfl,hb⟩;have hS2:=hS.carry hb;clear hb hS;refine hK.out _ _ hS2 ?_;clear hK K0;have hS:=hS2;clear hS2;refine xJ9 6 (some 23) (fun K0 hK=>?_);go_simp;refine (kL hS.disk).mono ?_;rintro e wn ⟨rfl,rfl⟩;refine hK.out _ _ hS ?_;clear hK K0;refine xJ9 7 (some 24) (fun K0 hK=>?_);go_simp;refine (WO _ HBO.o 2 (n:Int) _).mono ?_;rw [HF.o];rintro e wn ⟨rfl,hb⟩;have hS2:=hS.carry hb;clear hb hS;unfold JL;dsimp only;refine hK.out _ _ hS2 ?_;clear hK K0;have hS:=hS2;clear hS2;refine xA9 8 16 (.tuple #[.int .i64 (k:Int),.bool true]) hS ?_;refine xA9 9 25 (.int .i64 (k:Int)) hS ?_;refine xA9 10 26 (.bool true) hS ?_;refine xA9 11 6 (.int .i64 (k:Int)) hS ?_;refine xA9 12 7 (.bool true) hS ?_;refine wpAnyH_done (by kernel_rfl) ?_ _;clear HD HO;have HS:=Hi hS;have hc:=hS.own.at0;clear hS;go_wp2_with fail;have hkk:zh L w wn:=zh.of_below HS.o.below HTL.o;refine (YQ HS.o.disk (HTL.o.kept hkk) HDN.o HKN.o.1 HSL.o 2 t HCL.o (HG.o _ (hkk.less HLK.o)).crc).mono ?_;rintro e w3 ⟨rfl,hd3,hk3⟩;rw [HPL.o] at hd3;have HK3:=Hi (hkk.trans hk3);have HD3:=Hi hd3;have HO3:=Hi (HS.o.own.block (hk3.block P HLP.o));clear hd3 hk3 hkk hc HS;go_wp2_with (with_reducible refine xD9 (some 45) ?_);refine yG (by rfl) _ rfl P 33 rfl s.new HNO.o.len HO3.o.fresh ?_;go_wp2_with fail;refine (XJ _ HNO.o k HKN.o.2 w3).mono ?_;rintro e w4 ⟨rfl,hb⟩;have HO4:=Hi (HO3.o.below hb);have HD4:=Hi (HD3.o.carry hb);have HK4:=hI (zh L w w4) (HK3.o.trans (zh.of_below hb fun j hj=>HTL.o.kept HK3.o j hj));have HTO:=Hi (HNO.o.with_ k);have HSA:=hI (s.at_ k = ⟨s.sup,with_ s.new k,s.gone⟩) rfl;obtain ⟨q,HQ⟩:=hY (with_ s.new k);rw [<- HQ.o] at HTO HSA ⊢;clear hb HO3 HD3 HK3;go_wp2_with (with_reducible refine xD9 (none) ?_);refine wO rfl _ _ rfl P 33 q HTO.o.len rfl rfl (yQ HO4.o.fresh (by rw [zF,HNO.o.len]) HO4.o.free) ?_;intro w5 HW5;go_wp2_with fail
 go_ret2
 rw [HSA.o];exact ⟨rfl,zW.ofStore HNK.o HT.o (HL.o ▸ HD4.o) (HL.o ▸ HK4.o) (by rw [HW5.o]; exact HO4.o.putFresh HTO.o) (by rw [HW5.o]; exact wS.setCells (zh.refl _ _) _ _)⟩
end
section
open Bits (Ok has with_ without both minus)
theorem xO {ops:Array Oper} {rest:List Oper} {op:Oper} {a:Act} {w:World} {Q:Exit -> Act -> World -> Prop} (hgd:op.guard = none) (x y:Operand) (ho:op.op = .store 103 x y)
  (b o:Nat) (s:Sb) (hs:s.Ok) (hx:a.eval x = .pointer (some ⟨b,o,none⟩)) (hy:a.eval y = sbV s) (hb:w.there b o 32)
  (h:∀ w2,Hid (w2 = w.setCells b o (zN s)) -> wpList Tryz.prog ops Q rest (a.put op.dst undef) w2):wpList Tryz.prog ops Q (op :: rest) a w :=
 wpList_store_mid hgd _ x y ho b o (zR s) hx hy (by rw [zH hs]; exact hb) (by rw [zH hs]; exact Tryz.sbProg.size) (xj s) (h _ (Hi rfl))
section
variable {P:Program} {ops:Array Oper} {md:Region.Mode} {Q:Exit -> Act -> World -> Prop} {S:World -> Prop}
theorem K8 {i j:Nat} {oi oj:Oper} {fuel:Nat} {listed:Array Bool} {a:Act} {w:World} (hi:ops[i]? = some oi) (hj:ops[j]? = some oj) (hr:Region.ready md ops listed = [i,j])
  (h:∀ K:Act -> World -> Prop,Hid (∀ a w,S w -> wpAnyH P md ops Q S fuel (listed.setIfInBounds i true) a w -> K a w) -> if Region.wanted oi (yielded ops a.tmps) = true then Oper.wp P oi a w K Q else K (a.put oi.dst undef) w)
  (h':∀ K:Act -> World -> Prop,Hid (∀ a w,S w -> wpAnyH P md ops Q S fuel (listed.setIfInBounds j true) a w -> K a w) -> if Region.wanted oj (yielded ops a.tmps) = true then Oper.wp P oj a w K Q else K (a.put oj.dst undef) w):wpAnyH P md ops Q S (fuel + 1) listed a w :=
 wpAnyH_ready hr (by simp) (AllReadyH.cons hi (fun K hK=>h K (fun a w h1 h2=>hK.out a w h1 fun _=>h2)) (AllReadyH.cons hj (fun K hK=>h' K (fun a w h1 h2=>hK.out a w h1 fun _=>h2)) AllReadyH.nil))
end
structure Zh (P D u:Nat) (s:Pst) (q:List Nat) (wr:World):Prop where
 own:yH wr P D s
 set:yA wr u q
theorem zdY {s:Pst} {r:Int} (h:rootOk s r = false):r ≠ 0 /\ ZD s.used r = false:=by
 unfold rootOk at h;have:=Bool.or_eq_false_iff.1 h;exact ⟨of_decide_eq_false this.1,this.2⟩
theorem zcI {s:Pst} {r:Int} (h:rootOk s r = true) (h0:¬ r = 0):ZD s.used r = true:=by
 unfold rootOk at h;rw [decide_eq_false h0,Bool.false_or] at h;exact h
theorem Vm {w:World} {P D:Nat} {s:Pst} (h:yH w P D s) (r:Int) (hr:rootOk s r = false):Calls Tryz.prog 22 #[ptr P,.int .i64 r] w (yZ 1 w.1.size w):=by
 have hz:=Tryz.zeroSet;have HO:=Hi h;have HUO:=hI (Ok s.used) ((h.sup.used.both h.new).minus 240);obtain ⟨h0,hh⟩:=zdY hr;have HI:=Hi hh;clear h hr hh
 go_enter Tryz.func22,Tryz.ntmps22
 go_wp2_with fail;refine (qo HO.o HO.o.sup.used).mono ?_;obtain ⟨q,HQ⟩:=hY (s.used);rw [<- HQ.o] at HUO HI ⊢;rintro e w1 ⟨rfl,hb⟩;have HB1:=Hi hb;clear hb;go_wp2_with (with_reducible refine xD9 (none) ?_);refine zw rfl _ _ _ rfl (yb zO) (yb q) _ rfl rfl rfl (by rw [yN,HUO.o.len]; exact Tryz.setSize) (by rw [yN,yN,HUO.o.len]; rfl) (jA _) ?_;obtain ⟨u,HUU⟩:=hY (w1.1.size);obtain ⟨w2,HW⟩:=hY (w1.alloc (.cells (yb q) 63));rw [<- HW.o,<- HUU.o];have HSU:=hI (yA w2 u q) (by rw [HW.o,HUU.o]; exact yA.new _);have HB2:=hI (Below w.1.size w w2) (by rw [HW.o]; exact HB1.o.alloc HB1.o.size _);clear HW HUU;go_wp2_with (with_reducible refine xD9 (some 16) ?_);refine yd (by unfold Region.wanted; simp [yielded,h0]) _ rfl u rfl q HUO.o.len HSU.o.at_ ?_;go_wp2_with fail;refine (jF _ HUO.o r w2).mono ?_;rw [HI.o];rintro e w3 ⟨rfl,hb⟩;have HB3:=Hi (HB2.o.trans (hb.mono HB2.o.size));clear hb;go_wp2_with fail;refine (yS 1 (by decide) w3).mono ?_;rintro e w4 ⟨v,rfl,he,hb⟩;have HE:=Hi (he.mono HB3.o.size);have HB4:=Hi (HB3.o.trans (hb.mono HB3.o.size));clear he hb;go_wp2_with fail
 go_ret
 exact ⟨v,rfl,HE.o,HB4.o⟩
theorem Wx {K:Nat -> Prop} {w:World} {P D n:Nat} {d:Dk} {s:Pst} {data firm:Nat -> List UInt8} (hA:zW Zi K w P D n d s) (h:yP n d s data firm) (hdn:d.down = false) (hg:∀ w',zh K w w' -> yC w')
  (r:Int) (hr:rootOk s r = true) (hgl:s.sup.gen + 1 < 4294967296) :
  Calls Tryz.prog 22 #[ptr P,.int .i64 r] w fun e w'=>e = .returned .nilIface /\ zW Zi K w' P D n (xC d (s.next r)) (s.commit r) /\ zh K w w':=by
 have hz:=Tryz.zeroSet;have hz2:=Tryz.sbProg.zero;have HNK:=Hi hA.notK;have HT:=Hi hA.there;have HO:=Hi hA.own;have HD:=Hi hA.diskP;have HG:=Hi hg;have HDN:=Hi hdn;have HN:=Hi h.held.three;have HRY:=Hi (fun h0=>zcI hr h0);have HR:=Hi (h.next_right hr);have HGL:=Hi hgl;have HQO:=Hi h.usedOk;have HXO:=Hi (h.next_ok hgl r);obtain ⟨x,HX⟩:=hY (s.next r);have HSC:=hI (s.commit r = (⟨x,s.new,s.gone⟩:Pst).abort) (by rw [HX.o]; rfl);rw [<- HX.o] at HXO ⊢;rw [HSC.o];clear hA h hdn hg hr hgl;unfold Pst.next at HR HX;obtain ⟨g,HGG⟩:=hY (s.sup.gen);obtain ⟨q,HQ⟩:=hY (s.used);rw [<- HGG.o] at HR HX HGL;rw [<- HQ.o] at HR HX HQO HRY
 go_enter Tryz.func22,Tryz.ntmps22
 go_wp2_with fail;refine (qo HO.o HO.o.sup.used).mono ?_;rw [<- HQ.o];rintro e w1 ⟨rfl,hb⟩;have HB1:=Hi hb;clear hb;go_wp2_with (with_reducible refine xD9 (none) ?_);refine zw rfl _ _ _ rfl (yb zO) (yb q) _ rfl rfl rfl (by rw [yN,HQO.o.len]; exact Tryz.setSize) (by rw [yN,yN,HQO.o.len]; rfl) (jA _) ?_;obtain ⟨u,HUU⟩:=hY (w1.1.size);obtain ⟨w2,HW⟩:=hY (w1.alloc (.cells (yb q) 63));rw [<- HW.o,<- HUU.o];have HSU:=hI (yA w2 u q) (by rw [HW.o,HUU.o]; exact yA.new _);have HB2:=hI (Below w.1.size w w2) (by rw [HW.o]; exact HB1.o.alloc HB1.o.size _);have HUL:=hI (w.1.size <= u) (by rw [HUU.o]; exact HB1.o.size);clear HW HUU;obtain ⟨L,HL⟩:∃ L:Nat -> Prop,Hid (L = fun b=>K b \/ b = P):=Hy;obtain ⟨L2,HL2⟩:∃ L2:Nat -> Prop,Hid (L2 = fun b=>L b \/ b = u):=Hy;have HTL:=hI (zZ L w) fun j hj=>by
  rw [HL.o] at hj;rcases hj with hj | rfl
  ·exact HT.o j hj
  ·exact HO.o.lt
 have HKL:=hI (∀ j,K j -> L j) fun j hj=>by rw [HL.o]; exact .inl hj
 have HLP:=hI (L P) (by rw [HL.o]; exact .inr rfl);have HLL:=hI (∀ j,L j -> L2 j) fun j hj=>by rw [HL2.o]; exact .inl hj
 have HLU:=hI (L2 u) (by rw [HL2.o]; exact .inr rfl);rw [<- HL.o] at HD;have HDA2:=hI (zE L2 w2 D n d) (HD.o.more HB2.o fun k hk=>by
  rw [HL2.o] at hk;rcases hk with hk | rfl
  ·exact .inl hk
  ·exact .inr HUL.o)
 have HTA2:=hI (zZ L2 w2) fun j hj=>by
  rw [HL2.o] at hj;rcases hj with hj | rfl
  ·exact ze1 (HTL.o j hj) HB2.o.size
  ·exact HSU.o.lt (by have:=HQO.o.len; omega)
 have HGA2:=hI (∀ w3,Below w2.1.size w2 w3 -> ∀ w',zh L w3 w' -> zM w') fun w3 hb w' hk=>(HG.o w' ((zh.of_below (HB2.o.trans (hb.mono HB2.o.size)) fun k hk=>HT.o k hk).trans (hk.less HKL.o))).crc
 have HO2:=Hi (HO.o.below HB2.o);clear HD HL2;by_cases h0:r = 0
 ·have HRZ:Hid (yD ⟨g + 1,r,q⟩ = true):=HR;have hr0:(r != 0) = false:=by rw [h0]; rfl
  clear h0 HRY;go_upto_region 6 with (fail)
  obtain ⟨w3,HW3⟩:=hY (w2);rw [<- HW3.o];have HB3:=hI (Below w2.1.size w2 w3) (by rw [HW3.o]; exact Below.refl _ _);clear HW3 hr0 HRZ;refine wp_region_held (S:=Zh P D u s q) (by kernel_rfl) ?_;change wpAnyH _ _ _ _ _ _ _ _ w3.drew;obtain ⟨wa,HWA⟩:=hY (w3.drew);rw [<- HWA.o];have hb3:Below w2.1.size w2 wa:=by rw [HWA.o]; exact HB3.o.drew
  have hS:Zh P D u s q wa:=⟨HO2.o.below hb3,HSU.o.below hb3 (HSU.o.lt (by have:=HQO.o.len; omega))⟩
  have HDA:=hI (zE L2 wa D n d) (HDA2.o.carry hb3);have HTA:=hI (zZ L2 wa) (HTA2.o.below hb3);have HGA:=hI (∀ w',zh L wa w' -> zM w') (HGA2.o wa hb3);have HKA:=hI (zh L w wa) ((zh.of_below HB2.o fun k hk=>HTL.o k hk).trans (zh.of_below hb3 fun k hk=>ze1 (HTL.o k hk) HB2.o.size));have HWS:=hI (w.1.size <= wa.1.size) HKA.o.size;clear HWA hb3 HB3 HDA2 HTA2 HGA2;refine xA9 0 23 (ptr P) hS ?_;refine xA9 1 24 (.pointer (some ⟨P,0,none⟩)) hS ?_;refine xA9 2 25 (.pointer (some ⟨P,0,none⟩)) hS ?_;refine xG9 3 26 (ptr D) rfl (.inl ⟨by rfl,fun _ h=>by have c0:=h.own.at0; go_simp⟩) hS ?_;refine xA9 4 27 (ptr P) hS ?_;refine xA9 5 28 (.pointer (some ⟨P,0,none⟩)) hS ?_;refine xA9 6 29 (.pointer (some ⟨P,1,none⟩)) hS ?_;refine xA9 7 30 (.pointer (some ⟨P,1,none⟩)) hS ?_;refine xG9 8 31 (.int .u32 (g:Int)) rfl (.inl ⟨by rfl,fun _ h=>by have c0:=h.own.genC; rw [<- HGG.o] at c0; go_simp⟩) hS ?_;refine xA9 9 32 (.int .i64 r) hS ?_;refine xG9 10 33 (stV q) rfl (wX (by rfl) _ rfl u 0 rfl q HQO.o.len (fun _ h=>h.set.at_)) hS ?_;refine K8 (i:=11) (j:=15) (oi:=⟨some 34,_,_,_,_,_⟩) (oj:=⟨some 6,_,_,_,_,_⟩) rfl rfl (by kernel_rfl) (fun K0 hK=>?_) (fun K0 hK=>?_)
  ·go_simp;refine (vm HDA.o HTA.o HDN.o HN.o g r q HQO.o HGL.o HR.o (Hi fun w9 hk9=>HGA.o w9 (hk9.less HLL.o)).out).mono ?_;rintro e wn ⟨rfl,hdn2,hkn⟩;rw [<- HX.o] at hdn2 ⊢;have hS2:Zh P D u s q wn:=⟨hS.own.block (hkn.block P (HLL.o P HLP.o)),hS.set.blockEq (hkn.block u HLU.o)⟩
   have HDN2:=Hi hdn2;have HKN:=hI (zh L w wn) (HKA.o.trans (hkn.less HLL.o));have HTN:=hI (zZ L2 wn) (HTA.o.kept hkn);clear hdn2 hkn hS;refine hK.out _ _ hS2 ?_;clear hK K0;have hS:=hS2;clear hS2
   try simp only [Act.put,pU]
   refine xA9 12 22 (.tuple #[sbV x,.nilIface]) hS ?_;refine xA9 13 35 (sbV x) hS ?_;refine xA9 14 36 (.nilIface) hS ?_;refine xJ9 15 (some 6) (fun K0 hK=>?_);go_simp;obtain ⟨c,HC⟩:=hY (wn.1.size);obtain ⟨wc,HWC⟩:=hY (wn.alloc (.cells (zR Sb.zero) 103));rw [<- HC.o,<- HWC.o];have hbc:Below wn.1.size wn wc:=by rw [HWC.o]; exact bA
   have HN5:=hI (zY wc c Sb.zero) (by rw [HWC.o,HC.o]; exact zY.new _);have hS2:Zh P D u s q wc:=⟨hS.own.below hbc,hS.set.below hbc (hS.set.lt (by have:=HQO.o.len; omega))⟩
   have HCP:=hI (c ≠ P) (by have:=hS.own.lt; rw [HC.o]; omega);have HCU:=hI (c ≠ u) (by have:=hS.set.lt (by have:=HQO.o.len; omega); rw [HC.o]; omega);have HCL:=hI (w.1.size <= c) (by rw [HC.o]; exact HKN.o.size);have HD5:=hI (zE (fun k=>L2 k \/ k = c) wc D n (K7 d x)) (HDN2.o.more hbc fun k hk=>by
    rcases hk with hk | rfl
    ·exact .inl hk
    ·exact .inr (by rw [HC.o]; exact ze3 _))
   have HK5:=hI (zh L w wc) (HKN.o.trans (zh.of_below hbc fun k hk=>HTN.o k (HLL.o k hk)));clear HWC HC hbc hS HDN2 HKN HTN HDA HTA HGA HKA;refine hK.out _ _ hS2 ?_;clear hK K0;have hS:=hS2;clear hS2
   try simp only [Act.put,pU]
   refine zI (i:=16) rfl (by kernel_rfl) (fun K0 hK=>?_);rw [if_pos (by rfl)];refine wp_store_mid _ _ _ rfl c 0 (zR x) rfl rfl (by rw [zH HXO.o]; exact yQ HN5.o.at_ (zG Sb.Ok.zero) HN5.o.free) (by rw [zH HXO.o]; exact Tryz.sbProg.size) (xj x) ?_;obtain ⟨w6,HW6⟩:=hY (wc.setCells c 0 (zN x));rw [show (zR x).toList = zN x from rfl,<- HW6.o];have hk6:zh (fun k=>k < wc.1.size /\ ¬ k = c) wc w6:=by rw [HW6.o]; exact zh.setCells (zh.refl _ _) (fun hh=>hh.2 rfl) _ _
   have HN6:=hI (zY w6 c x) (by rw [HW6.o]; exact HN5.o.lay Sb.Ok.zero HXO.o);have hS2:Zh P D u s q w6:=⟨hS.own.block (hk6.block P ⟨hS.own.lt,Ne.symm HCP.o⟩),hS.set.blockEq (hk6.block u ⟨hS.set.lt (by have:=HQO.o.len; omega),Ne.symm HCU.o⟩)⟩
   have HD6:=hI (zE L w6 D n (K7 d x)) (HD5.o.off (B:=fun k=>k = c) (fun k hk=>.inr hk) hk6 fun k hk=>.inl (.inl (HLL.o k hk)));have HK6:=hI (zh L w w6) (by
    rw [HW6.o];refine zh.setCells HK5.o (fun hh=>?_) _ _;have:=HTL.o c hh;have:=HCL.o;omega)
   refine hK.out _ _ hS2 ?_;clear hK K0;have hS:=hS2;clear hS2;simp only [Act.put];refine za (i:=17) 7 (v:=.nilIface) rfl rfl hS ?_;simp only [Act.put];refine wpAnyH_done (by kernel_rfl) ?_ _;have HO6:=Hi hS.own;clear hS HN5 HD5 HK5 HW6 hk6;go_wp2_with (with_reducible refine xD9 (some 41) ?_);refine zX Tryz.sbProg (by rfl) _ rfl c rfl x HXO.o HN6.o.at_ ?_;go_wp2_with (with_reducible refine xD9 (none) ?_);refine xO rfl _ _ rfl P 1 x HXO.o rfl rfl (yQ HO6.o.sb (zG HO6.o.sup) HO6.o.free) ?_;intro w7 HW7;have HO7:=hI (yH w7 P D ⟨x,s.new,s.gone⟩) (by rw [HW7.o]; exact HO6.o.putSb HXO.o);have HF7:=hI (wS P w6 w7) (by rw [HW7.o]; exact wS.setCells (zh.refl _ _) _ _);go_wp2_with fail;refine (vI HO7.o).mono ?_;rintro e w8 ⟨rfl,ho8,hf8⟩;have HO8:=Hi ho8;have HF8:=Hi (HF7.o.trans hf8);clear ho8 hf8;go_wp2_with fail
   go_ret
   exact ⟨rfl,zW.ofStore HNK.o HT.o (HL.o ▸ HD6.o) (HL.o ▸ HK6.o) HO8.o HF8.o⟩
  ·go_simp;obtain ⟨c,HC⟩:=hY (wa.1.size);obtain ⟨wc,HWC⟩:=hY (wa.alloc (.cells (zR Sb.zero) 103));rw [<- HC.o,<- HWC.o];have hbc:Below wa.1.size wa wc:=by rw [HWC.o]; exact bA
   have HN5:=hI (zY wc c Sb.zero) (by rw [HWC.o,HC.o]; exact zY.new _);have hS2:Zh P D u s q wc:=⟨hS.own.below hbc,hS.set.below hbc (hS.set.lt (by have:=HQO.o.len; omega))⟩
   have HCP:=hI (c ≠ P) (by have:=hS.own.lt; rw [HC.o]; omega);have HCU:=hI (c ≠ u) (by have:=hS.set.lt (by have:=HQO.o.len; omega); rw [HC.o]; omega);have HCL:=hI (w.1.size <= c) (by rw [HC.o]; exact HWS.o);have HDC:=hI (zE (fun k=>L2 k \/ k = c) wc D n d) (HDA.o.more hbc fun k hk=>by
    rcases hk with hk | rfl
    ·exact .inl hk
    ·exact .inr (by rw [HC.o]; exact ze3 _))
   have HTC:=hI (zZ (fun k=>L2 k \/ k = c) wc) fun k hk=>by
    rcases hk with hk | rfl
    ·exact HTA.o.below hbc k hk
    ·exact HN5.o.lt
   have HKC:=hI (zh L w wc) (HKA.o.trans (zh.of_below hbc fun k hk=>HTA.o k (HLL.o k hk)));have HGC:=hI (∀ w',zh L wc w' -> zM w') fun w' hk=>HGA.o w' ((zh.of_below hbc fun k hk=>HTA.o k (HLL.o k hk)).trans hk)
   have HNC:=HN5;clear HWC HC hbc hS HDA HTA HGA HKA HN5;refine hK.out _ _ hS2 ?_;clear hK K0;have hS:=hS2;clear hS2
   try simp only [Act.put,pU]
   refine xJ9 11 (some 34) (fun K0 hK=>?_);go_simp;refine (vm HDC.o HTC.o HDN.o HN.o g r q HQO.o HGL.o HR.o (Hi fun w9 hk9=>HGC.o w9 (hk9.less fun k hk=>.inl (HLL.o k hk))).out).mono ?_;rintro e wn ⟨rfl,hdn2,hkn⟩;rw [<- HX.o] at hdn2 ⊢;have hS2:Zh P D u s q wn:=⟨hS.own.block (hkn.block P (.inl (HLL.o P HLP.o))),hS.set.blockEq (hkn.block u (.inl HLU.o))⟩
   have HD5:=Hi hdn2;have HN5:=Hi (HNC.o.block (hkn.block c (.inr rfl)));have HK5:=hI (zh L w wn) (HKC.o.trans (hkn.less fun k hk=>.inl (HLL.o k hk)));clear hdn2 hkn hS HDC HTC HKC HGC HNC;refine hK.out _ _ hS2 ?_;clear hK K0;have hS:=hS2;clear hS2
   try simp only [Act.put,pU]
   refine xA9 12 22 (.tuple #[sbV x,.nilIface]) hS ?_;refine xA9 13 35 (sbV x) hS ?_;refine xA9 14 36 (.nilIface) hS ?_;refine zI (i:=16) rfl (by kernel_rfl) (fun K0 hK=>?_);rw [if_pos (by rfl)];refine wp_store_mid _ _ _ rfl c 0 (zR x) rfl rfl (by rw [zH HXO.o]; exact yQ HN5.o.at_ (zG Sb.Ok.zero) HN5.o.free) (by rw [zH HXO.o]; exact Tryz.sbProg.size) (xj x) ?_;obtain ⟨w6,HW6⟩:=hY (wn.setCells c 0 (zN x));rw [show (zR x).toList = zN x from rfl,<- HW6.o];have hk6:zh (fun k=>k < wn.1.size /\ ¬ k = c) wn w6:=by rw [HW6.o]; exact zh.setCells (zh.refl _ _) (fun hh=>hh.2 rfl) _ _
   have HN6:=hI (zY w6 c x) (by rw [HW6.o]; exact HN5.o.lay Sb.Ok.zero HXO.o);have hS2:Zh P D u s q w6:=⟨hS.own.block (hk6.block P ⟨hS.own.lt,Ne.symm HCP.o⟩),hS.set.blockEq (hk6.block u ⟨hS.set.lt (by have:=HQO.o.len; omega),Ne.symm HCU.o⟩)⟩
   have HD6:=hI (zE L w6 D n (K7 d x)) (HD5.o.off (B:=fun k=>k = c) (fun k hk=>.inr hk) hk6 fun k hk=>.inl (.inl (HLL.o k hk)));have HK6:=hI (zh L w w6) (by
    rw [HW6.o];refine zh.setCells HK5.o (fun hh=>?_) _ _;have:=HTL.o c hh;have:=HCL.o;omega)
   refine hK.out _ _ hS2 ?_;clear hK K0;have hS:=hS2;clear hS2;simp only [Act.put];refine za (i:=17) 7 (v:=.nilIface) rfl rfl hS ?_;simp only [Act.put];refine wpAnyH_done (by kernel_rfl) ?_ _;have HO6:=Hi hS.own;clear hS HN5 HD5 HK5 HW6 hk6;go_wp2_with (with_reducible refine xD9 (some 41) ?_);refine zX Tryz.sbProg (by rfl) _ rfl c rfl x HXO.o HN6.o.at_ ?_;go_wp2_with (with_reducible refine xD9 (none) ?_);refine xO rfl _ _ rfl P 1 x HXO.o rfl rfl (yQ HO6.o.sb (zG HO6.o.sup) HO6.o.free) ?_;intro w7 HW7;have HO7:=hI (yH w7 P D ⟨x,s.new,s.gone⟩) (by rw [HW7.o]; exact HO6.o.putSb HXO.o);have HF7:=hI (wS P w6 w7) (by rw [HW7.o]; exact wS.setCells (zh.refl _ _) _ _);go_wp2_with fail;refine (vI HO7.o).mono ?_;rintro e w8 ⟨rfl,ho8,hf8⟩;have HO8:=Hi ho8;have HF8:=Hi (HF7.o.trans hf8);clear ho8 hf8;go_wp2_with fail
   go_ret
   exact ⟨rfl,zW.ofStore HNK.o HT.o (HL.o ▸ HD6.o) (HL.o ▸ HK6.o) HO8.o HF8.o⟩
 ·have HI:=Hi (HRY.o h0);go_wp2_with (with_reducible refine xD9 (some 16) ?_);refine yd (by unfold Region.wanted; simp [yielded,h0]) _ rfl u rfl q HQO.o.len HSU.o.at_ ?_;go_wp2_with fail;refine (jF _ HQO.o r w2).mono ?_;rw [HI.o];rintro e w3 ⟨rfl,hb⟩;have HB3:=Hi hb;clear hb;go_upto_region 6 with (fail)
  clear h0 HI HRY;refine wp_region_held (S:=Zh P D u s q) (by kernel_rfl) ?_;change wpAnyH _ _ _ _ _ _ _ _ w3.drew;obtain ⟨wa,HWA⟩:=hY (w3.drew);rw [<- HWA.o];have hb3:Below w2.1.size w2 wa:=by rw [HWA.o]; exact HB3.o.drew
  have hS:Zh P D u s q wa:=⟨HO2.o.below hb3,HSU.o.below hb3 (HSU.o.lt (by have:=HQO.o.len; omega))⟩
  have HDA:=hI (zE L2 wa D n d) (HDA2.o.carry hb3);have HTA:=hI (zZ L2 wa) (HTA2.o.below hb3);have HGA:=hI (∀ w',zh L wa w' -> zM w') (HGA2.o wa hb3);have HKA:=hI (zh L w wa) ((zh.of_below HB2.o fun k hk=>HTL.o k hk).trans (zh.of_below hb3 fun k hk=>ze1 (HTL.o k hk) HB2.o.size));have HWS:=hI (w.1.size <= wa.1.size) HKA.o.size;clear HWA hb3 HB3 HDA2 HTA2 HGA2;refine xA9 0 23 (ptr P) hS ?_;refine xA9 1 24 (.pointer (some ⟨P,0,none⟩)) hS ?_;refine xA9 2 25 (.pointer (some ⟨P,0,none⟩)) hS ?_;refine xG9 3 26 (ptr D) rfl (.inl ⟨by rfl,fun _ h=>by have c0:=h.own.at0; go_simp⟩) hS ?_;refine xA9 4 27 (ptr P) hS ?_;refine xA9 5 28 (.pointer (some ⟨P,0,none⟩)) hS ?_;refine xA9 6 29 (.pointer (some ⟨P,1,none⟩)) hS ?_;refine xA9 7 30 (.pointer (some ⟨P,1,none⟩)) hS ?_;refine xG9 8 31 (.int .u32 (g:Int)) rfl (.inl ⟨by rfl,fun _ h=>by have c0:=h.own.genC; rw [<- HGG.o] at c0; go_simp⟩) hS ?_;refine xA9 9 32 (.int .i64 r) hS ?_;refine xG9 10 33 (stV q) rfl (wX (by rfl) _ rfl u 0 rfl q HQO.o.len (fun _ h=>h.set.at_)) hS ?_;refine K8 (i:=11) (j:=15) (oi:=⟨some 34,_,_,_,_,_⟩) (oj:=⟨some 6,_,_,_,_,_⟩) rfl rfl (by kernel_rfl) (fun K0 hK=>?_) (fun K0 hK=>?_)
  ·go_simp;refine (vm HDA.o HTA.o HDN.o HN.o g r q HQO.o HGL.o HR.o (Hi fun w9 hk9=>HGA.o w9 (hk9.less HLL.o)).out).mono ?_;rintro e wn ⟨rfl,hdn2,hkn⟩;rw [<- HX.o] at hdn2 ⊢;have hS2:Zh P D u s q wn:=⟨hS.own.block (hkn.block P (HLL.o P HLP.o)),hS.set.blockEq (hkn.block u HLU.o)⟩
   have HDN2:=Hi hdn2;have HKN:=hI (zh L w wn) (HKA.o.trans (hkn.less HLL.o));have HTN:=hI (zZ L2 wn) (HTA.o.kept hkn);clear hdn2 hkn hS;refine hK.out _ _ hS2 ?_;clear hK K0;have hS:=hS2;clear hS2
   try simp only [Act.put,pU]
   refine xA9 12 22 (.tuple #[sbV x,.nilIface]) hS ?_;refine xA9 13 35 (sbV x) hS ?_;refine xA9 14 36 (.nilIface) hS ?_;refine xJ9 15 (some 6) (fun K0 hK=>?_);go_simp;obtain ⟨c,HC⟩:=hY (wn.1.size);obtain ⟨wc,HWC⟩:=hY (wn.alloc (.cells (zR Sb.zero) 103));rw [<- HC.o,<- HWC.o];have hbc:Below wn.1.size wn wc:=by rw [HWC.o]; exact bA
   have HN5:=hI (zY wc c Sb.zero) (by rw [HWC.o,HC.o]; exact zY.new _);have hS2:Zh P D u s q wc:=⟨hS.own.below hbc,hS.set.below hbc (hS.set.lt (by have:=HQO.o.len; omega))⟩
   have HCP:=hI (c ≠ P) (by have:=hS.own.lt; rw [HC.o]; omega);have HCU:=hI (c ≠ u) (by have:=hS.set.lt (by have:=HQO.o.len; omega); rw [HC.o]; omega);have HCL:=hI (w.1.size <= c) (by rw [HC.o]; exact HKN.o.size);have HD5:=hI (zE (fun k=>L2 k \/ k = c) wc D n (K7 d x)) (HDN2.o.more hbc fun k hk=>by
    rcases hk with hk | rfl
    ·exact .inl hk
    ·exact .inr (by rw [HC.o]; exact ze3 _))
   have HK5:=hI (zh L w wc) (HKN.o.trans (zh.of_below hbc fun k hk=>HTN.o k (HLL.o k hk)));clear HWC HC hbc hS HDN2 HKN HTN HDA HTA HGA HKA;refine hK.out _ _ hS2 ?_;clear hK K0;have hS:=hS2;clear hS2
   try simp only [Act.put,pU]
   refine zI (i:=16) rfl (by kernel_rfl) (fun K0 hK=>?_);rw [if_pos (by rfl)];refine wp_store_mid _ _ _ rfl c 0 (zR x) rfl rfl (by rw [zH HXO.o]; exact yQ HN5.o.at_ (zG Sb.Ok.zero) HN5.o.free) (by rw [zH HXO.o]; exact Tryz.sbProg.size) (xj x) ?_;obtain ⟨w6,HW6⟩:=hY (wc.setCells c 0 (zN x));rw [show (zR x).toList = zN x from rfl,<- HW6.o];have hk6:zh (fun k=>k < wc.1.size /\ ¬ k = c) wc w6:=by rw [HW6.o]; exact zh.setCells (zh.refl _ _) (fun hh=>hh.2 rfl) _ _
   have HN6:=hI (zY w6 c x) (by rw [HW6.o]; exact HN5.o.lay Sb.Ok.zero HXO.o);have hS2:Zh P D u s q w6:=⟨hS.own.block (hk6.block P ⟨hS.own.lt,Ne.symm HCP.o⟩),hS.set.blockEq (hk6.block u ⟨hS.set.lt (by have:=HQO.o.len; omega),Ne.symm HCU.o⟩)⟩
   have HD6:=hI (zE L w6 D n (K7 d x)) (HD5.o.off (B:=fun k=>k = c) (fun k hk=>.inr hk) hk6 fun k hk=>.inl (.inl (HLL.o k hk)));have HK6:=hI (zh L w w6) (by
    rw [HW6.o];refine zh.setCells HK5.o (fun hh=>?_) _ _;have:=HTL.o c hh;have:=HCL.o;omega)
   refine hK.out _ _ hS2 ?_;clear hK K0;have hS:=hS2;clear hS2;simp only [Act.put];refine za (i:=17) 7 (v:=.nilIface) rfl rfl hS ?_;simp only [Act.put];refine wpAnyH_done (by kernel_rfl) ?_ _;have HO6:=Hi hS.own;clear hS HN5 HD5 HK5 HW6 hk6;go_wp2_with (with_reducible refine xD9 (some 41) ?_);refine zX Tryz.sbProg (by rfl) _ rfl c rfl x HXO.o HN6.o.at_ ?_;go_wp2_with (with_reducible refine xD9 (none) ?_);refine xO rfl _ _ rfl P 1 x HXO.o rfl rfl (yQ HO6.o.sb (zG HO6.o.sup) HO6.o.free) ?_;intro w7 HW7;have HO7:=hI (yH w7 P D ⟨x,s.new,s.gone⟩) (by rw [HW7.o]; exact HO6.o.putSb HXO.o);have HF7:=hI (wS P w6 w7) (by rw [HW7.o]; exact wS.setCells (zh.refl _ _) _ _);go_wp2_with fail;refine (vI HO7.o).mono ?_;rintro e w8 ⟨rfl,ho8,hf8⟩;have HO8:=Hi ho8;have HF8:=Hi (HF7.o.trans hf8);clear ho8 hf8;go_wp2_with fail
   go_ret
   exact ⟨rfl,zW.ofStore HNK.o HT.o (HL.o ▸ HD6.o) (HL.o ▸ HK6.o) HO8.o HF8.o⟩
  ·go_simp;obtain ⟨c,HC⟩:=hY (wa.1.size);obtain ⟨wc,HWC⟩:=hY (wa.alloc (.cells (zR Sb.zero) 103));rw [<- HC.o,<- HWC.o];have hbc:Below wa.1.size wa wc:=by rw [HWC.o]; exact bA
   have HN5:=hI (zY wc c Sb.zero) (by rw [HWC.o,HC.o]; exact zY.new _);have hS2:Zh P D u s q wc:=⟨hS.own.below hbc,hS.set.below hbc (hS.set.lt (by have:=HQO.o.len; omega))⟩
   have HCP:=hI (c ≠ P) (by have:=hS.own.lt; rw [HC.o]; omega);have HCU:=hI (c ≠ u) (by have:=hS.set.lt (by have:=HQO.o.len; omega); rw [HC.o]; omega);have HCL:=hI (w.1.size <= c) (by rw [HC.o]; exact HWS.o);have HDC:=hI (zE (fun k=>L2 k \/ k = c) wc D n d) (HDA.o.more hbc fun k hk=>by
    rcases hk with hk | rfl
    ·exact .inl hk
    ·exact .inr (by rw [HC.o]; exact ze3 _))
   have HTC:=hI (zZ (fun k=>L2 k \/ k = c) wc) fun k hk=>by
    rcases hk with hk | rfl
    ·exact HTA.o.below hbc k hk
    ·exact HN5.o.lt
   have HKC:=hI (zh L w wc) (HKA.o.trans (zh.of_below hbc fun k hk=>HTA.o k (HLL.o k hk)));have HGC:=hI (∀ w',zh L wc w' -> zM w') fun w' hk=>HGA.o w' ((zh.of_below hbc fun k hk=>HTA.o k (HLL.o k hk)).trans hk)
   have HNC:=HN5;clear HWC HC hbc hS HDA HTA HGA HKA HN5;refine hK.out _ _ hS2 ?_;clear hK K0;have hS:=hS2;clear hS2
   try simp only [Act.put,pU]
   refine xJ9 11 (some 34) (fun K0 hK=>?_);go_simp;refine (vm HDC.o HTC.o HDN.o HN.o g r q HQO.o HGL.o HR.o (Hi fun w9 hk9=>HGC.o w9 (hk9.less fun k hk=>.inl (HLL.o k hk))).out).mono ?_;rintro e wn ⟨rfl,hdn2,hkn⟩;rw [<- HX.o] at hdn2 ⊢;have hS2:Zh P D u s q wn:=⟨hS.own.block (hkn.block P (.inl (HLL.o P HLP.o))),hS.set.blockEq (hkn.block u (.inl HLU.o))⟩
   have HD5:=Hi hdn2;have HN5:=Hi (HNC.o.block (hkn.block c (.inr rfl)));have HK5:=hI (zh L w wn) (HKC.o.trans (hkn.less fun k hk=>.inl (HLL.o k hk)));clear hdn2 hkn hS HDC HTC HKC HGC HNC;refine hK.out _ _ hS2 ?_;clear hK K0;have hS:=hS2;clear hS2
   try simp only [Act.put,pU]
   refine xA9 12 22 (.tuple #[sbV x,.nilIface]) hS ?_;refine xA9 13 35 (sbV x) hS ?_;refine xA9 14 36 (.nilIface) hS ?_;refine zI (i:=16) rfl (by kernel_rfl) (fun K0 hK=>?_);rw [if_pos (by rfl)];refine wp_store_mid _ _ _ rfl c 0 (zR x) rfl rfl (by rw [zH HXO.o]; exact yQ HN5.o.at_ (zG Sb.Ok.zero) HN5.o.free) (by rw [zH HXO.o]; exact Tryz.sbProg.size) (xj x) ?_;obtain ⟨w6,HW6⟩:=hY (wn.setCells c 0 (zN x));rw [show (zR x).toList = zN x from rfl,<- HW6.o];have hk6:zh (fun k=>k < wn.1.size /\ ¬ k = c) wn w6:=by rw [HW6.o]; exact zh.setCells (zh.refl _ _) (fun hh=>hh.2 rfl) _ _
   have HN6:=hI (zY w6 c x) (by rw [HW6.o]; exact HN5.o.lay Sb.Ok.zero HXO.o);have hS2:Zh P D u s q w6:=⟨hS.own.block (hk6.block P ⟨hS.own.lt,Ne.symm HCP.o⟩),hS.set.blockEq (hk6.block u ⟨hS.set.lt (by have:=HQO.o.len; omega),Ne.symm HCU.o⟩)⟩
   have HD6:=hI (zE L w6 D n (K7 d x)) (HD5.o.off (B:=fun k=>k = c) (fun k hk=>.inr hk) hk6 fun k hk=>.inl (.inl (HLL.o k hk)));have HK6:=hI (zh L w w6) (by
    rw [HW6.o];refine zh.setCells HK5.o (fun hh=>?_) _ _;have:=HTL.o c hh;have:=HCL.o;omega)
   refine hK.out _ _ hS2 ?_;clear hK K0;have hS:=hS2;clear hS2;simp only [Act.put];refine za (i:=17) 7 (v:=.nilIface) rfl rfl hS ?_;simp only [Act.put];refine wpAnyH_done (by kernel_rfl) ?_ _;have HO6:=Hi hS.own;clear hS HN5 HD5 HK5 HW6 hk6;go_wp2_with (with_reducible refine xD9 (some 41) ?_);refine zX Tryz.sbProg (by rfl) _ rfl c rfl x HXO.o HN6.o.at_ ?_;go_wp2_with (with_reducible refine xD9 (none) ?_);refine xO rfl _ _ rfl P 1 x HXO.o rfl rfl (yQ HO6.o.sb (zG HO6.o.sup) HO6.o.free) ?_;intro w7 HW7;have HO7:=hI (yH w7 P D ⟨x,s.new,s.gone⟩) (by rw [HW7.o]; exact HO6.o.putSb HXO.o);have HF7:=hI (wS P w6 w7) (by rw [HW7.o]; exact wS.setCells (zh.refl _ _) _ _);go_wp2_with fail;refine (vI HO7.o).mono ?_;rintro e w8 ⟨rfl,ho8,hf8⟩;have HO8:=Hi ho8;have HF8:=Hi (HF7.o.trans hf8);clear ho8 hf8;go_wp2_with fail
   go_ret
   exact ⟨rfl,zW.ofStore HNK.o HT.o (HL.o ▸ HD6.o) (HL.o ▸ HK6.o) HO8.o HF8.o⟩
end
section
open Bits (Ok has with_ without both minus)
theorem Vn {K:Nat -> Prop} {D n:Nat} {d:Dk} {w:World} (h:zE K w D n d) (hn:n < 3):Calls Tryz.prog 16 #[ptr D] w (Two (.pointer none) 1 w):=by
 have HD:=Hi h;have hn3:(n:Int) < 3:=by omega
 clear h hn
 go_enter Tryz.func16,Tryz.ntmps16
 go_wp2_with fail;refine (kL HD.o).mono ?_;rintro e w' ⟨rfl,rfl⟩;go_wp2_with fail;refine (yS 1 (by decide) _).mono ?_;rintro e w' ⟨v,rfl,he,hb⟩;have HE:=Hi he;have HB:=Hi hb;clear he hb;go_wp2_with fail
 go_ret2
 exact ⟨v,rfl,HE.o,HB.o⟩
def Xx (K:Nat -> Prop) (w:World) (D n:Nat) (d:Dk) (g:Nat) (e:Ending) (w':World):Prop :=
 ∃ P,e = .returned (.tuple #[ptr P,.nilIface]) /\ zW Zi K w' P D n (xC d (Sb.bare g)) (Pst.opened (Sb.bare g)) /\ zh K w w'
theorem ZW {K:Nat -> Prop} {D n:Nat} {d:Dk} {w:World} (h:zE K w D n d) (ht:zZ K w) (hd:d.down = false) (hn:3 <= n) (y:Sb) (hy:y.Ok) (hgl:y.gen + 1 < 4294967296) (c:Int) (hc:c = 0 \/ c = 4)
  (hb:Calls Tryz.prog 52 #[ptr D] w fun e w'=>∃ v,e = .returned (.tuple #[sbV y,v]) /\ zi w' w.1.size c v /\ Below w.1.size w w') (hg:∀ w',zh K w w' -> yC w') :
  Calls Tryz.prog 16 #[ptr D] w (Xx K w D n d (y.gen + 1)):=by
 obtain ⟨R,HR⟩:=hY (Xx K w D n d (y.gen + 1));rw [<- HR.o];have hz:=Tryz.sbProg.zero;have hn3:¬ (n:Int) < 3:=by omega
 have HD:=Hi h;have HT:=Hi ht;have HDN:=Hi hd;have HN:=Hi hn;have HY:=Hi hy;have HBB:=Hi hb;have HG:=Hi hg;have HC:=Hi hc;obtain ⟨g,HGG⟩:=hY (y.gen);rw [<- HGG.o] at HR hgl;have HGL:=Hi hgl;have HRT:=hI (yD ⟨g + 1,0,zO⟩ = true) (Sb.bare_right (Nat.succ_ne_zero g));clear h ht hd hn hy hb hg hgl hc
 go_enter Tryz.func16,Tryz.ntmps16
 go_wp2_with fail;refine (kL HD.o).mono ?_;rintro e w' ⟨rfl,rfl⟩;go_wp2_with fail;refine HBB.o.mono ?_;rintro e w1 ⟨v,rfl,he,hb⟩;have HE1:=Hi he;have HB1:=Hi hb;clear he hb HBB hn3;go_wp2_with (with_reducible refine xD9 (none) ?_);refine zw rfl _ _ _ rfl (zR Sb.zero) (zR y) _ rfl rfl rfl (by rw [zH HY.o]; exact Tryz.sbProg.size) (by rw [zH HY.o,zH Sb.Ok.zero]) (xj _) ?_;obtain ⟨b,HB⟩:=hY (w1.1.size);obtain ⟨w2,HW⟩:=hY (w1.alloc (.cells (zR y) 103));rw [<- HW.o,<- HB.o];have HY2:=hI (zY w2 b y) (by rw [HW.o,HB.o]; exact zY.new _);have hb2:Below w1.1.size w1 w2:=by rw [HW.o]; exact bA
 have HB2:=hI (Below w.1.size w w2) (HB1.o.trans (hb2.mono HB1.o.size));have HE2:=Hi (HE1.o.below hb2);clear hb2 HW HB1 HE1;have HD2:=Hi (HD.o.carry HB2.o);have HT2:=hI (zZ K w2) (HT.o.below HB2.o);have HK2:=hI (zh K w w2) (zh.of_below HB2.o HT.o);have HG2:=hI (∀ w3,zh K w2 w3 -> zM w3) fun w3 hk=>(HG.o w3 (HK2.o.trans hk)).crc
 rcases HC.o with rfl | rfl
 case' inl=>obtain rfl:=HE2.o.zero
 case' inr =>
  obtain ⟨t,z,rfl⟩:=HE2.o.some (by decide);obtain ⟨l,hl⟩:∃ l,vj w2 4 (.iface t z) l:=by
   rcases HE2.o with ⟨h,_⟩ | ⟨_,h⟩
   ·cases h
   ·exact h.chain
  have HCH:=Hi hl;clear hl;go_wp2_with fail;refine (Js 4 4 _ l w2 HCH.o true rfl).mono ?_;rintro e w'' ⟨rfl,rfl⟩
 all_goals
  have c0:=HY2.o.gen;rw [<- HGG.o] at c0;clear HE2 HC;go_wp2_with (with_reducible refine xD9 (some 29) ?_);refine jE rfl rfl ?_;go_wp2_with fail;refine (vm HD2.o HT2.o HDN.o HN.o g 0 zO xM HGL.o HRT.o HG2.o).mono ?_;rintro e w3 ⟨rfl,hd3,hk3⟩;have HD3:=hI (zE K w3 D n (xC d (Sb.bare (g + 1)))) hd3;have HK3:=Hi (HK2.o.trans hk3);have HT3:=hI (zZ K w3) (HT2.o.kept hk3);have HXO:=hI ((⟨g + 1,0,zO⟩:Sb).Ok) ⟨HGL.o,xM⟩;obtain ⟨x,HX⟩:=hY (Sb.bare (g + 1));rw [show (⟨g + 1,0,zO⟩:Sb) = x from HX.o.symm] at HXO ⊢;rw [<- HX.o] at HD3;clear hd3 hk3 c0;go_wp2_with (with_reducible refine xD9 (none) ?_);refine zw rfl _ _ _ rfl (zR Sb.zero) (zR x) _ rfl rfl rfl (by rw [zH HXO.o]; exact Tryz.sbProg.size) (by rw [zH HXO.o,zH Sb.Ok.zero]) (xj _) ?_;obtain ⟨b5,HB5⟩:=hY (w3.1.size);obtain ⟨w4,HW4⟩:=hY (w3.alloc (.cells (zR x) 103));rw [<- HW4.o,<- HB5.o];have HX4:=hI (zY w4 b5 x) (by rw [HW4.o,HB5.o]; exact zY.new _);have HB4:=hI (Below w3.1.size w3 w4) (by rw [HW4.o]; exact bA);clear HW4;go_wp2_with (with_reducible refine xD9 (some 37) ?_);refine zX Tryz.sbProg (by rfl) _ rfl b5 rfl x HXO.o HX4.o.at_ ?_;refine kW rfl _ _ rfl D x HXO.o rfl rfl ?_;go_wp2_with fail;rw [HR.o];have hbo:=HB4.o.alloc HB4.o.size (.cells (kt D (Pst.opened x)).toArray 118);refine ⟨w4.1.size,rfl,?_,HK3.o.trans (zh.of_below hbo HT3.o)⟩;rw [<- HX.o];exact zW.opened (B:=fun k=>k = w4.1.size) HD3.o HT3.o ⟨fun _=>Iff.rfl,.newP HXO.o _⟩ (fun k hk=>by rw [hk]; exact HB4.o.size) hbo
end
section
open Bits (Ok has with_ without both minus)
theorem Xo {K:Nat -> Prop} {w:World} {D n:Nat} {d:Dk} {o:Option Sb} (h:zE K w D n d) (hg:zM w) (hd:d.down = false) (hn:3 <= n) (hb:Xt d o) :
  Calls Tryz.prog 52 #[ptr D] w (kK (if o.isSome = true then 0 else 4) o w):=by
 obtain ⟨p,q,h0,h1,rfl⟩:=hb;exact zbj h hd hn p q h0.2 h1.2 h0.1 h1.1 hg
theorem zdP:ye Zi where
 lt:=fun h b hb=>by
  obtain rfl:=(h.1 b).1 hb;exact h.2.lt
 carry:=fun h hb=>⟨h.1,h.2.block (hb _ ((h.1 _).2 rfl))⟩
 openNo:=fun {K w D n d} h hg c hc=>by
  rcases hc with ⟨hd,rfl⟩ | ⟨hd,hn,rfl⟩ | ⟨hd,hn,hb,rfl⟩
  ·exact Vl 7 (by decide) (Q0 h hd)
  ·exact Vl 1 (by decide) (Jf h hd hn)
  ·exact Vl 4 (by decide) (Xo h hg hd hn hb)
 openYes:=fun {K w D n d x} h hg hd hn hb hx=>(zbu hx (Xo h hg hd hn hb)).mono (by
  rintro e w' ⟨P,rfl,h1,h2,h3⟩;exact ⟨P,fun b=>b = P,rfl,⟨fun _=>Iff.rfl,h1⟩,fun b hb=>by rw [hb]; exact h2,h3⟩)
 formatNo:=fun h _ _ hn=>Vn h hn
 formatYes:=fun {K w D n d} g h ht hg hd hn hb hgl=>by
  have hgc:zM w:=(hg w (zh.refl _ _)).crc;rcases hb with ⟨hb,rfl⟩ | ⟨x,hb,hx,rfl⟩
  ·exact ZW h ht hd hn Sb.zero Sb.Ok.zero (by decide) 4 (.inr rfl) (Xo h hgc hd hn hb) hg
  ·exact ZW h ht hd hn x hx hgl 0 (.inl rfl) (Xo h hgc hd hn hb) hg
 load:=fun hA h hd hg i=>zbs hA.own hA.disk h hd hg i
 newLong:=fun _ _ _ _ t ht=>V8 _ _ t ht
 newFull:=fun hA h _ _ t ht hf=>V7 hA h t ht hf
 newYes:=fun hA h hd hg hs t ht k hf=>Jq hA h hd hg hs t ht k hf
 dropNo:=fun hA _ i hi=>zc9 hA.own i hi
 dropYes:=fun hA _ k hk hu=>(zbn hA.own k hk hu).mono (by
  rintro e w' ⟨rfl,h1,h2⟩;exact ⟨rfl,hA.off h1 h2⟩)
 commitNo:=fun hA _ r hr=>Vm hA.own r hr
 commitYes:=fun hA h hd hg r hr hgl=>Wx hA h hd hg r hr hgl
 abort:=fun {B w P D s} h=>(QY h.2).mono (by
  rintro e w' ⟨rfl,h1,h2⟩;exact ⟨rfl,B,⟨h.1,h1⟩,fun b hb=>.inl hb,h2.less fun k hk=>⟨hk.1,fun hh=>hk.2 ((h.1 k).2 hh)⟩⟩)
 root:=fun h=>zbA h.2
 gen:=fun h=>zda h.2
 used:=fun hA _=>qo hA.own hA.own.sup.used
 nilLoad:=zbt
 nilNew:=zdi
 nilDrop:=zbm
 nilCommit:=Jh
 nilAbort:=QZ
 nilRoot:=zbB
 nilGen:=zdb
 nilUsed:=zbF
end
