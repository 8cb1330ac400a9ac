/-
  Sb. Conditions: as said.
-/
import Derived.Test.YtafclmbecmgbnaaGreatDoorSets
import Derived.Test.YtafclmbecmgbnaaGreatDoorFrames
set_option maxRecDepth 100000
set_option maxHeartbeats 2000000
open Nat renaming le_refl -> zfI,zero_add -> zfP,lt_of_lt_of_le -> zfG
open List renaming getElem?_eq_getElem -> zfM
namespace Go.Proofs.YtafclmbecmgbnaaGreatDoor
section
open Go.RowKit
instance sbDec (x y:Sb):Decidable (x = y):=decidable_of_iff (x.gen = y.gen /\ x.root = y.root /\ x.used = y.used) (by cases x; cases y; simp)
def zP (x:Sb):List Value:=.int .u32 (x.gen:Int) :: .int .i64 x.root :: zq x.used
def zT (x:Sb):Array Value:=(zP x).toArray
abbrev sbV (x:Sb):Value:=.agg (zT x)
theorem zJ {x:Sb} (h:x.Ok):(zP x).length = 32:=by simp [zP,zH,h.used.len]
theorem zK {x:Sb} (h:x.Ok):(zT x).size = 32:=by simp [zT,zJ h]
theorem JC (x:Sb):∀ v ∈ zP x,v.oneCell' = true:=by
 intro v hv;rcases List.mem_cons.1 hv with rfl | hv
 ·rfl
 rcases List.mem_cons.1 hv with rfl | hv
 ·rfl
 ·exact XI _ v hv
theorem xw (x:Sb):(zT x).all (·.oneCell') = true:=all_oneCell_toArray (JC x)
structure qU (T:TypeId):Prop where
 und:∃ d,Tryz.prog.underlying T = some d /\ d.isRow = true
 info:(Tryz.prog.info? T).map (fun i=>(i.zero,i.size)) = some (some (sbV Sb.zero),32)
 none_:Tryz.prog.built T [] = some (zT Sb.zero)
 three:∀ x y z,Tryz.prog.built T [(0,x),(1,y),(2,z)] = Instr.fill ((#[(0,1),(1,1),(2,30)]:Array (Nat × Nat))[·]?) (zT Sb.zero) [(0,x),(1,y),(2,z)]
theorem qU.size {T:TypeId} (h:qU T):(Tryz.prog.info? T).map (·.size) = some 32:=by
 have:=h.info;cases hi:Tryz.prog.info? T with
 | none=>rw [hi] at this; cases this
 | some i =>
  rw [hi] at this;simp only [Option.map_some,Option.some.injEq,Prod.mk.injEq] at this ⊢;exact this.2
theorem qU.zero {T:TypeId} (h:qU T) (w:World):(zeroValue T).run Tryz.prog w = .ok (sbV Sb.zero) w:=(zero_of_info h.info).1 w
theorem Tryz.sbProg:qU 103:=⟨⟨_,Tryz.underlying103,rfl⟩,by kernel_rfl,by kernel_rfl,fun _ _ _=>by kernel_rfl⟩
theorem qU.built {T:TypeId} (h:qU T) {x:Sb} (hx:x.Ok):Tryz.prog.built T [(0,.int .u32 (x.gen:Int)),(1,.int .i64 x.root),(2,stV x.used)] = some (zT x):=by
 rw [h.three];have hz:(zT Sb.zero).size = 32:=zK Sb.Ok.zero;have hzl:(zq Sb.zero.used).length = 30:=by rw [zH]; exact Sb.Ok.zero.used.len
 have e0:(zT Sb.zero).toList = .int .u32 0 :: .int .i64 0 :: zq Sb.zero.used:=rfl;rw [vu _ _ 0 _ _ 0 1 rfl rfl (by rw [hz]; decide)];rw [e0];generalize hq:zq Sb.zero.used = q at hzl;rw [vu _ _ 1 _ _ 1 1 rfl rfl (by simp [Value.cells,hzl])];rw [vu _ _ 2 _ _ 2 30 rfl (by show (yg x.used).size = 30; rw [yR,hx.used.len]) (by simp [Value.cells,hzl])];rw [Instr.fill];congr 1;simp [Value.cells,zT,zP,yg,hzl]
structure yd (w:World) (b:Nat) (x:Sb):Prop where
 at_:w.rangeAt b 0 (zP x)
 free:∀ j,w.frozen? ⟨b,j,none⟩ = false
theorem yd.new {w:World} {x:Sb} (t:TypeId):yd (w.alloc (.cells (zT x) t)) w.1.size x:=by
 have hh:(w.alloc (.cells (zT x) t)).1[w.1.size]? = some (.cells (zT x) t (0,0)):=heap_alloc_last w _;refine ⟨fun j u hu=>?_,fun j=>frozen_of_row _ _ j _ _ hh⟩;rw [cell_of_row _ w.1.size (0 + j) _ _ _ hh,zfP];simpa [zT] using hu
theorem yd.below {w w':World} {b B:Nat} {x:Sb} (h:yd w b x) (hb:Below B w w') (hB:b < B):yd w' b x :=
 ⟨fun j v hv=>(hb.cell (p:=⟨b,0 + j,none⟩) hB).trans (h.at_ j v hv),fun j=>(hb.frozen (p:=⟨b,j,none⟩) hB).trans (h.free j)⟩
theorem yd.block {w w':World} {b:Nat} {x:Sb} (h:yd w b x) (hb:w'.1[b]? = w.1[b]?):yd w' b x :=
 ⟨fun j v hv=>(World.cell?_of_block (w:=w) (a:=⟨b,0 + j,none⟩) hb).trans (h.at_ j v hv),fun j=>(World.frozen?_of_block (w:=w) (a:=⟨b,j,none⟩) hb).trans (h.free j)⟩
theorem yd.drew {w:World} {b:Nat} {x:Sb} (h:yd w b x):yd w.drew b x:=⟨h.at_,h.free⟩
theorem yd.gen {w:World} {b:Nat} {x:Sb} (h:yd w b x):w.cell? ⟨b,0,none⟩ = some (.int .u32 (x.gen:Int)):=h.at_ 0 _ rfl
theorem yd.root {w:World} {b:Nat} {x:Sb} (h:yd w b x):w.cell? ⟨b,1,none⟩ = some (.int .i64 x.root):=h.at_ 1 _ rfl
theorem yd.used {w:World} {b:Nat} {x:Sb} (h:yd w b x):w.rangeAt b 2 (zq x.used):=fun j v hv=>by
 have:=h.at_ (j + 2) v (by simpa [zP] using hv);rw [show 0 + (j + 2) = 2 + j by omega] at this;exact this
theorem yd.lt {w:World} {b:Nat} {x:Sb} (h:yd w b x):b < w.1.size:=zp h.gen
theorem yd.there {w:World} {b:Nat} {x:Sb} (h:yd w b x):w.there b 0 (zP x).length:=fun j hj=>⟨by rw [h.at_ j _ (zfM hj)]; rfl,h.free _⟩
theorem yd.lay {w:World} {b:Nat} {x y:Sb} (h:yd w b x) (hx:x.Ok) (hy:y.Ok):yd (w.setCells b 0 (zP y)) b y :=
 ⟨World.rangeAt_setCells_same w b 0 _ (by rw [zJ hy,<- zJ hx]; exact h.there),fun j=>by rw [World.frozen?_setCells]; exact h.free j⟩
theorem yd.other {w:World} {b c:Nat} {x:Sb} (h:yd w b x) (hc:c ≠ b) (o:Nat) (vs:List Value):yd (w.setCells c o vs) b x :=
 ⟨fun j v hv=>by rw [World.cell?_setCells_out c vs o w _ (fun e _=>absurd e.symm hc)]; exact h.at_ j v hv,fun j=>by rw [World.frozen?_setCells]; exact h.free j⟩
theorem yd.put0 {w:World} {b:Nat} {x:Sb} (h:yd w b x) (g:Nat):yd (w.setCell ⟨b,0,none⟩ (.int .u32 (g:Int))) b ⟨g,x.root,x.used⟩:=by
 refine ⟨fun j v hv=>?_,fun j=>by rw [World.frozen?_setCell]; exact h.free j⟩;rw [zfP];by_cases e:j = 0
 ·subst e;have:v = .int .u32 (g:Int):=by simpa [zP] using hv.symm
  rw [this];exact World.cell?_setCell_same _ _ _ h.gen
 ·rw [World.cell?_setCell_other _ _ _ _ (by intro hh; injection hh; omega)];have:=h.at_ j v (by cases j with | zero=>exact absurd rfl e | succ j=>simpa [zP] using hv)
  rwa [zfP] at this
theorem yd.put1 {w:World} {b:Nat} {x:Sb} (h:yd w b x) (r:Int):yd (w.setCell ⟨b,1,none⟩ (.int .i64 r)) b ⟨x.gen,r,x.used⟩:=by
 refine ⟨fun j v hv=>?_,fun j=>by rw [World.frozen?_setCell]; exact h.free j⟩;rw [zfP];by_cases e:j = 1
 ·subst e;have:v = .int .i64 r:=by simpa [zP] using hv.symm
  rw [this];exact World.cell?_setCell_same _ _ _ h.root
 ·rw [World.cell?_setCell_other _ _ _ _ (by intro hh; injection hh; omega)];have:=h.at_ j v (by
   match j,e with
   | 0,_=>simpa [zP] using hv
   | j + 2,_=>simpa [zP] using hv)
  rwa [zfP] at this
section
variable {T:TypeId} (hT:qU T)
include hT
theorem ze8 {w:World} {b:Nat} {x:Sb} (h:w.rangeAt b 0 (zP x)) (hx:x.Ok):(loadVar T ⟨b,0,none⟩).run Tryz.prog w = .ok (sbV x) w:=by
 obtain ⟨d,hu,hd⟩:=hT.und;exact run_loadVar_mid w b 0 T (zP x) _ h hu hd (by rw [zJ hx]; exact hT.size)
theorem yc {ops:Array Oper} {rest:List Oper} {op:Oper} {a:Act} {w:World} {Q:Exit -> Act -> World -> Prop} (hw:Region.wanted op (yielded ops a.tmps) = true) (x:Operand) (ho:op.op = .load T x)
  (b:Nat) (hx:a.eval x = .pointer (some ⟨b,0,none⟩)) (s:Sb) (hs:s.Ok) (hc:w.rangeAt b 0 (zP s))
  (h:wpList Tryz.prog ops Q rest (a.put op.dst (sbV s)) w):wpList Tryz.prog ops Q (op :: rest) a w :=
 wpList_step fun _ hK=>by
  obtain ⟨d,hu,hd⟩:=hT.und;rw [if_pos hw];exact wp_load_mid T x ho b 0 hx (zP s) _ hc hu hd (by rw [zJ hs]; exact hT.size) (hK _ _ h)
theorem yx {ops:Array Oper} {rest:List Oper} {op:Oper} {a:Act} {w:World} {Q:Exit -> Act -> World -> Prop} (hgd:op.guard = none) (x y:Operand) (ho:op.op = .store T x y)
  (b:Nat) (s t:Sb) (hs:s.Ok) (ht:t.Ok) (hx:a.eval x = .pointer (some ⟨b,0,none⟩)) (hy:a.eval y = sbV s) (hb:yd w b t)
  (h:∀ w2,Hid (w2 = w.setCells b 0 (zP s)) -> Hid (yd w2 b s) -> wpList Tryz.prog ops Q rest (a.put op.dst undef) w2):wpList Tryz.prog ops Q (op :: rest) a w :=
 wpList_store_mid hgd _ x y ho b 0 (zT s) hx hy (by rw [zK hs,<- zJ ht]; exact hb.there) (by rw [zK hs]; exact hT.size) (xw s) (h _ (Hi rfl) (Hi (hb.lay ht hs)))
theorem xl {ops:Array Oper} {rest:List Oper} {o:Oper} {a:Act} {w:World} {Q:Exit -> Act -> World -> Prop} (hgd:o.guard = none) (ho:o.op = .build T #[])
  (h:wpList Tryz.prog ops Q rest (a.put o.dst (sbV Sb.zero)) w):wpList Tryz.prog ops Q (o :: rest) a w :=
 xE hgd T ho (zT Sb.zero) hT.none_ h
theorem Xf {ops:Array Oper} {rest:List Oper} {o:Oper} {a:Act} {w:World} {Q:Exit -> Act -> World -> Prop} (hgd:o.guard = none) (x y z:Operand) (ho:o.op = .build T #[(0,x),(1,y),(2,z)]) (s:Sb) (hs:s.Ok)
  (hx:a.eval x = .int .u32 (s.gen:Int)) (hy:a.eval y = .int .i64 s.root) (hz:a.eval z = stV s.used)
  (h:wpList Tryz.prog ops Q rest (a.put o.dst (sbV s)) w):wpList Tryz.prog ops Q (o :: rest) a w :=
 wpList_plain hgd fun _ hK=>by
  have e:(#[(0,x),(1,y),(2,z)].map fun (i,x)=>(i,a.eval x)).toList = [(0,.int .u32 (s.gen:Int)),(1,.int .i64 s.root),(2,stV s.used)]:=by
   simp only [List.map_toArray,List.map_cons,List.map_nil,hx,hy,hz]
  exact wp_build T _ ho (by rw [e,hT.built hs]; rfl) (hK _ _ (by rw [e,hT.built hs]; exact h))
theorem xi {fn:Func} {p q:Tmp} (h:fn.results = #[.cell p T,.tmp q]) (tmps:Array Value) (w:World) (b:Nat) (x:Sb) (v:Value)
  (hp:tmps.getD p undef = .pointer (some ⟨b,0,none⟩)) (hq:tmps.getD q undef = v) (hc:w.rangeAt b 0 (zP x)) (hx:x.Ok):(results fn tmps).run Tryz.prog w = .ok (.tuple #[sbV x,v]) w:=by
 have hp':tmps[p]?.getD undef = .pointer (some ⟨b,0,none⟩):=by simpa using hp
 rw [results_cell_tmp h,hp,hq];simp [asAddr,Result.andThen,ze8 hT hc hx]
end
theorem yM {ops:Array Oper} {rest:List Oper} {op:Oper} {a:Act} {w:World} {Q:Exit -> Act -> World -> Prop} (hw:Region.wanted op (yielded ops a.tmps) = true) (x:Operand) (ho:op.op = .load 63 x)
  (b o:Nat) (hx:a.eval x = .pointer (some ⟨b,o,none⟩)) (s:List Nat) (hl:s.length = 30) (hc:w.rangeAt b o (zq s))
  (h:wpList Tryz.prog ops Q rest (a.put op.dst (stV s)) w):wpList Tryz.prog ops Q (op :: rest) a w :=
 wpList_step fun _ hK=>by
  rw [if_pos hw];exact wp_load_mid 63 x ho b o hx (zq s) _ hc Tryz.underlying63 rfl (by rw [zH,hl]; exact Tryz.setSize) (hK _ _ h)
end
section
open Go.RowKit
theorem Kw (g:Nat) (hg:g < 4294967296) (w:World):Calls Tryz.prog 133 #[.int .u32 (g:Int)] w fun e w'=>e = .returned (.int .i64 ((g % 2:Nat):Int)) /\ w = w':=by
 go_enter Tryz.func133,Tryz.ntmps133
 go_wp2
 go_ret
 exact ⟨Ku (by omega),rfl⟩
theorem kE (c:Int) (hc:c ≠ 0) (w:World):Calls Tryz.prog 92 #[.int .i64 c] w (xb c w.1.size w):=by
 have H:=Hi hc;clear hc
 go_enter Tryz.func92,Tryz.ntmps92
 go_wp2_with fail;refine (yv _ w.1.size c _ w (.inr ⟨H.o,.base⟩) (zfI _)).mono ?_;rintro e w' ⟨v,rfl,h1,h4⟩;have H1:=Hi h1;have H4:=Hi h4;clear h1 h4;go_wp2_with fail
 go_ret
 exact ⟨v,rfl,H1.o,H4.o⟩
end
section
open Go.RowKit
theorem Ki (s:List Nat) (n:Int):vH s n = Z0 s n:=rfl
theorem QV {x:Sb} {k:Nat} (hk:k < 2) (h:Bits.has x.used k = true):yI x = false:=by
 unfold yI;obtain rfl | rfl:k = 0 \/ k = 1:=by omega
 ·simp [h]
 ·simp [h]
theorem Jz {x:Sb} (h:∀ j,j < 2 -> Bits.has x.used j = false):yI x = (decide (x.gen ≠ 0) && (decide (x.root = 0) || Z0 x.used x.root)):=by
 unfold yI;rw [h 0 (by decide),h 1 (by decide),Ki];by_cases h2:2 <= x.root
 ·simp [h2]
 ·by_cases h0:x.root = 0
  ·simp [h0]
  ·have:Z0 x.used x.root = false:=by
    rcases Int.lt_or_le x.root 0 with hn | hn
    ·unfold Z0 jT;rw [decide_eq_false (by omega),Bool.false_and]
    ·obtain ⟨m,hm⟩:∃ m:Nat,x.root = m:=⟨x.root.toNat,by omega⟩
     rw [hm,Ww (by omega)];exact h m (by omega)
   simp [this,h0]
def zcj (x:Sb) (b:Nat) (w:World) (i:Value) (wr:World):Prop:=∃ k:Nat,k <= 2 /\ i = .int .i64 (k:Int) /\ (∀ j,j < k -> Bits.has x.used j = false) /\ yd wr b x /\ Below w.1.size w wr
theorem Vs (x:Sb) (hx:x.Ok) (w:World):Calls Tryz.prog 157 #[sbV x] w fun e w'=>e = .returned (.bool (yI x)) /\ Below w.1.size w w':=by
 have HX:=Hi hx;clear hx;obtain ⟨b,HB⟩:=hY (w.1.size);obtain ⟨w1,HW⟩:=hY (w.alloc (.cells (zT x) 103));have HO:=hI (yd w1 b x) (by rw [HW.o,HB.o]; exact yd.new _);have HBL:=hI (Below w.1.size w w1) (by rw [HW.o]; exact bA);have HH:=Hi (qg x.used HX.o.used)
 go_enter Tryz.func157,Tryz.ntmps157
 go_upto_region 1 with (fail)
 rw [<- HW.o,<- HB.o];go_wp2_with fail
 go_loopw [4] (fun i wr=>zcj x b w i wr) (fun i _=>2 - (intOf i).toNat)
 case atStart=>exact ⟨0,by decide,rfl,fun j hj=>by omega,HO.o,HBL.o⟩
 case round =>
  obtain ⟨k,hk,rfl,hn,ho,hb⟩:=hrel;have HN:=Hi hn;have HO2:=Hi ho;have HB2:=Hi hb;clear hn ho hb;by_cases hlt:k < 2
  ·go_wp2_with (with_reducible refine xD9 (some 8) ?_);refine yM rfl _ rfl b 2 rfl x.used HX.o.used.len HO2.o.used ?_;go_wp2_with fail;refine (HH.o k _).mono ?_;rw [Ww (by omega)];rintro e w2 ⟨rfl,hb⟩;have HB3:=Hi hb;clear hb;cases hh:Bits.has x.used k with
   | true =>
    have HR:=Hi (QV hlt hh);go_wp2_with fail
    go_ret
    rw [HR.o];exact ⟨rfl,HB2.o.trans (HB3.o.mono HB2.o.size)⟩
   | false =>
    have HF:=Hi hh;clear hh;go_wp2_with fail
    go_roundw
    case rel =>
     refine ⟨k + 1,hlt,by go_num,fun j hj=>?_,HO2.o.below HB3.o HO2.o.lt,HB2.o.trans (HB3.o.mono HB2.o.size)⟩;by_cases e:j < k
     ·exact HN.o j e
     ·obtain rfl:j = k:=by omega
      exact HF.o
    case measure=>simp [intOf]; omega
  ·obtain rfl:k = 2:=by omega
   have HR:=Hi (Jz HN.o);have c0:=HO2.o.gen;have c1:=HO2.o.root;obtain ⟨g,HG⟩:=hY (x.gen);obtain ⟨r,HRT⟩:=hY (x.root);rw [<- HG.o] at c0;rw [<- HRT.o] at c1;rw [<- HG.o,<- HRT.o] at HR;by_cases hg:g = 0
   ·subst hg;go_wp2_with fail
    go_ret
    rw [HR.o];exact ⟨rfl,HB2.o⟩
   ·have e1:((g:Int) == 0) = false:=by simp; omega
    have e2:((g:Int) != 0) = true:=by simp [bne,e1]
    have e3:decide (g ≠ 0) = true:=by simp [hg]
    rw [e3,Bool.true_and] at HR;clear e3;by_cases hr:r = 0
    ·subst hr;go_wp2_with fail
     go_ret
     rw [HR.o];exact ⟨rfl,HB2.o⟩
    ·have e4:(r == 0) = false:=by simp [hr]
     have e5:decide (r = 0) = false:=by simp [hr]
     rw [e5,Bool.false_or] at HR;clear e5 hg hr;go_wp2_with (with_reducible refine xD9 (some 21) ?_);refine yM (by rfl) _ rfl b 2 rfl x.used HX.o.used.len HO2.o.used ?_;go_wp2_with fail;refine (HH.o r _).mono ?_;rintro e w2 ⟨rfl,hb⟩;have HB3:=Hi hb;clear hb;go_wp2_with fail
     go_ret
     rw [HR.o];exact ⟨rfl,HB2.o.trans (HB3.o.mono HB2.o.size)⟩
end
section
open Go.RowKit
theorem Q5 {s:List Nat} (h:∀ b ∈ s,b < 256):zq s = ze (pgB (ZI s)):=by
 simp only [zq,ze,pgB,ZI,List.map_map];refine List.map_congr_left fun b hb=>?_
 have:=h b hb;show Value.int .u8 (b:Int) = Value.int .u8 ((UInt8.ofNat b).toNat:Int);rw [UInt8.toNat_ofNat',Nat.mod_eq_of_lt (by omega)]
theorem zdx {w:World} {b o n cap:Nat} {s:List Nat} (h:w.rangeAt b o (zq s)) (hs:∀ b ∈ s,b < 256) (hn:s.length = n) :
  (convert 75 9 (.slice (some ⟨b,o,none⟩) n cap)).run Tryz.prog w = .ok (.string ⟨(ZI s).toArray⟩) w:=by
 rw [Q5 hs] at h;exact kh h (by rw [Zn,hn])
theorem zdg {w:World} {a c:Int} (t:TypeId):Nums (w.alloc (.cells #[.int .i64 a,.int .i64 c] t)) .i64 (some ⟨w.1.size,0,none⟩) [a,c]:=fun _=>⟨_,rfl,by simp,fun i z hz=>by
 match i,hz with
 | 0,hz=>simp at hz; simp [hz,Addr.add]
 | 1,hz=>simp at hz; simp [hz,Addr.add]⟩
theorem Z9 {ops:Array Oper} {rest:List Oper} {o:Oper} {a:Act} {w:World} {Q:Exit -> Act -> World -> Prop} (hg:o.guard = none) (x y:Operand) (ho:o.op = .buildSlice 45 2 #[(0,x),(1,y)]) (m n:Int)
  (hx:a.eval x = .int .i64 m) (hy:a.eval y = .int .i64 n)
  (h:∀ w2 B,Hid (B = w.1.size) -> Hid (Nums w2 .i64 (some ⟨B,0,none⟩) [m,n]) -> Hid (Below w.1.size w w2) -> wpList Tryz.prog ops Q rest (a.put o.dst (.slice (some ⟨B,0,none⟩) 2 2)) w2):wpList Tryz.prog ops Q (o :: rest) a w:=by
 obtain ⟨i0,hi,hz0,hz1,_⟩:=info_parts Tryz.infoInt;have hp:(#[(0,x),(1,y)].map fun (i,x)=>(i,a.eval x)).toList = [(0,.int .i64 m),(1,.int .i64 n)]:=by simp only [List.map_toArray,List.map_cons,List.map_nil,hx,hy]
 refine wpList_buildSlice hg 45 3 2 _ ho #[.int .i64 m,.int .i64 n] i0 (.int .i64 0) Tryz.underlying45 hi hz0 (by rw [hz1]; decide) (by rw [hz1]; decide) ?_ ?_
 ·rw [hp,hz1];exact Great.fill_flat [.int .i64 m,.int .i64 n] _ (fun v hv=>by
   simp only [List.mem_cons,List.not_mem_nil,or_false] at hv;rcases hv with rfl | rfl <;> rfl) (by simp)
 ·exact h _ _ (Hi rfl) (Hi (zdg _)) (Hi ((Below.refl _ _).alloc (zfI _) _))
theorem YP:qX [4,1]:=⟨by decide,by decide⟩
theorem zbd {g r:Nat} (hg:g < 4294967296) (hr:r < 256):zb9 [4,1] [g,r]:=fun i h1 h2=>by
 match i,h1,h2 with
 | 0,_,_=>exact hg
 | 1,_,_=>exact hr
theorem QC (g r:Nat) (u:List UInt8):lays ([4,1].zip [g,r]) ++ u = be 4 g ++ UInt8.ofNat r :: u:=by
 have h0:lays ([4,1].zip [g,r]) = be 4 g ++ (be 1 r ++ lays []):=rfl;have h1:be 1 r = [UInt8.ofNat r]:=by
  simp [be]
 rw [h0,h1];show (be 4 g ++ ([UInt8.ofNat r] ++ [])) ++ u = _;simp
def zaN (x:Sb) (w:World) (e:Ending) (w':World):Prop :=
 ∃ v,e = .returned (.tuple #[.string (if yI x = true then ⟨(jd x).toArray⟩ else ⟨#[]⟩),v]) /\ zi w' w.1.size (if yI x = true then 0 else 1) v /\ Below w.1.size w w'
theorem zdY (x:Sb) (hx:x.Ok) (w:World):Calls Tryz.prog 131 #[sbV x] w (zaN x w):=by
 have HX:=Hi hx;clear hx;obtain ⟨b,HB⟩:=hY (w.1.size);obtain ⟨w1,HW⟩:=hY (w.alloc (.cells (zT x) 103));have HO:=hI (yd w1 b x) (by rw [HW.o,HB.o]; exact yd.new _);have HBL:=hI (Below w.1.size w w1) (by rw [HW.o]; exact bA)
 go_enter Tryz.func131,Tryz.ntmps131
 go_upto_region 1 with (fail)
 rw [<- HW.o,<- HB.o];clear HW;go_wp2_with (with_reducible refine xD9 (some 6) ?_);refine yc Tryz.sbProg rfl _ rfl b rfl x HX.o HO.o.at_ ?_;go_wp2_with fail;refine (Vs x HX.o _).mono ?_;rintro e w2 ⟨rfl,hb⟩;have HO2:=Hi (HO.o.below hb HO.o.lt);have HB2:=hI (Below w.1.size w w2) (HBL.o.trans (hb.mono HBL.o.size));clear hb HO HBL;cases hr:yI x with
 | false =>
  have HR:=Hi hr;clear hr;go_wp2_with fail;refine (kE 1 (by decide) _).mono ?_;rintro e w3 ⟨v,rfl,he,hb⟩;have HE:=Hi he;have HB3:=Hi hb;clear he hb;go_wp2_with fail
  go_ret2
  refine ⟨v,by rw [HR.o]; rfl,?_,HB2.o.trans (HB3.o.mono HB2.o.size)⟩;rw [HR.o];exact HE.o.mono HB2.o.size
 | true =>
  have HR:=Hi hr;obtain ⟨r,hroot,hrlt⟩:=XF hr;have c0:=HO2.o.gen;have c1:=HO2.o.root;rw [hroot] at c1;obtain ⟨g,HG⟩:=hY (x.gen);rw [<- HG.o] at c0;have HRT:=Hi hroot;have hg:(g:Int) < 4294967296:=by have:=HX.o.gen; rw [HG.o]; omega
  clear hr hroot;go_wp2_with (with_reducible refine xD9 (some 11) ?_);refine Z9 rfl _ _ rfl 4 1 rfl rfl ?_;intro w3 B3 HBE3 HN3 HBL3;have HO3:=Hi (HO2.o.below HBL3.o HO2.o.lt);have c0:=HO3.o.gen;have c1:=HO3.o.root;rw [HRT.o] at c1;rw [<- HG.o] at c0;have hcv:IntKind.i64.wrap (g:Int) = (g:Int):=IntWalk.i64_in _ (by omega);go_wp2_with (with_reducible refine xD9 (some 17) ?_);refine Z9 rfl _ _ rfl (g:Int) (r:Int) rfl rfl ?_;intro w4 B4 HBE4 HN4 HBL4;have HO4:=Hi (HO3.o.below HBL4.o HO3.o.lt);have HB4:=hI (Below w.1.size w w4) ((HB2.o.trans (HBL3.o.mono HB2.o.size)).trans (HBL4.o.mono (Nat.le_trans HB2.o.size HBL3.o.size)));have HN3':=Hi (HN3.o.carry HBL4.o);clear c0 c1 hcv;go_wp2_with fail;refine (JT [4,1] [g,r] (some ⟨B3,0,none⟩) (some ⟨B4,0,none⟩) 2 2 w4 YP HN3'.o HN4.o rfl (zbd (by omega) (by omega))).mono ?_;rintro e w5 ⟨rfl,hb⟩;have HO5:=Hi (HO4.o.below hb HO4.o.lt);have HB5:=hI (Below w.1.size w w5) (HB4.o.trans (hb.mono HB4.o.size));obtain ⟨t,HT⟩:=hY (lays ([4,1].zip [g,r]));rw [<- HT.o];have hcv:=zdx (cap:=30) HO5.o.used HX.o.used.small HX.o.used.len;clear hb;obtain ⟨p,HP⟩:∃ p:ByteArray,Hid (p = ⟨t.toArray⟩):=Hy;obtain ⟨q,HQ⟩:∃ q:ByteArray,Hid (q = ⟨(ZI x.used).toArray⟩):=Hy;rw [<- HP.o];rw [<- HQ.o] at hcv;have HL:=hI (t ++ ZI x.used = jd x) (by rw [HT.o,QC,HG.o]; unfold jd; rw [HRT.o,Int.toNat_natCast]);have hps:p.size <= 100:=by
   have:=congrArg List.length HL.o;rw [List.length_append,kH HX.o] at this;rw [HP.o,jk];omega
  have hqs:q.size <= 100:=by rw [HQ.o,jk,Zn,HX.o.used.len]; decide
  have hsum:p.size + q.size <= maxLen:=by unfold maxLen; omega
  go_wp2_with fail
  go_ret2
  have hpq:p ++ q = ⟨(jd x).toArray⟩:=by
   apply ByteArray.ext;apply Array.toList_inj.1;rw [HP.o,HQ.o,<- HL.o];simp
  refine ⟨.nilIface,?_,?_,HB5.o⟩
  ·rw [HR.o,if_pos rfl,<- hpq];rfl
  ·rw [HR.o,if_pos rfl];exact .nil _ _
end
section
open Go.RowKit
def vn (s:ByteArray) (w:World) (e:Ending) (w':World):Prop :=
 ∃ v,e = .returned (.tuple #[sbV ((jh s.data.toList).getD Sb.zero),v]) /\ zi w' w.1.size (if (jh s.data.toList).isSome = true then 0 else 2) v /\ Below w.1.size w w'
theorem vn.fault {s:ByteArray} {w w1:World} {e:Ending} {v:Value} (hn:jh s.data.toList = none) (he:e = .returned (.tuple #[sbV Sb.zero,v])) (h2:zi w1 w.1.size 2 v) (hb:Below w.1.size w w1):vn s w e w1 :=
 ⟨v,by rw [hn]; exact he,by rw [hn]; exact h2,hb⟩
theorem QP {l:List UInt8} (h:l.length ≠ 35):jh l = none:=by
 unfold jh;rw [if_neg (fun hh=>h hh.1)]
theorem zdq {l:List UInt8} (h:l.length = 35):jh l = if yI (ofS l) = true then some (ofS l) else none:=by
 unfold jh;by_cases hr:yI (ofS l) = true
 ·rw [if_pos ⟨h,hr⟩,if_pos hr]
 ·rw [if_neg (fun hh=>hr hh.2),if_neg hr]
theorem Kx (l:List UInt8) (h:l.length = 35):wN [4,1] (l.take 5) = [num (l.take 4),(l.getD 4 0).toNat]:=by
 match l,h with
 | a :: b :: c :: d :: e :: r,_=>simp [wN,num]
structure qO (w wi:World) (b:Nat) (x:Sb):Prop where
 res:yd wi b Sb.zero
 own:yd wi (b + 1) x
 below:Below w.1.size w wi
 at_:b = w.1.size
theorem qO.carry {w wi wj:World} {b:Nat} {x:Sb} (h:qO w wi b x) (hb:Below wi.1.size wi wj):qO w wj b x :=
 ⟨h.res.below hb h.res.lt,h.own.below hb h.own.lt,h.below.trans (hb.mono h.below.size),h.at_⟩
theorem qO.drew {w wi:World} {b:Nat} {x:Sb} (h:qO w wi b x):qO w wi.drew b x:=⟨h.res.drew,h.own.drew,h.below.drew,h.at_⟩
theorem yd.there2 {w:World} {b n:Nat} {x:Sb} (h:yd w b x) (hx:x.used.length = n):w.there b 2 n:=fun j hj=>⟨by rw [h.used j _ (zfM (by rw [zH,hx]; exact hj))]; rfl,h.free _⟩
theorem yd.copy {w w2:World} {b:Nat} {x:Sb} {u:List UInt8} (h:yd w b x) (hx:x.Ok) (hu:u.length = 30) (hw:w2 = w.setCells b 2 (ze (pgB u))):yd w2 b ⟨x.gen,x.root,u.map UInt8.toNat⟩:=by
 subst hw;refine ⟨fun j v hv=>?_,fun j=>by rw [World.frozen?_setCells]; exact h.free j⟩;rw [zfP];have hlen:(ze (pgB u)).length = 30:=by rw [yq,hu]
 match j,hv with
 | 0,hv =>
  rw [World.cell?_setCells_out b _ _ _ _ (fun _ _=>.inl (by show 0 < 2; decide))];have:v = .int .u32 (x.gen:Int):=by simpa [zP] using hv.symm
  rw [this];exact h.gen
 | 1,hv =>
  rw [World.cell?_setCells_out b _ _ _ _ (fun _ _=>.inl (by show 1 < 2; decide))];have:v = .int .i64 x.root:=by simpa [zP] using hv.symm
  rw [this];exact h.root
 | j + 2,hv =>
  have hv':(ze (pgB u))[j]? = some v:=by
   have:(zq (u.map UInt8.toNat))[j]? = some v:=by simpa [zP] using hv
   rw [<- this];simp [zq,ze,pgB];rfl
  have hj:j < 30:=by have:=(List.getElem?_eq_some_iff.1 hv').1; omega
  have hin:=World.cell?_setCells_in b (ze (pgB u)) 2 w (fun i hi=>by
   have:=h.used i ((zq x.used)[i]'(by rw [zH,hx.used.len]; omega)) (zfM _);rw [this]; rfl) j (by omega)
  rw [show j + 2 = 2 + j by omega,hin];rw [zfM (by omega)] at hv';exact hv'
theorem zi.lay {w w2:World} {lo b o:Nat} {c:Int} {v:Value} {vs:List Value} (h:zi w lo c v) (hw:w2 = w.setCells b o vs) (hb:b < lo):zi w2 lo c v :=
 h.carry (zD (B:=0) ⟨rfl,rfl,rfl,zfI _,fun _ h=>absurd h (Nat.not_lt_zero _)⟩ hw (Nat.zero_le _)).size fun k hk _=>by
  subst hw;exact xp b (by omega) _ _ _
theorem qO.new (w:World) (t:TypeId):qO w ((w.alloc (.cells (zT Sb.zero) t)).alloc (.cells (zT Sb.zero) t)) w.1.size Sb.zero :=
 ⟨(yd.new _).below ((Below.refl _ _).alloc (zfI _) _) (by simp),by have:=yd.new (w:=w.alloc (.cells (zT Sb.zero) t)) (x:=Sb.zero) t; simpa using this,
  ((Below.refl _ _).alloc (zfI _) _).alloc (by simp) _,rfl⟩
theorem KK (s:ByteArray) (hs:s.size ≠ 35) (w:World):Calls Tryz.prog 128 #[.string s] w (vn s w):=by
 have HN:=Hi (QP (l:=s.data.toList) (by rw [QE]; exact hs));have hne:((s.size:Int) != 35) = true:=by simp; omega
 clear hs;have hz:=Tryz.sbProg.zero;obtain ⟨b,HB⟩:=hY (w.1.size);obtain ⟨w1,HW⟩:=hY ((w.alloc (.cells (zT Sb.zero) 103)).alloc (.cells (zT Sb.zero) 103));have HST:=hI (qO w w1 b Sb.zero) (by rw [HW.o,HB.o]; exact qO.new w _)
 go_enter Tryz.func128,Tryz.ntmps128
 go_upto_region 2 with (fail)
 rw [<- HW.o,<- HB.o];clear HW;go_wp2_with (with_reducible refine xD9 (some 10) ?_);refine xl Tryz.sbProg rfl rfl ?_;go_wp2_with fail;refine (kE 2 (by decide) _).mono ?_;rintro e w3 ⟨v,rfl,he,hb⟩;have HE:=Hi he;have HST3:=Hi (HST.o.carry hb);have HBB:=Hi hb;clear he hb;go_wp2_with (with_reducible refine xD9 (none) ?_);refine yx Tryz.sbProg rfl _ _ rfl b Sb.zero Sb.zero Sb.Ok.zero Sb.Ok.zero rfl rfl HST3.o.res ?_;intro w4 HW4 HO4;go_wp2_with fail;have hb4:=zD HST3.o.below HW4.o (by rw [HB.o]; exact zfI _);exact bodyPost_ret (xi Tryz.sbProg rfl _ _ b Sb.zero v rfl rfl HO4.o.at_ Sb.Ok.zero) rfl (vn.fault HN.o rfl ((HE.o.lay HW4.o HST.o.res.lt).mono HST.o.below.size) hb4)
theorem qO.one {w wi wj:World} {b:Nat} {x y:Sb} (h:qO w wi b x) (hw:∃ j v,wj = wi.setCell ⟨b + 1,j,none⟩ v) (hy:yd wj (b + 1) y):qO w wj b y:=by
 obtain ⟨j,v,rfl⟩:=hw;exact ⟨⟨fun i u hu=>by rw [World.cell?_setCell_other _ _ _ _ (by intro hh; injection hh; omega)]; exact h.res.at_ i u hu,fun i=>by rw [World.frozen?_setCell]; exact h.res.free i⟩,hy,h.below.setCell (by show w.1.size <= b + 1; rw [h.at_]; omega) _,h.at_⟩
theorem zaO (s:ByteArray) (hs:s.size = 35) (w:World):Calls Tryz.prog 128 #[.string s] w (vn s w):=by
 have hl35:s.data.toList.length = 35:=by rw [QE]; exact hs
 have HN:=Hi (zdq hl35);have HOK:=Hi (zdh hl35);have HSP:=Hi (Kx _ hl35);have hne:((s.size:Int) != 35) = false:=by simp; omega
 have hz:=Tryz.sbProg.zero;obtain ⟨l,HLL⟩:=hY (s.data.toList);obtain ⟨b,HB⟩:=hY (w.1.size);obtain ⟨w1,HW⟩:=hY ((w.alloc (.cells (zT Sb.zero) 103)).alloc (.cells (zT Sb.zero) 103));have HST:=hI (qO w w1 b Sb.zero) (by rw [HW.o,HB.o]; exact qO.new w _);obtain ⟨x,HX⟩:=hY (ofS s.data.toList);rw [<- HX.o] at HN HOK
 go_enter Tryz.func128,Tryz.ntmps128
 go_upto_region 2 with (fail)
 rw [<- HW.o,<- HB.o];clear HW;go_wp2_with (with_reducible refine xD9 (some 13) ?_);refine Z9 rfl _ _ rfl 4 1 rfl rfl ?_;intro w2 B2 HBE2 HN2 HBL2;have HST2:=Hi (HST.o.carry HBL2.o);have hs5:(5:Int) <= (s.size:Int):=by omega
 obtain ⟨u,HU⟩:∃ u:ByteArray,Hid (u = s.extract 0 5):=Hy;have HUL:=hI (u.data.toList = s.data.toList.take 5) (by rw [HU.o,Ys]);have HUS:=hI (u.size = 5) (by rw [<- QE,HUL.o,List.length_take,hl35]; decide);have hu:s.extract 0 5 = u:=HU.o.symm;go_wp2_with fail;refine (zaL [4,1] u (some ⟨B2,0,none⟩) 2 w2 YP HN2.o HUS.o).mono ?_;rw [HUL.o,HSP.o];rintro e w3 ⟨g,cap,hg,rfl,hn,hb⟩;obtain ⟨m,HM⟩:=hY (num (s.data.toList.take 4));obtain ⟨r,HR⟩:=hY ((s.data.toList.getD 4 0).toNat);rw [<- HM.o,<- HR.o] at hn;have HST3:=Hi (HST2.o.carry hb);have HG:=Hi (zfG HST2.o.own.lt hg);obtain ⟨_,e1,c0⟩:=hn.at_ (i:=0) (z:=(m:Int)) rfl;obtain rfl:=Option.some.inj e1;obtain ⟨_,e2,c1⟩:=hn.at_ (i:=1) (z:=(r:Int)) rfl;obtain rfl:=Option.some.inj e2;have hm:m < 4294967296:=by rw [HM.o]; exact Zh _ 4
 have hcv:IntKind.u32.wrap (m:Int) = (m:Int):=by
  show (m:Int) % 4294967296 = _;omega
 have c0':w3.cell? ⟨g,0,none⟩ = some (.int .i64 (m:Int)):=c0;have c1':w3.cell? ⟨g,1,none⟩ = some (.int .i64 (r:Int)):=c1;have d0:=HST3.o.own.gen;have d1:=HST3.o.own.root;have f0:=HST3.o.own.free 0;have f1:=HST3.o.own.free 1;have hgb:g ≠ b + 1:=by have:=HG.o; omega
 have hgb':b + 1 ≠ g:=by omega
 clear hn hb hg e1 e2 c0 c1;go_upto_region 7 with (fail)
 go_cut [] (fun wx=>Hid (qO w wx b ⟨m,r,zQ⟩))
 case first =>
  go_region_law (fail)
  all_goals
   go_wp2_with fail
   go_meet
   refine Hi (qO.drew ?_);exact (HST3.o.one ⟨_,_,rfl⟩ (HST3.o.own.put0 m)).one ⟨_,_,rfl⟩ ((HST3.o.own.put0 m).put1 (r:Int))
 case rest =>
  have HST4:=hcut;have hs35:s.size = 35:=hs;obtain ⟨t,HT⟩:∃ t:ByteArray,Hid (t = s.extract 5 s.size):=Hy;have HTL:=hI (t.data.toList = s.data.toList.drop 5) (by
   rw [HT.o,Yt,List.take_of_length_le (by rw [List.length_drop,hl35,hs35]; decide)])
  have HTS:=hI ((s.data.toList.drop 5).length = 30) (by rw [List.length_drop,hl35]);have ht:s.extract 5 35 = t:=by rw [HT.o,hs35]
  clear hcut HST3 HST2 HST c0' c1' d0 d1 f0 f1 hgb hgb' hcv hu;go_wp2_with fail;refine wp_region_held (S:=fun _=>True) (by kernel_rfl) ?_;change wpAnyH _ _ _ _ _ _ _ _ wc.drew;obtain ⟨w5,HW⟩:=hY (wc.drew);rw [<- HW.o];have HST5:=Hi (HST4.o.drew);rw [<- HW.o] at HST5;clear HW HST4;refine xA9 0 33 (.pointer (some ⟨b + 1,2,none⟩)) trivial ?_;refine xA9 1 34 (Value.slice (some ⟨b + 1,2,none⟩) 30 30) trivial ?_;refine xA9 2 35 (.string s) trivial ?_;refine xA9 3 36 (.string t) trivial ?_;refine xJ9 4 (some 37) (fun K hK=>?_);refine vP (by rfl) _ _ _ _ rfl 5 Tryz.underlying75 YL (b + 1) 2 30 30 rfl (s.data.toList.drop 5) t HTL.o rfl (by rw [HTS.o]; decide) (by rw [HTS.o]; exact HST5.o.own.there2 yD) (fun w6 HW=>?_);refine hK.out _ _ trivial ?_;clear hK K;simp only [Act.put,pU];have HX2:=hI (x = ⟨m,r,(s.data.toList.drop 5).map UInt8.toNat⟩) (by rw [HX.o,HM.o,HR.o]; rfl);have HST6:=hI (qO w w6 b x) (by
   rw [HX2.o];exact ⟨by rw [HW.o]; exact HST5.o.res.other (by omega) _ _,HST5.o.own.copy ⟨hm,zb1⟩ HTS.o HW.o,zD HST5.o.below HW.o (by rw [HST5.o.at_]; omega),HST5.o.at_⟩)
  clear HW HST5;refine wpAnyH_done (by kernel_rfl) ?_ _;go_wp2_with (with_reducible refine xD9 (some 38) ?_);refine yc Tryz.sbProg rfl _ rfl (b + 1) rfl x HOK.o HST6.o.own.at_ ?_;go_wp2_with fail;refine (Vs x HOK.o _).mono ?_;rintro e w7 ⟨rfl,hb⟩;have HST7:=Hi (HST6.o.carry hb);clear hb HST6;cases hr:yI x with
  | false =>
   have HN2:=hI (jh s.data.toList = none) (by rw [HN.o,hr]; rfl);clear hr;go_wp2_with (with_reducible refine xD9 (some 41) ?_);refine xl Tryz.sbProg rfl rfl ?_;go_wp2_with fail;refine (kE 2 (by decide) _).mono ?_;rintro e w8 ⟨v,rfl,he,hb⟩;have HE:=Hi he;have HST8:=Hi (HST7.o.carry hb);clear he hb;go_wp2_with (with_reducible refine xD9 (none) ?_);refine yx Tryz.sbProg rfl _ _ rfl b Sb.zero Sb.zero Sb.Ok.zero Sb.Ok.zero rfl rfl HST8.o.res ?_;intro w9 HW9 HO9;go_wp2_with fail;have hb9:=zD HST8.o.below HW9.o (by rw [HB.o]; exact zfI _);exact bodyPost_ret (xi Tryz.sbProg rfl _ _ b Sb.zero v rfl rfl HO9.o.at_ Sb.Ok.zero) rfl (vn.fault HN2.o rfl ((HE.o.lay HW9.o HST7.o.res.lt).mono HST7.o.below.size) hb9)
  | true =>
   have HN2:=hI (jh s.data.toList = some x) (by rw [HN.o,hr]; rfl);clear hr;go_wp2_with (with_reducible refine xD9 (some 43) ?_);refine yc Tryz.sbProg rfl _ rfl (b + 1) rfl x HOK.o HST7.o.own.at_ ?_;refine yx Tryz.sbProg rfl _ _ rfl b x Sb.zero HOK.o Sb.Ok.zero rfl rfl HST7.o.res ?_;intro w9 HW9 HO9;go_wp2_with fail;have hb9:=zD HST7.o.below HW9.o (by rw [HB.o]; exact zfI _);refine bodyPost_ret (xi Tryz.sbProg rfl _ _ b x .nilIface rfl rfl HO9.o.at_ HOK.o) rfl ⟨.nilIface,by rw [HN2.o]; rfl,?_,hb9⟩;rw [HN2.o];exact .nil _ _
theorem J5 (s:ByteArray) (w:World):Calls Tryz.prog 128 #[.string s] w (vn s w):=by
 by_cases hs:s.size = 35
 ·exact zaO s hs w
 ·exact KK s hs w
end
section
open Go.RowKit
def Wf (l:List UInt8) (w:World) (e:Ending) (w':World):Prop :=
 ∃ c v,e = .returned (.tuple #[sbV ((yB l).getD Sb.zero),v]) /\ zi w' w.1.size c v /\ (c = 0 ↔ (yB l).isSome = true) /\ Below w.1.size w w'
theorem za5 {l:List UInt8} (h:wG 0 1 l = 0):xP l = 0 /\ kB l = 1:=by
 unfold wG at h;rw [if_neg (by decide)] at h;split at h
 ·rename_i h1; exact absurd h h1
 ·rename_i h1
  split at h
  ·rename_i h2
   refine ⟨Decidable.not_not.1 h1,?_⟩;rw [<- UInt8.toNat_inj];show (kB l).toNat = 1;omega
  ·cases h
theorem za4 {l:List UInt8} (h:wG 0 1 l ≠ 0):yB l = none:=by
 unfold yB;rw [if_neg];rintro ⟨h1,h2⟩;apply h;unfold wG;rw [if_neg (by decide),if_neg (by rw [h1]; decide),if_pos (by rw [h2]; rfl)]
theorem zfv (l:List UInt8):(⟨l.toArray⟩:ByteArray).data.toList = l:=by simp
theorem J4 {K:Nat -> Prop} {D n:Nat} {d:Dk} {w:World} (h:zB K w D n d) (i:Nat) (hc:xQ d.down n i = 0) (l:List UInt8) (hl:l.length = 128) (hp:xU d.seen i = pgB l) (hg:zO w) :
  Calls Tryz.prog 93 #[.pointer (some ⟨D,0,none⟩),.int .i64 i] w (Wf l w):=by
 have hz:=Tryz.sbProg.zero;obtain ⟨b,HB⟩:=hY (w.1.size);obtain ⟨w1,HW⟩:=hY (w.alloc (.cells (zT Sb.zero) 103));have HO:=hI (yd w1 b Sb.zero) (by rw [HW.o,HB.o]; exact yd.new _);have HBL:=hI (Below w.1.size w w1) (by rw [HW.o]; exact bA);have hF:=X4 (h.carry HBL.o) (i:Int) 1 l hl (fun _=>hp) (hg.carry HBL.o);rw [hc] at hF;have HF:=Hi hF;clear hF h hc hl hp hg
 go_enter Tryz.func93,Tryz.ntmps93
 go_upto_region 1 with (fail)
 rw [<- HW.o,<- HB.o];clear HW;go_wp2_with fail;refine HF.o.mono ?_;rintro e w2 ⟨v,rfl,he,hb⟩;have HO2:=Hi (HO.o.below hb HO.o.lt);have HB2:=hI (Below w.1.size w w2) (HBL.o.trans (hb.mono HBL.o.size));have HS2:=Hi hb.size;by_cases hc:wG 0 1 l = 0
 ·rw [if_pos hc];rw [hc] at he;obtain rfl:=he.zero;obtain ⟨h1,h2⟩:=za5 hc;have HS:=hI (yB l = jh (dB l)) (by unfold yB; rw [if_pos ⟨h1,h2⟩]);obtain ⟨s,HSS⟩:∃ s:ByteArray,Hid (s = ⟨(dB l).toArray⟩):=Hy;have HL:=hI (s.data.toList = dB l) (by rw [HSS.o,zfv]);rw [<- HSS.o];clear he hb hc h1 h2;go_wp2_with fail;refine (J5 s w2).mono ?_;rintro e w3 ⟨v,rfl,he,hb⟩;rw [HL.o,<- HS.o] at he ⊢;obtain ⟨o,HOO⟩:=hY (yB l);rw [<- HOO.o] at he ⊢;have HX:=hI ((o.getD Sb.zero).Ok) (by
   cases ho:o with
   | none=>exact Sb.Ok.zero
   | some x=>exact (jX (by rw [<- HOO.o]; exact ho)).1)
  have HE:=Hi he;have HO3:=Hi (HO2.o.below hb HO2.o.lt);have HB3:=hI (Below w.1.size w w3) (HB2.o.trans (hb.mono HB2.o.size));obtain ⟨x,HXX⟩:=hY (o.getD Sb.zero);rw [<- HXX.o] at HX ⊢;clear he hb;go_wp2_with (with_reducible refine xD9 (none) ?_);refine yx Tryz.sbProg rfl _ _ rfl b x Sb.zero HX.o Sb.Ok.zero rfl rfl HO3.o ?_;intro w4 HW4 HO4;go_wp2_with fail;have hb4:=zD HB3.o HW4.o (by rw [HB.o]; exact zfI _);refine bodyPost_ret (xi Tryz.sbProg rfl _ _ b x v rfl rfl HO4.o.at_ HX.o) rfl ⟨_,v,by rw [<- HOO.o,<- HXX.o],(HE.o.lay HW4.o HO2.o.lt).mono HB2.o.size,?_,hb4⟩;rw [<- HOO.o];cases o <;> simp
 ·have HC:=Hi hc;have HN:=Hi (za4 hc);have HE:=Hi he;obtain ⟨t,x,rfl⟩:=he.some hc;rw [if_neg hc];clear he hb hc;go_wp2_with (with_reducible refine xD9 (some 16) ?_);refine xl Tryz.sbProg rfl rfl ?_;go_wp2_with fail;refine (yv _ w1.1.size _ _ w2 HE.o HS2.o).mono ?_;rintro e w3 ⟨v,rfl,he,hb⟩;have HE3:=Hi he;have HO3:=Hi (HO2.o.below hb HO2.o.lt);have HB3:=hI (Below w.1.size w w3) (HB2.o.trans (hb.mono HB2.o.size));clear he hb;go_wp2_with (with_reducible refine xD9 (none) ?_);refine yx Tryz.sbProg rfl _ _ rfl b Sb.zero Sb.zero Sb.Ok.zero Sb.Ok.zero rfl rfl HO3.o ?_;intro w4 HW4 HO4;go_wp2_with fail;have hb4:=zD HB3.o HW4.o (by rw [HB.o]; exact zfI _);exact bodyPost_ret (xi Tryz.sbProg rfl _ _ b Sb.zero v rfl rfl HO4.o.at_ Sb.Ok.zero) rfl ⟨_,v,by rw [HN.o]; rfl,(HE3.o.lay HW4.o HO.o.lt).mono HBL.o.size,by rw [HN.o]; exact ⟨fun h=>absurd h HC.o,fun h=>by cases h⟩,hb4⟩
def ja (c:Int) (o:Option Sb) (w:World) (e:Ending) (w':World):Prop :=
 ∃ v,e = .returned (.tuple #[sbV (o.getD Sb.zero),v]) /\ zi w' w.1.size c v /\ Below w.1.size w w'
theorem zaF {K:Nat -> Prop} {D n:Nat} {d:Dk} {w:World} (h:zB K w D n d) (hd:d.down = true):Calls Tryz.prog 52 #[.pointer (some ⟨D,0,none⟩)] w (ja 7 none w):=by
 have hz:=Tryz.sbProg.zero;have hz2:=Tryz.zeroPage;obtain ⟨b,HB⟩:=hY (w.1.size);obtain ⟨w1,HW⟩:=hY (w.alloc (.cells (zT Sb.zero) 103));have HO:=hI (yd w1 b Sb.zero) (by rw [HW.o,HB.o]; exact yd.new _);have HBL:=hI (Below w.1.size w w1) (by rw [HW.o]; exact bA);have hr:=qT (h.carry HBL.o) 0;have hc:xQ d.down n 0 = 7:=by unfold xQ; rw [if_pos hd]
 rw [hc,if_neg (by decide)] at hr;have HR:=Hi hr;clear hr hc h hd
 go_enter Tryz.func52,Tryz.ntmps52
 go_upto_region 1 with (fail)
 rw [<- HW.o,<- HB.o];clear HW;go_wp2_with fail;refine HR.o.mono ?_;rintro e w2 ⟨v,rfl,he,hb⟩;obtain ⟨t,x,rfl⟩:=he.some (by decide);have HE:=Hi he.from_;have HO2:=Hi (HO.o.below hb HO.o.lt);have HB2:=hI (Below w.1.size w w2) (HBL.o.trans (hb.mono HBL.o.size));have HS2:=Hi hb.size;clear he hb HR;go_wp2_with (with_reducible refine xD9 (none) ?_);refine zv rfl _ _ _ rfl (zx zt) (zx zt) _ rfl rfl rfl (by rw [zu,zI]; exact Tryz.pageSize) rfl (yS _) ?_;obtain ⟨w3,HW⟩:=hY (w2.alloc (.cells (zx zt) 87));rw [<- HW.o];have hb3:Below w2.1.size w2 w3:=by rw [HW.o]; exact bA
 have HO3:=Hi (HO2.o.below hb3 HO2.o.lt);have HB3:=hI (Below w.1.size w w3) (HB2.o.trans (hb3.mono HB2.o.size));have HE3:=Hi (HE.o.below hb3);have HS3:=Hi (Nat.le_trans HS2.o hb3.size);clear hb3 HW HE;go_wp2_with (with_reducible refine xD9 (some 17) ?_);refine xl Tryz.sbProg rfl rfl ?_;go_wp2_with fail;refine (yv _ w1.1.size _ _ w3 HE3.o HS3.o).mono ?_;rintro e w4 ⟨v,rfl,he,hb⟩;have HE4:=Hi he;have HO4:=Hi (HO3.o.below hb HO3.o.lt);have HB4:=hI (Below w.1.size w w4) (HB3.o.trans (hb.mono HB3.o.size));clear he hb;go_wp2_with (with_reducible refine xD9 (none) ?_);refine yx Tryz.sbProg rfl _ _ rfl b Sb.zero Sb.zero Sb.Ok.zero Sb.Ok.zero rfl rfl HO4.o ?_;intro w5 HW5 HO5;go_wp2_with fail;have hb5:=zD HB4.o HW5.o (by rw [HB.o]; exact zfI _);exact bodyPost_ret (xi Tryz.sbProg rfl _ _ b Sb.zero v rfl rfl HO5.o.at_ Sb.Ok.zero) rfl ⟨v,rfl,(HE4.o.lay HW5.o HO.o.lt).mono HBL.o.size,hb5⟩
end
section
open Go.RowKit
def qC (a b:List UInt8):Nat -> Sb
 | 0=>Sb.zero
 | 1=>(yB a).getD Sb.zero
 | _=>(best (yB a) (yB b)).getD Sb.zero
theorem zau {l:List UInt8}:((yB l).getD Sb.zero).Ok:=by
 cases h:yB l with
 | none=>exact Sb.Ok.zero
 | some x=>exact (jX h).1
theorem zar {a b:List UInt8} {x:Sb} (h:best (yB a) (yB b) = some x):x.Ok /\ yI x = true:=by
 rcases zaZ h with h | h
 ·exact jX h
 ·exact jX h
theorem KR (a b:List UInt8) (k:Nat):(qC a b k).Ok:=by
 match k with
 | 0=>exact Sb.Ok.zero
 | 1=>exact zau
 | k + 2 =>
  show ((best (yB a) (yB b)).getD Sb.zero).Ok;cases h:best (yB a) (yB b) with
  | none=>exact Sb.Ok.zero
  | some x=>exact (zar h).1
def JE (a b:List UInt8) (k:Nat):List UInt8:=if k = 0 then a else b
theorem Qa {a b:List UInt8} {k:Nat} (hk:k < 2) (h:yB (JE a b k) = none):qC a b (k + 1) = qC a b k:=by
 match k,hk with
 | 0,_=>show (yB a).getD Sb.zero = Sb.zero; rw [show yB a = none from h]; rfl
 | 1,_ =>
  show (best (yB a) (yB b)).getD Sb.zero = (yB a).getD Sb.zero;rw [show yB b = none from h];cases yB a <;> rfl
theorem Qb {a b:List UInt8} {k:Nat} {x:Sb} (hk:k < 2) (h:yB (JE a b k) = some x):qC a b (k + 1) = if (qC a b k).gen < x.gen then x else qC a b k:=by
 have hr:=WN (jX h).2
 match k,hk with
 | 0,_ =>
  show (yB a).getD Sb.zero = if (0:Nat) < x.gen then x else Sb.zero
  rw [show yB a = some x from h,if_pos (by omega)];rfl
 | 1,_ =>
  show (best (yB a) (yB b)).getD Sb.zero = if ((yB a).getD Sb.zero).gen < x.gen then x else (yB a).getD Sb.zero
  rw [show yB b = some x from h];cases yB a with
  | none=>show x = if (0:Nat) < x.gen then x else _; rw [if_pos (by omega)]
  | some y =>
   show (if x.gen <= y.gen then some y else some x).getD Sb.zero = if y.gen < x.gen then x else y
   by_cases hg:x.gen <= y.gen
   ·rw [if_pos hg,if_neg (by omega)]; rfl
   ·rw [if_neg hg,if_pos (by omega)]; rfl
theorem zaY {a b:List UInt8}:(qC a b 2).gen = 0 ↔ best (yB a) (yB b) = none:=by
 show ((best (yB a) (yB b)).getD Sb.zero).gen = 0 ↔ _;cases h:best (yB a) (yB b) with
 | none=>exact ⟨fun _=>rfl,fun _=>rfl⟩
 | some x=>exact ⟨fun hg=>absurd hg (WN (zar h).2),fun hg=>by cases hg⟩
theorem JP {K:Nat -> Prop} {D n:Nat} {d:Dk} {w:World} (h:zB K w D n d) (hd:d.down = false) (hn:n < 3):Calls Tryz.prog 52 #[.pointer (some ⟨D,0,none⟩)] w (ja 1 none w):=by
 have hz:=Tryz.sbProg.zero;have hz2:=Tryz.zeroPage;have hn3:(n:Int) < 3:=by omega
 obtain ⟨b,HB⟩:=hY (w.1.size);obtain ⟨w1,HW⟩:=hY (w.alloc (.cells (zT Sb.zero) 103));have HO:=hI (yd w1 b Sb.zero) (by rw [HW.o,HB.o]; exact yd.new _);have HBL:=hI (Below w.1.size w w1) (by rw [HW.o]; exact bA);have HD:=Hi (h.carry HBL.o);have hpos:0 < n:=by obtain ⟨F,S,v,h⟩:=h; exact h.pos
 have hr:=qT HD.o 0;have hc:xQ d.down n ((0:Nat):Int) = 0:=by rw [hd]; exact jQ hpos
 rw [show xQ d.down n 0 = 0 from hc,if_pos rfl] at hr;obtain ⟨p,HP⟩:=hY (xU d.seen (0:Int).toNat);have HPL:=hI (p.length = 128) (by rw [HP.o]; exact Zj h.ok.ws (by rw [h.ok.seen]; exact hpos));rw [<- HP.o] at hr;have HR:=Hi hr;clear hr hc h hd hn
 go_enter Tryz.func52,Tryz.ntmps52
 go_upto_region 1 with (fail)
 rw [<- HW.o,<- HB.o];clear HW;go_wp2_with fail;refine HR.o.mono ?_;rintro e w2 ⟨v,rfl,he,hb⟩;obtain rfl:=he.zero;have HO2:=Hi (HO.o.below hb HO.o.lt);have HB2:=hI (Below w.1.size w w2) (HBL.o.trans (hb.mono HBL.o.size));have HD2:=Hi (HD.o.carry hb);clear he hb HR HD;go_wp2_with (with_reducible refine xD9 (none) ?_);refine zv rfl _ _ _ rfl (zx zt) (zx p) _ rfl rfl rfl (by rw [zu,HPL.o]; exact Tryz.pageSize) (by rw [zu,zu,HPL.o]; rfl) (yS _) ?_;obtain ⟨w3,HW⟩:=hY (w2.alloc (.cells (zx p) 87));rw [<- HW.o];have hb3:Below w2.1.size w2 w3:=by rw [HW.o]; exact bA
 have HO3:=Hi (HO2.o.below hb3 HO2.o.lt);have HB3:=hI (Below w.1.size w w3) (HB2.o.trans (hb3.mono HB2.o.size));have HD3:=Hi (HD2.o.carry hb3);clear hb3 HW HD2;go_wp2_with fail;refine (jb HD3.o).mono ?_;rintro e w' ⟨rfl,rfl⟩;go_wp2_with (with_reducible refine xD9 (some 23) ?_);refine xl Tryz.sbProg rfl rfl ?_;go_wp2_with fail;refine (kE 1 (by decide) w3).mono ?_;rintro e w4 ⟨v,rfl,he,hb⟩;have HE4:=Hi he;have HO4:=Hi (HO3.o.below hb HO3.o.lt);have HB4:=hI (Below w.1.size w w4) (HB3.o.trans (hb.mono HB3.o.size));clear he hb;go_wp2_with (with_reducible refine xD9 (none) ?_);refine yx Tryz.sbProg rfl _ _ rfl b Sb.zero Sb.zero Sb.Ok.zero Sb.Ok.zero rfl rfl HO4.o ?_;intro w5 HW5 HO5;go_wp2_with fail;have hb5:=zD HB4.o HW5.o (by rw [HB.o]; exact zfI _);exact bodyPost_ret (xi Tryz.sbProg rfl _ _ b Sb.zero v rfl rfl HO5.o.at_ Sb.Ok.zero) rfl ⟨v,rfl,(HE4.o.lay HW5.o HO3.o.lt).mono HB3.o.size,hb5⟩
structure YS (w wr:World) (b c:Nat) (x:Sb):Prop where
 res:yd wr b Sb.zero
 own:yd wr c x
 below:Below w.1.size w wr
 lo:w.1.size <= b
 lo2:w.1.size <= c
 ne:b ≠ c
theorem YS.carry {w wi wj:World} {b c:Nat} {x:Sb} (h:YS w wi b c x) (hb:Below wi.1.size wi wj):YS w wj b c x :=
 ⟨h.res.below hb h.res.lt,h.own.below hb h.own.lt,h.below.trans (hb.mono h.below.size),h.lo,h.lo2,h.ne⟩
def zdP (w:World) (b c:Nat) (p q:List UInt8) (i:Value) (wr:World):Prop:=∃ k:Nat,k <= 2 /\ i = .int .i64 (k:Int) /\ YS w wr b c (qC p q k)
theorem zb2 {K:Nat -> Prop} {D n:Nat} {d:Dk} {w:World} (h:zB K w D n d) (hd:d.down = false) (hn:3 <= n) (p q:List UInt8) (hp:p.length = 128) (hq:q.length = 128)
  (h0:xU d.seen 0 = pgB p) (h1:xU d.seen 1 = pgB q) (hg:zO w):Calls Tryz.prog 52 #[.pointer (some ⟨D,0,none⟩)] w (ja (if (best (yB p) (yB q)).isSome = true then 0 else 4) (best (yB p) (yB q)) w):=by
 obtain ⟨P,HPP⟩:=hY (ja (if (best (yB p) (yB q)).isSome = true then 0 else 4) (best (yB p) (yB q)) w);rw [<- HPP.o];have hz:=Tryz.sbProg.zero;have hz2:=Tryz.zeroPage;have hn3:¬ (n:Int) < 3:=by omega
 obtain ⟨b,HB⟩:=hY (w.1.size);obtain ⟨w1,HW⟩:=hY (w.alloc (.cells (zT Sb.zero) 103));have HO:=hI (yd w1 b Sb.zero) (by rw [HW.o,HB.o]; exact yd.new _);have HBL:=hI (Below w.1.size w w1) (by rw [HW.o]; exact bA);have HD:=Hi (h.carry HBL.o);have hr:=qT HD.o 0;have hc:xQ d.down n ((0:Nat):Int) = 0:=by rw [hd]; exact jQ (by omega)
 rw [show xQ d.down n 0 = 0 from hc,if_pos rfl,show (0:Int).toNat = 0 from rfl,h0] at hr;have HR:=Hi hr;have HLOAD:=hI (∀ w2,Below w.1.size w w2 -> ∀ k:Nat,k < 2 -> Calls Tryz.prog 93 #[.pointer (some ⟨D,0,none⟩),.int .i64 (k:Int)] w2 (Wf (JE p q k) w2)) fun w2 hb k hk=>by
  refine J4 (h.carry hb) k (by rw [hd]; exact jQ (by omega)) (JE p q k) ?_ ?_ (hg.carry hb)
  ·unfold JE; split
   ·exact hp
   ·exact hq
  ·match k,hk with
   | 0,_=>exact h0
   | 1,_=>exact h1
 have HPL:=Hi hp;clear hr hc h hd hn h0 h1 hg hp hq
 go_enter Tryz.func52,Tryz.ntmps52
 go_upto_region 1 with (fail)
 rw [<- HW.o,<- HB.o];clear HW;go_wp2_with fail;refine HR.o.mono ?_;rintro e w2 ⟨v,rfl,he,hb⟩;obtain rfl:=he.zero;have HO2:=Hi (HO.o.below hb HO.o.lt);have HB2:=hI (Below w.1.size w w2) (HBL.o.trans (hb.mono HBL.o.size));have HD2:=Hi (HD.o.carry hb);clear he hb HR HD;go_wp2_with (with_reducible refine xD9 (none) ?_);refine zv rfl _ _ _ rfl (zx zt) (zx (pgB p)) _ rfl rfl rfl (by rw [zu,yC,HPL.o]; exact Tryz.pageSize) (by rw [zu,zu,yC,HPL.o]; rfl) (yS _) ?_;obtain ⟨w3,HW⟩:=hY (w2.alloc (.cells (zx (pgB p)) 87));rw [<- HW.o];have hb3:Below w2.1.size w2 w3:=by rw [HW.o]; exact bA
 have HO3:=Hi (HO2.o.below hb3 HO2.o.lt);have HB3:=hI (Below w.1.size w w3) (HB2.o.trans (hb3.mono HB2.o.size));have HD3:=Hi (HD2.o.carry hb3);clear hb3 HW HD2;go_wp2_with fail;refine (jb HD3.o).mono ?_;rintro e w' ⟨rfl,rfl⟩;go_upto_region 7 with (fail)
 obtain ⟨c,HC⟩:=hY (w3.1.size);obtain ⟨w4,HW⟩:=hY (w3.alloc (.cells (zT Sb.zero) 103));have HST:=hI (YS w w4 b c Sb.zero) (by
  have h1:Below w3.1.size w3 w4:=by rw [HW.o]; exact bA
  have h2:=HO3.o.lt;exact ⟨HO3.o.below h1 h2,by rw [HW.o,HC.o]; exact yd.new _,HB3.o.trans (h1.mono HB3.o.size),by rw [HB.o]; exact zfI _,by rw [HC.o]; exact HB3.o.size,by rw [HC.o]; omega⟩)
 rw [<- HW.o,<- HC.o];clear HW HO2 HO3 HB2 HB3 HO HBL HD3;go_upto_region 8 with (fail)
 go_loopw [25] (fun i wr=>zdP w b c p q i wr) (fun i _=>2 - (intOf i).toNat)
 case atStart=>exact ⟨0,by decide,rfl,HST.o⟩
 case round =>
  obtain ⟨k,hk,rfl,hst⟩:=hrel;have HS:=Hi hst;clear hst HST;by_cases hlt:k < 2
  ·have hlt2:(k:Int) < 2:=by omega
   go_wp2_with fail;refine (HLOAD.o wr HS.o.below k hlt).mono ?_;rintro e w5 ⟨ec,v,rfl,he,hz3,hb⟩;have HS5:=Hi (HS.o.carry hb);have HZ:=Hi hz3;have HE:=Hi he;have HOO:=hI ((((yB (JE p q k)).getD Sb.zero)).Ok) zau;obtain ⟨x,HX⟩:=hY ((yB (JE p q k)).getD Sb.zero);rw [<- HX.o] at HOO ⊢;clear he hz3 hb HS;go_wp2_with (with_reducible refine xD9 (none) ?_);refine zv rfl _ _ _ rfl (zT Sb.zero) (zT x) _ rfl rfl rfl (by rw [zK HOO.o]; exact Tryz.sbProg.size) (by rw [zK HOO.o,zK Sb.Ok.zero]) (xw _) ?_;obtain ⟨g,HG⟩:=hY (w5.1.size);obtain ⟨w6,HW⟩:=hY (w5.alloc (.cells (zT x) 103));rw [<- HW.o,<- HG.o];have HS6:=hI (YS w w6 b c (qC p q k)) (HS5.o.carry (by rw [HW.o]; exact bA));have HOX:=hI (yd w6 g x) (by rw [HW.o,HG.o]; exact yd.new _);clear HW HS5;cases hs:yB (JE p q k) with
   | none =>
    have HK:=Hi (Qa hlt hs);have hec:ec ≠ 0:=fun h=>by have:=HZ.o.1 h; rw [hs] at this; cases this
    obtain ⟨t,y,rfl⟩:=HE.o.some hec;clear hs hec HZ HE;go_wp2_with fail
    go_roundw
    case rel=>exact ⟨k + 1,hlt,by go_num,by rw [HK.o]; exact HS6.o⟩
    case measure=>simp [intOf]; omega
   | some y =>
    have HK:=Hi (Qb hlt hs);obtain rfl:x = y:=by rw [HX.o,hs]; rfl
    have hec:ec = 0:=HZ.o.2 (by rw [hs]; rfl);subst hec;obtain rfl:=HE.o.zero;have hok:=KR p q k;obtain ⟨z,HZZ⟩:=hY (qC p q k);rw [<- HZZ.o] at HK HS6 hok;have HZO:=Hi hok;have c1:=HOX.o.gen;have c2:=HS6.o.own.gen;obtain ⟨m,HM⟩:=hY (x.gen);obtain ⟨l,HL⟩:=hY (z.gen);rw [<- HM.o] at c1 HK;rw [<- HL.o] at c2 HK;clear hs HZ HE hok;by_cases hg:l < m
    ·rw [if_pos hg] at HK;have hg2:(l:Int) < (m:Int):=by omega
     clear hg;go_wp2_with (with_reducible refine xD9 (some 43) ?_);refine yc Tryz.sbProg rfl _ rfl g rfl x HOO.o HOX.o.at_ ?_;refine yx Tryz.sbProg rfl _ _ rfl c x z HOO.o HZO.o rfl rfl HS6.o.own ?_;intro w7 HW7 HO7;go_wp2_with fail
     go_roundw
     case rel =>
      refine ⟨k + 1,hlt,by go_num,?_⟩;rw [HK.o];exact ⟨by rw [HW7.o]; exact HS6.o.res.other (Ne.symm HS6.o.ne) _ _,HO7.o,zD HS6.o.below HW7.o HS6.o.lo2,HS6.o.lo,HS6.o.lo2,HS6.o.ne⟩
     case measure=>simp [intOf]; omega
    ·rw [if_neg hg] at HK;have hg2:¬ (l:Int) < (m:Int):=by omega
     have hg3:decide ((l:Int) < (m:Int)) = false:=decide_eq_false hg2;clear hg;go_wp2_with fail
     go_roundw
     case rel=>exact ⟨k + 1,hlt,by go_num,by rw [HK.o]; exact HS6.o⟩
     case measure=>simp [intOf]; omega
  ·obtain rfl:k = 2:=by omega
   have hok:=KR p q 2;have hzz:=zaY (a:=p) (b:=q);have hgd:qC p q 2 = (best (yB p) (yB q)).getD Sb.zero:=rfl;obtain ⟨z,HZZ⟩:=hY (qC p q 2);rw [<- HZZ.o] at HS hok hzz hgd;have HZO:=Hi hok;have HN:=Hi hzz;have HGD:=Hi hgd;have c2:=HS.o.own.gen;obtain ⟨l,HL⟩:=hY (z.gen);rw [<- HL.o] at c2 HN;clear hok hzz hgd HLOAD;by_cases hg:l = 0
   ·have HB0:=Hi (HN.o.1 hg);subst hg;go_wp2_with (with_reducible refine xD9 (some 48) ?_);refine xl Tryz.sbProg rfl rfl ?_;go_wp2_with fail;refine (kE 4 (by decide) wr).mono ?_;rintro e w4 ⟨v,rfl,he,hb⟩;have HE4:=Hi he;have HS4:=Hi (HS.o.carry hb);clear he hb;go_wp2_with (with_reducible refine xD9 (none) ?_);refine yx Tryz.sbProg rfl _ _ rfl b Sb.zero Sb.zero Sb.Ok.zero Sb.Ok.zero rfl rfl HS4.o.res ?_;intro w5 HW5 HO5;go_wp2_with fail;have hb5:=zD HS4.o.below HW5.o HS4.o.lo;rw [HPP.o];refine bodyPost_ret (xi Tryz.sbProg rfl _ _ b Sb.zero v rfl rfl HO5.o.at_ Sb.Ok.zero) rfl ⟨v,by rw [HB0.o]; rfl,?_,hb5⟩;rw [HB0.o];exact (HE4.o.lay HW5.o HS.o.res.lt).mono HS.o.below.size
   ·have HB0:=hI ((best (yB p) (yB q)).isSome = true) (by
     cases h:best (yB p) (yB q) with
     | none=>exact absurd (HN.o.2 h) hg
     | some x=>rfl)
    have hg2:((l:Int) == 0) = false:=by simp; omega
    clear hg;go_wp2_with (with_reducible refine xD9 (some 50) ?_);refine yc Tryz.sbProg rfl _ rfl c rfl z HZO.o HS.o.own.at_ ?_;refine yx Tryz.sbProg rfl _ _ rfl b z Sb.zero HZO.o Sb.Ok.zero rfl rfl HS.o.res ?_;intro w5 HW5 HO5;go_wp2_with fail;have hb5:=zD HS.o.below HW5.o HS.o.lo;rw [HPP.o];refine bodyPost_ret (xi Tryz.sbProg rfl _ _ b z .nilIface rfl rfl HO5.o.at_ HZO.o) rfl ⟨.nilIface,by rw [<- HGD.o],?_,hb5⟩;rw [if_pos HB0.o];exact .nil _ _
end
section
open Go.RowKit
def JH (d:Dk) (x:Sb):Dk:=(d.flush.write (x.gen % 2) (pgB (sbP x))).flush
theorem K1 {x:Sb} (hx:x.Ok):qD 1 ⟨(jd x).toArray⟩ = 0:=by
 have h:(⟨(jd x).toArray⟩:ByteArray).size = 35:=by rw [jk,kH hx]
 unfold qD;rw [if_neg (by decide),if_neg (by rw [h]; decide)]
theorem zdm {x:Sb} (hx:x.Ok):qI 1 ⟨(jd x).toArray⟩ = pgB (sbP x):=by
 unfold qI;rw [if_pos (K1 hx),zfv];rfl
theorem zf.less {K L:Nat -> Prop} {w w':World} (h:zf L w w') (hKL:∀ k,K k -> L k):zf K w w':=⟨h.os,h.tape,h.output,h.size,fun k hk=>h.block k (hKL k hk)⟩
theorem J6 {K:Nat -> Prop} {D n:Nat} {d:Dk} {w:World} (h:zB K w D n d) (ht:zR K w) (hd:d.down = false) (hn:3 <= n) (x:Sb) (hx:x.Ok) (hr:yI x = true) (hg:∀ w',zf K w w' -> zO w') :
  Calls Tryz.prog 98 #[.pointer (some ⟨D,0,none⟩),sbV x] w fun e w'=>e = .returned .nilIface /\ zB K w' D n (JH d x) /\ zf K w w':=by
 have HX:=Hi hx;have HR:=Hi hr;have HT:=Hi ht;have HN:=Hi hn;have HG:=Hi hg;have HDN:=Hi hd;have hn3:¬ (n:Int) < 3:=by omega
 obtain ⟨b,HB⟩:=hY (w.1.size);obtain ⟨w1,HW⟩:=hY (w.alloc (.cells (zT x) 103));obtain ⟨L,HL⟩:∃ L:Nat -> Prop,Hid (L = fun k=>K k \/ k = b):=Hy;have HO:=hI (yd w1 b x) (by rw [HW.o,HB.o]; exact yd.new _);have HBL:=hI (Below w.1.size w w1) (by rw [HW.o]; exact bA);have HKL:=hI (∀ k,K k -> L k) fun k hk=>by rw [HL.o]; exact .inl hk
 have HD:=hI (zB L w1 D n d) (h.more HBL.o fun k hk=>by
  rw [HL.o] at hk;rcases hk with hk | rfl
  ·exact .inl hk
  ·exact .inr (by rw [HB.o]; exact zfI _))
 have HTL:=hI (zR L w1) fun k hk=>by
  rw [HL.o] at hk;rcases hk with hk | rfl
  ·exact zfG (ht k hk) HBL.o.size
  ·exact HO.o.lt
 have HLB:=hI (L b) (by rw [HL.o]; exact .inr rfl);clear hx hr h ht hn hg hd
 go_enter Tryz.func98,Tryz.ntmps98
 go_upto_region 1 with (fail)
 rw [<- HW.o,<- HB.o];clear HW;go_wp2_with (with_reducible refine xD9 (some 10) ?_);refine yc Tryz.sbProg rfl _ rfl b rfl x HX.o HO.o.at_ ?_;go_wp2_with fail;refine (zdY x HX.o w1).mono ?_;rintro e w2 ⟨v,rfl,he,hb⟩;rw [HR.o,if_pos rfl] at he;rw [HR.o,if_pos rfl];obtain rfl:=he.zero;obtain ⟨s,HS⟩:∃ s:ByteArray,Hid (s = ⟨(jd x).toArray⟩):=Hy;rw [<- HS.o];have HB2:=hI (Below w.1.size w w2) (HBL.o.trans (hb.mono HBL.o.size));have HO2:=Hi (HO.o.below hb HO.o.lt);have HD2:=Hi (HD.o.carry hb);have HTL2:=hI (zR L w2) fun k hk=>zfG (HTL.o k hk) hb.size
 have HK2:=hI (zf K w w2) (zf.of_below HB2.o HT.o);clear he hb HO HD HTL HBL;go_wp2_with fail;refine (jb HD2.o).mono ?_;rintro e w' ⟨rfl,rfl⟩;go_wp2_with fail;refine (Vo HD2.o HDN.o).mono ?_;rintro e w3 ⟨rfl,hd3,hk3⟩;have HD3:=Hi hd3;have HTL3:=hI (zR L w3) fun k hk=>zfG (HTL2.o k hk) hk3.size
 have HO3:=Hi (HO2.o.block (hk3.block b HLB.o));have HK3:=Hi (HK2.o.trans (hk3.less HKL.o));have c0:=HO3.o.gen;obtain ⟨g,HGG⟩:=hY (x.gen);rw [<- HGG.o] at c0;have HGL:=hI (g < 4294967296) (by rw [HGG.o]; exact HX.o.gen);clear hd3 hk3 HD2 HTL2 HO2 HK2;go_wp2_with fail;refine (Kw g HGL.o _).mono ?_;rintro e w' ⟨rfl,rfl⟩;obtain ⟨i,HI⟩:=hY (g % 2);rw [<- HI.o];go_wp2_with fail;refine (Xi HD3.o HTL3.o HDN.o (i:=i) (by have:=HN.o; rw [HI.o]; omega) (by show (0:Nat) <= 1000000; decide) 1 s (by rw [HS.o]; exact K1 HX.o) (HG.o _ HK3.o)).mono ?_;rintro e w4 ⟨rfl,hd4,hk4⟩;have HD4:=Hi hd4;have HK4:=Hi (HK3.o.trans (hk4.less HKL.o));clear hd4 hk4 HD3 c0;go_wp2_with fail;refine (Vo HD4.o HDN.o).mono ?_;rintro e w5 ⟨rfl,hd5,hk5⟩;have HD5:=Hi hd5;have HK5:=Hi (HK4.o.trans (hk5.less HKL.o));clear hd5 hk5 HD4;go_wp2_with fail;refine (yv _ w5.1.size 0 _ w5 (.nil _ _) (zfI _)).mono ?_;rintro e w6 ⟨v,rfl,he,hb⟩;obtain rfl:=he.zero;have HB6:=Hi hb;clear he hb;go_wp2_with fail
 go_ret
 refine ⟨rfl,?_,HK5.o.trans (zf.of_below HB6.o fun k hk=>zfG (HT.o k hk) HK5.o.size)⟩;have:=HD5.o.more HB6.o (L:=K) fun k hk=>.inl (HKL.o k hk)
 rw [HS.o,zdm HX.o,HI.o,HGG.o] at this;exact this
end
end Go.Proofs.YtafclmbecmgbnaaGreatDoor
namespace Go.Proofs.YtafclmbecmgbnaaGreatDoor
open Go.RowKit
abbrev ye:=(Nat -> Prop) -> World -> Nat -> Nat -> Pst -> Prop
def zZ (O:ye) (K:Nat -> Prop) (w:World) (P D n:Nat) (d:Dk) (s:Pst):Prop :=
 ∃ B:Nat -> Prop,O B w P D s /\ zB (fun b=>K b \/ B b) w D n d /\ zR K w /\ ∀ b,B b -> ¬ K b
abbrev ptr (P:Nat):Value:=.pointer (some ⟨P,0,none⟩)
def txt (l:List UInt8):Value:=.string ⟨l.toArray⟩
def Two (x:Value) (c:Int) (w:World) (e:Ending) (w':World):Prop:=∃ v,e = .returned (.tuple #[x,v]) /\ zi w' w.1.size c v /\ Below w.1.size w w'
def ju (s:Pst) (i:Int):Bool:=decide (0 <= i /\ i < 240) && s.isIn i.toNat
structure ym (O:ye):Prop where
 lt:∀ {B w P D s},O B w P D s -> ∀ b,B b -> b < w.1.size
 carry:∀ {B w w' P D s},O B w P D s -> (∀ b,B b -> w'.1[b]? = w.1[b]?) -> O B w' P D s
 openNo:∀ {K:Nat -> Prop} {w D n d},zB K w D n d -> zO w -> ∀ c:Int,((d.down = true /\ c = 7) \/ (d.down = false /\ n < 3 /\ c = 1) \/ (d.down = false /\ 3 <= n /\ XZ d none /\ c = 4)) -> Calls Tryz.prog 27 #[ptr D] w (Two (.pointer none) c w)
 openYes:∀ {K:Nat -> Prop} {w D n d x},zB K w D n d -> zO w -> d.down = false -> 3 <= n -> XZ d (some x) -> x.Ok -> Calls Tryz.prog 27 #[ptr D] w fun e w' =>
  ∃ P B,e = .returned (.tuple #[ptr P,.nilIface]) /\ O B w' P D (Pst.opened x) /\ (∀ b,B b -> w.1.size <= b) /\ Below w.1.size w w'
 formatNo:∀ {K:Nat -> Prop} {w D n d},zB K w D n d -> zO w -> d.down = false -> n < 3 -> Calls Tryz.prog 16 #[ptr D] w (Two (.pointer none) 1 w)
 formatYes:∀ {K:Nat -> Prop} {w D n d} (g:Nat),zB K w D n d -> zR K w -> (∀ w',zf K w w' -> yL w') -> d.down = false -> 3 <= n -> (XZ d none /\ g = 1 \/ ∃ x,XZ d (some x) /\ x.Ok /\ g = x.gen + 1) -> g < 4294967296 ->
  Calls Tryz.prog 16 #[ptr D] w fun e w'=>∃ P,e = .returned (.tuple #[ptr P,.nilIface]) /\ zZ O K w' P D n (xM d (Sb.bare g)) (Pst.opened (Sb.bare g)) /\ zf K w w'
 load:∀ {K:Nat -> Prop} {w P D n d s data firm},zZ O K w P D n d s -> yH n d s data firm -> d.down = false -> zO w -> ∀ i:Int,
  Calls Tryz.prog 123 #[ptr P,.int .i64 i] w (Two (if ju s i = true then txt (data i.toNat) else txt []) (if ju s i = true then 0 else 4) w)
 newLong:∀ {K:Nat -> Prop} {w P D n d s data firm},zZ O K w P D n d s -> yH n d s data firm -> d.down = false -> zO w -> ∀ t:ByteArray,120 < t.size -> Calls Tryz.prog 30 #[ptr P,.string t] w (Two (.int .i64 0) 8 w)
 newFull:∀ {K:Nat -> Prop} {w P D n d s data firm},zZ O K w P D n d s -> yH n d s data firm -> d.down = false -> zO w -> ∀ t:ByteArray,t.size <= 120 -> s.first n = none -> Calls Tryz.prog 30 #[ptr P,.string t] w (Two (.int .i64 0) 6 w)
 newYes:∀ {K:Nat -> Prop} {w P D n d s data firm},zZ O K w P D n d s -> yH n d s data firm -> d.down = false -> (∀ w',zf K w w' -> yL w') -> d.soft.length <= 100000 -> ∀ t:ByteArray,t.size <= 120 -> ∀ k,s.first n = some k ->
  Calls Tryz.prog 30 #[ptr P,.string t] w fun e w'=>e = .returned (.tuple #[.int .i64 (k:Int),.nilIface]) /\ zZ O K w' P D n (d.write k (pgB (wL t.data.toList))) (s.at_ k) /\ zf K w w'
 dropNo:∀ {K:Nat -> Prop} {w P D n d s data firm},zZ O K w P D n d s -> yH n d s data firm -> ∀ i:Int,vH s.used i = false -> Calls Tryz.prog 106 #[ptr P,.int .i64 i] w (xb 4 w.1.size w)
 dropYes:∀ {K:Nat -> Prop} {w P D n d s data firm},zZ O K w P D n d s -> yH n d s data firm -> ∀ k,k < 240 -> Bits.has s.used k = true ->
  Calls Tryz.prog 106 #[ptr P,.int .i64 (k:Int)] w fun e w'=>e = .returned .nilIface /\ zZ O K w' P D n d (s.drop k) /\ zf K w w'
 commitNo:∀ {K:Nat -> Prop} {w P D n d s data firm},zZ O K w P D n d s -> yH n d s data firm -> ∀ r:Int,rootOk s r = false -> Calls Tryz.prog 22 #[ptr P,.int .i64 r] w (xb 1 w.1.size w)
 commitYes:∀ {K:Nat -> Prop} {w P D n d s data firm},zZ O K w P D n d s -> yH n d s data firm -> d.down = false -> (∀ w',zf K w w' -> yL w') -> ∀ r:Int,rootOk s r = true -> s.sup.gen + 1 < 4294967296 ->
  Calls Tryz.prog 22 #[ptr P,.int .i64 r] w fun e w'=>e = .returned .nilIface /\ zZ O K w' P D n (xM d (s.next r)) (s.commit r) /\ zf K w w'
 abort:∀ {B w P D s},O B w P D s -> Calls Tryz.prog 23 #[ptr P] w fun e w'=>e = .returned (.tuple #[]) /\ ∃ B',O B' w' P D s.abort /\ (∀ b,B' b -> B b \/ w.1.size <= b) /\ zf (fun b=>b < w.1.size /\ ¬ B b) w w'
 root:∀ {B w P D s},O B w P D s -> Calls Tryz.prog 19 #[ptr P] w fun e w'=>e = .returned (.int .i64 s.sup.root) /\ Below w.1.size w w'
 gen:∀ {B w P D s},O B w P D s -> Calls Tryz.prog 53 #[ptr P] w fun e w'=>e = .returned (.int .u32 (s.sup.gen:Int)) /\ Below w.1.size w w'
 used:∀ {K:Nat -> Prop} {w P D n d s data firm},zZ O K w P D n d s -> yH n d s data firm -> Calls Tryz.prog 36 #[ptr P] w fun e w'=>e = .returned (stV s.used) /\ Below w.1.size w w'
 nilLoad:∀ w i,Calls Tryz.prog 123 #[.pointer none,.int .i64 i] w (Two (txt []) 9 w)
 nilNew:∀ w t,Calls Tryz.prog 30 #[.pointer none,.string t] w (Two (.int .i64 0) 9 w)
 nilDrop:∀ w i,Calls Tryz.prog 106 #[.pointer none,.int .i64 i] w (xb 9 w.1.size w)
 nilCommit:∀ w i,Calls Tryz.prog 22 #[.pointer none,.int .i64 i] w (xb 9 w.1.size w)
 nilAbort:∀ w,Calls Tryz.prog 23 #[.pointer none] w fun e w'=>e = .returned (.tuple #[]) /\ Below w.1.size w w'
 nilRoot:∀ w,Calls Tryz.prog 19 #[.pointer none] w fun e w'=>e = .returned (.int .i64 0) /\ Below w.1.size w w'
 nilGen:∀ w,Calls Tryz.prog 53 #[.pointer none] w fun e w'=>e = .returned (.int .u32 0) /\ Below w.1.size w w'
 nilUsed:∀ w,Calls Tryz.prog 36 #[.pointer none] w fun e w'=>e = .returned (stV zQ) /\ Below w.1.size w w'
section
variable {O:ye} (H:ym O)
include H
theorem ym.pgCarry {K:Nat -> Prop} {w w':World} {P D n:Nat} {d:Dk} {s:Pst} (h:zZ O K w P D n d s) (hb:Below w.1.size w w'):zZ O K w' P D n d s:=by
 obtain ⟨B,h1,h2,h3,h4⟩:=h;exact ⟨B,H.carry h1 fun b hb2=>hb.block b (H.lt h1 b hb2),h2.carry hb,fun k hk=>Nat.lt_of_lt_of_le (h3 k hk) hb.size,h4⟩
theorem ym.pgMore {K L:Nat -> Prop} {w w':World} {P D n:Nat} {d:Dk} {s:Pst} (h:zZ O K w P D n d s) (hb:Below w.1.size w w') (hL:∀ k,L k -> K k \/ w.1.size <= k) (ht:zR L w'):zZ O L w' P D n d s:=by
 obtain ⟨B,h1,h2,h3,h4⟩:=h;refine ⟨B,H.carry h1 fun b hb2=>hb.block b (H.lt h1 b hb2),h2.more hb fun k hk=>?_,ht,fun b hb2 hl=>?_⟩
 ·rcases hk with hk | hk
  ·rcases hL k hk with h5 | h5
   ·exact .inl (.inl h5)
   ·exact .inr h5
  ·exact .inl (.inr hk)
 ·rcases hL b hl with h5 | h5
  ·exact h4 b hb2 h5
  ·have:=H.lt h1 b hb2;omega
omit H in
theorem zZ.disk {K:Nat -> Prop} {w:World} {P D n:Nat} {d:Dk} {s:Pst} (h:zZ O K w P D n d s):zB K w D n d:=by
 obtain ⟨B,h1,h2,h3,h4⟩:=h;exact h2.more (Below.refl _ _) fun k hk=>.inl (.inl hk)
omit H in
theorem zZ.opened {K:Nat -> Prop} {B:Nat -> Prop} {w w':World} {P D n:Nat} {d:Dk} {s:Pst} (hd:zB K w D n d) (ht:zR K w) (ho:O B w' P D s) (hB:∀ b,B b -> w.1.size <= b) (hb:Below w.1.size w w'):zZ O K w' P D n d s:=by
 refine ⟨B,ho,hd.more hb fun k hk=>?_,fun k hk=>Nat.lt_of_lt_of_le (ht k hk) hb.size,fun b h1 h2=>?_⟩
 ·rcases hk with hk | hk
  ·exact .inl hk
  ·exact .inr (hB k hk)
 ·have:=ht b h2;have:=hB b h1;omega
theorem ym.pgRoot {K:Nat -> Prop} {w:World} {P D n:Nat} {d:Dk} {s:Pst} (h:zZ O K w P D n d s):Calls Tryz.prog 19 #[ptr P] w fun e w'=>e = .returned (.int .i64 s.sup.root) /\ Below w.1.size w w':=by
 obtain ⟨B,h1,_⟩:=h;exact H.root h1
theorem ym.pgGen {K:Nat -> Prop} {w:World} {P D n:Nat} {d:Dk} {s:Pst} (h:zZ O K w P D n d s):Calls Tryz.prog 53 #[ptr P] w fun e w'=>e = .returned (.int .u32 (s.sup.gen:Int)) /\ Below w.1.size w w':=by
 obtain ⟨B,h1,_⟩:=h;exact H.gen h1
end
theorem zB.off {K B L:Nat -> Prop} {w w':World} {D n:Nat} {d:Dk} (h:zB K w D n d) (hB:∀ b,B b -> K b) (hk:zf (fun b=>b < w.1.size /\ ¬ B b) w w') (hL:∀ k,L k -> K k \/ w.1.size <= k):zB L w' D n d:=by
 obtain ⟨F,S,v,h⟩:=h;have hD:D < w.1.size:=yQ h.c0;have hF:=h.firm.lt (by rw [h.ok.firm]; exact h.pos);have hS:=h.seen.lt (by rw [h.ok.seen]; exact h.pos);have bk:∀ b,b < w.1.size -> ¬ K b -> w'.1[b]? = w.1[b]?:=fun b h1 h2=>hk.block b ⟨h1,fun h3=>h2 (hB b h3)⟩
 have nl:∀ b,b < w.1.size -> ¬ K b -> ¬ L b:=fun b h1 h2 h3=>by
  rcases hL b h3 with h4 | h4
  ·exact h2 h4
  ·omega
 have bD:=bk D hD h.kd;have bF:=bk F hF h.kf;have bS:=bk S hS h.ks;refine ⟨F,S,v,h.ok,h.pos,(World.cell?_of_block (w:=w) (a:=⟨D,0,none⟩) bD).trans h.c0,(World.cell?_of_block (w:=w) (a:=⟨D,1,none⟩) bD).trans h.c1,(World.cell?_of_block (w:=w) (a:=⟨D,2,none⟩) bD).trans h.c2,(World.cell?_of_block (w:=w) (a:=⟨D,3,none⟩) bD).trans h.c3,
  fun j=>(World.frozen?_of_block (w:=w) (a:=⟨D,j,none⟩) bD).trans (h.fz j),fun j=>(World.frozen?_of_block (w:=w) (a:=⟨F,j,none⟩) bF).trans (h.ff j),fun j=>(World.frozen?_of_block (w:=w) (a:=⟨S,j,none⟩) bS).trans (h.fs j),
  h.firm.carry bF,h.seen.carry bS,?_,nl D hD h.kd,nl F hF h.kf,nl S hS h.ks,fun g hg=>⟨nl g (h.soft.lt g hg).2 (h.kv g hg).1,(h.kv g hg).2⟩,h.df,h.ds,h.fsn⟩
 obtain ⟨h1,h2⟩:=h.soft;refine ⟨h1,?_⟩;rcases h2 with h2 | ⟨g,cap,cur,e1,e2,e3,e4⟩
 ·exact .inl h2
 ·refine .inr ⟨g,cap,cur,e1,e2,?_,e4⟩;have hg:v.ownBlock = some g:=by rw [e1]; rfl
  rw [bk g (h.soft.lt g hg).2 (h.kv g hg).1];exact e3
section
variable {O:ye} (H:ym O)
include H
end
