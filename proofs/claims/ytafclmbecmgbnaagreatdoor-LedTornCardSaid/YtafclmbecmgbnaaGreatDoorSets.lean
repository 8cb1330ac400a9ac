/-
  Sets. Conditions: as said.
-/
import Derived.BigQuiet
import Derived.Lib.LazyBuf
import Derived.Test.YtafclmbecmgbnaaGreatDoorDisks
set_option maxRecDepth 100000
open Nat renaming le_refl -> zfI
open List renaming length_take -> zfZ,getD_eq_getElem?_getD -> zfL
namespace Go.Proofs.YtafclmbecmgbnaaGreatDoor
open Go.RowKit
section
def jT (n:Int):Bool:=decide (0 <= n /\ n < 240)
theorem Wy {n:Int} (h:jT n = true):∃ m:Nat,n = (m:Int) /\ m < 240:=by
 have:=of_decide_eq_true h;exact ⟨n.toNat,by omega,by omega⟩
theorem Zz {m:Nat} (h:m < 240):jT (m:Int) = true:=decide_eq_true (by omega)
theorem zdw {a b:Bool} (h:a = b):Ending.returned (.bool a) = .returned (.bool b):=by rw [h]
theorem vI (n:Int) (w:World):Calls Tryz.prog 94 #[.int .i64 n] w fun e w'=>e = .returned (.bool (jT n)) /\ w = w':=by
 go_enter Tryz.func94,Tryz.ntmps94
 go_wp2
 all_goals go_ret
 all_goals exact ⟨zdw (by simp [jT]; try omega),rfl⟩
theorem V9 (n:Nat) (w:World):Calls Tryz.prog 95 #[.int .i64 n] w fun e w'=>e = .returned (.int .u8 ((2 ^ (n % 8):Nat):Int)) /\ w = w':=by
 go_enter Tryz.func95,Tryz.ntmps95
 go_wp2
 go_ret
 refine ⟨?_,rfl⟩;show Ending.returned (Value.int IntKind.u8 (2 ^ (n % 8) % 256)) = _;have h:=Bits.pow_lt n;have e:(2:Int) ^ (n % 8) = ((2 ^ (n % 8):Nat):Int):=by simp
 rw [e];generalize 2 ^ (n % 8) = m at h ⊢;rw [show (m:Int) % 256 = (m:Int) by omega]
end
section
open Bits (Ok has at_)
def zq (s:List Nat):List Value:=s.map fun n:Nat=>.int .u8 (n:Int)
def yg (s:List Nat):Array Value:=(zq s).toArray
abbrev stV (s:List Nat):Value:=.agg (yg s)
theorem zH (s:List Nat):(zq s).length = s.length:=by simp [zq]
theorem yR (s:List Nat):(yg s).size = s.length:=by simp [yg,zq]
theorem qA {s:List Nat} {i:Nat} (h:i < s.length):(zq s)[i]? = some (.int .u8 (at_ s i:Int)):=by
 rw [<- Bits.at_eq h];simp [zq,h]
theorem XI (s:List Nat):∀ v ∈ zq s,v.oneCell' = true:=by
 intro v hv;obtain ⟨n,_,rfl⟩:=List.mem_map.1 hv;rfl
theorem jY (s:List Nat):(yg s).all (·.oneCell') = true:=all_oneCell_toArray (XI s)
def zQ:List Nat:=List.replicate 30 0
theorem yD:zQ.length = 30:=by simp [zQ]
theorem Tryz.setSize:(Tryz.prog.info? 63).map (·.size) = some 30:=by kernel_rfl
theorem Tryz.infoSet:(Tryz.prog.info? 63).map (fun i=>(i.zero,i.size)) = some (some (stV (zQ)),30):=by kernel_rfl
theorem Tryz.zeroSet (w:World):(zeroValue 63).run Tryz.prog w = .ok (stV (zQ)) w:=(zero_of_info Tryz.infoSet).1 w
theorem Z8 {w:World} {b i:Nat} {s:List Nat} (h:w.rangeAt b 0 (zq s)) (hi:i < s.length):w.cell? ⟨b,i,none⟩ = some (.int .u8 (Bits.at_ s i:Int)):=by
 have:=h i _ (qA hi)
 rwa [Nat.zero_add] at this
theorem Jt {w w':World} {b o:Nat} {cs:List Value} (h:w.rangeAt b o cs) (hb:Below w.1.size w w'):w'.rangeAt b o cs:=fun j v hv=>(hb.cell (p:=⟨b,o + j,none⟩) (zp (h j v hv))).trans (h j v hv)
theorem zD {B b:Nat} {w w2 w0:World} {vs:List Value} {o:Nat} (h:Below B w0 w) (hw:w2 = w.setCells b o vs) (hb:B <= b):Below B w0 w2:=by
 subst hw;exact below_setCells hb vs o w h
theorem qJ {B:Nat} {a w:World} (h:Below B a w) (n:Nat):Below B a (w.drewN n):=⟨h.os,h.tape,h.output,h.size,h.block⟩
structure yE (w:World) (b:Nat) (s:List Nat):Prop where
 at_:w.rangeAt b 0 (zq s)
 free:∀ j,w.frozen? ⟨b,j,none⟩ = false
theorem yE.new {w:World} {s:List Nat} (t:TypeId):yE (w.alloc (.cells (yg s) t)) w.1.size s:=by
 have hh:(w.alloc (.cells (yg s) t)).1[w.1.size]? = some (.cells (yg s) t (0,0)):=heap_alloc_last w _;refine ⟨fun j u hu=>?_,fun j=>frozen_of_row _ _ j _ _ hh⟩;rw [cell_of_row _ w.1.size (0 + j) _ _ _ hh,Nat.zero_add];simpa [yg] using hu
theorem yE.below {w w':World} {b B:Nat} {s:List Nat} (h:yE w b s) (hb:Below B w w') (hB:b < B):yE w' b s :=
 ⟨fun j v hv=>(hb.cell (p:=⟨b,0 + j,none⟩) hB).trans (h.at_ j v hv),fun j=>(hb.frozen (p:=⟨b,j,none⟩) hB).trans (h.free j)⟩
theorem yE.drew {w:World} {b:Nat} {s:List Nat} (h:yE w b s):yE w.drew b s:=⟨h.at_,h.free⟩
theorem yE.lt {w:World} {b:Nat} {s:List Nat} (h:yE w b s) (hl:0 < s.length):b < w.1.size:=zp (h.at_ 0 _ (qA hl))
theorem yE.there {w:World} {b:Nat} {s:List Nat} (h:yE w b s):w.there b 0 s.length:=fun j hj=>⟨by rw [h.at_ j _ (qA hj)]; rfl,h.free _⟩
theorem yE.put {w:World} {b:Nat} {s:List Nat} (h:yE w b s) {i:Nat} (hi:i < s.length) (v:Nat):yE (w.setCell ⟨b,i,none⟩ (.int .u8 (v:Int))) b (s.set i v):=by
 refine ⟨fun j u hu=>?_,fun j=>by rw [World.frozen?_setCell]; exact h.free j⟩;rw [Nat.zero_add];have hj:j < s.length:=by
  have:=(List.getElem?_eq_some_iff.1 hu).1;simpa [zq] using this
 rw [qA (by simpa using hj),Bits.at_set hi] at hu;obtain rfl:=Option.some.inj hu;by_cases e:i = j
 ·subst e;rw [if_pos rfl];exact World.cell?_setCell_same _ _ _ (Z8 h.at_ hi)
 ·rw [if_neg e,World.cell?_setCell_other _ _ _ _ (by intro hh; injection hh; omega)];exact Z8 h.at_ hj
theorem yE.other {w:World} {b c:Nat} {s:List Nat} (h:yE w b s) (hc:c ≠ b) (i:Nat) (v:Value):yE (w.setCell ⟨c,i,none⟩ v) b s:=by
 refine ⟨fun j u hu=>?_,fun j=>by rw [World.frozen?_setCell]; exact h.free j⟩;rw [World.cell?_setCell_other _ _ _ _ (by intro hh; injection hh; omega)];exact h.at_ j u hu
theorem yE.lay {w:World} {b:Nat} {s t:List Nat} (h:yE w b s) (hl:t.length = s.length):yE (w.setCells b 0 (zq t)) b t :=
 ⟨World.rangeAt_setCells_same w b 0 _ (by rw [zH,hl]; exact h.there),fun j=>by rw [World.frozen?_setCells]; exact h.free j⟩
theorem zer {w:World} {b:Nat} {s:List Nat} (h:w.rangeAt b 0 (zq s)) (hl:s.length = 30):(loadVar 63 ⟨b,0,none⟩).run Tryz.prog w = .ok (stV s) w :=
 run_loadVar_mid w b 0 63 (zq s) _ h Tryz.underlying63 rfl (by rw [zH,hl]; exact Tryz.setSize)
theorem wM {fn:Func} {p:Tmp} (h:fn.results = #[.cell p 63]) (tmps:Array Value) (w:World) (b:Nat) (s:List Nat)
  (hp:tmps.getD p undef = .pointer (some ⟨b,0,none⟩)) (hc:w.rangeAt b 0 (zq s)) (hl:s.length = 30):(results fn tmps).run Tryz.prog w = .ok (stV s) w:=by
 have hp':tmps[p]?.getD undef = .pointer (some ⟨b,0,none⟩):=by simpa using hp
 simp [results,h,hp',asAddr,zer hc hl]
def Zv (p:Prop):Prop:=p
theorem vN {P:Program} {ops:Array Oper} {rest:List Oper} {o:Oper} {a:Act} {w:World} {Q:Exit -> Act -> World -> Prop} (h:Zv (wpList P ops Q (o :: rest) a w)):wpList P ops Q (o :: rest) a w:=h
theorem yi {ops:Array Oper} {rest:List Oper} {op:Oper} {a:Act} {w:World} {Q:Exit -> Act -> World -> Prop} (hw:Region.wanted op (yielded ops a.tmps) = true) (x:Operand) (ho:op.op = .load 63 x)
  (b:Nat) (hx:a.eval x = .pointer (some ⟨b,0,none⟩)) (s:List Nat) (hl:s.length = 30) (hc:w.rangeAt b 0 (zq s))
  (h:wpList Tryz.prog ops Q rest (a.put op.dst (stV s)) w):wpList Tryz.prog ops Q (op :: rest) a w :=
 wpList_step fun _ hK=>by
  rw [if_pos hw];exact wp_load_mid 63 x ho b 0 hx (zq s) _ hc Tryz.underlying63 rfl (by rw [zH,hl]; exact Tryz.setSize) (hK _ _ h)
theorem yy {ops:Array Oper} {rest:List Oper} {op:Oper} {a:Act} {w:World} {Q:Exit -> Act -> World -> Prop} (hgd:op.guard = none) (x y:Operand) (ho:op.op = .store 63 x y)
  (b:Nat) (s t:List Nat) (hl:s.length = 30) (hs:t.length = 30) (hx:a.eval x = .pointer (some ⟨b,0,none⟩)) (hy:a.eval y = stV s) (hb:yE w b t)
  (h:∀ w2,Hid (w2 = w.setCells b 0 (zq s)) -> Hid (yE w2 b s) -> wpList Tryz.prog ops Q rest (a.put op.dst undef) w2):wpList Tryz.prog ops Q (op :: rest) a w :=
 wpList_store_mid hgd _ x y ho b 0 (yg s) hx hy (by rw [yR,hl,<- hs]; exact hb.there) (by rw [yR,hl]; exact Tryz.setSize) (jY s) (h _ (Hi rfl) (Hi (hb.lay (by omega))))
end
section
open Bits (Ok has)
def Z0 (s:List Nat) (n:Int):Bool:=jT n && has s n.toNat
theorem Ww {s:List Nat} {m:Nat} (h:m < 240):Z0 s (m:Int) = has s m:=by
 unfold Z0;rw [Zz h,Bool.true_and,Int.toNat_natCast]
theorem zeb {a p j:Nat} (hp:p = 2 ^ j) (ha:a < 256) (hj:j < 8):(bits .and .u8 (a:Int) (p:Int) != 0) = a.testBit j:=by
 have h2:p < 256:=by
  have h:(2:Nat) ^ j < 2 ^ 8:=Nat.pow_lt_pow_right (by decide) hj;omega
 have e:a &&& 2 ^ j = if a.testBit j then 2 ^ j else 0:=by
  refine Nat.eq_of_testBit_eq fun i=>?_
  rw [Nat.testBit_and,Nat.testBit_two_pow];by_cases h:j = i
  ·subst h;cases a.testBit j <;> simp
  ·rw [decide_eq_false h,Bool.and_false];cases a.testBit j <;> simp [h]
 have h3:0 < 2 ^ j:=Nat.two_pow_pos j;rw [u8_and_nat a p ha h2,hp,e];clear hp h2 e;generalize 2 ^ j = q at h3 ⊢;cases a.testBit j with
 | false=>simp
 | true =>
  simp;omega
theorem Yf (s:List Nat) (h:Ok s) (m:Nat) (hm:m < 240) (w:World) :
  Calls Tryz.prog 54 #[stV s,.int .i64 m] w fun e w'=>e = .returned (.bool (has s m)) /\ Below w.1.size w w':=by
 obtain ⟨w1,HW⟩:=hY (w.alloc (.cells (yg s) 63));have hr:w1.rangeAt w.1.size 0 (zq s):=by rw [HW.o]; exact (yE.new _).at_
 have hc:=Z8 hr (i:=m / 8) (by rw [h.len]; omega);obtain ⟨a,HA⟩:=hY (Bits.at_ s (m / 8));obtain ⟨p,HP⟩:=hY (2 ^ (m % 8));rw [<- HA.o] at hc;have HN:∀ w,Calls Tryz.prog 94 #[.int .i64 m] w fun e w'=>e = .returned (.bool true) /\ w' = w:=fun w=>(vI m w).mono fun e w' ⟨h1,h2⟩=>⟨by rw [h1,Zz hm],h2.symm⟩
 have HB:∀ w,Calls Tryz.prog 95 #[.int .i64 m] w fun e w'=>e = .returned (.int .u8 (p:Int)) /\ w' = w:=fun w=>(V9 m w).mono fun e w' ⟨h1,h2⟩=>⟨by rw [h1,HP.o],h2.symm⟩
 go_enter Tryz.func54,Tryz.ntmps54
 go_wp2_with fail;rw [<- HW.o]
 go_quiet (first | (go_at_call 94; exact Calls.quiet_of_same (HN _)) | (go_at_call 95; exact Calls.quiet_of_same (HB _)))
 rw [zeb HP.o (by rw [HA.o]; exact Bits.at_lt h _) (Nat.mod_lt _ (by decide)),HA.o];go_wp2_with fail
 go_ret
 exact ⟨rfl,by rw [HW.o]; exact qJ ((Below.refl _ _).alloc (zfI _) _) _⟩
theorem zeS (s:List Nat) (n:Int) (hn:jT n = false) (w:World) :
  Calls Tryz.prog 54 #[stV s,.int .i64 n] w fun e w'=>e = .returned (.bool false) /\ Below w.1.size w w':=by
 obtain ⟨w1,HW⟩:=hY (w.alloc (.cells (yg s) 63));have HN:∀ w,Calls Tryz.prog 94 #[.int .i64 n] w fun e w'=>e = .returned (.bool false) /\ w' = w:=fun w=>(vI n w).mono fun e w' ⟨h1,h2⟩=>⟨by rw [h1,hn],h2.symm⟩
 go_enter Tryz.func54,Tryz.ntmps54
 go_wp2_with fail;rw [<- HW.o]
 go_quiet ((go_at_call 94; exact Calls.quiet_of_same (HN _)))
 go_wp2_with fail
 go_ret
 exact ⟨rfl,by rw [HW.o]; exact qJ ((Below.refl _ _).alloc (zfI _) _) _⟩
theorem qg (s:List Nat) (h:Ok s) (n:Int) (w:World) :
  Calls Tryz.prog 54 #[stV s,.int .i64 n] w fun e w'=>e = .returned (.bool (Z0 s n)) /\ Below w.1.size w w':=by
 cases hn:jT n with
 | true =>
  obtain ⟨m,rfl,hm⟩:=Wy hn;rw [Ww hm];exact Yf s h m hm w
 | false =>
  have e:Z0 s n = false:=by unfold Z0; rw [hn,Bool.false_and]
  rw [e];exact zeS s n hn w
end
section
open Bits (Ok has with_ without count jc first both)
theorem Tryz.builtSet:Tryz.prog.built 63 [] = some (yg zQ):=by kernel_rfl
theorem zb1:Ok zQ:=⟨yD,fun b hb=>by rw [(List.mem_replicate.1 hb).2]; decide⟩
theorem qf {ops:Array Oper} {rest:List Oper} {o:Oper} {a:Act} {w:World} {Q:Exit -> Act -> World -> Prop} (hgd:o.guard = none) (ho:o.op = .build 63 #[])
  (h:wpList Tryz.prog ops Q rest (a.put o.dst (stV zQ)) w):wpList Tryz.prog ops Q (o :: rest) a w :=
 wpList_plain hgd fun _ hK=>wp_build 63 #[] ho (by simp [Tryz.builtSet]) (hK _ _ (by simpa [Tryz.builtSet] using h))
end
section
open Bits (Ok has with_ without count jc first both)
theorem XM {P:Program} (w:World) (d len:Nat) (t e:TypeId) (p q:List Nat) (ht:P.underlying t = some (.array len e)) (he:P.underlying e = some (.int .u8)) (hs:∀ w,(sizeOf e).run P w = .ok 1 w) (hl:p.length = len) (hm:q.length = len) :
  (Op.equalIn (d + 2) t (.agg (yg p)) (.agg (yg q))).run P w = .ok (decide (p = q)) w:=by
 have hp:∀ (p:List Nat),p.length = len -> ∀ i,i < len -> (part e (yg p) (i * 1)).run P w = .ok (.int .u8 ((p.getD i 0:Nat):Int)) w:=by
  intro p hl i hi;have hi':i < p.length:=by omega
  simp [part,isAgg,underlying,he,yg,zq,hi']
 rw [Op.equalIn];simp only [Sem.run_bind,run_underlying ht,Result.andThen_ok,hs,Std.Legacy.Range.forIn_eq_forIn_range'];have key:∀ l:List Nat,(∀ i ∈ l,i < len) -> (forIn l (none,()) fun i (_:Option Bool × Unit)=>do
   let a <- part e (yg p) (i * 1)
   let b <- part e (yg q) (i * 1)
   let r <- Op.equalIn (d + 1) e a b
   if (!r) = true then pure (ForInStep.done (some false,())) else pure (ForInStep.yield ((none:Option Bool),())):Sem (Option Bool × Unit)).run P w = .ok (if l.all (fun i=>((p.getD i 0:Nat):Int) == ((q.getD i 0:Nat):Int)) then (none,()) else (some false,())) w:=by
  intro l;induction l with
  | nil=>intro _; simp
  | cons i r ih =>
   intro h;simp only [List.forIn_cons,Sem.run_bind,hp p hl i (h i (by simp)),hp q hm i (h i (by simp)),Result.andThen_ok,run_equalIn_int w d e .u8 .u8 _ _ he,List.all_cons];by_cases hb:(((p.getD i 0:Nat):Int) == ((q.getD i 0:Nat):Int)) = true
   ·simp only [hb,Bool.not_true,Bool.false_eq_true,if_false,Sem.run_pure,Result.andThen_ok,Bool.true_and];exact ih fun k hk=>h k (by simp [hk])
   ·have hb':(((p.getD i 0:Nat):Int) == ((q.getD i 0:Nat):Int)) = false:=by simpa using hb
    simp only [hb',Bool.not_false,if_true,Sem.run_pure,Result.andThen_ok,Bool.false_and,Bool.false_eq_true,if_false]
 rw [key _ (fun i hi=>by have:=List.mem_range'.1 hi; obtain ⟨k,hk,rfl⟩:=this; simp at hk; omega)];have hall:((List.range' 0 len).all (fun i=>((p.getD i 0:Nat):Int) == ((q.getD i 0:Nat):Int))) = decide (p = q):=by
  rw [Bool.eq_iff_iff,List.all_eq_true,decide_eq_true_eq];constructor
  ·intro h;refine List.ext_getElem (by omega) fun i h1 h2=>?_
   have:=h i (by simp [List.mem_range']; omega);rw [beq_iff_eq] at this;have:=Int.ofNat.inj this;simpa [zfL,h1,h2] using this
  ·rintro rfl i _;simp
 have hsz:(⟨0,len,1,by decide⟩:Std.Legacy.Range).size = len:=by simp [Std.Legacy.Range.size]
 rw [hsz,hall];by_cases h:p = q <;> simp [h,Result.andThen]
theorem zfi (w:World):(sizeOf 5).run Tryz.prog w = .ok 1 w:=by kernel_rfl
theorem zcM:Tryz.prog.eqGuardType Tryz.prog.depth 63 = false:=by kernel_rfl
theorem Kf {p q:List Nat} (hl:p.length = 30) (hm:q.length = 30) (w:World):(Op.equalIn 10000 63 (stV p) (stV q)).run Tryz.prog w = .ok (decide (p = q)) w :=
 XM w 9998 30 63 5 p q Tryz.underlying63 Tryz.underlying5 zfi hl hm
theorem KB {ops:Array Oper} {S:World -> Prop} {op:Oper} {a:Act} (hw:Region.wanted op (yielded ops a.tmps) = true) (x:Operand) (ho:op.op = .load 63 x)
  (b:Nat) (hx:a.eval x = .pointer (some ⟨b,0,none⟩)) (s:List Nat) (hl:s.length = 30) (hS:∀ w,S w -> w.rangeAt b 0 (zq s)):YieldsIf Tryz.prog ops S op (stV s) a :=
 yieldsIf_load_mid hw _ x ho b 0 hx (zq s) _ hS Tryz.underlying63 rfl (by rw [zH,hl]; exact Tryz.setSize)
end
section
open Bits (Ok has with_ without)
def jl (s:List Nat) (n:Int):List Nat:=if jT n then with_ s n.toNat else s
theorem JM {s:List Nat} (h:Ok s) (n:Int):Ok (jl s n):=by
 unfold jl; split
 ·exact h.with_ _
 ·exact h
structure vW (w wi:World) (b:Nat) (s:List Nat):Prop where
 own:yE wi b s
 res:yE wi (b + 1) (zQ)
 below:Below w.1.size w wi
 at_:b = w.1.size
theorem vW.new (w:World) (s:List Nat):vW w ((w.alloc (.cells (yg s) 63)).alloc (.cells (yg (zQ)) 63)) w.1.size s :=
 ⟨(yE.new (w:=w) 63).below ((Below.refl _ _).alloc (zfI _) _) (by simp),by
  have:=yE.new (w:=w.alloc (.cells (yg s) 63)) (s:=zQ) 63;simpa using this,((Below.refl _ _).alloc (zfI _) _).alloc (by simp) _,rfl⟩
theorem vW.drew {w wi:World} {b:Nat} {s:List Nat} (h:vW w wi b s):vW w wi.drew b s:=⟨h.own.drew,h.res.drew,h.below.drew,h.at_⟩
theorem vW.put {w wi:World} {b:Nat} {s:List Nat} (h:vW w wi b s) {i:Nat} (hi:i < s.length) (v:Nat):vW w (wi.setCell ⟨b,i,none⟩ (.int .u8 (v:Int))) b (s.set i v) :=
 ⟨h.own.put hi v,h.res.other (by omega) _ _,h.below.setCell (by rw [h.at_]; exact zfI _) _,h.at_⟩
theorem Wh (s:List Nat) (h:Ok s) (m:Nat) (hm:m < 240) (w:World) :
  Calls Tryz.prog 71 #[stV s,.int .i64 m] w fun e w'=>e = .returned (stV (with_ s m)) /\ Below w.1.size w w':=by
 have hz:=Tryz.zeroSet;have HN:∀ w,Calls Tryz.prog 94 #[.int .i64 m] w fun e w'=>e = .returned (.bool true) /\ w' = w:=fun w=>(vI m w).mono fun e w' ⟨h1,h2⟩=>⟨by rw [h1,Zz hm],h2.symm⟩
 obtain ⟨a,HA⟩:=hY (Bits.at_ s (m / 8));obtain ⟨p,HP⟩:=hY (2 ^ (m % 8));have HB:∀ w,Calls Tryz.prog 95 #[.int .i64 m] w fun e w'=>e = .returned (.int .u8 (p:Int)) /\ w' = w:=fun w=>(V9 m w).mono fun e w' ⟨h1,h2⟩=>⟨by rw [h1,HP.o],h2.symm⟩
 have hst:=vW.new w s;obtain ⟨w2,HW⟩:=hY ((w.alloc (.cells (yg s) 63)).alloc (.cells (yg (zQ)) 63));obtain ⟨b,HBB⟩:=hY (w.1.size);rw [<- HW.o,<- HBB.o] at hst;have HST:=Hi hst;clear hst
 go_enter Tryz.func71,Tryz.ntmps71
 go_wp2_with fail;rw [<- HW.o];rw [<- HBB.o];refine (HN _).mono ?_;rintro e w' ⟨rfl,rfl⟩;go_wp2_with fail;obtain ⟨i,HI⟩:=hY (m / 8);have hi:i < 30:=by rw [HI.o]; omega
 have hwr:IntKind.i64.wrap ((m:Int) / 8) = (i:Int):=by rw [HI.o,IntKind.wrap_i64]; omega
 have hi2:(i:Int) < 30:=by omega
 have hc:=Z8 HST.o.own.at_ (i:=i) (by rw [h.len]; exact hi);have hf:=HST.o.own.free i;rw [HI.o,<- HA.o,<- HI.o] at hc
 go_region_law ((go_simp; go_at_call 95; refine (HB _).mono ?_; rintro e w' ⟨rfl,rfl⟩))
 all_goals
  rw [u8_or_nat a p (by rw [HA.o]; exact Bits.at_lt h _) (by rw [HP.o]; exact Bits.pow_lt m)];obtain ⟨w3,HW3⟩:=hY ((w'.setCell ⟨b,i,none⟩ (.int .u8 ((a ||| p:Nat):Int))).drew);rw [<- HW3.o];have HS3:=hI (vW w w3 b (with_ s m)) (by
   have:=(HST.o.put (i:=i) (by rw [h.len]; exact hi) (a ||| p)).drew;have e:with_ s m = s.set i (a ||| p):=by rw [HA.o,HP.o,HI.o]; rfl
   rw [HW3.o,e];exact this)
  clear HW3 HST hc hf HW;have hl:(with_ s m).length = 30:=(h.with_ m).len;go_wp2_with (with_reducible refine vN (o:=⟨some 15,_,_,_,_,_⟩) ?_);refine yi rfl _ rfl b rfl (with_ s m) hl HS3.o.own.at_ ?_;refine yy rfl _ _ rfl (b + 1) (with_ s m) zQ hl yD rfl rfl HS3.o.res ?_;intro w4 HW4 HO4;go_wp2_with fail;refine bodyPost_ret (wM rfl _ _ (b + 1) (with_ s m) rfl HO4.o.at_ hl) rfl ⟨rfl,?_⟩;have:=HS3.o.below;exact zD this HW4.o (by have:=HS3.o.at_; omega)
theorem zd8 (s:List Nat) (h:Ok s) (n:Int) (hn:jT n = false) (w:World) :
  Calls Tryz.prog 71 #[stV s,.int .i64 n] w fun e w'=>e = .returned (stV s) /\ Below w.1.size w w':=by
 have hz:=Tryz.zeroSet;have HN:∀ w,Calls Tryz.prog 94 #[.int .i64 n] w fun e w'=>e = .returned (.bool false) /\ w' = w:=fun w=>(vI n w).mono fun e w' ⟨h1,h2⟩=>⟨by rw [h1,hn],h2.symm⟩
 have hst:=vW.new w s;obtain ⟨w2,HW⟩:=hY ((w.alloc (.cells (yg s) 63)).alloc (.cells (yg zQ) 63));obtain ⟨b,HBB⟩:=hY (w.1.size);rw [<- HW.o,<- HBB.o] at hst;have HS3:=Hi hst;clear hst;have hl:=h.len
 go_enter Tryz.func71,Tryz.ntmps71
 go_wp2_with fail;rw [<- HW.o];rw [<- HBB.o];refine (HN _).mono ?_;rintro e w' ⟨rfl,rfl⟩;go_wp2_with (with_reducible refine vN (o:=⟨some 15,_,_,_,_,_⟩) ?_);refine yi rfl _ rfl b rfl s hl HS3.o.own.at_ ?_;refine yy rfl _ _ rfl (b + 1) s zQ hl yD rfl rfl HS3.o.res ?_;intro w4 HW4 HO4;go_wp2_with fail;refine bodyPost_ret (wM rfl _ _ (b + 1) s rfl HO4.o.at_ hl) rfl ⟨rfl,?_⟩;have:=HS3.o.below;exact zD this HW4.o (by have:=HS3.o.at_; omega)
theorem zcs (s:List Nat) (h:Ok s) (n:Int) (w:World) :
  Calls Tryz.prog 71 #[stV s,.int .i64 n] w fun e w'=>e = .returned (stV (jl s n)) /\ Below w.1.size w w':=by
 cases hn:jT n with
 | true =>
  obtain ⟨m,rfl,hm⟩:=Wy hn;rw [show jl s (m:Int) = with_ s m by unfold jl; rw [hn,if_pos rfl,Int.toNat_natCast]];exact Wh s h m hm w
 | false =>
  rw [show jl s n = s by unfold jl; rw [hn,if_neg (by decide)]];exact zd8 s h n hn w
theorem Xl (s:List Nat) (h:Ok s) (m:Nat) (hm:m < 240) (w:World) :
  Calls Tryz.prog 84 #[stV s,.int .i64 m] w fun e w'=>e = .returned (stV (without s m)) /\ Below w.1.size w w':=by
 have hz:=Tryz.zeroSet;have HN:∀ w,Calls Tryz.prog 94 #[.int .i64 m] w fun e w'=>e = .returned (.bool true) /\ w' = w:=fun w=>(vI m w).mono fun e w' ⟨h1,h2⟩=>⟨by rw [h1,Zz hm],h2.symm⟩
 obtain ⟨a,HA⟩:=hY (Bits.at_ s (m / 8));obtain ⟨p,HP⟩:=hY (2 ^ (m % 8));have HB:∀ w,Calls Tryz.prog 95 #[.int .i64 m] w fun e w'=>e = .returned (.int .u8 (p:Int)) /\ w' = w:=fun w=>(V9 m w).mono fun e w' ⟨h1,h2⟩=>⟨by rw [h1,HP.o],h2.symm⟩
 have hst:=vW.new w s;obtain ⟨w2,HW⟩:=hY ((w.alloc (.cells (yg s) 63)).alloc (.cells (yg (zQ)) 63));obtain ⟨b,HBB⟩:=hY (w.1.size);rw [<- HW.o,<- HBB.o] at hst;have HST:=Hi hst;clear hst
 go_enter Tryz.func84,Tryz.ntmps84
 go_wp2_with fail;rw [<- HW.o];rw [<- HBB.o];refine (HN _).mono ?_;rintro e w' ⟨rfl,rfl⟩;go_wp2_with fail;obtain ⟨i,HI⟩:=hY (m / 8);have hi:i < 30:=by rw [HI.o]; omega
 have hwr:IntKind.i64.wrap ((m:Int) / 8) = (i:Int):=by rw [HI.o,IntKind.wrap_i64]; omega
 have hi2:(i:Int) < 30:=by omega
 have hc:=Z8 HST.o.own.at_ (i:=i) (by rw [h.len]; exact hi);have hf:=HST.o.own.free i;rw [HI.o,<- HA.o,<- HI.o] at hc
 go_region_law ((go_simp; go_at_call 95; refine (HB _).mono ?_; rintro e w' ⟨rfl,rfl⟩))
 all_goals
  rw [u8_andNot_nat a p (by rw [HA.o]; exact Bits.at_lt h _) (by rw [HP.o]; exact Bits.pow_lt m)];obtain ⟨w3,HW3⟩:=hY ((w'.setCell ⟨b,i,none⟩ (.int .u8 ((a &&& (255 - p):Nat):Int))).drew);rw [<- HW3.o];have HS3:=hI (vW w w3 b (without s m)) (by
   have:=(HST.o.put (i:=i) (by rw [h.len]; exact hi) (a &&& (255 - p))).drew;have e:without s m = s.set i (a &&& (255 - p)):=by rw [HA.o,HP.o,HI.o]; rfl
   rw [HW3.o,e];exact this)
  clear HW3 HST hc hf HW;have hl:(without s m).length = 30:=(h.without m).len;go_wp2_with (with_reducible refine vN (o:=⟨some 15,_,_,_,_,_⟩) ?_);refine yi rfl _ rfl b rfl (without s m) hl HS3.o.own.at_ ?_;refine yy rfl _ _ rfl (b + 1) (without s m) zQ hl yD rfl rfl HS3.o.res ?_;intro w4 HW4 HO4;go_wp2_with fail;refine bodyPost_ret (wM rfl _ _ (b + 1) (without s m) rfl HO4.o.at_ hl) rfl ⟨rfl,?_⟩;have:=HS3.o.below;exact zD this HW4.o (by have:=HS3.o.at_; omega)
end
section
open Bits (Ok has with_ without count jc first both)
def ZZ (s:List Nat) (x y:Int):Option Nat:=first s (max x 0).toNat (min y 240 - max x 0).toNat
def Ql:Option Nat -> Value
 | some n=>.tuple #[.int .i64 (n:Int),.bool true]
 | none=>.tuple #[.int .i64 0,.bool false]
def Ye (w:World) (b:Nat) (s:List Nat) (a c:Nat) (i:Value) (wr:World):Prop :=
 ∃ k:Nat,k <= c /\ i = .int .i64 ((a + k:Nat):Int) /\ first s a c = first s (a + k) (c - k) /\ wr.rangeAt b 0 (zq s) /\ Below w.1.size w wr
theorem Ye.start {w w1:World} {b:Nat} {s:List Nat} {a c:Nat} {v:Int} (hv:v = (a:Int)) (hr:w1.rangeAt b 0 (zq s)) (hb:Below w.1.size w w1):Ye w b s a c (.int .i64 v) w1 :=
 ⟨0,Nat.zero_le _,by rw [hv]; rfl,rfl,hr,hb⟩
theorem Vn (s:List Nat) (hok:Ok s) (x y:Int) (w:World) :
  Calls Tryz.prog 77 #[stV s,.int .i64 x,.int .i64 y] w fun e w'=>e = .returned (Ql (ZZ s x y)) /\ Below w.1.size w w':=by
 obtain ⟨a,HA⟩:∃ a:Nat,Hid (max x 0 = (a:Int)):=⟨(max x 0).toNat,Hi (by omega)⟩
 obtain ⟨c,HC⟩:∃ c:Nat,Hid (c = (min y 240 - a).toNat):=Hy;have HF:=hI (ZZ s x y = first s a c) (by unfold ZZ; rw [HA.o,HC.o]; rfl);rw [HF.o];obtain ⟨w1,HW⟩:=hY (w.alloc (.cells (yg s) 63));obtain ⟨b,HBB⟩:=hY (w.1.size);have HR1:=hI (w1.rangeAt b 0 (zq s)) (by rw [HW.o,HBB.o]; exact (yE.new _).at_);have HB1:=hI (Below w.1.size w w1) (by rw [HW.o]; exact bA);rcases (show x < 0 \/ 0 <= x by omega) with hx | hx
 all_goals
  go_enter Tryz.func77,Tryz.ntmps77
  go_wp2_with fail;rw [<- HW.o,<- HBB.o]
  go_loopw [8] (fun i wr=>Ye w b s a c i wr) (fun i _=>(240 - intOf i).toNat)
  case atStart=>exact Ye.start (by have:=HA.o; omega) HR1.o HB1.o
  case round =>
   clear hx;obtain ⟨k,hk,rfl,hf,hr,hb⟩:=hrel;have HR:=Hi hr;have HB:=Hi hb;have HFF:=Hi hf;clear hr hb HR1 HB1 hf;obtain ⟨j,HJ⟩:=hY (a + k);rw [<- HJ.o];by_cases hlt:(j:Int) < y /\ (j:Int) < 240
   ·obtain ⟨hy1,hy2⟩:=hlt;have hj:j < 240:=by omega
    have hkc:=hI (k < c) (by have:=HC.o; have:=HJ.o; omega);go_wp2_with (with_reducible refine vN (o:=⟨some 17,_,_,_,_,_⟩) ?_)
    all_goals
     unfold Zv;refine yi rfl _ rfl b rfl s hok.len HR.o ?_;go_wp2_with fail;refine (Yf s hok j hj wr).mono ?_;rintro e w' ⟨rfl,hb⟩;have HB2:=hI (Below w.1.size w w') (HB.o.trans (hb.mono HB.o.size));have HR2:=hI (w'.rangeAt b 0 (zq s)) (Jt HR.o hb);clear hb HB HR;obtain ⟨d,HD⟩:∃ d,Hid (c - k = d + 1):=⟨c - k - 1,Hi (by have:=hkc.out; omega)⟩
     have HE:=hI (first s a c = if has s j then first s (j + 1) d else some j) (by rw [HFF.o,<- HJ.o,HD.o]; rfl);obtain ⟨v,HV⟩:=hY (has s j);rw [<- HV.o];cases v with
     | true =>
      go_wp2_with fail
      go_roundw
      case rel=>exact ⟨k + 1,hkc.out,by rw [HJ.o]; go_num,by rw [HE.o,<- HV.o,if_pos rfl,HJ.o,show c - (k + 1) = d by have:=HD.o; omega]; rfl,HR2.o,HB2.o⟩
      case measure=>simp [intOf]; omega
     | false =>
      go_wp2_with fail
      go_ret2
      exact ⟨by rw [HE.o,<- HV.o,if_neg (by decide)]; rfl,HB2.o⟩
   ·have hn:=hI (first s a c = none) (by
     rw [HFF.o,show c - k = 0 by have:=HC.o; have:=HJ.o; omega];rfl)
    by_cases hy:240 < y
    all_goals
     go_wp2_with fail
     go_ret2
     exact ⟨by rw [hn.out]; rfl,HB.o⟩
def jO (s t:List Nat) (k:Nat):List Nat:=(both s t).take k ++ s.drop k
theorem Yp {s t:List Nat} (hs:Ok s) (ht:Ok t) (k:Nat):(jO s t k).length = 30:=by
 have:=(hs.both ht).len;have:=hs.len;unfold jO;rw [List.length_append,zfZ,List.length_drop];omega
theorem Qd (s t:List Nat):jO s t 0 = s:=by simp [jO]
theorem za0 {s t:List Nat} (hs:Ok s) (ht:Ok t):jO s t 30 = both s t:=by
 have h1:=(hs.both ht).len;have h2:=hs.len;unfold jO;rw [List.take_of_length_le (by omega),List.drop_of_length_le (by omega),List.append_nil]
theorem zcz {s t:List Nat} (hs:Ok s) (ht:Ok t) {k:Nat} (hk:k < 30):Bits.at_ (jO s t k) k = Bits.at_ s k:=by
 have h1:=(hs.both ht).len;have h2:=hs.len;unfold Bits.at_ jO;rw [zfL,zfL,List.getElem?_append_right (by rw [zfZ]; omega),List.getElem?_drop,zfZ];congr 2;omega
theorem Qc {s t:List Nat} (hs:Ok s) (ht:Ok t) {k:Nat} (hk:k < 30):(jO s t k).set k (Bits.at_ s k ||| Bits.at_ t k) = jO s t (k + 1):=by
 have h1:=(hs.both ht).len;have h2:=hs.len;have h3:=ht.len;have e:(both s t)[k]'(by omega) = Bits.at_ s k ||| Bits.at_ t k:=by
  rw [<- Bits.at_eq (by omega),<- Bits.at_eq (by omega)];simp [both]
 have hl:((both s t).take k).length = k:=by rw [zfZ]; omega
 unfold jO;rw [List.set_append_right _ _ (by rw [hl]; exact zfI _),hl,Nat.sub_self,List.drop_eq_getElem_cons (by omega),List.set_cons_zero,<- e,List.take_succ_eq_append_getElem (by omega),List.append_assoc];rfl
def zdQ (w:World) (b:Nat) (s t:List Nat) (i:Value) (wr:World):Prop :=
 ∃ k:Nat,k <= 30 /\ i = .int .i64 k /\ yE wr b (jO s t k) /\ wr.rangeAt (b + 1) 0 (zq t) /\ yE wr (b + 2) zQ /\ Below w.1.size w wr
theorem zb3 (s t:List Nat) (hs:Ok s) (ht:Ok t) (w:World) :
  Calls Tryz.prog 115 #[stV s,stV t] w fun e w'=>e = .returned (stV (both s t)) /\ Below w.1.size w w':=by
 have hz:=Tryz.zeroSet;obtain ⟨w1,HW⟩:=hY (((w.alloc (.cells (yg s) 63)).alloc (.cells (yg t) 63)).alloc (.cells (yg zQ) 63));obtain ⟨b,HBB⟩:=hY (w.1.size);have HB1:=hI (Below w.1.size w w1) (by rw [HW.o]; exact (((Below.refl _ _).alloc (zfI _) _).alloc (by simp) _).alloc (by simp; omega) _);have HO1:=hI (yE w1 b s) (by
  rw [HW.o,HBB.o];exact (yE.new _).below (((Below.refl _ _).alloc (zfI _) _).alloc (by simp) _) (by simp))
 have HT1:=hI (w1.rangeAt (b + 1) 0 (zq t)) (by
  rw [HW.o,HBB.o];have:=(yE.new (w:=w.alloc (.cells (yg s) 63)) (s:=t) 63).below (((Below.refl _ _).alloc (zfI _) (.cells (yg zQ) 63))) (by simp);simpa using this.at_)
 have HZ1:=hI (yE w1 (b + 2) zQ) (by
  rw [HW.o,HBB.o];have:=yE.new (w:=(w.alloc (.cells (yg s) 63)).alloc (.cells (yg t) 63)) (s:=zQ) 63;simpa using this)
 go_enter Tryz.func115,Tryz.ntmps115
 go_wp2_with fail;rw [<- HW.o,<- HBB.o]
 go_loopw [6] (fun i wr=>zdQ w b s t i wr) (fun i _=>30 - (intOf i).toNat)
 case atStart=>exact ⟨0,by decide,rfl,by rw [Qd]; exact HO1.o,HT1.o,HZ1.o,HB1.o⟩
 case round =>
  obtain ⟨k,hk,rfl,ho,hr,hzz,hb⟩:=hrel;have HO:=Hi ho;have HR:=Hi hr;have HZ:=Hi hzz;have HB:=Hi hb;clear ho hr hzz hb HO1 HT1 HZ1 HB1;by_cases hlt:k < 30
  ·obtain ⟨x,HX⟩:=hY (Bits.at_ s k);obtain ⟨y,HY⟩:=hY (Bits.at_ t k);have hc1:=Z8 HO.o.at_ (i:=k) (by rw [Yp hs ht]; exact hlt);have hc2:=Z8 HR.o (i:=k) (by rw [ht.len]; exact hlt);rw [zcz hs ht hlt,<- HX.o] at hc1;rw [<- HY.o] at hc2;have hf:=HO.o.free k;have hk2:(k:Int) < 30:=by omega
   go_wp2_with fail
   go_region
   clear hc1 hc2 hf;rw [u8_or_nat x y (by rw [HX.o]; exact Bits.at_lt hs _) (by rw [HY.o]; exact Bits.at_lt ht _)];obtain ⟨w3,HW3⟩:=hY ((wr.setCell ⟨b,k,none⟩ (.int .u8 ((x ||| y:Nat):Int))).drew);rw [<- HW3.o];have hbb:w.1.size <= b:=by rw [HBB.o]; exact zfI _
   have HO3:=hI (yE w3 b (jO s t (k + 1))) (by
    have:=(HO.o.put (i:=k) (by rw [Yp hs ht]; exact hlt) (x ||| y)).drew;rw [HX.o,HY.o,Qc hs ht hlt] at this;rw [HW3.o,HX.o,HY.o];exact this)
   have HR3:=hI (w3.rangeAt (b + 1) 0 (zq t)) (by
    rw [HW3.o];intro j v hv;have:=HR.o j v hv;exact (World.cell?_setCell_other _ _ _ _ (by intro hh; injection hh; omega)).trans this)
   have HZ3:=hI (yE w3 (b + 2) zQ) (by
    rw [HW3.o];exact (HZ.o.other (by omega) _ _).drew)
   have HB3:=hI (Below w.1.size w w3) (by
    rw [HW3.o];exact (HB.o.setCell hbb _).drew)
   clear HW3 HO HR HZ HB hbb;go_wp2_with fail
   go_roundw
   case rel=>exact ⟨k + 1,hlt,by go_num,HO3.o,HR3.o,HZ3.o,HB3.o⟩
   case measure=>simp [intOf]; omega
  ·obtain rfl:k = 30:=by omega
   have hl:=(hs.both ht).len;have HO2:=hI (yE wr b (both s t)) (by have:=HO.o; rwa [za0 hs ht] at this);clear HO;go_wp2_with (with_reducible refine vN (o:=⟨some 18,_,_,_,_,_⟩) ?_);refine yi rfl _ rfl b rfl (both s t) hl HO2.o.at_ ?_;refine yy rfl _ _ rfl (b + 2) (both s t) zQ hl yD rfl rfl HZ.o ?_;intro w4 HW4 HO4;go_wp2_with fail;refine bodyPost_ret (wM rfl _ _ (b + 2) (both s t) rfl HO4.o.at_ hl) rfl ⟨rfl,?_⟩;exact zD HB.o HW4.o (by have:=HBB.o; omega)
end
