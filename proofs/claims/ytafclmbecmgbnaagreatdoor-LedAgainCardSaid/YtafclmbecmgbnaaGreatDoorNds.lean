/-
  Nds. Conditions: as said.
-/
import Derived.Test.YtafclmbecmgbnaaGreatDoorNodeMath
import Derived.Test.YtafclmbecmgbnaaGreatDoorStrs
import Derived.Test.YtafclmbecmgbnaaGreatDoorFrames
import Derived.Maps.OwnOps
import Derived.Maps.Views
set_option maxRecDepth 100000
set_option maxHeartbeats 8000000
open Nat renaming le_refl -> ze3,zero_le -> zfp,lt_of_lt_of_le -> ze1,le_trans -> ze2,lt_trans -> zfs
open List renaming length_append -> zfk,length_drop -> zfr,mem_singleton -> zft,length -> zfu,map_append -> zfv,getElem_mem -> zfn,take_length -> zfw,getElem?_eq_getElem -> ze7,length_singleton -> zfx,mem_append -> zfy,drop_drop -> zfz,append_assoc -> zfA,take_succ_eq_append_getElem -> zfB,pairwise_append -> zfC,drop_zero -> zfE,length_eq_zero_iff -> zfF,take_of_length_le -> zfG,setIfInBounds_toArray -> zfH,drop_succ_cons -> zfb
open Array renaming length_toList -> zfq
open Option renaming some -> ze8
open Bool renaming eq_false_iff -> zfD
namespace Go.Proofs.YtafclmbecmgbnaaGreatDoor
section
open Go.RowKit
structure zd where
 A:Option Addr
 B:Option Addr
 C:Option Addr
 ca:Nat
 cb:Nat
 cc:Nat
def jd (l:zd) (x:Nd):List Value:=[.slice l.A x.keys.length l.ca,.slice l.B x.vals.length l.cb,.slice l.C x.kids.length l.cc]
abbrev ndV (l:zd) (x:Nd):Value:=.agg #[.slice l.A x.keys.length l.ca,.slice l.B x.vals.length l.cb,.slice l.C x.kids.length l.cc]
structure xt (w:World) (l:zd) (x:Nd):Prop where
 keys:Nums w .i64 l.A x.keys
 vals:Strs w l.B x.vals.length x.vals
 kids:Nums w .i64 l.C x.kids
 kl:x.keys.length <= maxLen
 vl:x.vals.length <= maxLen
 cl:x.kids.length <= maxLen
 kw:∀ z ∈ x.keys,-9223372036854775808 <= z /\ z <= 9223372036854775807
 vw:∀ v ∈ x.vals,v.size <= maxLen
 cw:∀ z ∈ x.kids,-9223372036854775808 <= z /\ z <= 9223372036854775807
theorem xt.carry {w w':World} {l:zd} {x:Nd} (h:xt w l x) (hb:Below w.1.size w w'):xt w' l x :=
 ⟨h.keys.carry hb,h.vals.below hb,h.kids.carry hb,h.kl,h.vl,h.cl,h.kw,h.vw,h.cw⟩
def zd.none_:zd:=⟨none,none,none,0,0,0⟩
theorem Strs.none_ (w:World) (A:Option Addr):Strs w A 0 []:=⟨rfl,fun h=>absurd h (by decide)⟩
theorem xt.empty (w:World):xt w zd.none_ Nd.empty :=
 ⟨Nums.none_ _ _ _,Strs.none_ _ _,Nums.none_ _ _ _,zfp _,zfp _,zfp _,by simp [Nd.empty],by simp [Nd.empty],by simp [Nd.empty]⟩
structure zb (w:World) (b:Nat) (l:zd) (x:Nd):Prop where
 c0:w.cell? ⟨b,0,none⟩ = some (.slice l.A x.keys.length l.ca)
 c1:w.cell? ⟨b,1,none⟩ = some (.slice l.B x.vals.length l.cb)
 c2:w.cell? ⟨b,2,none⟩ = some (.slice l.C x.kids.length l.cc)
theorem zb.new {w:World} {l:zd} {x:Nd} (t:TypeId):zb (w.alloc (.cells #[.slice l.A x.keys.length l.ca,.slice l.B x.vals.length l.cb,.slice l.C x.kids.length l.cc] t)) w.1.size l x:=⟨by simp,by simp,by simp⟩
theorem zb.lt {w:World} {b:Nat} {l:zd} {x:Nd} (h:zb w b l x):b < w.1.size:=zt h.c0
theorem zb.carry {w w':World} {b:Nat} {l:zd} {x:Nd} (h:zb w b l x) {B:Nat} (hb:Below B w w') (hB:b < B):zb w' b l x :=
 ⟨(hb.cell (p:=⟨b,0,none⟩) hB).trans h.c0,(hb.cell (p:=⟨b,1,none⟩) hB).trans h.c1,(hb.cell (p:=⟨b,2,none⟩) hB).trans h.c2⟩
end
section
open Go.RowKit
theorem yf {w:World} {A:Option Addr} {zs:List Int} (h:Nums w .i64 A zs) {i:Nat} (hi:i < zs.length):∃ a,A = some a /\ w.cell? (a.add i) = some (.int .i64 zs[i]):=h.at_ (ze7 hi)
theorem Zf {w:World} {A:Option Addr} {n:Nat} {ss:List ByteArray} (h:Strs w A n ss) {i:Nat} (hi:i < ss.length):∃ a,A = some a /\ w.cell? (a.add i) = some (.string ss[i]):=by
 obtain ⟨a,e,_,hc⟩:=h.2 (by have:=h.1; omega);exact ⟨a,e,hc i _ (ze7 hi)⟩
theorem Tryz.zeroNode (w:World):(zeroValue 48).run Tryz.prog w = .ok (.agg #[.slice none 0 0,.slice none 0 0,.slice none 0 0]) w:=by kernel_rfl
structure Zw (T:TypeId):Prop where
 und:∃ d,Tryz.prog.underlying T = some d /\ d.isRow = true
 size:(Tryz.prog.info? T).map (·.size) = some 3
theorem Tryz.ndProg:Zw 48:=⟨⟨_,Tryz.underlying48,rfl⟩,by kernel_rfl⟩
theorem zb.range {w:World} {b:Nat} {l:zd} {x:Nd} (h:zb w b l x):w.rangeAt b 0 (jd l x):=fun j v hv=>by
 unfold jd at hv
 match j with
 | 0=>exact h.c0.trans hv
 | 1=>exact h.c1.trans hv
 | 2=>exact h.c2.trans hv
 | j + 3=>simp at hv
theorem zcj {T:TypeId} (hT:Zw T) {w:World} {b:Nat} {l:zd} {x:Nd} (h:zb w b l x):(loadVar T ⟨b,0,none⟩).run Tryz.prog w = .ok (ndV l x) w:=by
 obtain ⟨d,hu,hd⟩:=hT.und;exact run_loadVar_mid w b 0 T (jd l x) _ h.range hu hd hT.size
theorem zf {T:TypeId} (hT:Zw T) {ops:Array Oper} {rest:List Oper} {op:Oper} {a:Act} {w:World} {Q:Exit -> Act -> World -> Prop} (hw:Region.wanted op (yielded ops a.tmps) = true) (y:Operand) (ho:op.op = .load T y)
  (b:Nat) (hx:a.eval y = .pointer (some ⟨b,0,none⟩)) (l:zd) (x:Nd) (hc:zb w b l x)
  (h:wpList Tryz.prog ops Q rest (a.put op.dst (ndV l x)) w):wpList Tryz.prog ops Q (op :: rest) a w :=
 wpList_step fun _ hK=>by
  obtain ⟨d,hu,hd⟩:=hT.und;rw [if_pos hw];exact wp_load_mid T y ho b 0 hx (jd l x) _ hc.range hu hd hT.size (hK _ _ h)
theorem yE {T:TypeId} (hT:Zw T) {ops:Array Oper} {S:World -> Prop} {op:Oper} {a:Act} (hw:Region.wanted op (yielded ops a.tmps) = true) (y:Operand) (ho:op.op = .load T y)
  (b:Nat) (hx:a.eval y = .pointer (some ⟨b,0,none⟩)) (l:zd) (x:Nd) (hS:∀ w,S w -> zb w b l x):YieldsIf Tryz.prog ops S op (ndV l x) a:=by
 obtain ⟨d,hu,hd⟩:=hT.und;exact yieldsIf_load_mid hw _ y ho b 0 hx (jd l x) _ (fun w h=>(hS w h).range) hu hd hT.size
theorem kS {T:TypeId} (hT:Zw T) {fn:Func} {p:Tmp} (h:fn.results = #[.cell p T]) (tmps:Array Value) (w:World) (b:Nat) (l:zd) (x:Nd)
  (hp:tmps.getD p undef = .pointer (some ⟨b,0,none⟩)) (hc:zb w b l x):(results fn tmps).run Tryz.prog w = .ok (ndV l x) w:=by
 have hp':tmps[p]?.getD undef = .pointer (some ⟨b,0,none⟩):=by simpa using hp
 simp [results,h,hp',asAddr,zcj hT hc]
theorem zq {T:TypeId} (hT:Zw T) {fn:Func} {p q:Tmp} (h:fn.results = #[.cell p T,.tmp q]) (tmps:Array Value) (w:World) (b:Nat) (l:zd) (x:Nd) (v:Value)
  (hp:tmps.getD p undef = .pointer (some ⟨b,0,none⟩)) (hq:tmps.getD q undef = v) (hc:zb w b l x):(results fn tmps).run Tryz.prog w = .ok (.tuple #[ndV l x,v]) w:=by
 rw [results_cell_tmp h,hp,hq];simp [asAddr,Result.andThen,zcj hT hc]
theorem zb.set3 {w:World} {b:Nat} {l:zd} {x:Nd} {u0 u1 u2:Value} (d0:w.cell? ⟨b,0,none⟩ = some u0) (d1:w.cell? ⟨b,1,none⟩ = some u1) (d2:w.cell? ⟨b,2,none⟩ = some u2) :
  zb (((w.setCell ⟨b,0,none⟩ (.slice l.A x.keys.length l.ca)).setCell ⟨b,1,none⟩ (.slice l.B x.vals.length l.cb)).setCell ⟨b,2,none⟩ (.slice l.C x.kids.length l.cc)) b l x:=by
 have n01:(⟨b,0,none⟩:Addr) ≠ ⟨b,1,none⟩:=by simp
 have n02:(⟨b,0,none⟩:Addr) ≠ ⟨b,2,none⟩:=by simp
 have n12:(⟨b,1,none⟩:Addr) ≠ ⟨b,2,none⟩:=by simp
 refine ⟨?_,?_,?_⟩
 ·rw [World.cell?_setCell_other _ _ _ _ (Ne.symm n02),World.cell?_setCell_other _ _ _ _ (Ne.symm n01),World.cell?_setCell_same _ _ _ d0]
 ·rw [World.cell?_setCell_other _ _ _ _ (Ne.symm n12),World.cell?_setCell_same _ _ _ ((World.cell?_setCell_other _ _ _ _ n01).trans d1)]
 ·rw [World.cell?_setCell_same _ _ _ ((World.cell?_setCell_other _ _ _ _ n12).trans ((World.cell?_setCell_other _ _ _ _ n02).trans d2))]
end
section
open Go.RowKit
end
section
open Go.RowKit
structure Xu (w:World) (p:Nat) (l:zd) (x:Nd) (wr:World):Prop where
 a:zb wr p l x
 below:Below w.1.size w wr
theorem Xu.carry {w wr w':World} {p:Nat} {l:zd} {x:Nd} (h:Xu w p l x wr) (hb:Below wr.1.size wr w'):Xu w p l x w':=⟨h.a.carry hb h.a.lt,h.below.trans (hb.mono h.below.size)⟩
end
section
open Go.RowKit
end
section
open Go.RowKit
theorem Xp (a b:List UInt8):(⟨a.toArray⟩:ByteArray) ++ ⟨b.toArray⟩ = ⟨(a ++ b).toArray⟩:=by
 apply ByteArray.ext;rw [ByteArray.data_append];simp
theorem zam (a:List UInt8) (s:ByteArray):(⟨a.toArray⟩:ByteArray) ++ s = ⟨(a ++ s.data.toList).toArray⟩:=by
 have:=Xp a s.data.toList;simpa using this
theorem JY {l:List Int} {k:Nat} (h:k < l.length):ww (l.take (k + 1)) = ww (l.take k) ++ be 4 l[k].toNat:=by
 unfold ww;rw [zfB h,List.flatMap_append,List.flatMap_singleton]
theorem Qz {l:List ByteArray} {k:Nat} (h:k < l.length):xK (l.take (k + 1)) = xK (l.take k) ++ l[k].data.toList:=by
 unfold xK;rw [zfB h,List.flatMap_append,List.flatMap_singleton]
theorem J0 {l:List Int} {k:Nat} (h:k < l.length):vF (l.take (k + 1)) = vF (l.take k) ++ [UInt8.ofNat l[k].toNat]:=by
 unfold vF;rw [zfB h,zfv];rfl
def zee (w:World) (p:Nat) (l:zd) (x:Nd) (hd:List UInt8) (s i:Value) (wr:World):Prop:=∃ k:Nat,k <= x.keys.length /\ i = .int .i64 (k:Int) /\ s = .string ⟨(hd ++ ww (x.keys.take k)).toArray⟩ /\ Xu w p l x wr
def zej (w:World) (p:Nat) (l:zd) (x:Nd) (hd:List UInt8) (s i:Value) (wr:World):Prop:=∃ k:Nat,k <= x.vals.length /\ i = .int .i64 (k:Int) /\ s = .string ⟨(hd ++ xK (x.vals.take k)).toArray⟩ /\ Xu w p l x wr
def zef (w:World) (p:Nat) (l:zd) (x:Nd) (hd:List UInt8) (s i:Value) (wr:World):Prop:=∃ k:Nat,k <= x.kids.length /\ i = .int .i64 (k:Int) /\ s = .string ⟨(hd ++ vF (x.kids.take k)).toArray⟩ /\ Xu w p l x wr
structure XG (x:Nd):Prop where
 keys:x.keys.length <= 7
 vals:x.vals.length <= 7
 kids:x.kids.length <= 8
 key:∀ z ∈ x.keys,∃ m:Nat,z = (m:Int) /\ m < 4294967296
 val:∀ v ∈ x.vals,v.size = 12
 kid:∀ z ∈ x.kids,∃ m:Nat,z = (m:Int) /\ 2 <= m /\ m < 240
theorem zaS {x:Nd} (h:zJ x = true):XG x:=by
 obtain ⟨h1,h2,h3⟩:=zm h;have hk:=(wJ.1 h1).1;refine ⟨h2,?_,?_,fun z hz=>⟨z.toNat,by have:=hk z hz; omega,by have:=hk z hz; omega⟩,fun v hv=>?_,fun z hz=>?_⟩
 ·rcases h3 with ⟨_,_,h4⟩ | ⟨_,_,h4,_⟩
  ·omega
  ·rw [h4]; exact zfp _
 ·rcases h3 with ⟨h4,_⟩ | ⟨_,_,_,_,h4⟩
  ·rw [h4]; exact zfp _
  ·omega
 ·rcases h3 with ⟨_,h4,_⟩ | ⟨_,_,h4,_⟩
  ·exact of_decide_eq_true (List.all_eq_true.1 h4 v hv)
  ·rw [h4] at hv; cases hv
 ·rcases h3 with ⟨h4,_⟩ | ⟨_,h4,_⟩
  ·rw [h4] at hz; cases hz
  ·have:=(kJ.1 h4).1 z hz;exact ⟨z.toNat,by omega,by omega,by omega⟩
theorem XG.val_len {x:Nd} (h:XG x) (k:Nat):(xK (x.vals.take k)).length <= 84:=by
 have h1:(x.vals.take k).all kr = true:=by
  rw [List.all_eq_true];intro v hv;exact decide_eq_true (h.val v (List.mem_of_mem_take hv))
 rw [Yp h1];have:=h.vals;rw [List.length_take];omega
end
section
open Go.RowKit
end
section
open Go.RowKit
theorem zB {w w':World} {base:Nat} {e:TypeId} {size:Nat} {v:Value} {n:Nat} {xs:List Value} (h:w.ownsRow base e size v n xs) (hb:∀ g,v.ownBlock = some g -> w'.1[g]? = w.1[g]?):w'.ownsRow base e size v n xs:=by
 obtain ⟨h1,h2⟩:=h;refine ⟨h1,?_⟩;rcases h2 with h2 | ⟨g,cap,cur,e1,e2,e3,e4⟩
 ·exact .inl h2
 ·exact .inr ⟨g,cap,cur,e1,e2,by rw [hb g (by rw [e1]; rfl)]; exact e3,e4⟩
theorem va {w:World} {b:Nat} {e:TypeId} {v:Value} {zs:List Int} (h:w.ownsRow b e 1 v zs.length (zs.map (Value.int .i64))):∃ A cap,v = .slice A zs.length cap /\ Nums w .i64 A zs:=by
 obtain ⟨h1,h2⟩:=h;rcases h2 with ⟨rfl,h2⟩ | ⟨g,cap,cur,rfl,e2,e3,e4,e5,e6,e7⟩
 ·obtain rfl:=zfF.1 h2;exact ⟨none,0,rfl,Nums.none_ _ _ _⟩
 ·refine ⟨some ⟨g,0,none⟩,cap,rfl,fun _=>⟨⟨g,0,none⟩,rfl,?_,fun i z hz=>?_⟩⟩
  ·exact (Array.getElem?_eq_some_iff.1 e3).1
  ·rw [Addr.add_mid,cell_of_row _ _ _ _ _ _ e3,Nat.zero_add,<- Array.getElem?_toList];have hi:i < zs.length:=(List.getElem?_eq_some_iff.1 hz).1;have:(cur.toList.take (zs.length * 1))[i]? = some (.int .i64 z):=by rw [e7,List.getElem?_map,hz]; rfl
   rwa [List.getElem?_take,if_pos (by omega)] at this
theorem ZE {w:World} {b:Nat} {e:TypeId} {v:Value} {ss:List ByteArray} (h:w.ownsRow b e 1 v ss.length (ss.map Value.string)):∃ A cap,v = .slice A ss.length cap /\ Strs w A ss.length ss:=by
 obtain ⟨h1,h2⟩:=h;rcases h2 with ⟨rfl,h2⟩ | ⟨g,cap,cur,rfl,e2,e3,e4,e5,e6,e7⟩
 ·obtain rfl:=zfF.1 h2;exact ⟨none,0,rfl,Strs.none_ _ _⟩
 ·refine ⟨some ⟨g,0,none⟩,cap,rfl,rfl,fun _=>⟨⟨g,0,none⟩,rfl,?_,fun i z hz=>?_⟩⟩
  ·exact (Array.getElem?_eq_some_iff.1 e3).1
  ·rw [Addr.add_mid,cell_of_row _ _ _ _ _ _ e3,Nat.zero_add,<- Array.getElem?_toList];have hi:i < ss.length:=(List.getElem?_eq_some_iff.1 hz).1;have:(cur.toList.take (ss.length * 1))[i]? = some (.string z):=by rw [e7,List.getElem?_map,hz]; rfl
   rwa [List.getElem?_take,if_pos (by omega)] at this
theorem World.heap_setCell_far9 (w:World) (a:Addr) (u:Value) {i:Nat} (hi:i ≠ a.block):(w.setCell a u).heap[i]? = w.1[i]?:=Below.heap_setCell w a u i hi
theorem World.heap_setCell_size9 (w:World) (a:Addr) (u:Value):(w.setCell a u).heap.size = w.1.size:=by simp
structure qf (w:World) (p q b:Nat) (kv vv cv:Value) (x:Nd) (wr:World):Prop where
 res:zb wr p zd.none_ Nd.empty
 c0:wr.cell? ⟨q,0,none⟩ = some kv
 c1:wr.cell? ⟨q,1,none⟩ = some vv
 c2:wr.cell? ⟨q,2,none⟩ = some cv
 fz:∀ j,wr.frozen? ⟨q,j,none⟩ = false
 fp:∀ j,wr.frozen? ⟨p,j,none⟩ = false
 k:wr.ownsRow b 3 1 kv x.keys.length (x.keys.map (Value.int .i64))
 v:wr.ownsRow b 9 1 vv x.vals.length (x.vals.map Value.string)
 c:wr.ownsRow b 3 1 cv x.kids.length (x.kids.map (Value.int .i64))
 akv:∀ g,kv.ownBlock = some g -> vv.ownBlock ≠ some g
 akc:∀ g,kv.ownBlock = some g -> cv.ownBlock ≠ some g
 avc:∀ g,vv.ownBlock = some g -> cv.ownBlock ≠ some g
 lo:w.1.size <= p
 pq:p < q
 qb:q < b
 sz:b <= wr.1.size
 below:Below w.1.size w wr
theorem qf.carry {w wr w':World} {p q b:Nat} {kv vv cv:Value} {x:Nd} (h:qf w p q b kv vv cv x wr) (hb:Below wr.1.size wr w'):qf w p q b kv vv cv x w':=by
 have hq:q < wr.1.size:=ze1 h.qb h.sz;have hp:p < wr.1.size:=zfs h.pq hq;exact ⟨h.res.carry hb hp,(hb.cell (p:=⟨q,0,none⟩) hq).trans h.c0,(hb.cell (p:=⟨q,1,none⟩) hq).trans h.c1,(hb.cell (p:=⟨q,2,none⟩) hq).trans h.c2,
  fun j=>(World.frozen?_of_block (w:=wr) (a:=⟨q,j,none⟩) (hb.block q hq)).trans (h.fz j),fun j=>(World.frozen?_of_block (w:=wr) (a:=⟨p,j,none⟩) (hb.block p hp)).trans (h.fp j),
  zB h.k fun g hg=>hb.block g (h.k.lt g hg).2,zB h.v fun g hg=>hb.block g (h.v.lt g hg).2,zB h.c fun g hg=>hb.block g (h.c.lt g hg).2,h.akv,h.akc,h.avc,h.lo,h.pq,h.qb,ze2 h.sz hb.size,h.below.trans (hb.mono h.below.size)⟩
theorem qf.push0 {w wr wo w3:World} {p q b gg cap H:Nat} {kv vv cv:Value} {x:Nd} {z:Int} (h:qf w p q b kv vv cv x wr) (hbo:Below wr.1.size wr wo) (hg:wo.grownBy w3 kv.ownBlock)
  (hown:w3.ownsRow b 3 1 (.slice (some ⟨gg,0,none⟩) (x.keys.length + 1) cap) (x.keys.length + 1) (x.keys.map (Value.int .i64) ++ [.int .i64 z])) (hat:kv.ownBlock = some gg \/ gg = H) (hH:wr.1.size <= H) :
  qf w p q b (.slice (some ⟨gg,0,none⟩) (x.keys.length + 1) cap) vv cv ⟨x.keys ++ [z],x.vals,x.kids⟩ (w3.setCell ⟨q,0,none⟩ (.slice (some ⟨gg,0,none⟩) (x.keys.length + 1) cap)):=by
 have hq:q < wr.1.size:=ze1 h.qb h.sz;have hp:p < wr.1.size:=zfs h.pq hq;have hqb:=h.qb;have hpq:=h.pq;have hlow:∀ i,i < b -> kv.ownBlock ≠ some i:=fun i hi e=>by
  have:=(h.k.lt i e).1;omega
 have blk:∀ i,i < wr.1.size -> kv.ownBlock ≠ some i -> w3.1[i]? = wr.1[i]?:=fun i hi hn=>(hg.block i (ze1 hi hbo.size) (Ne.symm hn)).trans (hbo.block i hi)
 have bq:=blk q hq (hlow q hqb);have bp:=blk p hp (hlow p (by omega));have hgg:b <= gg:=by
  rcases hat with e | e
  ·exact (h.k.lt gg e).1
  ·have:=h.sz;omega
 have far:∀ (u:Value) (i:Nat),i < q -> (w3.setCell ⟨q,0,none⟩ u).heap[i]? = w3.1[i]?:=fun u i hi=>World.heap_setCell_far9 _ _ _ (by show i ≠ q; omega)
 have bp2:=(far (.slice (some ⟨gg,0,none⟩) (x.keys.length + 1) cap) p hpq).trans bp;refine ⟨⟨(World.cell?_of_block (w:=wr) (a:=⟨p,0,none⟩) bp2).trans h.res.c0,(World.cell?_of_block (w:=wr) (a:=⟨p,1,none⟩) bp2).trans h.res.c1,(World.cell?_of_block (w:=wr) (a:=⟨p,2,none⟩) bp2).trans h.res.c2⟩,
  World.cell?_setCell_same _ _ _ ((World.cell?_of_block (w:=wr) (a:=⟨q,0,none⟩) bq).trans h.c0),
  (World.cell?_setCell_other _ _ _ _ (by simp)).trans ((World.cell?_of_block (w:=wr) (a:=⟨q,1,none⟩) bq).trans h.c1),
  (World.cell?_setCell_other _ _ _ _ (by simp)).trans ((World.cell?_of_block (w:=wr) (a:=⟨q,2,none⟩) bq).trans h.c2),
  (fun i=>by rw [World.frozen?_setCell]; exact (World.frozen?_of_block (w:=wr) (a:=⟨q,i,none⟩) bq).trans (h.fz i)),(fun i=>(World.frozen?_of_block (w:=wr) (a:=⟨p,i,none⟩) bp2).trans (h.fp i)),
  (by
  show World.ownsRow _ b 3 1 _ (x.keys ++ [z]).length ((x.keys ++ [z]).map _);rw [zfk,zfx,zfv];exact ownsRow_setCell_below hown (by exact hqb) _),
  (ownsRow_setCell_below (zB h.v fun g hg=>blk g (h.v.lt g hg).2 (fun e=>h.akv g e hg)) (by exact hqb) _),
  (ownsRow_setCell_below (zB h.c fun g hg=>blk g (h.c.lt g hg).2 (fun e=>h.akc g e hg)) (by exact hqb) _),
  (fun g hg e=>by
  obtain rfl:gg = g:=ze8.inj hg;rcases hat with e2 | e2
  ·exact h.akv gg e2 e
  ·have:=(h.v.lt gg e).2;omega),
  (fun g hg e=>by
  obtain rfl:gg = g:=ze8.inj hg;rcases hat with e2 | e2
  ·exact h.akc gg e2 e
  ·have:=(h.c.lt gg e).2;omega),
  h.avc,
  h.lo,h.pq,h.qb,ze2 h.sz (ze2 hbo.size (by rw [World.heap_setCell_size9]; exact hg.size)),?below⟩
 have hb3:Below w.1.size w w3:=⟨by rw [hg.os,hbo.os]; exact h.below.os,by rw [hg.tape,hbo.tape]; exact h.below.tape,by rw [hg.output,hbo.output]; exact h.below.output,ze2 h.below.size (ze2 hbo.size hg.size),fun i hi=>by
  have h1:=h.lo;exact (blk i (by omega) (hlow i (by omega))).trans (h.below.block i hi)⟩
 exact hb3.setCell (by have:=h.lo; show w.1.size <= q; omega) _
theorem qf.push1 {w wr wo w3:World} {p q b gg cap H:Nat} {kv vv cv:Value} {x:Nd} {z:ByteArray} (h:qf w p q b kv vv cv x wr) (hbo:Below wr.1.size wr wo) (hg:wo.grownBy w3 vv.ownBlock)
  (hown:w3.ownsRow b 9 1 (.slice (some ⟨gg,0,none⟩) (x.vals.length + 1) cap) (x.vals.length + 1) (x.vals.map (Value.string) ++ [.string z])) (hat:vv.ownBlock = some gg \/ gg = H) (hH:wr.1.size <= H) :
  qf w p q b kv (.slice (some ⟨gg,0,none⟩) (x.vals.length + 1) cap) cv ⟨x.keys,x.vals ++ [z],x.kids⟩ (w3.setCell ⟨q,1,none⟩ (.slice (some ⟨gg,0,none⟩) (x.vals.length + 1) cap)):=by
 have hq:q < wr.1.size:=ze1 h.qb h.sz;have hp:p < wr.1.size:=zfs h.pq hq;have hqb:=h.qb;have hpq:=h.pq;have hlow:∀ i,i < b -> vv.ownBlock ≠ some i:=fun i hi e=>by
  have:=(h.v.lt i e).1;omega
 have blk:∀ i,i < wr.1.size -> vv.ownBlock ≠ some i -> w3.1[i]? = wr.1[i]?:=fun i hi hn=>(hg.block i (ze1 hi hbo.size) (Ne.symm hn)).trans (hbo.block i hi)
 have bq:=blk q hq (hlow q hqb);have bp:=blk p hp (hlow p (by omega));have hgg:b <= gg:=by
  rcases hat with e | e
  ·exact (h.v.lt gg e).1
  ·have:=h.sz;omega
 have far:∀ (u:Value) (i:Nat),i < q -> (w3.setCell ⟨q,1,none⟩ u).heap[i]? = w3.1[i]?:=fun u i hi=>World.heap_setCell_far9 _ _ _ (by show i ≠ q; omega)
 have bp2:=(far (.slice (some ⟨gg,0,none⟩) (x.vals.length + 1) cap) p hpq).trans bp;refine ⟨⟨(World.cell?_of_block (w:=wr) (a:=⟨p,0,none⟩) bp2).trans h.res.c0,(World.cell?_of_block (w:=wr) (a:=⟨p,1,none⟩) bp2).trans h.res.c1,(World.cell?_of_block (w:=wr) (a:=⟨p,2,none⟩) bp2).trans h.res.c2⟩,
  (World.cell?_setCell_other _ _ _ _ (by simp)).trans ((World.cell?_of_block (w:=wr) (a:=⟨q,0,none⟩) bq).trans h.c0),
  World.cell?_setCell_same _ _ _ ((World.cell?_of_block (w:=wr) (a:=⟨q,1,none⟩) bq).trans h.c1),
  (World.cell?_setCell_other _ _ _ _ (by simp)).trans ((World.cell?_of_block (w:=wr) (a:=⟨q,2,none⟩) bq).trans h.c2),
  (fun i=>by rw [World.frozen?_setCell]; exact (World.frozen?_of_block (w:=wr) (a:=⟨q,i,none⟩) bq).trans (h.fz i)),(fun i=>(World.frozen?_of_block (w:=wr) (a:=⟨p,i,none⟩) bp2).trans (h.fp i)),
  (ownsRow_setCell_below (zB h.k fun g hg=>blk g (h.k.lt g hg).2 (h.akv g hg)) (by exact hqb) _),
  (by
  show World.ownsRow _ b 9 1 _ (x.vals ++ [z]).length ((x.vals ++ [z]).map _);rw [zfk,zfx,zfv];exact ownsRow_setCell_below hown (by exact hqb) _),
  (ownsRow_setCell_below (zB h.c fun g hg=>blk g (h.c.lt g hg).2 (fun e=>h.avc g e hg)) (by exact hqb) _),
  (fun g hg e=>by
  obtain rfl:gg = g:=ze8.inj e;rcases hat with e2 | e2
  ·exact h.akv gg hg e2
  ·have:=(h.k.lt gg hg).2;omega),
  h.akc,
  (fun g hg e=>by
  obtain rfl:gg = g:=ze8.inj hg;rcases hat with e2 | e2
  ·exact h.avc gg e2 e
  ·have:=(h.c.lt gg e).2;omega),
  h.lo,h.pq,h.qb,ze2 h.sz (ze2 hbo.size (by rw [World.heap_setCell_size9]; exact hg.size)),?below⟩
 have hb3:Below w.1.size w w3:=⟨by rw [hg.os,hbo.os]; exact h.below.os,by rw [hg.tape,hbo.tape]; exact h.below.tape,by rw [hg.output,hbo.output]; exact h.below.output,ze2 h.below.size (ze2 hbo.size hg.size),fun i hi=>by
  have h1:=h.lo;exact (blk i (by omega) (hlow i (by omega))).trans (h.below.block i hi)⟩
 exact hb3.setCell (by have:=h.lo; show w.1.size <= q; omega) _
theorem qf.push2 {w wr wo w3:World} {p q b gg cap H:Nat} {kv vv cv:Value} {x:Nd} {z:Int} (h:qf w p q b kv vv cv x wr) (hbo:Below wr.1.size wr wo) (hg:wo.grownBy w3 cv.ownBlock)
  (hown:w3.ownsRow b 3 1 (.slice (some ⟨gg,0,none⟩) (x.kids.length + 1) cap) (x.kids.length + 1) (x.kids.map (Value.int .i64) ++ [.int .i64 z])) (hat:cv.ownBlock = some gg \/ gg = H) (hH:wr.1.size <= H) :
  qf w p q b kv vv (.slice (some ⟨gg,0,none⟩) (x.kids.length + 1) cap) ⟨x.keys,x.vals,x.kids ++ [z]⟩ (w3.setCell ⟨q,2,none⟩ (.slice (some ⟨gg,0,none⟩) (x.kids.length + 1) cap)):=by
 have hq:q < wr.1.size:=ze1 h.qb h.sz;have hp:p < wr.1.size:=zfs h.pq hq;have hqb:=h.qb;have hpq:=h.pq;have hlow:∀ i,i < b -> cv.ownBlock ≠ some i:=fun i hi e=>by
  have:=(h.c.lt i e).1;omega
 have blk:∀ i,i < wr.1.size -> cv.ownBlock ≠ some i -> w3.1[i]? = wr.1[i]?:=fun i hi hn=>(hg.block i (ze1 hi hbo.size) (Ne.symm hn)).trans (hbo.block i hi)
 have bq:=blk q hq (hlow q hqb);have bp:=blk p hp (hlow p (by omega));have hgg:b <= gg:=by
  rcases hat with e | e
  ·exact (h.c.lt gg e).1
  ·have:=h.sz;omega
 have far:∀ (u:Value) (i:Nat),i < q -> (w3.setCell ⟨q,2,none⟩ u).heap[i]? = w3.1[i]?:=fun u i hi=>World.heap_setCell_far9 _ _ _ (by show i ≠ q; omega)
 have bp2:=(far (.slice (some ⟨gg,0,none⟩) (x.kids.length + 1) cap) p hpq).trans bp;refine ⟨⟨(World.cell?_of_block (w:=wr) (a:=⟨p,0,none⟩) bp2).trans h.res.c0,(World.cell?_of_block (w:=wr) (a:=⟨p,1,none⟩) bp2).trans h.res.c1,(World.cell?_of_block (w:=wr) (a:=⟨p,2,none⟩) bp2).trans h.res.c2⟩,
  (World.cell?_setCell_other _ _ _ _ (by simp)).trans ((World.cell?_of_block (w:=wr) (a:=⟨q,0,none⟩) bq).trans h.c0),
  (World.cell?_setCell_other _ _ _ _ (by simp)).trans ((World.cell?_of_block (w:=wr) (a:=⟨q,1,none⟩) bq).trans h.c1),
  World.cell?_setCell_same _ _ _ ((World.cell?_of_block (w:=wr) (a:=⟨q,2,none⟩) bq).trans h.c2),
  (fun i=>by rw [World.frozen?_setCell]; exact (World.frozen?_of_block (w:=wr) (a:=⟨q,i,none⟩) bq).trans (h.fz i)),(fun i=>(World.frozen?_of_block (w:=wr) (a:=⟨p,i,none⟩) bp2).trans (h.fp i)),
  (ownsRow_setCell_below (zB h.k fun g hg=>blk g (h.k.lt g hg).2 (h.akc g hg)) (by exact hqb) _),
  (ownsRow_setCell_below (zB h.v fun g hg=>blk g (h.v.lt g hg).2 (h.avc g hg)) (by exact hqb) _),
  (by
  show World.ownsRow _ b 3 1 _ (x.kids ++ [z]).length ((x.kids ++ [z]).map _);rw [zfk,zfx,zfv];exact ownsRow_setCell_below hown (by exact hqb) _),
  h.akv,
  (fun g hg e=>by
  obtain rfl:gg = g:=ze8.inj e;rcases hat with e2 | e2
  ·exact h.akc gg hg e2
  ·have:=(h.k.lt gg hg).2;omega),
  (fun g hg e=>by
  obtain rfl:gg = g:=ze8.inj e;rcases hat with e2 | e2
  ·exact h.avc gg hg e2
  ·have:=(h.v.lt gg hg).2;omega),
  h.lo,h.pq,h.qb,ze2 h.sz (ze2 hbo.size (by rw [World.heap_setCell_size9]; exact hg.size)),?below⟩
 have hb3:Below w.1.size w w3:=⟨by rw [hg.os,hbo.os]; exact h.below.os,by rw [hg.tape,hbo.tape]; exact h.below.tape,by rw [hg.output,hbo.output]; exact h.below.output,ze2 h.below.size (ze2 hbo.size hg.size),fun i hi=>by
  have h1:=h.lo;exact (blk i (by omega) (hlow i (by omega))).trans (h.below.block i hi)⟩
 exact hb3.setCell (by have:=h.lo; show w.1.size <= q; omega) _
end
section
open Go.RowKit
def zd.has (l:zd) (g:Nat):Prop:=(∃ a,l.A = some a /\ a.block = g) \/ (∃ a,l.B = some a /\ a.block = g) \/ (∃ a,l.C = some a /\ a.block = g)
theorem vQ {w w':World} {k:IntKind} {A:Option Addr} {zs:List Int} (h:Nums w k A zs) (hs:w.1.size <= w'.1.size) (hb:∀ a,A = some a -> w'.1[a.block]? = w.1[a.block]?):Nums w' k A zs:=fun hp=>by
 obtain ⟨a,e,hlt,hc⟩:=h hp;exact ⟨a,e,ze1 hlt hs,fun i z hz=>(World.cell?_of_block (by rw [yK]; exact hb a e)).trans (hc i z hz)⟩
theorem za0 {w w':World} {A:Option Addr} {n:Nat} {ss:List ByteArray} (h:Strs w A n ss) (hs:w.1.size <= w'.1.size) (hb:∀ a,A = some a -> w'.1[a.block]? = w.1[a.block]?):Strs w' A n ss:=⟨h.1,fun hp=>by
 obtain ⟨a,e,hlt,hc⟩:=h.2 hp;exact ⟨a,e,ze1 hlt hs,fun i z hz=>(World.cell?_of_block (by rw [yK]; exact hb a e)).trans (hc i z hz)⟩⟩
theorem xt.keep {w w':World} {l:zd} {x:Nd} (h:xt w l x) (hs:w.1.size <= w'.1.size) (hb:∀ g,l.has g -> w'.1[g]? = w.1[g]?):xt w' l x :=
 ⟨vQ h.keys hs fun a e=>hb _ (.inl ⟨a,e,rfl⟩),za0 h.vals hs fun a e=>hb _ (.inr (.inl ⟨a,e,rfl⟩)),vQ h.kids hs fun a e=>hb _ (.inr (.inr ⟨a,e,rfl⟩)),h.kl,h.vl,h.cl,h.kw,h.vw,h.cw⟩
theorem yM {w:World} {b b':Nat} {e:TypeId} {size:Nat} {v:Value} {n:Nat} {xs:List Value} (h:w.ownsRow b e size v n xs) (hb:b' <= b):w.ownsRow b' e size v n xs:=by
 obtain ⟨h1,h2⟩:=h;refine ⟨h1,?_⟩;rcases h2 with h2 | ⟨g,cap,cur,e1,e2,e3,e4⟩
 ·exact .inl h2
 ·exact .inr ⟨g,cap,cur,e1,ze2 hb e2,e3,e4⟩
structure zo (w:World) (b:Nat) (l:zd) (x:Nd):Prop where
 is:xt w l x
 k:w.ownsRow b 3 1 (.slice l.A x.keys.length l.ca) x.keys.length (x.keys.map (Value.int .i64))
 v:w.ownsRow b 9 1 (.slice l.B x.vals.length l.cb) x.vals.length (x.vals.map Value.string)
 c:w.ownsRow b 3 1 (.slice l.C x.kids.length l.cc) x.kids.length (x.kids.map (Value.int .i64))
 akv:∀ a c,l.A = some a -> l.B = some c -> a.block ≠ c.block
 akc:∀ a c,l.A = some a -> l.C = some c -> a.block ≠ c.block
 avc:∀ a c,l.B = some a -> l.C = some c -> a.block ≠ c.block
theorem zo.lt {w:World} {b:Nat} {l:zd} {x:Nd} (h:zo w b l x):∀ g,l.has g -> b <= g /\ g < w.1.size:=by
 rintro g (⟨a,e,rfl⟩ | ⟨a,e,rfl⟩ | ⟨a,e,rfl⟩)
 ·exact h.k.lt _ (by rw [e]; rfl)
 ·exact h.v.lt _ (by rw [e]; rfl)
 ·exact h.c.lt _ (by rw [e]; rfl)
theorem zo.keep {w w':World} {b:Nat} {l:zd} {x:Nd} (h:zo w b l x) (hs:w.1.size <= w'.1.size) (hb:∀ g,l.has g -> w'.1[g]? = w.1[g]?):zo w' b l x :=
 ⟨h.is.keep hs hb,zB h.k fun g hg=>hb g (by cases hA:l.A with | none=>(rw [hA] at hg; cases hg) | some a=>(rw [hA] at hg; cases hg; exact .inl ⟨a,hA,rfl⟩)),
  zB h.v fun g hg=>hb g (by cases hA:l.B with | none=>(rw [hA] at hg; cases hg) | some a=>(rw [hA] at hg; cases hg; exact .inr (.inl ⟨a,hA,rfl⟩))),
  zB h.c fun g hg=>hb g (by cases hA:l.C with | none=>(rw [hA] at hg; cases hg) | some a=>(rw [hA] at hg; cases hg; exact .inr (.inr ⟨a,hA,rfl⟩))),h.akv,h.akc,h.avc⟩
theorem zo.carry {w w':World} {b:Nat} {l:zd} {x:Nd} (h:zo w b l x) (hb:Below w.1.size w w'):zo w' b l x:=h.keep hb.size fun g hg=>hb.block g (h.lt g hg).2
theorem zo.mono {w:World} {b b':Nat} {l:zd} {x:Nd} (h:zo w b l x) (hb:b' <= b):zo w b' l x:=⟨h.is,yM h.k hb,yM h.v hb,yM h.c hb,h.akv,h.akc,h.avc⟩
theorem zo.setCell {w:World} {b:Nat} {l:zd} {x:Nd} (h:zo w b l x) {p:Nat} (hp:¬ l.has p) (j:Nat) (u:Value):zo (w.setCell ⟨p,j,none⟩ u) b l x :=
 h.keep (by rw [World.heap_setCell_size9]; exact ze3 _) fun g hg=>World.heap_setCell_far9 _ _ _ (by rintro rfl; exact hp hg)
theorem qf.mine {w wr:World} {p q b:Nat} {A B C:Option Addr} {ca cb cc:Nat} {x:Nd} (h:qf w p q b (.slice A x.keys.length ca) (.slice B x.vals.length cb) (.slice C x.kids.length cc) x wr) (hi:xt wr ⟨A,B,C,ca,cb,cc⟩ x):zo wr w.1.size ⟨A,B,C,ca,cb,cc⟩ x:=by
 have hb:w.1.size <= b:=by have:=h.lo; have:=h.pq; have:=h.qb; omega
 refine ⟨hi,yM h.k hb,yM h.v hb,yM h.c hb,?_,?_,?_⟩
 ·rintro a c (rfl:A = some a) (rfl:B = some c) e;exact h.akv a.block rfl (by show some c.block = some a.block; rw [e])
 ·rintro a c (rfl:A = some a) (rfl:C = some c) e;exact h.akc a.block rfl (by show some c.block = some a.block; rw [e])
 ·rintro a c (rfl:B = some a) (rfl:C = some c) e;exact h.avc a.block rfl (by show some c.block = some a.block; rw [e])
end
section
open Go.RowKit
theorem Tryz.infoStr9:(Tryz.prog.info? 9).map (fun i=>(i.zero,i.size,i.bytes)) = some (some (.string ⟨#[]⟩),1,16):=by kernel_rfl
theorem Tryz.infoInt9:(Tryz.prog.info? 3).map (fun i=>(i.zero,i.size,i.bytes)) = some (some (.int .i64 0),1,8):=by kernel_rfl
theorem JZ (k:Nat) (r:List UInt8):jX (k + 1) r = jX k r ++ [(num ((r.drop (4 * k)).take 4):Int)]:=by
 unfold jX;rw [List.range_succ,zfv];rfl
theorem VG (k:Nat) (r:List UInt8):(jX k r).length = k:=by simp [jX]
def QX (k i:Nat) (r:List UInt8):List ByteArray:=(List.range i).map fun j=>⟨((r.drop (4 * k + 12 * j)).take 12).toArray⟩
theorem QA (k i:Nat) (r:List UInt8):QX k (i + 1) r = QX k i r ++ [⟨((r.drop (4 * k + 12 * i)).take 12).toArray⟩]:=by
 unfold QX;rw [List.range_succ,zfv];rfl
theorem Kv (s:ByteArray) (a b:Nat):(s.extract a b).data.toList = (s.data.toList.drop a).take (b - a):=by
 rw [ByteArray.data_extract,Array.toList_extract]
end
section
open Go.RowKit
theorem wR {w:World} {l:zd} (x:Nd):Calls Tryz.prog 75 #[ndV l x] w fun e w'=>e = .returned (.bool (decide (x.kids.length = 0))) /\ Below w.1.size w w':=by
 obtain ⟨A,B,C,ca,cb,cc⟩:=l;obtain ⟨b,HB⟩:=hY (w.1.size);obtain ⟨w1,HW⟩:=hY (w.alloc (.cells #[.slice A x.keys.length ca,.slice B x.vals.length cb,.slice C x.kids.length cc] 48));have HX:=hI (zb w1 b ⟨A,B,C,ca,cb,cc⟩ x) (by rw [HW.o,HB.o]; exact zb.new (l:=⟨A,B,C,ca,cb,cc⟩) (x:=x) _);have HBL:=hI (Below w.1.size w w1) (by rw [HW.o]; exact bA);have c2:w1.cell? ⟨b,2,none⟩ = some (.slice C x.kids.length cc):=HX.o.c2;clear HX
 go_enter Tryz.func75,Tryz.ntmps75
 go_upto_region 1 with (fail)
 rw [<- HW.o,<- HB.o];clear HW HB;go_wp2_with fail
 go_ret
 exact ⟨ym (by rw [Bool.eq_iff_iff]; simp),HBL.o⟩
structure WU (l:List Int) (least:Int):Prop where
 ok:jW l = true
 lo:0 <= least
 hi:least <= 4294967296
 all:∀ z ∈ l,z < least
theorem WU.nil:WU [] 0:=⟨rfl,by decide,by decide,fun z hz=>by cases hz⟩
theorem WU.push {l:List Int} {least z:Int} (h:WU l least) (h1:least <= z) (h2:z <= 4294967295):WU (l ++ [z]) (z + 1):=by
 have hk:=wJ.1 h.ok;refine ⟨wJ.2 ⟨fun y hy=>?_,?_⟩,by have:=h.lo; omega,by omega,fun y hy=>?_⟩
 ·rcases zfy.1 hy with hy | hy
  ·exact hk.1 y hy
  ·rw [zft.1 hy];have:=h.lo;omega
 ·rw [zfC];refine ⟨hk.2,List.pairwise_singleton _ _,fun a ha b hb=>?_⟩;rw [zft.1 hb];have:=h.all a ha;omega
 ·rcases zfy.1 hy with hy | hy
  ·have:=h.all y hy;omega
  ·rw [zft.1 hy];omega
structure kE (l:List Int) (least:Int):Prop where
 is:WU l least
 last:least = 0 \/ (least - 1) ∈ l
theorem kE.nil:kE [] 0:=⟨.nil,.inl rfl⟩
theorem kE.push {l:List Int} {least z:Int} (h:kE l least) (h1:least <= z) (h2:z <= 4294967295):kE (l ++ [z]) (z + 1):=⟨h.is.push h1 h2,.inr (by simp)⟩
theorem kE.stop {l t:List Int} {least z:Int} (h:kE l least) (hz:z < least \/ 4294967295 < z):jW (l ++ z :: t) = false:=by
 rw [zfD];intro hk;obtain ⟨h1,h2⟩:=wJ.1 hk;have hz2:=h1 z (by simp);rw [zfC] at h2;rcases h.last with h3 | h3
 ·omega
 ·have:=h2.2.2 _ h3 z (by simp);omega
def Q8 (keys:List Int) (least i:Value):Prop:=∃ (k:Nat) (m:Int),k <= keys.length /\ i = .int .i64 (k:Int) /\ least = .int .i64 m /\ kE (keys.take k) m
theorem Qm {w:World} {A:Option Addr} {cap:Nat} {keys:List Int} (h:Nums w .i64 A keys) (hl:keys.length <= maxLen) (hw:∀ z ∈ keys,-9223372036854775808 <= z /\ z <= 9223372036854775807) :
  Calls Tryz.prog 109 #[.slice A keys.length cap] w fun e w'=>e = .returned (.bool (jW keys)) /\ w = w':=by
 have HV:=Hi h;have HW:=Hi hw;have hlen:keys.length <= maxLen:=hl;unfold maxLen at hlen;clear h hw hl
 go_enter Tryz.func109,Tryz.ntmps109
 go_wp2_with fail
 go_loop [3,8] (fun m i=>Q8 keys m i) (fun _ i=>keys.length - (intOf i).toNat)
 case atStart=>exact ⟨0,0,zfp _,rfl,rfl,kE.nil⟩
 case round =>
  obtain ⟨k,m,hk,rfl,rfl,hr⟩:=hrel;have HR:=Hi hr;have hm1:=hr.is.lo;have hm2:=hr.is.hi;clear hr;by_cases hlt:k < keys.length
  ·obtain ⟨a,rfl,hc⟩:=yf HV.o hlt;obtain ⟨z,HZ⟩:=hY (keys[k]);have hzw:=HW.o z (by rw [HZ.o]; exact zfn _);rw [<- HZ.o] at hc;have HT:=hI (keys.take (k + 1) = keys.take k ++ [z]) (by rw [HZ.o,List.take_add_one,ze7 hlt]; rfl);have HS:=hI (keys = keys.take k ++ z :: keys.drop (k + 1)) (by rw [HZ.o,List.getElem_cons_drop hlt,List.take_append_drop]);by_cases h1:z < m
   ·go_wp2_with fail
    go_ret
    exact ⟨ym (by rw [HS.o]; exact (HR.o.stop (.inl h1)).symm),rfl⟩
   ·by_cases h2:4294967295 < z
    ·go_wp2_with fail
     go_ret
     exact ⟨ym (by rw [HS.o]; exact (HR.o.stop (.inr h2)).symm),rfl⟩
    ·go_wp2_with fail
     go_round
     case rel =>
      refine ⟨k + 1,z + 1,hlt,by go_num,by go_num,?_⟩;rw [HT.o];exact HR.o.push (by omega) (by omega)
     case measure=>simp [intOf]; omega
  ·obtain rfl:k = keys.length:=by omega
   go_wp2_with fail
   go_ret
   refine ⟨ym ?_,rfl⟩;have:=HR.o.is.ok;rw [zfw] at this;exact this.symm
def zdo (vals:List ByteArray) (i:Value):Prop:=∃ k:Nat,k <= vals.length /\ i = .int .i64 (k:Int) /\ (vals.take k).all kr = true
theorem Kd {w:World} {A:Option Addr} {cap:Nat} {vals:List ByteArray} (h:Strs w A vals.length vals) (hl:vals.length <= maxLen) (hw:∀ v ∈ vals,v.size <= maxLen) :
  Calls Tryz.prog 110 #[.slice A vals.length cap] w fun e w'=>e = .returned (.bool (vals.all kr)) /\ w = w':=by
 have HV:=Hi h;have HW:=Hi hw;have hlen:vals.length <= maxLen:=hl;unfold maxLen at hlen;clear h hw hl
 go_enter Tryz.func110,Tryz.ntmps110
 go_wp2_with fail
 go_loop [7] (fun i=>zdo vals i) (fun i=>vals.length - (intOf i).toNat)
 case atStart=>exact ⟨0,zfp _,rfl,rfl⟩
 case round =>
  obtain ⟨k,hk,rfl,hall⟩:=hrel;have HALL:=Hi hall;clear hall;by_cases hlt:k < vals.length
  ·obtain ⟨a,rfl,hc⟩:=Zf HV.o hlt;obtain ⟨v,HVV⟩:=hY (vals[k]);have HVS:=hI (v.size <= maxLen) (HW.o v (by rw [HVV.o]; exact zfn _));rw [<- HVV.o] at hc;have HT:=hI (vals.take (k + 1) = vals.take k ++ [v]) (by rw [HVV.o,List.take_add_one,ze7 hlt]; rfl);by_cases hv:v.size = 12
   ·have hv2:(v.size:Int) = 12:=by omega
    have HO:=hI (kr v = true) (by simpa [kr] using hv);clear hv;go_wp2_with fail
    go_round
    case rel =>
     refine ⟨k + 1,hlt,by go_num,?_⟩;rw [HT.o,List.all_append,HALL.o];simp [HO.o]
    case measure=>simp [intOf]; omega
   ·have hv2:¬ (v.size:Int) = 12:=by omega
    have HO:=hI (vals.all kr = false) (by
     rw [zfD];intro h;have:=List.all_eq_true.1 h v (by rw [HVV.o]; exact zfn _);exact hv (by simpa [kr] using this))
    clear hv;go_wp2_with fail
    go_ret
    exact ⟨ym HO.o.symm,rfl⟩
  ·obtain rfl:k = vals.length:=by omega
   go_wp2_with fail
   go_ret
   refine ⟨ym ?_,rfl⟩;have:=HALL.o;rw [zfw] at this;exact this.symm
theorem xI (n:Int) (hn:n ≠ 0) (w:World):Calls Tryz.prog 74 #[.int .i64 n] w (yZ n w.1.size w):=by
 go_enter Tryz.func74,Tryz.ntmps74
 go_wp2_with fail;refine (yi _ w.1.size n _ w (.inr ⟨hn,.base⟩) (ze3 _)).mono ?_;rintro e w' ⟨v,rfl,he,hb⟩;have HE:=Hi he;have HB:=Hi hb;clear he hb;go_wp2_with fail
 go_ret
 exact ⟨_,rfl,HE.o,HB.o⟩
theorem jO (s:ByteArray) (w:World) (h4:s.size <= 4):Calls Tryz.prog 154 #[.string s] w fun e w'=>e = .returned (.int .i64 (num s.data.toList:Int)) /\ Below w.1.size w w':=by
 obtain ⟨k,hk⟩:∃ k,s.size = k:=⟨_,rfl⟩
 rcases Nat.eq_zero_or_pos k with h0 | h0
 ·have HZ:=hI ((num s.data.toList:Int) = 0) (by
   have:s.data.toList = []:=zfF.1 (by rw [zfq]; show s.size = 0; omega);rw [this]; rfl)
  have hk0:s.size = 0:=by omega
  clear hk h0 h4
  go_enter Tryz.func154,Tryz.ntmps154
  go_wp2_with fail;refine (Q6 s _ w (by omega)).mono ?_;rintro e w' ⟨v,l,rfl,hc,hb⟩;obtain ⟨t,x,rfl⟩:∃ t x,v = .iface t x:=by cases hc <;> exact ⟨_,_,rfl⟩
  have HB:=Hi hb;clear hc hb;go_wp2_with fail
  go_ret
  exact ⟨VS HZ.o.symm,HB.o⟩
 ·have HT:=hI (s.data.toList.take k = s.data.toList) (zfG (by rw [zfq]; show s.size <= k; omega));have hk4:k <= 4:=by omega
  go_enter Tryz.func154,Tryz.ntmps154
  go_wp2_with fail;refine (zdc s k w (by omega) hk4 (by omega)).mono ?_;rw [HT.o];rintro e w' ⟨rfl,rfl⟩;go_wp2_with fail
  go_ret
  exact ⟨rfl,Below.refl _ _⟩
structure wZ (w:World) (d h:Nat) (t:ByteArray) (sh:Bool):Prop where
 dc:w.cell? ⟨d,0,none⟩ = some (.string t)
 hc:w.cell? ⟨h,0,none⟩ = some (.bool sh)
 df:w.frozen? ⟨d,0,none⟩ = false
 hf:w.frozen? ⟨h,0,none⟩ = false
theorem Qw {w:World} {d h n:Nat} {t:ByteArray} {sh:Bool} (ht:wZ w d h t sh) (hn:t.size < n) :
  Calls Tryz.prog 153 #[.int .i64 (n:Int),.pointer (some ⟨d,0,none⟩),.pointer (some ⟨h,0,none⟩)] w fun e w'=>e = .returned (.string ⟨#[]⟩) /\ w' = w.setCell ⟨h,0,none⟩ (.bool true):=by
 have h1:=ht.dc;have h2:=ht.hc;have h3:=ht.hf;have hn2:(t.size:Int) < (n:Int):=by omega
 clear ht
 go_enter Tryz.func153,Tryz.ntmps153
 go_wp2_with fail
 go_ret
 exact ⟨rfl,rfl⟩
theorem zcU {w:World} {d h n:Nat} {t:ByteArray} {sh:Bool} (ht:wZ w d h t sh) (hn:n <= t.size) :
  Calls Tryz.prog 153 #[.int .i64 (n:Int),.pointer (some ⟨d,0,none⟩),.pointer (some ⟨h,0,none⟩)] w fun e w'=>e = .returned (.string (t.extract 0 n)) /\ w' = w.setCell ⟨d,0,none⟩ (.string (t.extract n t.size)):=by
 have h1:=ht.dc;have h2:=ht.hc;have h3:=ht.df;have hn2:¬ (t.size:Int) < (n:Int):=by omega
 clear ht
 go_enter Tryz.func153,Tryz.ntmps153
 go_wp2_with fail
 go_ret
 exact ⟨rfl,rfl⟩
end
section
open Go.RowKit Go.Maps
theorem Tryz.keyInt:Keyed Tryz.prog 3:=int_keyed Tryz.underlying3
theorem Tryz.zeroInt (w:World):(zeroValue 3).run Tryz.prog w = .ok (.int .i64 0) w:=by kernel_rfl
theorem vH {H:Type} {P:Program} (w:World) {ops:Array Oper} {rest:List Oper} {o:Oper} {a:Act} {Q:Exit -> Act -> World -> Prop}
  (hg:Region.wanted o (yielded ops a.tmps) = true) (m x:Operand) (t:TypeId) (hop:o.op = Op.lookup t m x false)
  (k e:TypeId) (q:IntKind) (K:Keyed P k) (ht:P.underlying t = some (.map k e)) (he:P.underlying e = some (.int q)) (hz:(zeroValue e).run P w = .ok (.int q 0) w) (b n:Nat) (D:DataW H)
  (hm:a.eval m = .map (some b)) (hown:w.ownsMap P k (plainElem P e) b n D) (key:Value) (kl:Lit) (hx:a.eval x = key) (hkey:keyOf P k key = some kl)
  (hK:∀ c:Int,D.atKey kl (.lit (.int q 0)) = .lit (.int q c) -> (Lit.int q c).wf = true -> wpList P ops Q rest (a.put o.dst (.int q c)) w) :
  wpList P ops Q (o :: rest) a w:=by
 refine wpList_step fun K' hK'=>?_
 rw [if_pos hg];obtain ⟨c,hrun,hat,hwc⟩:=hown.lookup_int K ht he hz hkey;unfold Oper.wp;simp [execOp,hop,hm,hx,hrun,Result.andThen];exact hK' _ _ (hK c hat hwc)
def KG (l:List Int) (z:Int):Int:=if z ∈ l then 1 else 0
structure Met (w:World) (b k:Nat) (l:List Int) (D:DataW Unit):Prop where
 own:w.ownsMap Tryz.prog 3 (plainElem Tryz.prog 3) b k D
 map:IsMap D
 at_:∀ z,D.atKey (.int .i64 z) (.lit (.int .i64 0)) = .lit (.int .i64 (KG l z))
def XA (l:List Int):Prop:=(∀ z ∈ l,2 <= z /\ z <= 239) /\ l.Pairwise (· ≠ ·)
theorem zca {l:List Int}:jc l = true ↔ XA l:=kJ
theorem XA.push {l:List Int} {z:Int} (h:XA l) (h1:2 <= z) (h2:z <= 239) (h3:z ∉ l):XA (l ++ [z]):=by
 refine ⟨fun y hy=>?_,?_⟩
 ·rcases zfy.1 hy with hy | hy
  ·exact h.1 y hy
  ·rw [zft.1 hy]; exact ⟨h1,h2⟩
 ·rw [zfC];refine ⟨h.2,List.pairwise_singleton _ _,fun a ha b hb=>?_⟩;rw [zft.1 hb];rintro rfl;exact h3 ha
theorem YE {l t:List Int} {z:Int} (h:z < 2 \/ 239 < z \/ z ∈ l):jc (l ++ z :: t) = false:=by
 rw [zfD];intro hk;obtain ⟨h1,h2⟩:=kJ.1 hk;have:=h1 z (by simp);rw [zfC] at h2;rcases h with h | h | h
 ·omega
 ·omega
 ·exact h2.2.2 z h z (by simp) rfl
theorem Ye {a b:Int} (h:(.lit (.int .i64 a):DataW Unit) = .lit (.int .i64 b)):a = b:=by
 injection h with h
 injection h
theorem Met.push {w':World} {b k:Nat} {l:List Int} {D:DataW Unit} {z c:Int} (hm:IsMap D) (hat:∀ z,D.atKey (.int .i64 z) (.lit (.int .i64 0)) = .lit (.int .i64 (KG l z)))
  (hz:z ∉ l) (hc:c = 1) (hown:w'.ownsMap Tryz.prog 3 (plainElem Tryz.prog 3) b (k + 1) (D.put (.int .i64 z) (.lit (.int .i64 c)))) (hk:WideAt.IsKeyLit (.int .i64 z)):Met w' b (k + 1) (l ++ [z]) (D.put (.int .i64 z) (.lit (.int .i64 c))):=by
 refine ⟨hown,hm.put _ _,fun y=>?_⟩;by_cases hy:y = z
 ·subst hy;rw [atKey_put_same hm hk,hc];simp [KG]
 ·rw [atKey_put_other (by simpa using hy),hat y];simp [KG,hy]
def zdd (kids:List Int) (b B:Nat) (w:World) (i:Value) (wr:World):Prop:=∃ (k:Nat) (D:DataW Unit),k <= kids.length /\ i = .int .i64 (k:Int) /\ Met wr b k (kids.take k) D /\ XA (kids.take k) /\ Below B w wr
theorem Kc {w:World} {A:Option Addr} {cap:Nat} {kids:List Int} (h:Nums w .i64 A kids) (hl:kids.length <= 1000) (hw:∀ z ∈ kids,-9223372036854775808 <= z /\ z <= 9223372036854775807) :
  Calls Tryz.prog 111 #[.slice A kids.length cap] w fun e w'=>e = .returned (.bool (jc kids)) /\ Below w.1.size w w':=by
 have hmm:=@run_makeMap Tryz.prog;have HV:=Hi h;have HW:=Hi hw;clear h hw;obtain ⟨b,HB⟩:=hY (w.1.size);obtain ⟨w1,HW1⟩:=hY (w.alloc (.map #[] 0));have HM1:=hI (Met w1 b 0 [] (.map [])) (by rw [HW1.o,HB.o]; exact ⟨World.ownsMap_made _ _ _ _,isMap_empty,fun z=>rfl⟩);have HBL:=hI (Below w.1.size w w1) (by rw [HW1.o]; exact bA)
 go_enter Tryz.func111,Tryz.ntmps111
 go_upto_region 2 with (fail)
 rw [<- HB.o,<- HW1.o];go_wp2_with fail
 go_loopw [9] (fun i wr=>zdd kids b w.1.size w i wr) (fun i _=>kids.length - (intOf i).toNat)
 case atStart=>exact ⟨0,_,zfp _,rfl,HM1.o,⟨fun z hz=>(by cases hz),List.Pairwise.nil⟩,HBL.o⟩
 case round =>
  obtain ⟨k,D,hk,rfl,hmet,hin,hb⟩:=hrel;have HMET:=Hi hmet;have HIN:=Hi hin;have HBW:=Hi hb;clear hmet hin hb HM1 HBL HW1;by_cases hlt:k < kids.length
  ·obtain ⟨a,rfl,hc⟩:=yf (HV.o.carry HBW.o) hlt;obtain ⟨z,HZ⟩:=hY (kids[k]);have hzw:=HW.o z (by rw [HZ.o]; exact zfn _);rw [<- HZ.o] at hc;have HT:=hI (kids.take (k + 1) = kids.take k ++ [z]) (by rw [HZ.o,List.take_add_one,ze7 hlt]; rfl);have HS:=hI (kids = kids.take k ++ z :: kids.drop (k + 1)) (by rw [HZ.o,List.getElem_cons_drop hlt,List.take_append_drop]);have hkey:keyOf Tryz.prog 3 (.int .i64 z) = some (.int .i64 z):=keyOf_int_mk Tryz.underlying3 (WalkArith.wf_i64 hzw);obtain ⟨q,HQ⟩:=hY (KG (kids.take k) z);have hq:q = 0 \/ q = 1:=by rw [HQ.o]; unfold KG; split <;> simp
   have hat:=HMET.o.at_ z;rw [<- HQ.o] at hat;have hz0:=Tryz.zeroInt;go_wp2_with (with_reducible refine xD9 (some 15) ?_);refine wpList_lookup_own_int _ rfl _ _ 173 rfl 3 3 .i64 Tryz.keyInt Tryz.underlying173 Tryz.underlying3 (hz0 _) b k D rfl HMET.o.own _ _ rfl hkey ?_;intro c hat2 hwc;obtain rfl:q = c:=Ye (hat.symm.trans hat2);clear hat2 hwc hat;have HK:=Hi hkey;have hkm:k < maxLen:=by unfold maxLen; omega
   rcases hq with rfl | rfl
   ·have HNI:=hI (z ∉ kids.take k) (fun h=>by have:=HQ.o; simp [KG,h] at this);go_wp2_with (with_reducible refine xD9 (none) ?_);refine wpList_mapUpdate_own _ rfl _ _ _ 173 rfl 3 3 Tryz.keyInt Tryz.underlying173 _ b k D rfl HMET.o.own hkm _ (.int .i64 1) _ rfl rfl HK.o (.lit (.int .i64 1)) [] (plainElem_int Tryz.underlying3 (by decide)) ?_;intro w2 hown2 hgrow2;have HM2:=Hi (Met.push HMET.o.map HMET.o.at_ HNI.o (c:=1) rfl hown2 trivial);have HB2:=hI (Below w.1.size w w2) (HBW.o.grown hgrow2 HBW.o.size (fun j hj=>by cases hj; rw [HB.o]; exact ze3 _));have HM3:=hI (w2.ownsMap Tryz.prog 3 (plainElem Tryz.prog 3) b (k + 1) (D.put (.int .i64 z) (.lit (.int .i64 1)))) hown2;have HAT:=hI ((D.put (.int .i64 z) (.lit (.int .i64 1))).atKey (.int .i64 z) (.lit (.int .i64 0)) = .lit (.int .i64 1)) (atKey_put_same (k:=.int .i64 z) HMET.o.map trivial _ _);clear hown2 hgrow2 hkey;by_cases h1:z < 2
    ·have HF:=hI (jc kids = false) (by rw [HS.o]; exact YE (.inl h1));go_wp2_with fail
     go_ret
     exact ⟨ym HF.o.symm,HB2.o⟩
    ·by_cases h2:239 < z
     ·have HF:=hI (jc kids = false) (by rw [HS.o]; exact YE (.inr (.inl h2)));go_wp2_with fail
      go_ret
      exact ⟨ym HF.o.symm,HB2.o⟩
     ·go_wp2_with (with_reducible refine xD9 (some 26) ?_);refine vH _ (by rfl) _ _ 173 rfl 3 3 .i64 Tryz.keyInt Tryz.underlying173 Tryz.underlying3 (hz0 _) b (k + 1) _ rfl HM3.o _ _ rfl HK.o ?_;intro c hat2 hwc;obtain rfl:1 = c:=Ye (HAT.o.symm.trans hat2);clear hat2 hwc;go_wp2_with fail
      go_roundw
      case rel =>
       refine ⟨k + 1,D.put (.int .i64 z) (.lit (.int .i64 1)),hlt,by go_num,?_,?_,HB2.o⟩
       ·rw [HT.o]; exact HM2.o
       ·rw [HT.o]; exact HIN.o.push (by omega) (by omega) HNI.o
      case measure=>simp [intOf]; omega
   ·have HF:=hI (jc kids = false) (by
     rw [HS.o];exact YE (.inr (.inr (by
      have:=HQ.o;unfold KG at this;split at this
      ·assumption
      ·cases this))))
    go_wp2_with (with_reducible refine xD9 (none) ?_);refine wpList_mapUpdate_own _ rfl _ _ _ 173 rfl 3 3 Tryz.keyInt Tryz.underlying173 _ b k D rfl HMET.o.own hkm _ (.int .i64 2) _ rfl rfl HK.o (.lit (.int .i64 2)) [] (plainElem_int Tryz.underlying3 (by decide)) ?_;intro w2 hown2 hgrow2;have HB2:=hI (Below w.1.size w w2) (HBW.o.grown hgrow2 HBW.o.size (fun j hj=>by cases hj; rw [HB.o]; exact ze3 _));have HM3:=hI (w2.ownsMap Tryz.prog 3 (plainElem Tryz.prog 3) b (k + 1) (D.put (.int .i64 z) (.lit (.int .i64 2)))) hown2;have HAT:=hI ((D.put (.int .i64 z) (.lit (.int .i64 2))).atKey (.int .i64 z) (.lit (.int .i64 0)) = .lit (.int .i64 2)) (atKey_put_same (k:=.int .i64 z) HMET.o.map trivial _ _);clear hown2 hgrow2 hkey;rcases (show z < 2 \/ (¬ z < 2 /\ 239 < z) \/ (¬ z < 2 /\ ¬ 239 < z) by omega) with h1 | ⟨h1,h2⟩ | ⟨h1,h2⟩
    ·go_wp2_with fail
     go_ret
     exact ⟨ym HF.o.symm,HB2.o⟩
    ·go_wp2_with fail
     go_ret
     exact ⟨ym HF.o.symm,HB2.o⟩
    ·go_wp2_with (with_reducible refine xD9 (some 26) ?_);refine vH _ (by rfl) _ _ 173 rfl 3 3 .i64 Tryz.keyInt Tryz.underlying173 Tryz.underlying3 (hz0 _) b (k + 1) _ rfl HM3.o _ _ rfl HK.o ?_;intro c hat2 hwc;obtain rfl:2 = c:=Ye (HAT.o.symm.trans hat2);clear hat2 hwc;go_wp2_with fail
     go_ret
     exact ⟨ym HF.o.symm,HB2.o⟩
  ·obtain rfl:k = kids.length:=by omega
   go_wp2_with fail
   go_ret
   refine ⟨ym ?_,HBW.o⟩;have:=HIN.o;rw [zfw] at this;exact (zca.2 this).symm
end
section
open Go.RowKit
theorem Xb {x:Nd} (h:¬ x.keys.length <= 7):zJ x = false:=by unfold zJ; simp [h]
theorem KY {x:Nd} (h:jW x.keys = false):zJ x = false:=by unfold zJ; simp [h]
theorem KZ {x:Nd} (h:x.keys.length <= 7) (hk:jW x.keys = true) (h0:x.kids.length = 0):zJ x = (decide (x.vals.length = x.keys.length) && x.vals.all kr):=by
 unfold zJ;simp only [hk,h,h0,decide_true,Bool.true_and,if_true];rw [Bool.and_comm]
theorem VT {x:Nd} (h:x.keys.length <= 7) (hk:jW x.keys = true) (h0:x.kids.length ≠ 0):zJ x = (decide (x.vals.length = 0) && decide (1 <= x.keys.length) && decide (x.kids.length = x.keys.length + 1) && jc x.kids):=by
 unfold zJ;simp only [hk,h,h0,decide_true,Bool.true_and,if_false];generalize decide (x.vals.length = 0) = a;generalize decide (1 <= x.keys.length) = b;generalize decide (x.kids.length = x.keys.length + 1) = c;generalize jc x.kids = d;cases a <;> cases b <;> cases c <;> cases d <;> rfl
theorem ke {w:World} {l:zd} {x:Nd} (h:xt w l x):Calls Tryz.prog 73 #[ndV l x] w fun e w'=>e = .returned (.bool (zJ x)) /\ Below w.1.size w w':=by
 obtain ⟨A,B,C,ca,cb,cc⟩:=l;obtain ⟨b,HB⟩:=hY (w.1.size);obtain ⟨w1,HW⟩:=hY (w.alloc (.cells #[.slice A x.keys.length ca,.slice B x.vals.length cb,.slice C x.kids.length cc] 48));have HX:=hI (zb w1 b ⟨A,B,C,ca,cb,cc⟩ x) (by rw [HW.o,HB.o]; exact zb.new (l:=⟨A,B,C,ca,cb,cc⟩) (x:=x) _);have HBL:=hI (Below w.1.size w w1) (by rw [HW.o]; exact bA);have HI:=hI (xt w1 ⟨A,B,C,ca,cb,cc⟩ x) (h.carry HBL.o);clear h;have c0:w1.cell? ⟨b,0,none⟩ = some (.slice A x.keys.length ca):=HX.o.c0;have c1:w1.cell? ⟨b,1,none⟩ = some (.slice B x.vals.length cb):=HX.o.c1;have c2:w1.cell? ⟨b,2,none⟩ = some (.slice C x.kids.length cc):=HX.o.c2;have hk1:=HI.o.kl;have hk2:=HI.o.vl;have hk3:=HI.o.cl;unfold maxLen at hk1 hk2 hk3;obtain ⟨R,HR⟩:=hY (zJ x);rw [<- HR.o];by_cases h7:x.keys.length <= 7
 case neg =>
  have g:(7:Int) < (x.keys.length:Int):=by omega
  have HF:=hI (R = false) (HR.o.trans (Xb h7));clear h7
  go_enter Tryz.func73,Tryz.ntmps73
  go_upto_region 1 with (fail)
  rw [<- HW.o,<- HB.o];go_wp2_with fail
  go_ret
  exact ⟨ym HF.o.symm,HBL.o⟩
 have g:¬ (7:Int) < (x.keys.length:Int):=by omega
 obtain ⟨kb,HKB⟩:=hY (jW x.keys)
 go_enter Tryz.func73,Tryz.ntmps73
 go_upto_region 1 with (fail)
 rw [<- HW.o,<- HB.o];go_wp2_with fail;refine (Qm HI.o.keys HI.o.kl HI.o.kw).mono ?_;rw [<- HKB.o];rintro e w' ⟨rfl,rfl⟩;cases kb with
 | false =>
  have HF:=hI (R = false) (HR.o.trans (KY HKB.o.symm));go_wp2_with fail
  go_ret
  exact ⟨ym HF.o.symm,HBL.o⟩
 | true =>
  go_upto_region 3 with (fail)
  go_wp2_with (with_reducible refine xD9 (some 13) ?_);refine zf Tryz.ndProg (by rfl) _ rfl b rfl ⟨A,B,C,ca,cb,cc⟩ x HX.o ?_;go_wp2_with fail;refine (wR (l:=⟨A,B,C,ca,cb,cc⟩) x).mono ?_;rcases Nat.eq_zero_or_pos x.kids.length with h0 | h0
  ·rw [decide_eq_true h0];have HRR:=Hi (KZ h7 HKB.o.symm h0);rintro e w2 ⟨rfl,hb⟩;have HX2:=Hi (HX.o.carry hb HX.o.lt);have HI2:=Hi (HI.o.carry hb);have HB2:=Hi (HBL.o.trans (hb.mono HBL.o.size));clear hb h0;have d0:=HX2.o.c0;have d1:=HX2.o.c1;by_cases hv:x.vals.length = x.keys.length
   ·have hv2:(x.vals.length:Int) = (x.keys.length:Int):=by omega
    obtain ⟨vb,HVB⟩:=hY (x.vals.all kr);have HF:=hI (R = vb) (by rw [HR.o,HRR.o,HVB.o,decide_eq_true hv]; rfl);clear hv;go_wp2_with fail;refine (Kd HI2.o.vals HI2.o.vl HI2.o.vw).mono ?_;rw [<- HVB.o];rintro e w' ⟨rfl,rfl⟩;go_wp2_with fail
    go_ret
    exact ⟨ym HF.o.symm,HB2.o⟩
   ·have hv2:¬ (x.vals.length:Int) = (x.keys.length:Int):=by omega
    have HF:=hI (R = false) (by rw [HR.o,HRR.o,decide_eq_false hv]; rfl);clear hv;go_wp2_with fail
    go_ret
    exact ⟨ym HF.o.symm,HB2.o⟩
  ·rw [decide_eq_false (by omega:¬ x.kids.length = 0)];have HRR:=Hi (VT h7 HKB.o.symm (by omega:x.kids.length ≠ 0));rintro e w2 ⟨rfl,hb⟩;have HX2:=Hi (HX.o.carry hb HX.o.lt);have HI2:=Hi (HI.o.carry hb);have HB2:=Hi (HBL.o.trans (hb.mono HBL.o.size));clear hb;have d0:=HX2.o.c0;have d1:=HX2.o.c1;have d2:=HX2.o.c2;by_cases hall:x.vals.length = 0 /\ 1 <= x.keys.length /\ x.kids.length = x.keys.length + 1
   ·obtain ⟨h1,h2,h3⟩:=hall;have e1:(x.vals.length:Int) = 0:=by omega
    have e2:(0:Int) < (x.keys.length:Int):=by omega
    have e3:(x.kids.length:Int) = (x.keys.length:Int) + 1:=by omega
    obtain ⟨vb,HVB⟩:=hY (jc x.kids);have HF:=hI (R = vb) (by rw [HR.o,HRR.o,HVB.o,decide_eq_true h1,decide_eq_true h2,decide_eq_true h3]; rfl);have hk8:x.kids.length <= 1000:=by omega
    clear h1 h2 h3 h0;go_wp2_with fail;refine (Kc HI2.o.kids hk8 HI2.o.cw).mono ?_;rw [<- HVB.o];rintro e w3 ⟨rfl,hb⟩;have HB3:=Hi (HB2.o.trans (hb.mono HB2.o.size));clear hb;go_wp2_with fail
    go_ret
    exact ⟨ym HF.o.symm,HB3.o⟩
   ·have HF:=hI (R = false) (by
     rw [HR.o,HRR.o];rw [zfD];intro hh;simp only [Bool.and_eq_true,decide_eq_true_eq] at hh;exact hall ⟨hh.1.1.1,hh.1.1.2,hh.1.2⟩)
    have hcase:(¬ (x.vals.length:Int) = 0) \/ ((x.vals.length:Int) = 0 /\ ¬ (0:Int) < (x.keys.length:Int)) \/ ((x.vals.length:Int) = 0 /\ (0:Int) < (x.keys.length:Int) /\ ¬ (x.kids.length:Int) = (x.keys.length:Int) + 1):=by omega
    clear hall h0;rcases hcase with e1 | ⟨e1,e2⟩ | ⟨e1,e2,e3⟩
    ·have e4:¬ x.vals.length = 0:=by omega
     go_wp2_with fail
     go_ret
     exact ⟨ym HF.o.symm,HB2.o⟩
    ·have e4:x.keys.length = 0:=by omega
     go_wp2_with fail
     go_ret
     exact ⟨ym HF.o.symm,HB2.o⟩
    ·have e4:0 < x.keys.length:=by omega
     go_wp2_with fail
     go_ret
     exact ⟨ym HF.o.symm,HB2.o⟩
end
section
open Go.RowKit
def Jw (n:Nat) (t:ByteArray) (sh:Bool) (part t':ByteArray) (sh':Bool):Prop :=
 (n <= t.size /\ part = t.extract 0 n /\ t' = t.extract n t.size /\ sh' = sh) \/ (t.size < n /\ part = ⟨#[]⟩ /\ t' = t /\ sh' = true)
theorem Jw.small {n:Nat} {t part t':ByteArray} {sh sh':Bool} (h:Jw n t sh part t' sh'):part.size <= n:=by
 rcases h with ⟨h1,rfl,_⟩ | ⟨_,rfl,_⟩
 ·rw [ByteArray.size_extract]; omega
 ·exact zfp _
theorem Jw.was {n:Nat} {t part t':ByteArray} {sh sh':Bool} (h:Jw n t sh part t' sh') (h':sh' = false):sh = false:=by
 rcases h with ⟨_,_,_,e⟩ | ⟨_,_,_,e⟩
 ·rw [<- e]; exact h'
 ·rw [e] at h'; cases h'
structure Xv (L:List UInt8) (pos:Nat) (t:ByteArray) (sh:Bool):Prop where
 yes:sh = false -> pos <= L.length /\ t.data.toList = L.drop pos
 no:sh = true -> yg L = none
theorem Xv.took {L:List UInt8} {pos n:Nat} {t part t':ByteArray} {sh sh':Bool} (h:Xv L pos t sh) (hk:Jw n t sh part t' sh') (hn:sh = false -> L.length < pos + n -> yg L = none):Xv L (pos + n) t' sh':=by
 rcases hk with ⟨h1,rfl,rfl,rfl⟩ | ⟨h1,rfl,rfl,rfl⟩
 ·refine ⟨fun e=>?_,h.no⟩;obtain ⟨h2,h3⟩:=h.yes e;have hl:t.size = L.length - pos:=by
   have:=congrArg zfu h3;rw [zfq,zfr] at this;exact this
  refine ⟨by omega,?_⟩;rw [Kv,h3,zfz,zfG (by rw [zfr]; omega)]
 ·refine ⟨fun e=>(by cases e),fun _=>?_⟩;cases sh with
  | true=>exact h.no rfl
  | false =>
   obtain ⟨h2,h3⟩:=h.yes rfl;have hl:t'.size = L.length - pos:=by
    have:=congrArg zfu h3;rw [zfq,zfr] at this;exact this
   exact hn rfl (by omega)
theorem Xv.part {L:List UInt8} {pos n:Nat} {t part t':ByteArray} {sh sh':Bool} (h:Xv L pos t sh) (hk:Jw n t sh part t' sh') (e:sh' = false):pos + n <= L.length /\ part.data.toList = (L.drop pos).take n:=by
 have e0:=hk.was e;obtain ⟨h2,h3⟩:=h.yes e0;rcases hk with ⟨h1,rfl,rfl,rfl⟩ | ⟨h1,rfl,rfl,rfl⟩
 ·have hl:t.size = L.length - pos:=by
   have:=congrArg zfu h3;rw [zfq,zfr] at this;exact this
  exact ⟨by omega,by rw [Kv,h3,zfE,Nat.sub_zero]⟩
 ·cases e
theorem W6 {L:List UInt8} (h:L.length < 2):yg L = none:=by
 apply xi
 match L,h with
 | [],_=>rfl
 | [a],_=>rfl
theorem zaP {L r:List UInt8} {a c:UInt8} (e:L = a :: c :: r) (h:L.length < 2 + 4 * c.toNat):yg L = none:=by
 apply xi;subst e;unfold jV;simp only;rw [if_neg];rintro ⟨_,_,h3⟩;rw [h3] at h;unfold Wj at h;split at h <;> omega
theorem Y9 {L r:List UInt8} {c:UInt8} (e:L = 0 :: c :: r) (h:L.length ≠ 2 + 16 * c.toNat):yg L = none:=by
 apply xi;subst e;unfold jV;simp only;rw [if_neg];rintro ⟨_,_,h3⟩;exact h (by rw [h3]; rfl)
theorem Yk {L r:List UInt8} {c:UInt8} (e:L = 1 :: c :: r) (h:L.length ≠ 3 + 5 * c.toNat):yg L = none:=by
 apply xi;subst e;unfold jV;simp only;rw [if_neg];rintro ⟨_,_,h3⟩;exact h (by rw [h3]; rfl)
theorem Qd {L r:List UInt8} {a c:UInt8} (e:L = a :: c :: r) (h0:a.toNat ≠ 0) (h1:a.toNat ≠ 1):yg L = none:=by
 apply xi;subst e;unfold jV;simp only;rw [if_neg];rintro ⟨h,_,_⟩;have h:a.toNat <= 1:=UInt8.le_iff_toNat_le.1 h;omega
theorem J6 (leaf:Bool) (k:Nat) (r:List UInt8):(qG leaf k r).keys.length = k:=VG k r
theorem Wc {L r:List UInt8} {a c:UInt8} (e:L = a :: c :: r) (ha:a <= 1) (h:L.length = Wj (decide (a = 0)) c.toNat):yg L = if zJ (qG (decide (a = 0)) c.toNat r) = true then some (qG (decide (a = 0)) c.toNat r) else none:=by
 by_cases h7:c.toNat <= 7
 ·refine WH ?_;subst e;unfold jV;simp only;rw [if_pos ⟨ha,UInt8.le_iff_toNat_le.2 h7,h⟩]
 ·rw [if_neg]
  ·apply xi;subst e;unfold jV;simp only;rw [if_neg];rintro ⟨_,h2,_⟩;exact h7 (UInt8.le_iff_toNat_le.1 h2)
  ·rw [Xb (by rw [J6]; exact h7)];decide
structure qp (x:Nd):Prop where
 kl:x.keys.length <= 256
 vl:x.vals.length <= 256
 cl:x.kids.length <= 256
 kw:∀ z ∈ x.keys,0 <= z /\ z <= 4294967295
 vw:∀ v ∈ x.vals,v.size <= 12
 cw:∀ z ∈ x.kids,0 <= z /\ z <= 255
theorem qp.empty:qp Nd.empty:=⟨zfp _,zfp _,zfp _,fun z h=>(by cases h),fun z h=>(by cases h),fun z h=>(by cases h)⟩
theorem Zd {s:ByteArray} {n:Nat} (h:s.size <= n):num s.data.toList < 256 ^ n:=ze1 (zcs _) (Nat.pow_le_pow_right (by decide) (by rw [zfq]; exact h))
theorem qp.push0 {x:Nd} (h:qp x) {z:Int} (hz:0 <= z /\ z <= 4294967295) (hl:x.keys.length < 256):qp ⟨x.keys ++ [z],x.vals,x.kids⟩:=by
 refine ⟨?_,h.vl,h.cl,fun y hy=>?_,h.vw,h.cw⟩
 ·show (x.keys ++ [z]).length <= 256;rw [zfk,zfx]; omega
 ·rcases zfy.1 hy with hy | hy
  ·exact h.kw y hy
  ·rw [zft.1 hy]; exact hz
theorem qp.push1 {x:Nd} (h:qp x) {v:ByteArray} (hv:v.size <= 12) (hl:x.vals.length < 256):qp ⟨x.keys,x.vals ++ [v],x.kids⟩:=by
 refine ⟨h.kl,?_,h.cl,h.kw,fun y hy=>?_,h.cw⟩
 ·show (x.vals ++ [v]).length <= 256;rw [zfk,zfx]; omega
 ·rcases zfy.1 hy with hy | hy
  ·exact h.vw y hy
  ·rw [zft.1 hy]; exact hv
theorem qp.push2 {x:Nd} (h:qp x) {z:Int} (hz:0 <= z /\ z <= 255) (hl:x.kids.length < 256):qp ⟨x.keys,x.vals,x.kids ++ [z]⟩:=by
 refine ⟨h.kl,h.vl,?_,h.kw,h.vw,fun y hy=>?_⟩
 ·show (x.kids ++ [z]).length <= 256;rw [zfk,zfx]; omega
 ·rcases zfy.1 hy with hy | hy
  ·exact h.cw y hy
  ·rw [zft.1 hy]; exact hz
theorem qp.is {w:World} {x:Nd} (h:qp x) {A B C:Option Addr} {ca cb cc:Nat} (h1:Nums w .i64 A x.keys) (h2:Strs w B x.vals.length x.vals) (h3:Nums w .i64 C x.kids):xt w ⟨A,B,C,ca,cb,cc⟩ x:=by
 have hk:=h.kl;have hv:=h.vl;have hc:=h.cl;refine ⟨h1,h2,h3,by unfold maxLen; omega,by unfold maxLen; omega,by unfold maxLen; omega,fun z hz=>?_,fun v hv=>?_,fun z hz=>?_⟩
 ·have:=h.kw z hz; omega
 ·have:=h.vw v hv; unfold maxLen; omega
 ·have:=h.cw z hz; omega
structure Zn (d h:Nat) (w w':World):Prop where
 os:w'.os = w.os
 tape:w'.tape = w.tape
 output:w'.output = w.output
 size:w'.1.size = w.1.size
 block:∀ i,i ≠ d -> i ≠ h -> w'.1[i]? = w.1[i]?
theorem Zn.set {d h j:Nat} (hj:j = d \/ j = h) (w:World) (u:Value):Zn d h w (w.setCell ⟨j,0,none⟩ u) :=
 ⟨rfl,rfl,rfl,World.heap_setCell_size9 _ _ _,fun i h1 h2=>World.heap_setCell_far9 _ _ _ (by show i ≠ j; omega)⟩
theorem Zn.below {d h B:Nat} {a w w':World} (ho:Zn d h w w') (hb:Below B a w) (hd:B <= d) (hh:B <= h):Below B a w' :=
 hb.trans ⟨ho.os,ho.tape,ho.output,by rw [ho.size]; exact ze3 _,fun i hi=>ho.block i (by omega) (by omega)⟩
theorem qQ {w:World} {d h n:Nat} {t:ByteArray} {sh:Bool} (ht:wZ w d h t sh) (hdh:d ≠ h) :
  Calls Tryz.prog 153 #[.int .i64 (n:Int),.pointer (some ⟨d,0,none⟩),.pointer (some ⟨h,0,none⟩)] w fun e w' =>
   ∃ part t' sh',e = .returned (.string part) /\ Jw n t sh part t' sh' /\ wZ w' d h t' sh' /\ Zn d h w w':=by
 by_cases hn:n <= t.size
 ·refine (zcU ht hn).mono ?_;rintro e w' ⟨rfl,rfl⟩;refine ⟨_,_,_,rfl,.inl ⟨hn,rfl,rfl,rfl⟩,⟨World.cell?_setCell_same _ _ _ ht.dc,?_,?_,?_⟩,Zn.set (.inl rfl) _ _⟩
  ·rw [World.cell?_setCell_other _ _ _ _ (by intro e; injection e; omega)]; exact ht.hc
  ·rw [World.frozen?_setCell]; exact ht.df
  ·rw [World.frozen?_setCell]; exact ht.hf
 ·refine (Qw ht (by omega)).mono ?_;rintro e w' ⟨rfl,rfl⟩;refine ⟨_,_,_,rfl,.inr ⟨by omega,rfl,rfl,rfl⟩,⟨?_,World.cell?_setCell_same _ _ _ ht.hc,?_,?_⟩,Zn.set (.inr rfl) _ _⟩
  ·rw [World.cell?_setCell_other _ _ _ _ (by intro e; injection e; omega)]; exact ht.dc
  ·rw [World.frozen?_setCell]; exact ht.df
  ·rw [World.frozen?_setCell]; exact ht.hf
theorem wZ.far {w w':World} {d h:Nat} {t:ByteArray} {sh:Bool} (ht:wZ w d h t sh) (hd:w'.1[d]? = w.1[d]?) (hh:w'.1[h]? = w.1[h]?):wZ w' d h t sh :=
 ⟨(World.cell?_of_block (w:=w) (a:=⟨d,0,none⟩) hd).trans ht.dc,(World.cell?_of_block (w:=w) (a:=⟨h,0,none⟩) hh).trans ht.hc,(World.frozen?_of_block (w:=w) (a:=⟨d,0,none⟩) hd).trans ht.df,(World.frozen?_of_block (w:=w) (a:=⟨h,0,none⟩) hh).trans ht.hf⟩
theorem wZ.carry {w w':World} {d h:Nat} {t:ByteArray} {sh:Bool} (ht:wZ w d h t sh) (hb:Below w.1.size w w'):wZ w' d h t sh:=ht.far (hb.block d (zt ht.dc)) (hb.block h (zt ht.hc))
theorem qf.off {w wr w':World} {p q b d h:Nat} {kv vv cv:Value} {x:Nd} (g:qf w p q b kv vv cv x wr) (ho:Zn d h wr w') (hdp:d ≠ p) (hhp:h ≠ p) (hdq:d < q) (hhq:h < q) (hd:w.1.size <= d) (hh:w.1.size <= h):qf w p q b kv vv cv x w':=by
 have bp:=ho.block p (Ne.symm hdp) (Ne.symm hhp);have bq:=ho.block q (by omega) (by omega);have hqb:=g.qb;have far:∀ i,b <= i -> w'.1[i]? = wr.1[i]?:=fun i hi=>ho.block i (by omega) (by omega)
 exact ⟨⟨(World.cell?_of_block (w:=wr) (a:=⟨p,0,none⟩) bp).trans g.res.c0,(World.cell?_of_block (w:=wr) (a:=⟨p,1,none⟩) bp).trans g.res.c1,(World.cell?_of_block (w:=wr) (a:=⟨p,2,none⟩) bp).trans g.res.c2⟩,
  (World.cell?_of_block (w:=wr) (a:=⟨q,0,none⟩) bq).trans g.c0,(World.cell?_of_block (w:=wr) (a:=⟨q,1,none⟩) bq).trans g.c1,(World.cell?_of_block (w:=wr) (a:=⟨q,2,none⟩) bq).trans g.c2,
  fun j=>(World.frozen?_of_block (w:=wr) (a:=⟨q,j,none⟩) bq).trans (g.fz j),fun j=>(World.frozen?_of_block (w:=wr) (a:=⟨p,j,none⟩) bp).trans (g.fp j),
  zB g.k fun i hi=>far i (g.k.lt i hi).1,zB g.v fun i hi=>far i (g.v.lt i hi).1,zB g.c fun i hi=>far i (g.c.lt i hi).1,g.akv,g.akc,g.avc,g.lo,g.pq,g.qb,by rw [ho.size]; exact g.sz,ho.below g.below hd hh⟩
structure RS (w:World) (D P H q b:Nat) (kv vv cv:Value) (x:Nd) (t:ByteArray) (sh:Bool) (wr:World):Prop where
 g:qf w P q b kv vv cv x wr
 t:wZ wr D H t sh
 lo:w.1.size <= D
 dp:D < P
 ph:P < H
 hq:H < q
theorem RS.carry {w wr w':World} {D P H q b:Nat} {kv vv cv:Value} {x:Nd} {t:ByteArray} {sh:Bool} (h:RS w D P H q b kv vv cv x t sh wr) (hb:Below wr.1.size wr w'):RS w D P H q b kv vv cv x t sh w' :=
 ⟨h.g.carry hb,h.t.carry hb,h.lo,h.dp,h.ph,h.hq⟩
theorem RS.took {w wr w':World} {D P H q b:Nat} {kv vv cv:Value} {x:Nd} {t t':ByteArray} {sh sh':Bool} (h:RS w D P H q b kv vv cv x t sh wr) (ht:wZ w' D H t' sh') (ho:Zn D H wr w'):RS w D P H q b kv vv cv x t' sh' w':=by
 have h1:=h.lo;have h2:=h.dp;have h3:=h.ph;have h4:=h.hq;exact ⟨h.g.off ho (by omega) (by omega) (by omega) (by omega) h1 (by omega),ht,h1,h2,h3,h4⟩
theorem RS.far {w wr wo w3:World} {D P H q b:Nat} {kv vv cv:Value} {x:Nd} {t:ByteArray} {sh:Bool} (h:RS w D P H q b kv vv cv x t sh wr) (hbo:Below wr.1.size wr wo) {row:Option Nat} (hg:wo.grownBy w3 row) (hrow:∀ g,row = some g -> b <= g) (j:Nat) (u:Value):wZ (w3.setCell ⟨q,j,none⟩ u) D H t sh:=by
 have h1:=h.dp;have h2:=h.ph;have h3:=h.hq;have hqb:=h.g.qb;have hsz:=h.g.sz;have blk:∀ i,i < q -> (w3.setCell ⟨q,j,none⟩ u).heap[i]? = wr.1[i]?:=fun i hi =>
  (World.heap_setCell_far9 _ _ _ (by show i ≠ q; omega)).trans ((hg.block i (by have:=hbo.size; omega) (fun e=>by have:=hrow i e.symm; omega)).trans (hbo.block i (by omega)))
 exact h.t.far (blk D (by omega)) (blk H h3)
end
section
open Go.RowKit
theorem Tryz.nodeNone:Tryz.prog.built 48 [] = some #[.slice none 0 0,.slice none 0 0,.slice none 0 0]:=by kernel_rfl
def XB (w:World) (o:Option Nd) (e:Ending) (w':World):Prop :=
 (o = none /\ ∃ v,e = .returned (.tuple #[ndV zd.none_ Nd.empty,v]) /\ zi w' w.1.size 2 v /\ Below w.1.size w w') \/
 ∃ x l,o = some x /\ e = .returned (.tuple #[ndV l x,.nilIface]) /\ zo w' w.1.size l x /\ Below w.1.size w w'
structure Xf (w:World) (D P H:Nat) (t:ByteArray) (sh:Bool) (wr:World):Prop where
 t:wZ wr D H t sh
 res:zb wr P zd.none_ Nd.empty
 fp:∀ j,wr.frozen? ⟨P,j,none⟩ = false
 lo:w.1.size <= D
 dp:D < P
 ph:P < H
 below:Below w.1.size w wr
theorem Xf.carry {w wr w':World} {D P H:Nat} {t:ByteArray} {sh:Bool} (h:Xf w D P H t sh wr) (hb:Below wr.1.size wr w'):Xf w D P H t sh w' :=
 ⟨h.t.carry hb,h.res.carry hb h.res.lt,fun j=>(World.frozen?_of_block (w:=wr) (a:=⟨P,j,none⟩) (hb.block P h.res.lt)).trans (h.fp j),h.lo,h.dp,h.ph,h.below.trans (hb.mono h.below.size)⟩
theorem Xf.took {w wr w':World} {D P H:Nat} {t t':ByteArray} {sh sh':Bool} (h:Xf w D P H t sh wr) (ht:wZ w' D H t' sh') (ho:Zn D H wr w'):Xf w D P H t' sh' w':=by
 have h1:=h.lo;have h2:=h.dp;have h3:=h.ph;have bp:=ho.block P (by omega) (by omega);exact ⟨ht,⟨(World.cell?_of_block (w:=wr) (a:=⟨P,0,none⟩) bp).trans h.res.c0,(World.cell?_of_block (w:=wr) (a:=⟨P,1,none⟩) bp).trans h.res.c1,(World.cell?_of_block (w:=wr) (a:=⟨P,2,none⟩) bp).trans h.res.c2⟩,
  fun j=>(World.frozen?_of_block (w:=wr) (a:=⟨P,j,none⟩) bp).trans (h.fp j),h1,h2,h3,ho.below h.below h1 (by omega)⟩
theorem Xf.start {w wr:World} {D P H:Nat} {t:ByteArray} {sh:Bool} (h:Xf w D P H t sh wr) (T:TypeId) :
  RS w D P H wr.1.size (wr.1.size + 1) (.slice none 0 0) (.slice none 0 0) (.slice none 0 0) Nd.empty t sh (wr.alloc (.cells #[.slice none 0 0,.slice none 0 0,.slice none 0 0] T)):=by
 have hb:Below wr.1.size wr (wr.alloc (.cells #[.slice none 0 0,.slice none 0 0,.slice none 0 0] T)):=(Below.refl _ _).alloc (ze3 _) _;have h':=h.carry hb;have hlt:=zt h.t.hc;have h3:=h.ph;have h2:=h.dp;have h1:=h.lo;have hH:H < wr.1.size:=hlt;exact ⟨⟨h'.res,by simp,by simp,by simp,fun j=>by simp,h'.fp,World.ownsRow_nil _ _ _ _,World.ownsRow_nil _ _ _ _,World.ownsRow_nil _ _ _ _,(fun g hg=>by cases hg),(fun g hg=>by cases hg),(fun g hg=>by cases hg),by omega,by omega,by omega,by simp,h'.below⟩,h'.t,h1,h2,h3,hH⟩
theorem Xf.first (w:World) (s:ByteArray) (T1 T2 T3:TypeId):Xf w w.1.size (w.1.size + 1) (w.1.size + 1 + 1) s false (((w.alloc (.cells #[.string s] T1)).alloc (.cells #[.slice none 0 0,.slice none 0 0,.slice none 0 0] T2)).alloc (.cells #[.bool false] T3)):=by
 obtain ⟨wa,hwa⟩:∃ wa,wa = w.alloc (.cells #[.string s] T1):=⟨_,rfl⟩
 have a1:wa.1.size = w.1.size + 1:=by rw [hwa]; simp
 have a2:wa.cell? ⟨w.1.size,0,none⟩ = some (.string s):=by rw [hwa]; simp
 have a3:wa.frozen? ⟨w.1.size,0,none⟩ = false:=by rw [hwa]; simp
 have a4:Below w.1.size w wa:=by rw [hwa]; exact bA
 rw [<- hwa,<- a1];obtain ⟨wb,hwb⟩:∃ wb,wb = wa.alloc (.cells #[.slice none 0 0,.slice none 0 0,.slice none 0 0] T2):=⟨_,rfl⟩
 have b1:wb.1.size = wa.1.size + 1:=by rw [hwb]; simp
 have b2:zb wb wa.1.size zd.none_ Nd.empty:=by rw [hwb]; exact zb.new (l:=zd.none_) (x:=Nd.empty) _
 have b3:∀ j,wb.frozen? ⟨wa.1.size,j,none⟩ = false:=fun j=>by rw [hwb]; simp
 have b4:Below wa.1.size wa wb:=by rw [hwb]; exact bA
 rw [<- hwb,<- b1];obtain ⟨wc,hwc⟩:∃ wc,wc = wb.alloc (.cells #[.bool false] T3):=⟨_,rfl⟩
 have c2:wc.cell? ⟨wb.1.size,0,none⟩ = some (.bool false):=by rw [hwc]; simp
 have c3:wc.frozen? ⟨wb.1.size,0,none⟩ = false:=by rw [hwc]; simp
 have c4:Below wb.1.size wb wc:=by rw [hwc]; exact bA
 rw [<- hwc];have hd:w.1.size < wa.1.size:=by omega
 have hd2:w.1.size < wb.1.size:=by omega
 have hp:wa.1.size < wb.1.size:=by omega
 refine ⟨⟨?_,c2,?_,c3⟩,b2.carry c4 hp,fun j=>(World.frozen?_of_block (w:=wb) (a:=⟨wa.1.size,j,none⟩) (c4.block _ hp)).trans (b3 j),ze3 _,hd,hp,?_⟩
 ·exact (c4.cell (p:=⟨w.1.size,0,none⟩) hd2).trans ((b4.cell (p:=⟨w.1.size,0,none⟩) hd).trans a2)
 ·exact (World.frozen?_of_block (w:=wb) (a:=⟨w.1.size,0,none⟩) (c4.block _ hd2)).trans ((World.frozen?_of_block (w:=wa) (a:=⟨w.1.size,0,none⟩) (b4.block _ hd)).trans a3)
 ·exact a4.trans ((b4.trans (c4.mono (by omega))).mono (by omega))
def Hd (L:List UInt8) (kn k:Nat):Prop:=∃ a c,L = a :: c :: L.drop 2 /\ kn = a.toNat /\ k = c.toNat
theorem zdE {L:List UInt8} {p1 p2:ByteArray} (h1:p1.data.toList = (L.drop 0).take 1) (h2:p2.data.toList = (L.drop 1).take 1) (hl:2 <= L.length):Hd L (num p1.data.toList) (num p2.data.toList):=by
 match L,hl with
 | a :: c :: r,_ =>
  refine ⟨a,c,rfl,?_,?_⟩
  ·rw [h1]; simp [num]
  ·rw [h2]; simp [num]
def zeW (w:World) (D P H q b kn k:Nat) (L:List UInt8) (i:Value) (wr:World):Prop :=
 ∃ (j:Nat) (kv:Value) (x:Nd) (t:ByteArray) (sh:Bool),j <= k /\ i = .int .i64 (j:Int) /\ RS w D P H q b kv (.slice none 0 0) (.slice none 0 0) x t sh wr /\ Xv L (2 + 4 * j) t sh /\ qp x /\
  x.keys.length = j /\ x.vals = [] /\ x.kids = [] /\ (sh = false -> Hd L kn k /\ x.keys = jX j (L.drop 2))
def zeY (w:World) (D P H q b kn k:Nat) (L:List UInt8) (kv:Value) (i:Value) (wr:World):Prop :=
 ∃ (j:Nat) (vv:Value) (x:Nd) (t:ByteArray) (sh:Bool),j <= k /\ i = .int .i64 (j:Int) /\ RS w D P H q b kv vv (.slice none 0 0) x t sh wr /\ Xv L (2 + 4 * k + 12 * j) t sh /\ qp x /\
  x.vals.length = j /\ x.kids = [] /\ (sh = false -> Hd L kn k /\ x.keys = jX k (L.drop 2) /\ x.vals = QX k j (L.drop 2))
def zeV (w:World) (D P H q b kn k:Nat) (L:List UInt8) (kv:Value) (i:Value) (wr:World):Prop :=
 ∃ (j:Nat) (cv:Value) (x:Nd) (t:ByteArray) (sh:Bool),j <= k + 1 /\ i = .int .i64 (j:Int) /\ RS w D P H q b kv (.slice none 0 0) cv x t sh wr /\ Xv L (2 + 4 * k + j) t sh /\ qp x /\
  x.kids.length = j /\ x.vals = [] /\ (sh = false -> Hd L kn k /\ x.keys = jX k (L.drop 2) /\ x.kids = (((L.drop 2).drop (4 * k)).take j).map fun c=>(c.toNat:Int))
theorem zaB {l:List UInt8} {j:Nat} (h:j < l.length) {part:ByteArray} (hp:part.data.toList = (l.drop j).take 1):((l.take (j + 1)).map fun c=>(c.toNat:Int)) = ((l.take j).map fun c=>(c.toNat:Int)) ++ [(num part.data.toList:Int)]:=by
 have e:(l.drop j).take 1 = [l[j]]:=by rw [List.drop_eq_getElem_cons h]; rfl
 rw [hp,e,zfB h,zfv];simp [num]
theorem XC (w:World) (s:ByteArray):Calls Tryz.prog 124 #[.string s] w (XB w (yg s.data.toList)):=by
 have hz:=Tryz.zeroNode;obtain ⟨ii,hi0,hi1,hi2,hi3⟩:=info_parts Tryz.infoInt9;obtain ⟨is,hs0,hs1,hs2,hs3⟩:=info_parts Tryz.infoStr9;obtain ⟨L,HL⟩:=hY (s.data.toList);rw [<- HL.o];obtain ⟨PO,HPO⟩:=hY (XB w (yg L));rw [<- HPO.o];obtain ⟨D,HD⟩:=hY (w.1.size);obtain ⟨P,HP⟩:=hY (D + 1);obtain ⟨H,HH⟩:=hY (P + 1);have hDH:D ≠ H:=by rw [HH.o,HP.o]; omega
 obtain ⟨w1,HW1⟩:=hY (((w.alloc (.cells #[.string s] 9)).alloc (.cells #[.slice none 0 0,.slice none 0 0,.slice none 0 0] 48)).alloc (.cells #[.bool false] 4));have HP1:=hI (Xf w D P H s false w1) (by
  rw [HW1.o,HH.o,HP.o,HD.o];exact Xf.first w s _ _ _)
 have HC0:=hI (Xv L 0 s false) ⟨fun _=>⟨zfp _,by rw [HL.o]; rfl⟩,fun h=>(by cases h)⟩
 go_enter Tryz.func124,Tryz.ntmps124
 go_upto_region 3 with (fail)
 rw [<- HW1.o,<- HD.o,<- HP.o,<- HH.o];clear HW1 HD HP HH HL;go_wp2_with fail;refine (qQ (n:=1) HP1.o.t hDH).mono ?_;rintro e w2 ⟨p1,t1,s1,rfl,hk,hta,hoff⟩;have HK1:=Hi hk;have HP2:=Hi (HP1.o.took hta hoff);clear hk hta hoff HP1;have HC1:=hI (Xv L 1 t1 s1) (HC0.o.took HK1.o fun _ h=>W6 (by omega));have HA1:=hI (s1 = false -> p1.data.toList = (L.drop 0).take 1) fun e=>(HC0.o.part HK1.o e).2
 obtain ⟨kn,HKN⟩:∃ kn:Nat,Hid (kn = num p1.data.toList):=Hy;have hkn:kn < 256:=by rw [HKN.o]; exact Zd (n:=1) HK1.o.small
 go_wp2_with fail;refine (jO p1 _ (ze2 HK1.o.small (by decide))).mono ?_;rw [<- HKN.o];rintro e w3 ⟨rfl,hb⟩;have HP3:=Hi (HP2.o.carry hb);clear hb HP2;go_wp2_with fail;refine (qQ (n:=1) HP3.o.t hDH).mono ?_;rintro e w4 ⟨p2,t2,s2,rfl,hk,hta,hoff⟩;have HK2:=Hi hk;have HP4:=Hi (HP3.o.took hta hoff);clear hk hta hoff HP3;have HC2:=hI (Xv L 2 t2 s2) (HC1.o.took HK2.o fun _ h=>W6 (by omega));obtain ⟨k,HKC⟩:∃ k:Nat,Hid (k = num p2.data.toList):=Hy;have hk256:k < 256:=by rw [HKC.o]; exact Zd (n:=1) HK2.o.small
 have HHD:=hI (s2 = false -> Hd L kn k) fun e=>by
  obtain ⟨h1,h2⟩:=HC1.o.part HK2.o e;rw [HKN.o,HKC.o];exact zdE (HA1.o (HK2.o.was e)) h2 h1
 clear HC0 HC1 HA1;go_wp2_with fail;refine (jO p2 _ (ze2 HK2.o.small (by decide))).mono ?_;rw [<- HKC.o];rintro e w5 ⟨rfl,hb⟩;have HP5:=Hi (HP4.o.carry hb);clear hb HP4 HK1 HK2 HKN HKC;obtain ⟨q,HQ⟩:=hY (w5.1.size);obtain ⟨b,HBB⟩:=hY (q + 1);obtain ⟨w6,HW6⟩:=hY (w5.alloc (.cells #[.slice none 0 0,.slice none 0 0,.slice none 0 0] 48));have HR6:=hI (RS w D P H q b (.slice none 0 0) (.slice none 0 0) (.slice none 0 0) Nd.empty t2 s2 w6) (by rw [HW6.o,HBB.o,HQ.o]; exact HP5.o.start _);go_upto_region 5 with (fail)
 rw [<- HW6.o,<- HQ.o];clear HW6 HQ HP5 HBB;go_wp2_with fail
 go_loopw [17] (fun i wr=>zeW w D P H q b kn k L i wr) (fun i _=>k - (intOf i).toNat)
 case atStart=>exact ⟨0,_,_,_,_,zfp _,rfl,HR6.o,HC2.o,qp.empty,rfl,rfl,rfl,fun e=>⟨HHD.o e,rfl⟩⟩
 case round =>
  obtain ⟨j,kv,x,t,sh,hj,rfl,hrs,hco,hwd,hxl,hxv,hxc,hxx⟩:=hrel;obtain ⟨vv,HVV⟩:∃ vv:Value,Hid (vv = .slice none 0 0):=Hy;obtain ⟨cv,HCV⟩:∃ cv:Value,Hid (cv = .slice none 0 0):=Hy;have HRS:=hI (RS w D P H q b kv vv cv x t sh wr) (by rw [HVV.o,HCV.o]; exact hrs);have HCO:=Hi hco;have HWD:=Hi hwd;have HXL:=Hi hxl;have HXV:=Hi hxv;have HXC:=Hi hxc;have HXX:=Hi hxx;clear hrs hco hwd hxl hxv hxc hxx HR6 HC2 HHD;by_cases hlt:j < k
  ·have hl7:x.keys.length <= 256:=HWD.o.kl;go_upto_region 7 with (fail)
   refine wG (fun w9=>w9.cell? ⟨q,0,none⟩ = some kv) 8 (by kernel_rfl) (by kernel_rfl) (fun wa HWA=>?_);have HRA:=hI (RS w D P H q b kv vv cv x t sh wa) (by rw [HWA.o]; exact HRS.o.carry (Below.refl _ _).drew);clear HWA;have hS:wa.cell? ⟨q,0,none⟩ = some kv:=HRA.o.g.c0;refine xA9 0 19 (.pointer (some ⟨q,0,none⟩)) hS ?_;refine xG9 1 20 (kv) rfl (.inl ⟨by rfl,fun _ h=>by have c0:=h; go_simp⟩) hS ?_;refine xA9 2 21 (.func (Fn.func 153) #[] #[.pointer (some ⟨D,0,none⟩),.pointer (some ⟨H,0,none⟩)]) hS ?_;refine xJ9 3 (some 22) (fun K hK=>?_);go_simp;refine (qQ (n:=4) HRA.o.t hDH).mono ?_;rintro e wn ⟨part,t',sh',rfl,hk,hta,hoff⟩;have HTK:=Hi hk;have HRN:=Hi (HRA.o.took hta hoff);clear hk hta hoff hS HRA;have hS:wn.cell? ⟨q,0,none⟩ = some kv:=HRN.o.g.c0;refine hK.out _ _ hS ?_;clear hK K
   try simp only [Act.put,pU]
   obtain ⟨z,HZ⟩:∃ z:Nat,Hid (z = num part.data.toList):=Hy;refine xJ9 4 (some 23) (fun K hK=>?_);go_simp;refine (jO part _ (ze2 HTK.o.small (by decide))).mono ?_;rw [<- HZ.o];rintro e wm ⟨rfl,hb⟩;have HRM:=Hi (HRN.o.carry hb);clear hb hS HRN;have hS:wm.cell? ⟨q,0,none⟩ = some kv:=HRM.o.g.c0;refine hK.out _ _ hS ?_;clear hK K
   try simp only [Act.put,pU]
   refine xJ9 5 (some 24) (fun K hK=>?_);go_simp;obtain ⟨g5,HG5⟩:=hY (wm.1.size);obtain ⟨w5,HW5⟩:=hY (World.alloc wm (.cells #[.int .i64 (z:Int)] 3));rw [<- HG5.o,<- HW5.o];have HR5:=hI (RS w D P H q b kv vv cv x t' sh' w5) (by rw [HW5.o]; exact HRM.o.carry ((Below.refl _ _).alloc (ze3 _) _));have hn5:∀ (j:Nat) u,([.int .i64 (z:Int)]:List Value)[j]? = some u -> w5.cell? ((⟨g5,0,none⟩:Addr).add j) = some u:=by rw [HW5.o,HG5.o]; exact World.news_of_block (cs:=#[.int .i64 (z:Int)]) (heap_alloc_last wm _)
   clear HW5 HG5 hS HRM;have hS:w5.cell? ⟨q,0,none⟩ = some kv:=HR5.o.g.c0;refine hK.out _ _ hS ?_;clear hK K
   try simp only [Act.put,pU]
   refine zI (i:=6) rfl (by kernel_rfl) (fun K hK=>?_);refine step_append_lies _ rfl _ _ _ rfl b 3 ii _ 1 8 Tryz.underlying45 hi0 hi1 hi2 hi3 rfl (by decide) kv x.keys.length (x.keys.map (Value.int .i64)) rfl HR5.o.g.k ⟨g5,0,none⟩ 1 1 [.int .i64 (z:Int)] rfl rfl hn5 (fun u hu=>by rw [zft.1 hu]; rfl) (by decide) (by unfold maxLen; omega) (by omega) (HR5.o.g.sz) w5.1.size rfl ?_;intro gg cap w6 hown hgrow hat _;have hrowb:∀ g,kv.ownBlock = some g -> b <= g:=fun g hg=>(HR5.o.g.k.lt g hg).1
   have hrow:kv.ownBlock ≠ some q:=fun e=>by
    have:=hrowb q e;have:=HR5.o.g.qb;omega
   have hq5:q < w5.1.size:=ze1 HR5.o.g.qb HR5.o.g.sz;have hS2:w6.cell? ⟨q,0,none⟩ = some kv:=(hgrow.cell_far _ hq5 (Ne.symm hrow)).trans hS;have hfz:w6.frozen? ⟨q,0,none⟩ = false:=(hgrow.frozen_far _ hq5 (Ne.symm hrow)).trans (HR5.o.g.fz 0);have HPU:=Hi (HR5.o.g.push0 (Below.refl _ _) hgrow hown hat (ze3 _));have HFT:=Hi (HR5.o.far (Below.refl _ _) hgrow hrowb 0 (.slice (some ⟨gg,0,none⟩) (x.keys.length + 1) cap));have HRP:=hI (RS w D P H q b (.slice (some ⟨gg,0,none⟩) (x.keys.length + 1) cap) vv cv _ t' sh' _) ⟨HPU.o,HFT.o,HR5.o.lo,HR5.o.dp,HR5.o.ph,HR5.o.hq⟩;clear hown hgrow hat hrow hrowb hS hn5 hq5 HPU HFT HR5;refine hK.out _ _ hS2 ?_;clear hK K;have hS:=hS2;clear hS2
   try simp only [Act.put,zfH]
   refine za (i:=7) 26 (v:=.pointer (some ⟨q,0,none⟩)) rfl rfl hS ?_;simp only [Act.put];refine wpAnyH_done (by kernel_rfl) ?_ _;unfold wQ;simp only [zfb,zfE];go_wp2_with fail
   go_roundw
   case rel =>
    refine ⟨j + 1,_,_,_,_,hlt,by go_num,by have:=HRP.o; rw [HVV.o,HCV.o] at this; exact this,?_,HWD.o.push0 (z:=(z:Int)) ?_ ?_,?_,HXV.o,HXC.o,fun e'=>?_⟩
    ·have:=HCO.o.took HTK.o fun e hl=>by
      obtain ⟨a,c,h1,h2,h3⟩:=(HXX.o e).1;exact zaP h1 (by omega)
     rwa [show 2 + 4 * (j + 1) = 2 + 4 * j + 4 by omega]
    ·have:=Zd HTK.o.small;rw [<- HZ.o] at this;have h6:(256:Nat) ^ 4 = 4294967296:=by decide
     omega
    ·rw [HXL.o]; omega
    ·show (x.keys ++ [(z:Int)]).length = j + 1;rw [zfk,HXL.o]; rfl
    ·have e:=HTK.o.was e';obtain ⟨h1,h2⟩:=HXX.o e;refine ⟨h1,?_⟩;show x.keys ++ [(z:Int)] = _;rw [JZ,h2,HZ.o,(HCO.o.part HTK.o e').2,zfz]
   case measure=>simp [intOf]; omega
  ·obtain rfl:k = j:=by omega
   rcases (show kn = 0 \/ kn = 1 \/ (kn ≠ 0 /\ kn ≠ 1) by omega) with hk0 | hk1 | ⟨hk0,hk1⟩
   ·have hke:(kn:Int) = 0:=by omega
    have HK0:=Hi hk0;clear hk0;go_wp2_with fail;clear hke
    go_loopw [34] (fun i wr=>zeY w D P H q b kn k L kv i wr) (fun i _=>k - (intOf i).toNat)
    case atStart=>exact ⟨0,_,_,_,_,zfp _,rfl,by have:=HRS.o; rw [HCV.o] at this; exact this,HCO.o,HWD.o,by rw [HXV.o]; rfl,HXC.o,fun e=>⟨(HXX.o e).1,(HXX.o e).2,by rw [HXV.o]; rfl⟩⟩
    case round =>
     clear HRS HCO HWD HXL HXV HXC HXX HVV;obtain ⟨j,vv,x,t,sh,hj,rfl,hrs,hco,hwd,hxl,hxc,hxx⟩:=hrel;have HRS:=hI (RS w D P H q b kv vv cv x t sh wr) (by rw [HCV.o]; exact hrs);have HCO:=Hi hco;have HWD:=Hi hwd;have HXL:=Hi hxl;have HXC:=Hi hxc;have HXX:=Hi hxx;clear hrs hco hwd hxl hxc hxx;by_cases hlt:j < k
     ·have hl7:x.vals.length <= 256:=HWD.o.vl;go_upto_region 14 with (fail)
      refine wG (fun w9=>w9.cell? ⟨q,1,none⟩ = some vv) 7 (by kernel_rfl) (by kernel_rfl) (fun wa HWA=>?_);have HRA:=hI (RS w D P H q b kv vv cv x t sh wa) (by rw [HWA.o]; exact HRS.o.carry (Below.refl _ _).drew);clear HWA;have hS:wa.cell? ⟨q,1,none⟩ = some vv:=HRA.o.g.c1;refine xA9 0 36 (.pointer (some ⟨q,1,none⟩)) hS ?_;refine xG9 1 37 (vv) rfl (.inl ⟨by rfl,fun _ h=>by have c0:=h; go_simp⟩) hS ?_;refine xA9 2 38 (.func (Fn.func 153) #[] #[.pointer (some ⟨D,0,none⟩),.pointer (some ⟨H,0,none⟩)]) hS ?_;refine xJ9 3 (some 39) (fun K hK=>?_);go_simp;refine (qQ (n:=12) HRA.o.t hDH).mono ?_;rintro e wn ⟨part,t',sh',rfl,hk,hta,hoff⟩;have HTK:=Hi hk;have HRN:=Hi (HRA.o.took hta hoff);clear hk hta hoff hS HRA;have hS:wn.cell? ⟨q,1,none⟩ = some vv:=HRN.o.g.c1;refine hK.out _ _ hS ?_;clear hK K
      try simp only [Act.put,pU]
      refine xJ9 4 (some 40) (fun K hK=>?_);go_simp;obtain ⟨g5,HG5⟩:=hY (wn.1.size);obtain ⟨w5,HW5⟩:=hY (World.alloc wn (.cells #[.string part] 9));rw [<- HG5.o,<- HW5.o];have HR5:=hI (RS w D P H q b kv vv cv x t' sh' w5) (by rw [HW5.o]; exact HRN.o.carry ((Below.refl _ _).alloc (ze3 _) _));have hn5:∀ (j:Nat) u,([.string part]:List Value)[j]? = some u -> w5.cell? ((⟨g5,0,none⟩:Addr).add j) = some u:=by rw [HW5.o,HG5.o]; exact World.news_of_block (cs:=#[.string part]) (heap_alloc_last wn _)
      clear HW5 HG5 hS HRN;have hS:w5.cell? ⟨q,1,none⟩ = some vv:=HR5.o.g.c1;refine hK.out _ _ hS ?_;clear hK K
      try simp only [Act.put,pU]
      refine zI (i:=5) rfl (by kernel_rfl) (fun K hK=>?_);refine step_append_lies _ rfl _ _ _ rfl b 9 is _ 1 16 Tryz.underlying46 hs0 hs1 hs2 hs3 rfl (by decide) vv x.vals.length (x.vals.map Value.string) rfl HR5.o.g.v ⟨g5,0,none⟩ 1 1 [.string part] rfl rfl hn5 (fun u hu=>by rw [zft.1 hu]; rfl) (by decide) (by unfold maxLen; omega) (by omega) (HR5.o.g.sz) w5.1.size rfl ?_;intro gg cap w6 hown hgrow hat _;have hrowb:∀ g,vv.ownBlock = some g -> b <= g:=fun g hg=>(HR5.o.g.v.lt g hg).1
      have hrow:vv.ownBlock ≠ some q:=fun e=>by
       have:=hrowb q e;have:=HR5.o.g.qb;omega
      have hq5:q < w5.1.size:=ze1 HR5.o.g.qb HR5.o.g.sz;have hS2:w6.cell? ⟨q,1,none⟩ = some vv:=(hgrow.cell_far _ hq5 (Ne.symm hrow)).trans hS;have hfz:w6.frozen? ⟨q,1,none⟩ = false:=(hgrow.frozen_far _ hq5 (Ne.symm hrow)).trans (HR5.o.g.fz 1);have HPU:=Hi (HR5.o.g.push1 (Below.refl _ _) hgrow hown hat (ze3 _));have HFT:=Hi (HR5.o.far (Below.refl _ _) hgrow hrowb 1 (.slice (some ⟨gg,0,none⟩) (x.vals.length + 1) cap));have HRP:=hI (RS w D P H q b kv (.slice (some ⟨gg,0,none⟩) (x.vals.length + 1) cap) cv _ t' sh' _) ⟨HPU.o,HFT.o,HR5.o.lo,HR5.o.dp,HR5.o.ph,HR5.o.hq⟩;clear hown hgrow hat hrow hrowb hS hn5 hq5 HPU HFT HR5;refine hK.out _ _ hS2 ?_;clear hK K;have hS:=hS2;clear hS2
      try simp only [Act.put,zfH]
      refine za (i:=6) 42 (v:=.pointer (some ⟨q,1,none⟩)) rfl rfl hS ?_;simp only [Act.put];refine wpAnyH_done (by kernel_rfl) ?_ _;unfold wQ;simp only [zfb,zfE];go_wp2_with fail
      go_roundw
      case rel =>
       refine ⟨j + 1,_,_,_,_,hlt,by go_num,by have:=HRP.o; rw [HCV.o] at this; exact this,?_,HWD.o.push1 (v:=part) HTK.o.small ?_,?_,HXC.o,fun e'=>?_⟩
       ·have:=HCO.o.took HTK.o fun e hl=>by
         obtain ⟨a,c,h1,h2,h3⟩:=(HXX.o e).1;obtain rfl:a = 0:=UInt8.toNat_inj.1 (by show a.toNat = 0; have:=HK0.o; omega);exact Y9 h1 (by omega)
        rwa [show 2 + 4 * k + 12 * (j + 1) = 2 + 4 * k + 12 * j + 12 by omega]
       ·rw [HXL.o]; omega
       ·show (x.vals ++ [part]).length = j + 1;rw [zfk,HXL.o]; rfl
       ·have e:=HTK.o.was e';obtain ⟨h1,h2,h3⟩:=HXX.o e;refine ⟨h1,h2,?_⟩;show x.vals ++ [part] = _;have hp:=(HCO.o.part HTK.o e').2;rw [QA,h3,zfz,show 2 + (4 * k + 12 * j) = 2 + 4 * k + 12 * j by omega,<- hp]
      case measure=>simp [intOf]; omega
     ·obtain rfl:j = k:=by omega
      have HLONG:=hI (sh = false -> t.size ≠ 0 -> yg L = none) (fun e ht=>by
       obtain ⟨⟨a,c,h1,h2,h3⟩,_⟩:=HXX.o e;obtain rfl:a = 0:=UInt8.toNat_inj.1 (by show a.toNat = 0; have:=HK0.o; omega);obtain ⟨h4,h5⟩:=HCO.o.yes e;have h6:=congrArg zfu h5;rw [zfq,zfr] at h6;have h7:t.data.size = t.size:=rfl;exact Y9 h1 (by omega))
      have HFULL:=hI (sh = false -> t = ⟨#[]⟩ -> yg L = if zJ x = true then some x else none) (fun e ht=>by
       obtain ⟨⟨a,c,h1,h2,h3⟩,h8,h9⟩:=HXX.o e;obtain rfl:a = 0:=UInt8.toNat_inj.1 (by show a.toNat = 0; have:=HK0.o; omega);obtain ⟨h4,h5⟩:=HCO.o.yes e;have h6:=congrArg zfu h5;rw [zfq,zfr,ht] at h6;have h7:(⟨#[]⟩:ByteArray).data.size = 0:=rfl;have hx:x = qG true c.toNat (L.drop 2):=by
        have hc:=HXC.o;obtain ⟨keys,vals,kids⟩:=x;simp only at h8 h9 hc;rw [h8,h9,hc,h3];rfl
       rw [hx];exact Wc h1 (by decide) (by rw [h3] at h4 h6; show _ = 2 + 16 * c.toNat; omega))
      have HFA:=HFULL;have HLO:=HLONG;have HNS:=hI (sh = true -> yg L = none) HCO.o.no;have hmark:=HRS.o.t.hc;have hdata:=HRS.o.t.dc;clear HFULL HLONG HCO HXX;cases sh with
      | true =>
       have HNO0:=hI (yg L = none) (HNS.o rfl);clear HNS HFA HLO;have hbn:=Tryz.nodeNone;go_wp2_with fail;refine (xI 2 (by decide) _).mono ?_;rintro e w8 ⟨v,rfl,he,hb⟩;have HRE:=Hi (HRS.o.carry hb);have HEE:=Hi he;have HPL:=hI (P < wr.1.size) (ze1 (zfs HRS.o.g.pq HRS.o.g.qb) HRS.o.g.sz);have HWL:=hI (w.1.size <= wr.1.size) HRS.o.g.below.size;have d0:=HRE.o.g.res.c0;have d1:=HRE.o.g.res.c1;have d2:=HRE.o.g.res.c2;have f0:=HRE.o.g.fp 0;have f1:=HRE.o.g.fp 1;have f2:=HRE.o.g.fp 2;clear he hb;obtain ⟨w9,HW9⟩:=hY (((w8.setCell ⟨P,0,none⟩ (.slice none 0 0)).setCell ⟨P,1,none⟩ (.slice none 0 0)).setCell ⟨P,2,none⟩ (.slice none 0 0));have HBX9:=hI (zb w9 P zd.none_ Nd.empty) (by rw [HW9.o]; exact zb.set3 (l:=zd.none_) (x:=Nd.empty) d0 d1 d2);have HB9:=hI (Below w.1.size w w9) (by
        have hp:=HRE.o.g.lo;rw [HW9.o];exact ((HRE.o.g.below.setCell hp _).setCell hp _).setCell hp _)
       have HE9:=hI (zi w9 w.1.size 2 v) (by
        refine (HEE.o.carry (w':=w9) (by rw [HW9.o]; simp) fun i h1 _=>?_).mono HWL.o;have:=HPL.o;rw [HW9.o,World.heap_setCell_far9 _ _ _ (by show i ≠ P; omega),World.heap_setCell_far9 _ _ _ (by show i ≠ P; omega),World.heap_setCell_far9 _ _ _ (by show i ≠ P; omega)])
       have HNO:=hI (yg L = none) (HNO0.o);go_wp2_with fail;rw [<- HW9.o,HPO.o];exact bodyPost_ret (zq Tryz.ndProg rfl _ _ P zd.none_ Nd.empty v rfl rfl HBX9.o) rfl (.inl ⟨HNO.o,v,rfl,HE9.o,HB9.o⟩)
      | false =>
       by_cases ht0:t.size = 0
       case neg =>
        have htn:(t.toList == ([]:List UInt8)) = false:=by
         rw [beq_eq_false_iff_ne,ByteArray.toList_eq];intro e;have:=congrArg zfu e;rw [zfq] at this;exact ht0 this
        have HNO0:=hI (yg L = none) (HLO.o rfl ht0);clear ht0 HNS HFA HLO;have hbn:=Tryz.nodeNone;go_wp2_with fail;refine (xI 2 (by decide) _).mono ?_;rintro e w8 ⟨v,rfl,he,hb⟩;have HRE:=Hi (HRS.o.carry hb);have HEE:=Hi he;have HPL:=hI (P < wr.1.size) (ze1 (zfs HRS.o.g.pq HRS.o.g.qb) HRS.o.g.sz);have HWL:=hI (w.1.size <= wr.1.size) HRS.o.g.below.size;have d0:=HRE.o.g.res.c0;have d1:=HRE.o.g.res.c1;have d2:=HRE.o.g.res.c2;have f0:=HRE.o.g.fp 0;have f1:=HRE.o.g.fp 1;have f2:=HRE.o.g.fp 2;clear he hb;obtain ⟨w9,HW9⟩:=hY (((w8.setCell ⟨P,0,none⟩ (.slice none 0 0)).setCell ⟨P,1,none⟩ (.slice none 0 0)).setCell ⟨P,2,none⟩ (.slice none 0 0));have HBX9:=hI (zb w9 P zd.none_ Nd.empty) (by rw [HW9.o]; exact zb.set3 (l:=zd.none_) (x:=Nd.empty) d0 d1 d2);have HB9:=hI (Below w.1.size w w9) (by
         have hp:=HRE.o.g.lo;rw [HW9.o];exact ((HRE.o.g.below.setCell hp _).setCell hp _).setCell hp _)
        have HE9:=hI (zi w9 w.1.size 2 v) (by
         refine (HEE.o.carry (w':=w9) (by rw [HW9.o]; simp) fun i h1 _=>?_).mono HWL.o;have:=HPL.o;rw [HW9.o,World.heap_setCell_far9 _ _ _ (by show i ≠ P; omega),World.heap_setCell_far9 _ _ _ (by show i ≠ P; omega),World.heap_setCell_far9 _ _ _ (by show i ≠ P; omega)])
        have HNO:=hI (yg L = none) (HNO0.o);go_wp2_with fail;rw [<- HW9.o,HPO.o];exact bodyPost_ret (zq Tryz.ndProg rfl _ _ P zd.none_ Nd.empty v rfl rfl HBX9.o) rfl (.inl ⟨HNO.o,v,rfl,HE9.o,HB9.o⟩)
       case pos =>
        obtain rfl:t = ⟨#[]⟩:=by
         apply ByteArray.ext;exact Array.eq_empty_of_size_eq_zero ht0
        have HON:=Hi (HFA.o rfl rfl);clear HFA HLO HNS;obtain ⟨A,ca,rfl,hnk⟩:=va HRS.o.g.k;obtain ⟨B,cb,rfl,hnv⟩:=ZE HRS.o.g.v;obtain ⟨C,cc,rfl,hnc⟩:=va HRS.o.g.c;have HFA:=hI (∀ a,A = some a -> P ≠ a.block) (by rintro a rfl; have h1:=(HRS.o.g.k.lt a.block rfl).1; have h2:=HRS.o.g.qb; have h3:=HRS.o.g.pq; omega);have HFB:=hI (∀ a,B = some a -> P ≠ a.block) (by rintro a rfl; have h1:=(HRS.o.g.v.lt a.block rfl).1; have h2:=HRS.o.g.qb; have h3:=HRS.o.g.pq; omega);have HFC:=hI (∀ a,C = some a -> P ≠ a.block) (by rintro a rfl; have h1:=(HRS.o.g.c.lt a.block rfl).1; have h2:=HRS.o.g.qb; have h3:=HRS.o.g.pq; omega);have HBX:=hI (zb wr q ⟨A,B,C,ca,cb,cc⟩ x) ⟨HRS.o.g.c0,HRS.o.g.c1,HRS.o.g.c2⟩;have HIS:=hI (xt wr ⟨A,B,C,ca,cb,cc⟩ x) (HWD.o.is hnk hnv hnc);have HMI:=hI (zo wr w.1.size ⟨A,B,C,ca,cb,cc⟩ x) (HRS.o.g.mine HIS.o);have HNP:=hI (¬ (⟨A,B,C,ca,cb,cc⟩:zd).has P) (by
         rintro (⟨a,e,h⟩ | ⟨a,e,h⟩ | ⟨a,e,h⟩)
         ·exact HFA.o a e h.symm
         ·exact HFB.o a e h.symm
         ·exact HFC.o a e h.symm)
        clear hnk hnv hnc;obtain ⟨rr,HRX⟩:=hY (zJ x);go_wp2_with (with_reducible refine xD9 (some 65) ?_);refine zf Tryz.ndProg (by rfl) _ rfl q rfl ⟨A,B,C,ca,cb,cc⟩ x HBX.o ?_;go_wp2_with fail;refine (ke HIS.o).mono ?_;rw [<- HRX.o];rintro e w7 ⟨rfl,hb⟩;have HRS7:=Hi (HRS.o.carry hb);have HBX7:=Hi (HBX.o.carry hb HBX.o.lt);have HIS7:=Hi (HMI.o.carry hb);clear hb HBX HIS HMI hmark hdata HRS;cases rr with
        | true =>
         have d0:=HRS7.o.g.res.c0;have d1:=HRS7.o.g.res.c1;have d2:=HRS7.o.g.res.c2;have f0:=HRS7.o.g.fp 0;have f1:=HRS7.o.g.fp 1;have f2:=HRS7.o.g.fp 2;obtain ⟨w9,HW9⟩:=hY (((w7.setCell ⟨P,0,none⟩ (.slice A x.keys.length ca)).setCell ⟨P,1,none⟩ (.slice B x.vals.length cb)).setCell ⟨P,2,none⟩ (.slice C x.kids.length cc));have HBX9:=hI (zb w9 P ⟨A,B,C,ca,cb,cc⟩ x) (by rw [HW9.o]; exact zb.set3 (l:=⟨A,B,C,ca,cb,cc⟩) (x:=x) d0 d1 d2);have HIS9:=hI (zo w9 w.1.size ⟨A,B,C,ca,cb,cc⟩ x) (by rw [HW9.o]; exact ((HIS7.o.setCell HNP.o _ _).setCell HNP.o _ _).setCell HNP.o _ _);have HB9:=hI (Below w.1.size w w9) (by
          have hp:=HRS7.o.g.lo;rw [HW9.o];exact ((HRS7.o.g.below.setCell hp _).setCell hp _).setCell hp _)
         have HNO:=hI (yg L = some x) (by rw [HON.o,if_pos HRX.o.symm]);go_wp2_with (with_reducible refine xD9 (some 71) ?_);refine zf Tryz.ndProg (by rfl) _ rfl q rfl ⟨A,B,C,ca,cb,cc⟩ x HBX7.o ?_;go_wp2_with fail;rw [<- HW9.o,HPO.o];exact bodyPost_ret (zq Tryz.ndProg rfl _ _ P ⟨A,B,C,ca,cb,cc⟩ x .nilIface rfl rfl HBX9.o) rfl (.inr ⟨x,⟨A,B,C,ca,cb,cc⟩,HNO.o,rfl,HIS9.o,HB9.o⟩)
        | false =>
         have hbn:=Tryz.nodeNone;go_wp2_with fail;refine (xI 2 (by decide) _).mono ?_;rintro e w8 ⟨v,rfl,he,hb⟩;have HRE:=Hi (HRS7.o.carry hb);have HEE:=Hi he;have HPL:=hI (P < w7.1.size) (ze1 (zfs HRS7.o.g.pq HRS7.o.g.qb) HRS7.o.g.sz);have HWL:=hI (w.1.size <= w7.1.size) HRS7.o.g.below.size;have d0:=HRE.o.g.res.c0;have d1:=HRE.o.g.res.c1;have d2:=HRE.o.g.res.c2;have f0:=HRE.o.g.fp 0;have f1:=HRE.o.g.fp 1;have f2:=HRE.o.g.fp 2;clear he hb;obtain ⟨w9,HW9⟩:=hY (((w8.setCell ⟨P,0,none⟩ (.slice none 0 0)).setCell ⟨P,1,none⟩ (.slice none 0 0)).setCell ⟨P,2,none⟩ (.slice none 0 0));have HBX9:=hI (zb w9 P zd.none_ Nd.empty) (by rw [HW9.o]; exact zb.set3 (l:=zd.none_) (x:=Nd.empty) d0 d1 d2);have HB9:=hI (Below w.1.size w w9) (by
          have hp:=HRE.o.g.lo;rw [HW9.o];exact ((HRE.o.g.below.setCell hp _).setCell hp _).setCell hp _)
         have HE9:=hI (zi w9 w.1.size 2 v) (by
          refine (HEE.o.carry (w':=w9) (by rw [HW9.o]; simp) fun i h1 _=>?_).mono HWL.o;have:=HPL.o;rw [HW9.o,World.heap_setCell_far9 _ _ _ (by show i ≠ P; omega),World.heap_setCell_far9 _ _ _ (by show i ≠ P; omega),World.heap_setCell_far9 _ _ _ (by show i ≠ P; omega)])
         have HNO:=hI (yg L = none) (by rw [HON.o,if_neg (by rw [<- HRX.o]; decide)]);go_wp2_with fail;rw [<- HW9.o,HPO.o];exact bodyPost_ret (zq Tryz.ndProg rfl _ _ P zd.none_ Nd.empty v rfl rfl HBX9.o) rfl (.inl ⟨HNO.o,v,rfl,HE9.o,HB9.o⟩)
   ·have hke:¬ (kn:Int) = 0:=by omega
    have hke2:(kn:Int) = 1:=by omega
    have HK1:=Hi hk1;clear hk1;go_wp2_with fail;clear hke hke2
    go_loopw [48] (fun i wr=>zeV w D P H q b kn k L kv i wr) (fun i _=>k + 1 - (intOf i).toNat)
    case atStart=>exact ⟨0,_,_,_,_,zfp _,rfl,by have:=HRS.o; rw [HVV.o] at this; exact this,HCO.o,HWD.o,by rw [HXC.o]; rfl,HXV.o,fun e=>⟨(HXX.o e).1,(HXX.o e).2,by rw [HXC.o]; rfl⟩⟩
    case round =>
     clear HRS HCO HWD HXL HXV HXC HXX HCV;obtain ⟨j,cv,x,t,sh,hj,rfl,hrs,hco,hwd,hxl,hxv,hxx⟩:=hrel;have HRS:=hI (RS w D P H q b kv vv cv x t sh wr) (by rw [HVV.o]; exact hrs);have HCO:=Hi hco;have HWD:=Hi hwd;have HXL:=Hi hxl;have HXV:=Hi hxv;have HXX:=Hi hxx;clear hrs hco hwd hxl hxv hxx;by_cases hlt:j < k + 1
     ·have hl7:x.kids.length <= 256:=HWD.o.cl;go_upto_region 19 with (fail)
      refine wG (fun w9=>w9.cell? ⟨q,2,none⟩ = some cv) 8 (by kernel_rfl) (by kernel_rfl) (fun wa HWA=>?_);have HRA:=hI (RS w D P H q b kv vv cv x t sh wa) (by rw [HWA.o]; exact HRS.o.carry (Below.refl _ _).drew);clear HWA;have hS:wa.cell? ⟨q,2,none⟩ = some cv:=HRA.o.g.c2;refine xA9 0 50 (.pointer (some ⟨q,2,none⟩)) hS ?_;refine xG9 1 51 (cv) rfl (.inl ⟨by rfl,fun _ h=>by have c0:=h; go_simp⟩) hS ?_;refine xA9 2 52 (.func (Fn.func 153) #[] #[.pointer (some ⟨D,0,none⟩),.pointer (some ⟨H,0,none⟩)]) hS ?_;refine xJ9 3 (some 53) (fun K hK=>?_);go_simp;refine (qQ (n:=1) HRA.o.t hDH).mono ?_;rintro e wn ⟨part,t',sh',rfl,hk,hta,hoff⟩;have HTK:=Hi hk;have HRN:=Hi (HRA.o.took hta hoff);clear hk hta hoff hS HRA;have hS:wn.cell? ⟨q,2,none⟩ = some cv:=HRN.o.g.c2;refine hK.out _ _ hS ?_;clear hK K
      try simp only [Act.put,pU]
      obtain ⟨z,HZ⟩:∃ z:Nat,Hid (z = num part.data.toList):=Hy;refine xJ9 4 (some 54) (fun K hK=>?_);go_simp;refine (jO part _ (ze2 HTK.o.small (by decide))).mono ?_;rw [<- HZ.o];rintro e wm ⟨rfl,hb⟩;have HRM:=Hi (HRN.o.carry hb);clear hb hS HRN;have hS:wm.cell? ⟨q,2,none⟩ = some cv:=HRM.o.g.c2;refine hK.out _ _ hS ?_;clear hK K
      try simp only [Act.put,pU]
      refine xJ9 5 (some 55) (fun K hK=>?_);go_simp;obtain ⟨g5,HG5⟩:=hY (wm.1.size);obtain ⟨w5,HW5⟩:=hY (World.alloc wm (.cells #[.int .i64 (z:Int)] 3));rw [<- HG5.o,<- HW5.o];have HR5:=hI (RS w D P H q b kv vv cv x t' sh' w5) (by rw [HW5.o]; exact HRM.o.carry ((Below.refl _ _).alloc (ze3 _) _));have hn5:∀ (j:Nat) u,([.int .i64 (z:Int)]:List Value)[j]? = some u -> w5.cell? ((⟨g5,0,none⟩:Addr).add j) = some u:=by rw [HW5.o,HG5.o]; exact World.news_of_block (cs:=#[.int .i64 (z:Int)]) (heap_alloc_last wm _)
      clear HW5 HG5 hS HRM;have hS:w5.cell? ⟨q,2,none⟩ = some cv:=HR5.o.g.c2;refine hK.out _ _ hS ?_;clear hK K
      try simp only [Act.put,pU]
      refine zI (i:=6) rfl (by kernel_rfl) (fun K hK=>?_);refine step_append_lies _ rfl _ _ _ rfl b 3 ii _ 1 8 Tryz.underlying45 hi0 hi1 hi2 hi3 rfl (by decide) cv x.kids.length (x.kids.map (Value.int .i64)) rfl HR5.o.g.c ⟨g5,0,none⟩ 1 1 [.int .i64 (z:Int)] rfl rfl hn5 (fun u hu=>by rw [zft.1 hu]; rfl) (by decide) (by unfold maxLen; omega) (by omega) (HR5.o.g.sz) w5.1.size rfl ?_;intro gg cap w6 hown hgrow hat _;have hrowb:∀ g,cv.ownBlock = some g -> b <= g:=fun g hg=>(HR5.o.g.c.lt g hg).1
      have hrow:cv.ownBlock ≠ some q:=fun e=>by
       have:=hrowb q e;have:=HR5.o.g.qb;omega
      have hq5:q < w5.1.size:=ze1 HR5.o.g.qb HR5.o.g.sz;have hS2:w6.cell? ⟨q,2,none⟩ = some cv:=(hgrow.cell_far _ hq5 (Ne.symm hrow)).trans hS;have hfz:w6.frozen? ⟨q,2,none⟩ = false:=(hgrow.frozen_far _ hq5 (Ne.symm hrow)).trans (HR5.o.g.fz 2);have HPU:=Hi (HR5.o.g.push2 (Below.refl _ _) hgrow hown hat (ze3 _));have HFT:=Hi (HR5.o.far (Below.refl _ _) hgrow hrowb 2 (.slice (some ⟨gg,0,none⟩) (x.kids.length + 1) cap));have HRP:=hI (RS w D P H q b kv vv (.slice (some ⟨gg,0,none⟩) (x.kids.length + 1) cap) _ t' sh' _) ⟨HPU.o,HFT.o,HR5.o.lo,HR5.o.dp,HR5.o.ph,HR5.o.hq⟩;clear hown hgrow hat hrow hrowb hS hn5 hq5 HPU HFT HR5;refine hK.out _ _ hS2 ?_;clear hK K;have hS:=hS2;clear hS2
      try simp only [Act.put,zfH]
      refine za (i:=7) 57 (v:=.pointer (some ⟨q,2,none⟩)) rfl rfl hS ?_;simp only [Act.put];refine wpAnyH_done (by kernel_rfl) ?_ _;unfold wQ;simp only [zfb,zfE];go_wp2_with fail
      go_roundw
      case rel =>
       refine ⟨j + 1,_,_,_,_,by omega,by go_num,by have:=HRP.o; rw [HVV.o] at this; exact this,?_,HWD.o.push2 (z:=(z:Int)) ?_ ?_,?_,HXV.o,fun e'=>?_⟩
       ·have:=HCO.o.took HTK.o fun e hl=>by
         obtain ⟨a,c,h1,h2,h3⟩:=(HXX.o e).1;obtain rfl:a = 1:=UInt8.toNat_inj.1 (by show a.toNat = 1; have:=HK1.o; omega);exact Yk h1 (by omega)
        rwa [show 2 + 4 * k + (j + 1) = 2 + 4 * k + j + 1 by omega]
       ·have:=Zd HTK.o.small;rw [<- HZ.o] at this;have h6:(256:Nat) ^ 1 = 256:=by decide
        omega
       ·rw [HXL.o]; omega
       ·show (x.kids ++ [(z:Int)]).length = j + 1;rw [zfk,HXL.o]; rfl
       ·have e:=HTK.o.was e';obtain ⟨h1,h2,h3⟩:=HXX.o e;refine ⟨h1,h2,?_⟩;show x.kids ++ [(z:Int)] = _;obtain ⟨hpl,hp⟩:=HCO.o.part HTK.o e';rw [zaB (part:=part) (by rw [zfr,zfr]; omega) (by rw [hp,zfz,zfz]; congr 2; omega),h3,HZ.o]
      case measure=>simp [intOf]; omega
     ·obtain rfl:j = k + 1:=by omega
      have HLONG:=hI (sh = false -> t.size ≠ 0 -> yg L = none) (fun e ht=>by
       obtain ⟨⟨a,c,h1,h2,h3⟩,_⟩:=HXX.o e;obtain rfl:a = 1:=UInt8.toNat_inj.1 (by show a.toNat = 1; have:=HK1.o; omega);obtain ⟨h4,h5⟩:=HCO.o.yes e;have h6:=congrArg zfu h5;rw [zfq,zfr] at h6;have h7:t.data.size = t.size:=rfl;exact Yk h1 (by omega))
      have HFULL:=hI (sh = false -> t = ⟨#[]⟩ -> yg L = if zJ x = true then some x else none) (fun e ht=>by
       obtain ⟨⟨a,c,h1,h2,h3⟩,h8,h9⟩:=HXX.o e;obtain rfl:a = 1:=UInt8.toNat_inj.1 (by show a.toNat = 1; have:=HK1.o; omega);obtain ⟨h4,h5⟩:=HCO.o.yes e;have h6:=congrArg zfu h5;rw [zfq,zfr,ht] at h6;have h7:(⟨#[]⟩:ByteArray).data.size = 0:=rfl;have hx:x = qG false c.toNat (L.drop 2):=by
        have hc:=HXV.o;obtain ⟨keys,vals,kids⟩:=x;simp only at h8 h9 hc;rw [zfG (by rw [zfr,zfr]; omega)] at h9;rw [h8,h9,hc,h3];rfl
       rw [hx];exact Wc h1 (by decide) (by rw [h3] at h4 h6; show _ = 3 + 5 * c.toNat; omega))
      have HFA:=HFULL;have HLO:=HLONG;have HNS:=hI (sh = true -> yg L = none) HCO.o.no;have hmark:=HRS.o.t.hc;have hdata:=HRS.o.t.dc;clear HFULL HLONG HCO HXX;cases sh with
      | true =>
       have HNO0:=hI (yg L = none) (HNS.o rfl);clear HNS HFA HLO;have hbn:=Tryz.nodeNone;go_wp2_with fail;refine (xI 2 (by decide) _).mono ?_;rintro e w8 ⟨v,rfl,he,hb⟩;have HRE:=Hi (HRS.o.carry hb);have HEE:=Hi he;have HPL:=hI (P < wr.1.size) (ze1 (zfs HRS.o.g.pq HRS.o.g.qb) HRS.o.g.sz);have HWL:=hI (w.1.size <= wr.1.size) HRS.o.g.below.size;have d0:=HRE.o.g.res.c0;have d1:=HRE.o.g.res.c1;have d2:=HRE.o.g.res.c2;have f0:=HRE.o.g.fp 0;have f1:=HRE.o.g.fp 1;have f2:=HRE.o.g.fp 2;clear he hb;obtain ⟨w9,HW9⟩:=hY (((w8.setCell ⟨P,0,none⟩ (.slice none 0 0)).setCell ⟨P,1,none⟩ (.slice none 0 0)).setCell ⟨P,2,none⟩ (.slice none 0 0));have HBX9:=hI (zb w9 P zd.none_ Nd.empty) (by rw [HW9.o]; exact zb.set3 (l:=zd.none_) (x:=Nd.empty) d0 d1 d2);have HB9:=hI (Below w.1.size w w9) (by
        have hp:=HRE.o.g.lo;rw [HW9.o];exact ((HRE.o.g.below.setCell hp _).setCell hp _).setCell hp _)
       have HE9:=hI (zi w9 w.1.size 2 v) (by
        refine (HEE.o.carry (w':=w9) (by rw [HW9.o]; simp) fun i h1 _=>?_).mono HWL.o;have:=HPL.o;rw [HW9.o,World.heap_setCell_far9 _ _ _ (by show i ≠ P; omega),World.heap_setCell_far9 _ _ _ (by show i ≠ P; omega),World.heap_setCell_far9 _ _ _ (by show i ≠ P; omega)])
       have HNO:=hI (yg L = none) (HNO0.o);go_wp2_with fail;rw [<- HW9.o,HPO.o];exact bodyPost_ret (zq Tryz.ndProg rfl _ _ P zd.none_ Nd.empty v rfl rfl HBX9.o) rfl (.inl ⟨HNO.o,v,rfl,HE9.o,HB9.o⟩)
      | false =>
       by_cases ht0:t.size = 0
       case neg =>
        have htn:(t.toList == ([]:List UInt8)) = false:=by
         rw [beq_eq_false_iff_ne,ByteArray.toList_eq];intro e;have:=congrArg zfu e;rw [zfq] at this;exact ht0 this
        have HNO0:=hI (yg L = none) (HLO.o rfl ht0);clear ht0 HNS HFA HLO;have hbn:=Tryz.nodeNone;go_wp2_with fail;refine (xI 2 (by decide) _).mono ?_;rintro e w8 ⟨v,rfl,he,hb⟩;have HRE:=Hi (HRS.o.carry hb);have HEE:=Hi he;have HPL:=hI (P < wr.1.size) (ze1 (zfs HRS.o.g.pq HRS.o.g.qb) HRS.o.g.sz);have HWL:=hI (w.1.size <= wr.1.size) HRS.o.g.below.size;have d0:=HRE.o.g.res.c0;have d1:=HRE.o.g.res.c1;have d2:=HRE.o.g.res.c2;have f0:=HRE.o.g.fp 0;have f1:=HRE.o.g.fp 1;have f2:=HRE.o.g.fp 2;clear he hb;obtain ⟨w9,HW9⟩:=hY (((w8.setCell ⟨P,0,none⟩ (.slice none 0 0)).setCell ⟨P,1,none⟩ (.slice none 0 0)).setCell ⟨P,2,none⟩ (.slice none 0 0));have HBX9:=hI (zb w9 P zd.none_ Nd.empty) (by rw [HW9.o]; exact zb.set3 (l:=zd.none_) (x:=Nd.empty) d0 d1 d2);have HB9:=hI (Below w.1.size w w9) (by
         have hp:=HRE.o.g.lo;rw [HW9.o];exact ((HRE.o.g.below.setCell hp _).setCell hp _).setCell hp _)
        have HE9:=hI (zi w9 w.1.size 2 v) (by
         refine (HEE.o.carry (w':=w9) (by rw [HW9.o]; simp) fun i h1 _=>?_).mono HWL.o;have:=HPL.o;rw [HW9.o,World.heap_setCell_far9 _ _ _ (by show i ≠ P; omega),World.heap_setCell_far9 _ _ _ (by show i ≠ P; omega),World.heap_setCell_far9 _ _ _ (by show i ≠ P; omega)])
        have HNO:=hI (yg L = none) (HNO0.o);go_wp2_with fail;rw [<- HW9.o,HPO.o];exact bodyPost_ret (zq Tryz.ndProg rfl _ _ P zd.none_ Nd.empty v rfl rfl HBX9.o) rfl (.inl ⟨HNO.o,v,rfl,HE9.o,HB9.o⟩)
       case pos =>
        obtain rfl:t = ⟨#[]⟩:=by
         apply ByteArray.ext;exact Array.eq_empty_of_size_eq_zero ht0
        have HON:=Hi (HFA.o rfl rfl);clear HFA HLO HNS;obtain ⟨A,ca,rfl,hnk⟩:=va HRS.o.g.k;obtain ⟨B,cb,rfl,hnv⟩:=ZE HRS.o.g.v;obtain ⟨C,cc,rfl,hnc⟩:=va HRS.o.g.c;have HFA:=hI (∀ a,A = some a -> P ≠ a.block) (by rintro a rfl; have h1:=(HRS.o.g.k.lt a.block rfl).1; have h2:=HRS.o.g.qb; have h3:=HRS.o.g.pq; omega);have HFB:=hI (∀ a,B = some a -> P ≠ a.block) (by rintro a rfl; have h1:=(HRS.o.g.v.lt a.block rfl).1; have h2:=HRS.o.g.qb; have h3:=HRS.o.g.pq; omega);have HFC:=hI (∀ a,C = some a -> P ≠ a.block) (by rintro a rfl; have h1:=(HRS.o.g.c.lt a.block rfl).1; have h2:=HRS.o.g.qb; have h3:=HRS.o.g.pq; omega);have HBX:=hI (zb wr q ⟨A,B,C,ca,cb,cc⟩ x) ⟨HRS.o.g.c0,HRS.o.g.c1,HRS.o.g.c2⟩;have HIS:=hI (xt wr ⟨A,B,C,ca,cb,cc⟩ x) (HWD.o.is hnk hnv hnc);have HMI:=hI (zo wr w.1.size ⟨A,B,C,ca,cb,cc⟩ x) (HRS.o.g.mine HIS.o);have HNP:=hI (¬ (⟨A,B,C,ca,cb,cc⟩:zd).has P) (by
         rintro (⟨a,e,h⟩ | ⟨a,e,h⟩ | ⟨a,e,h⟩)
         ·exact HFA.o a e h.symm
         ·exact HFB.o a e h.symm
         ·exact HFC.o a e h.symm)
        clear hnk hnv hnc;obtain ⟨rr,HRX⟩:=hY (zJ x);go_wp2_with (with_reducible refine xD9 (some 65) ?_);refine zf Tryz.ndProg (by rfl) _ rfl q rfl ⟨A,B,C,ca,cb,cc⟩ x HBX.o ?_;go_wp2_with fail;refine (ke HIS.o).mono ?_;rw [<- HRX.o];rintro e w7 ⟨rfl,hb⟩;have HRS7:=Hi (HRS.o.carry hb);have HBX7:=Hi (HBX.o.carry hb HBX.o.lt);have HIS7:=Hi (HMI.o.carry hb);clear hb HBX HIS HMI hmark hdata HRS;cases rr with
        | true =>
         have d0:=HRS7.o.g.res.c0;have d1:=HRS7.o.g.res.c1;have d2:=HRS7.o.g.res.c2;have f0:=HRS7.o.g.fp 0;have f1:=HRS7.o.g.fp 1;have f2:=HRS7.o.g.fp 2;obtain ⟨w9,HW9⟩:=hY (((w7.setCell ⟨P,0,none⟩ (.slice A x.keys.length ca)).setCell ⟨P,1,none⟩ (.slice B x.vals.length cb)).setCell ⟨P,2,none⟩ (.slice C x.kids.length cc));have HBX9:=hI (zb w9 P ⟨A,B,C,ca,cb,cc⟩ x) (by rw [HW9.o]; exact zb.set3 (l:=⟨A,B,C,ca,cb,cc⟩) (x:=x) d0 d1 d2);have HIS9:=hI (zo w9 w.1.size ⟨A,B,C,ca,cb,cc⟩ x) (by rw [HW9.o]; exact ((HIS7.o.setCell HNP.o _ _).setCell HNP.o _ _).setCell HNP.o _ _);have HB9:=hI (Below w.1.size w w9) (by
          have hp:=HRS7.o.g.lo;rw [HW9.o];exact ((HRS7.o.g.below.setCell hp _).setCell hp _).setCell hp _)
         have HNO:=hI (yg L = some x) (by rw [HON.o,if_pos HRX.o.symm]);go_wp2_with (with_reducible refine xD9 (some 71) ?_);refine zf Tryz.ndProg (by rfl) _ rfl q rfl ⟨A,B,C,ca,cb,cc⟩ x HBX7.o ?_;go_wp2_with fail;rw [<- HW9.o,HPO.o];exact bodyPost_ret (zq Tryz.ndProg rfl _ _ P ⟨A,B,C,ca,cb,cc⟩ x .nilIface rfl rfl HBX9.o) rfl (.inr ⟨x,⟨A,B,C,ca,cb,cc⟩,HNO.o,rfl,HIS9.o,HB9.o⟩)
        | false =>
         have hbn:=Tryz.nodeNone;go_wp2_with fail;refine (xI 2 (by decide) _).mono ?_;rintro e w8 ⟨v,rfl,he,hb⟩;have HRE:=Hi (HRS7.o.carry hb);have HEE:=Hi he;have HPL:=hI (P < w7.1.size) (ze1 (zfs HRS7.o.g.pq HRS7.o.g.qb) HRS7.o.g.sz);have HWL:=hI (w.1.size <= w7.1.size) HRS7.o.g.below.size;have d0:=HRE.o.g.res.c0;have d1:=HRE.o.g.res.c1;have d2:=HRE.o.g.res.c2;have f0:=HRE.o.g.fp 0;have f1:=HRE.o.g.fp 1;have f2:=HRE.o.g.fp 2;clear he hb;obtain ⟨w9,HW9⟩:=hY (((w8.setCell ⟨P,0,none⟩ (.slice none 0 0)).setCell ⟨P,1,none⟩ (.slice none 0 0)).setCell ⟨P,2,none⟩ (.slice none 0 0));have HBX9:=hI (zb w9 P zd.none_ Nd.empty) (by rw [HW9.o]; exact zb.set3 (l:=zd.none_) (x:=Nd.empty) d0 d1 d2);have HB9:=hI (Below w.1.size w w9) (by
          have hp:=HRE.o.g.lo;rw [HW9.o];exact ((HRE.o.g.below.setCell hp _).setCell hp _).setCell hp _)
         have HE9:=hI (zi w9 w.1.size 2 v) (by
          refine (HEE.o.carry (w':=w9) (by rw [HW9.o]; simp) fun i h1 _=>?_).mono HWL.o;have:=HPL.o;rw [HW9.o,World.heap_setCell_far9 _ _ _ (by show i ≠ P; omega),World.heap_setCell_far9 _ _ _ (by show i ≠ P; omega),World.heap_setCell_far9 _ _ _ (by show i ≠ P; omega)])
         have HNO:=hI (yg L = none) (by rw [HON.o,if_neg (by rw [<- HRX.o]; decide)]);go_wp2_with fail;rw [<- HW9.o,HPO.o];exact bodyPost_ret (zq Tryz.ndProg rfl _ _ P zd.none_ Nd.empty v rfl rfl HBX9.o) rfl (.inl ⟨HNO.o,v,rfl,HE9.o,HB9.o⟩)
   ·have hbn:=Tryz.nodeNone;have hke:¬ (kn:Int) = 0:=by omega
    have hke2:¬ (kn:Int) = 1:=by omega
    have HNO2:=hI (yg L = none) (by
     cases sh with
     | true=>exact HCO.o.no rfl
     | false =>
      obtain ⟨a,c,h1,h2,h3⟩:=(HXX.o rfl).1;exact Qd h1 (by omega) (by omega))
    go_wp2_with fail;refine (xI 2 (by decide) _).mono ?_;rintro e w8 ⟨v,rfl,he,hb⟩;have HRE:=Hi (HRS.o.carry hb);have HEE:=Hi he;have HPL:=hI (P < wr.1.size) (ze1 (zfs HRS.o.g.pq HRS.o.g.qb) HRS.o.g.sz);have HWL:=hI (w.1.size <= wr.1.size) HRS.o.g.below.size;have d0:=HRE.o.g.res.c0;have d1:=HRE.o.g.res.c1;have d2:=HRE.o.g.res.c2;have f0:=HRE.o.g.fp 0;have f1:=HRE.o.g.fp 1;have f2:=HRE.o.g.fp 2;clear he hb;obtain ⟨w9,HW9⟩:=hY (((w8.setCell ⟨P,0,none⟩ (.slice none 0 0)).setCell ⟨P,1,none⟩ (.slice none 0 0)).setCell ⟨P,2,none⟩ (.slice none 0 0));have HBX9:=hI (zb w9 P zd.none_ Nd.empty) (by rw [HW9.o]; exact zb.set3 (l:=zd.none_) (x:=Nd.empty) d0 d1 d2);have HB9:=hI (Below w.1.size w w9) (by
     have hp:=HRE.o.g.lo;rw [HW9.o];exact ((HRE.o.g.below.setCell hp _).setCell hp _).setCell hp _)
    have HE9:=hI (zi w9 w.1.size 2 v) (by
     refine (HEE.o.carry (w':=w9) (by rw [HW9.o]; simp) fun i h1 _=>?_).mono HWL.o;have:=HPL.o;rw [HW9.o,World.heap_setCell_far9 _ _ _ (by show i ≠ P; omega),World.heap_setCell_far9 _ _ _ (by show i ≠ P; omega),World.heap_setCell_far9 _ _ _ (by show i ≠ P; omega)])
    have HNO:=hI (yg L = none) (HNO2.o);go_wp2_with fail;rw [<- HW9.o,HPO.o];exact bodyPost_ret (zq Tryz.ndProg rfl _ _ P zd.none_ Nd.empty v rfl rfl HBX9.o) rfl (.inl ⟨HNO.o,v,rfl,HE9.o,HB9.o⟩)
end
section
open Go.RowKit
theorem YI (n:Nat):be 1 n = [UInt8.ofNat n]:=by simp [be]
theorem zeh {w:World} {l:zd} {x:Nd} (h:xt w l x) (hr:zJ x = false):Calls Tryz.prog 29 #[ndV l x] w fun e w'=>∃ v,e = .returned (.tuple #[.string ⟨#[]⟩,v]) /\ zi w' w.1.size 1 v /\ Below w.1.size w w':=by
 obtain ⟨A,B,C,ca,cb,cc⟩:=l;obtain ⟨p,HP⟩:=hY (w.1.size);obtain ⟨w1,HW⟩:=hY (w.alloc (.cells #[.slice A x.keys.length ca,.slice B x.vals.length cb,.slice C x.kids.length cc] 48));have HS:=hI (Xu w p ⟨A,B,C,ca,cb,cc⟩ x w1) (by
  rw [HW.o,HP.o];exact ⟨zb.new (l:=⟨A,B,C,ca,cb,cc⟩) (x:=x) _,(Below.refl _ _).alloc (ze3 _) _⟩)
 have HN:=Hi (h.carry HS.o.below);have HR:=Hi hr;clear h hr
 go_enter Tryz.func29,Tryz.ntmps29
 go_upto_region 1 with (fail)
 rw [<- HW.o,<- HP.o];go_wp2_with (with_reducible refine xD9 (some 12) ?_);refine zf Tryz.ndProg (by rfl) _ rfl p rfl ⟨A,B,C,ca,cb,cc⟩ x HS.o.a ?_;go_wp2_with fail;refine (ke HN.o).mono ?_;rw [HR.o];rintro e w2 ⟨rfl,hb⟩;have HB2:=Hi (HS.o.below.trans (hb.mono HS.o.below.size));clear hb;go_wp2_with fail;refine (xI 1 (by decide) _).mono ?_;rintro e w' ⟨v,rfl,he,hb⟩;have HE:=Hi (he.mono HB2.o.size);have HB:=Hi (HB2.o.trans (hb.mono HB2.o.size));clear he hb;go_wp2_with fail
 go_ret2
 exact ⟨_,rfl,HE.o,HB.o⟩
theorem zdg {w:World} {l:zd} {x:Nd} (h:xt w l x) (hr:zJ x = true):Calls Tryz.prog 29 #[ndV l x] w fun e w'=>e = .returned (.tuple #[.string ⟨(vP x).toArray⟩,.nilIface]) /\ Below w.1.size w w':=by
 obtain ⟨A,B,C,ca,cb,cc⟩:=l;obtain ⟨T,HTT⟩:∃ T:List UInt8,Hid (T = vP x):=Hy;rw [<- HTT.o];obtain ⟨p,HP⟩:=hY (w.1.size);obtain ⟨w1,HW⟩:=hY (w.alloc (.cells #[.slice A x.keys.length ca,.slice B x.vals.length cb,.slice C x.kids.length cc] 48));have HS:=hI (Xu w p ⟨A,B,C,ca,cb,cc⟩ x w1) (by
  rw [HW.o,HP.o];exact ⟨zb.new (l:=⟨A,B,C,ca,cb,cc⟩) (x:=x) _,(Below.refl _ _).alloc (ze3 _) _⟩)
 have HN:=Hi h;have HFW:=Hi (zaS hr);have HRT:=Hi hr;obtain ⟨n,HNN⟩:=hY (x.keys.length);obtain ⟨m,HMM⟩:=hY (x.vals.length);obtain ⟨n2,HN2⟩:=hY (x.kids.length);have hn7:n <= 7:=by rw [HNN.o]; exact HFW.o.keys
 have hm7:m <= 7:=by rw [HMM.o]; exact HFW.o.vals
 have hk8:n2 <= 8:=by rw [HN2.o]; exact HFW.o.kids
 clear h hr
 go_enter Tryz.func29,Tryz.ntmps29
 go_upto_region 1 with (fail)
 rw [<- HW.o,<- HP.o];clear HW HP;go_wp2_with (with_reducible refine xD9 (some 12) ?_);refine zf Tryz.ndProg (by rfl) _ rfl p rfl ⟨A,B,C,ca,cb,cc⟩ x HS.o.a ?_;go_wp2_with fail;refine (ke (HN.o.carry HS.o.below)).mono ?_;rw [HRT.o];rintro e w2 ⟨rfl,hb⟩;have HS2:=Hi (HS.o.carry hb);clear hb HS;go_upto_region 4 with (fail)
 go_wp2_with (with_reducible refine xD9 (some 16) ?_);refine zf Tryz.ndProg (by rfl) _ rfl p rfl ⟨A,B,C,ca,cb,cc⟩ x HS2.o.a ?_;go_wp2_with fail;refine (wR (l:=⟨A,B,C,ca,cb,cc⟩) x).mono ?_;rw [<- HN2.o];obtain ⟨kd,HKD⟩:∃ kd:Nat,Hid (kd = if n2 = 0 then 0 else 1):=Hy;have HT0:=hI (vP x = be 1 kd ++ be 1 n ++ (ww x.keys ++ xK x.vals ++ vF x.kids)) (by
  rw [HKD.o,HNN.o,YI,YI];unfold vP;rw [<- HN2.o];by_cases h0:n2 = 0
  ·simp [h0]
  ·simp [h0])
 have hkd:kd < 256 ^ 1:=by rw [HKD.o]; split <;> omega
 have hn256:n < 256 ^ 1:=by omega
 obtain ⟨lb,HLB⟩:=hY (decide (n2 = 0));rw [<- HLB.o];rintro e w3 ⟨rfl,hb⟩;have HS3:=Hi (HS2.o.carry hb);clear hb
 go_upto_if 18 with (fail)
 go_cut [4] (fun s4 wx=>s4 = .int .i64 (kd:Int) /\ w3 = wx)
 case first =>
  cases lb with
  | true =>
   have HK0:=hI (kd = 0) (by rw [HKD.o,if_pos (of_decide_eq_true HLB.o.symm)]);go_wp2_with fail
   go_meet
   exact ⟨by rw [HK0.o]; rfl,rfl⟩
  | false =>
   have HK0:=hI (kd = 1) (by rw [HKD.o,if_neg (of_decide_eq_false HLB.o.symm)]);go_wp2_with fail
   go_meet
   exact ⟨by rw [HK0.o]; rfl,rfl⟩
 case rest =>
  obtain ⟨rfl,rfl⟩:=hcut;clear HLB HKD;go_upto_region 6 with (fail)
  obtain ⟨hd,HHD⟩:∃ hd:List UInt8,Hid (hd = be 1 kd ++ be 1 n):=Hy;obtain ⟨t1,HT1⟩:∃ t1:ByteArray,Hid (t1 = ⟨(be 1 kd).toArray⟩):=Hy;obtain ⟨t2,HT2⟩:∃ t2:ByteArray,Hid (t2 = ⟨(be 1 n).toArray⟩):=Hy;obtain ⟨sh,HSH⟩:∃ sh:ByteArray,Hid (sh = ⟨hd.toArray⟩):=Hy;have hcat0:∀ w,(Op.stringOp .add t1 t2).run Tryz.prog w = .ok (.string sh) w:=fun w=>by
   have e1:t1.size = 1:=by rw [HT1.o]; exact yF 1 kd
   have e2:t2.size = 1:=by rw [HT2.o]; exact yF 1 n
   have:=run_string_add_sum (P:=Tryz.prog) w t1 t2 (by omega);rw [this,HSH.o,HT1.o,HT2.o,Xp,<- HHD.o]
  have HT:=hI (T = hd ++ (ww x.keys ++ xK x.vals ++ vF x.kids)) (by rw [HTT.o,HT0.o,HHD.o]);have HDL:=hI (hd.length = 2) (by rw [HHD.o,zfk,yF,yF]);go_cut [5] (fun s5 wx=>s5 = .string sh /\ Hid (Xu w p ⟨A,B,C,ca,cb,cc⟩ x wx))
  case first =>
   refine wp_region_held (S:=Xu w p ⟨A,B,C,ca,cb,cc⟩ x) (by kernel_rfl) ?_;change wpAnyH _ _ _ _ _ _ _ _ w3.drew;obtain ⟨wa,HWA⟩:=hY (w3.drew);rw [<- HWA.o];have hS:Xu w p ⟨A,B,C,ca,cb,cc⟩ x wa:=by rw [HWA.o]; exact HS3.o.carry (Below.refl _ _).drew
   clear HWA HS3;refine xA9 0 19 (.int .i64 (kd:Int)) hS ?_;refine xA9 2 21 (.pointer (some ⟨p,0,none⟩)) hS ?_;refine xG9 3 22 (.slice A n ca) rfl (.inl ⟨by rfl,fun _ h=>by have c0:=h.a.c0; rw [<- HNN.o] at c0; go_simp⟩) hS ?_;refine xA9 4 23 (.int .i64 (n:Int)) hS ?_;refine xJ9 1 (some 20) (fun K hK=>?_);go_simp;refine (jJ 1 kd _ (by decide) (by decide) hkd).mono ?_;rw [<- HT1.o];rintro e wn ⟨rfl,hb⟩;have hS2:=hS.carry hb;clear hb hS;refine hK.out _ _ hS2 ?_;clear hK K;have hS:=hS2;clear hS2
   try simp only [Act.put,pU]
   refine xJ9 5 (some 24) (fun K hK=>?_);go_simp;refine (jJ 1 n _ (by decide) (by decide) hn256).mono ?_;rw [<- HT2.o];rintro e wn ⟨rfl,hb⟩;have hS2:=hS.carry hb;clear hb hS;refine hK.out _ _ hS2 ?_;clear hK K;have hS:=hS2;clear hS2
   try simp only [Act.put,pU]
   refine xA9 6 25 (.string sh) hS ?_;refine xA9 7 5 (.string sh) hS ?_;refine wpAnyH_done (by kernel_rfl) ?_ _;go_wp2_with fail
   go_meet
   exact ⟨rfl,Hi hS⟩
  case rest =>
   obtain ⟨rfl,HSA⟩:=hcut;clear HS3 HT1 HT2 hcat0 HTT HT0 HS2 hkd hn256;have p0:wc.cell? ⟨p,0,none⟩ = some (.slice A x.keys.length ca):=HSA.o.a.c0;rw [<- HNN.o] at p0;have HKT0:=HSH;go_wp2_with fail
   go_loopw [5,29] (fun s i wr=>zee w p ⟨A,B,C,ca,cb,cc⟩ x hd s i wr) (fun _ i _=>n - (intOf i).toNat)
   case atStart=>exact ⟨0,zfp _,rfl,by rw [HSH.o]; simp [ww],HSA.o⟩
   case round =>
    obtain ⟨k,hk,rfl,rfl,hs⟩:=hrel;have HSR:=Hi hs;rw [<- HNN.o] at hk;clear hs HSA;have p0:wr.cell? ⟨p,0,none⟩ = some (.slice A x.keys.length ca):=HSR.o.a.c0;rw [<- HNN.o] at p0;obtain ⟨s,HST⟩:∃ s:ByteArray,Hid (s = ⟨(hd ++ ww (x.keys.take k)).toArray⟩):=Hy;have hsz:s.size <= 30:=by
     rw [HST.o];show (hd ++ ww (x.keys.take k)).length <= 30;rw [zfk,HDL.o,vt,List.length_take];omega
    rw [<- HST.o];by_cases hlt:k < n
    ·have hk1:k < x.keys.length:=by have:=HNN.o; omega
     obtain ⟨a,rfl,hc⟩:=yf (HN.o.carry HSR.o.below).keys hk1;obtain ⟨z,HZ,hz⟩:=HFW.o.key _ (zfn hk1);have HZZ:=Hi HZ;rw [HZ] at hc;clear HZ;go_wp2_with fail;refine (jJ 4 z _ (by decide) (by decide) hz).mono ?_;rintro e w5 ⟨rfl,hb⟩;have HS5:=Hi (HSR.o.carry hb);obtain ⟨t,HTX⟩:∃ t:ByteArray,Hid (t = ⟨(be 4 z).toArray⟩):=Hy;have htz:t.size = 4:=by rw [HTX.o]; exact yF 4 z
     have hcat:∀ w,(Op.stringOp .add s t).run Tryz.prog w = .ok (.string (s ++ t)) w:=fun w=>run_string_add_sum w _ _ (by omega)
     rw [<- HTX.o];clear hb HSR p0 hc;go_wp2_with fail
     go_roundw
     case rel =>
      refine ⟨k + 1,hk1,by go_num,?_,HS5.o⟩;rw [HST.o,HTX.o,Xp,JY hk1,HZZ.o,Int.toNat_natCast,zfA]
     case measure=>simp [intOf]; omega
    ·obtain rfl:k = n:=by omega
     have HKT:=hI (s = ⟨(hd ++ ww x.keys).toArray⟩) (by rw [HST.o,HNN.o,zfw]);obtain ⟨h2,HH2⟩:∃ h2:List UInt8,Hid (h2 = hd ++ ww x.keys):=Hy;have HL2:=hI (h2.length <= 30) (by rw [HH2.o,zfk,HDL.o,vt,<- HNN.o]; omega);rw [<- HH2.o] at HKT;have HTK:=hI (T = h2 ++ (xK x.vals ++ vF x.kids)) (by simp only [HT.o,HH2.o,zfA]);clear HST HT;have p1:wr.cell? ⟨p,1,none⟩ = some (.slice B x.vals.length cb):=HSR.o.a.c1;rw [<- HMM.o] at p1;go_wp2_with fail;clear p0
     go_loopw [5,41] (fun s i wr=>zej w p ⟨A,B,C,ca,cb,cc⟩ x h2 s i wr) (fun _ i _=>m - (intOf i).toNat)
     case atStart=>exact ⟨0,zfp _,rfl,by rw [HKT.o]; simp [xK],HSR.o⟩
     case round =>
      obtain ⟨k,hk,rfl,rfl,hs⟩:=hrel;have HSV:=Hi hs;rw [<- HMM.o] at hk;clear hs HSR HKT hsz;have p1:wr.cell? ⟨p,1,none⟩ = some (.slice B x.vals.length cb):=HSV.o.a.c1;rw [<- HMM.o] at p1;obtain ⟨s,HST⟩:∃ s:ByteArray,Hid (s = ⟨(h2 ++ xK (x.vals.take k)).toArray⟩):=Hy;have hsz:s.size <= 114:=by
       rw [HST.o];show (h2 ++ xK (x.vals.take k)).length <= 114;have:=HL2.o;have:=HFW.o.val_len k;rw [zfk];omega
      rw [<- HST.o];by_cases hlt2:k < m
      ·have hk1:k < x.vals.length:=by have:=HMM.o; omega
       obtain ⟨a,rfl,hc⟩:=Zf (HN.o.carry HSV.o.below).vals hk1;have hv12:=HFW.o.val _ (zfn hk1);obtain ⟨v,HV⟩:=hY (x.vals[k]);rw [<- HV.o] at hc hv12;have hcat:∀ w,(Op.stringOp .add s v).run Tryz.prog w = .ok (.string (s ++ v)) w:=fun w=>run_string_add_sum w _ _ (by omega)
       go_wp2_with fail
       go_roundw
       case rel =>
        refine ⟨k + 1,hk1,by go_num,?_,HSV.o⟩;rw [HST.o,zam,Qz hk1,<- HV.o,zfA]
       case measure=>simp [intOf]; omega
      ·obtain rfl:k = m:=by omega
       have HKT:=hI (s = ⟨(h2 ++ xK x.vals).toArray⟩) (by rw [HST.o,HMM.o,zfw]);obtain ⟨h3,HH3⟩:∃ h3:List UInt8,Hid (h3 = h2 ++ xK x.vals):=Hy;have HL3:=hI (h3.length <= 114) (by
        have:=HL2.o;have:=HFW.o.val_len x.vals.length;rw [zfw] at this;rw [HH3.o,zfk];omega)
       rw [<- HH3.o] at HKT;have HTV:=hI (T = h3 ++ vF x.kids) (by rw [HTK.o,HH3.o,zfA]);clear HST HTK;have p2:wr.cell? ⟨p,2,none⟩ = some (.slice C x.kids.length cc):=HSV.o.a.c2;rw [<- HN2.o] at p2;go_wp2_with fail;clear p1
       go_loopw [5,52] (fun s i wr=>zef w p ⟨A,B,C,ca,cb,cc⟩ x h3 s i wr) (fun _ i _=>n2 - (intOf i).toNat)
       case atStart=>exact ⟨0,zfp _,rfl,by rw [HKT.o]; simp [vF],HSV.o⟩
       case round =>
        obtain ⟨k,hk,rfl,rfl,hs⟩:=hrel;have HSC:=Hi hs;rw [<- HN2.o] at hk;clear hs HSV HKT hsz;have p2:wr.cell? ⟨p,2,none⟩ = some (.slice C x.kids.length cc):=HSC.o.a.c2;rw [<- HN2.o] at p2;obtain ⟨s,HST⟩:∃ s:ByteArray,Hid (s = ⟨(h3 ++ vF (x.kids.take k)).toArray⟩):=Hy;have hsz:s.size <= 122:=by
         rw [HST.o];show (h3 ++ vF (x.kids.take k)).length <= 122;have:=HL3.o;rw [zfk,Ya,List.length_take];omega
        rw [<- HST.o];by_cases hlt3:k < n2
        ·have hk1:k < x.kids.length:=by have:=HN2.o; omega
         obtain ⟨a,rfl,hc⟩:=yf (HN.o.carry HSC.o.below).kids hk1;obtain ⟨z,HZ,hz2,hz⟩:=HFW.o.kid _ (zfn hk1);have HZZ:=Hi HZ;rw [HZ] at hc;clear HZ hz2;have hz1:z < 256 ^ 1:=by omega
         go_wp2_with fail;refine (jJ 1 z _ (by decide) (by decide) hz1).mono ?_;rintro e w5 ⟨rfl,hb⟩;have HS5:=Hi (HSC.o.carry hb);obtain ⟨t,HTX⟩:∃ t:ByteArray,Hid (t = ⟨(be 1 z).toArray⟩):=Hy;have htz:t.size = 1:=by rw [HTX.o]; exact yF 1 z
         have hcat:∀ w,(Op.stringOp .add s t).run Tryz.prog w = .ok (.string (s ++ t)) w:=fun w=>run_string_add_sum w _ _ (by omega)
         rw [<- HTX.o];clear hb HSC hc;go_wp2_with fail
         go_roundw
         case rel =>
          refine ⟨k + 1,hk1,by go_num,?_,HS5.o⟩;rw [HST.o,HTX.o,Xp,J0 hk1,HZZ.o,Int.toNat_natCast,zfA,YI]
         case measure=>simp [intOf]; omega
        ·obtain rfl:k = n2:=by omega
         have HKT:=hI (s = ⟨T.toArray⟩) (by rw [HST.o,HTV.o,HN2.o,zfw]);go_wp2_with fail
         go_ret2
         exact ⟨by rw [<- HKT.o]; rfl,HSC.o.below⟩
end
section
open Go.RowKit
theorem zcq (z:Int) (w:World):Calls Tryz.prog 175 #[.int .i64 z] w fun e w'=>e = .returned (.bool false) /\ w = w':=by
 go_enter Tryz.func175,Tryz.ntmps175
 go_wp2_with fail
 go_ret
 exact ⟨ym (by simp),rfl⟩
theorem zcr (z:Int) (w:World):Calls Tryz.prog 188 #[.int .i64 z] w fun e w'=>e = .returned (.bool false) /\ w = w':=by
 go_enter Tryz.func188,Tryz.ntmps188
 go_wp2_with fail
 go_ret
 exact ⟨ym (by simp),rfl⟩
theorem Km (y z:Int) (w:World):Calls Tryz.prog 174 #[.int .i64 y,.int .i64 z] w fun e w'=>e = .returned (.bool (decide (y < z))) /\ w = w':=by
 go_enter Tryz.func174,Tryz.ntmps174
 go_wp2_with fail;refine (zcr y w).mono ?_;rintro e w' ⟨rfl,rfl⟩;go_wp2_with fail
 go_ret
 exact ⟨ym (by simp),rfl⟩
def zeJ (keys:List Int) (key:Int) (i j:Value):Prop:=∃ a b:Nat,a <= b /\ b <= keys.length /\ i = .int .i64 (a:Int) /\ j = .int .i64 (b:Int) /\ (∀ k (hk:k < keys.length),k < a -> keys[k] < key) /\ (∀ k (hk:k < keys.length),b <= k -> key <= keys[k])
theorem Jg {w:World} {A:Option Addr} {cap:Nat} {keys:List Int} (h:Nums w .i64 A keys) (hs:keys.Pairwise (· < ·)) (hl:keys.length <= 1000) (key:Int) :
  Calls Tryz.prog 161 #[.slice A keys.length cap,.int .i64 key] w fun e w'=>e = .returned (.tuple #[.int .i64 (less keys key:Int),.bool (decide (keys[less keys key]? = some key))]) /\ w = w':=by
 have HV:=Hi h;have HS:=Hi hs;obtain ⟨lz,HLZ⟩:∃ lz:Int,Hid (lz = (less keys key:Int)):=Hy;obtain ⟨fz,HFZ⟩:∃ fz:Bool,Hid (fz = decide (keys[less keys key]? = some key)):=Hy;rw [<- HLZ.o,<- HFZ.o];clear h hs
 go_enter Tryz.func161,Tryz.ntmps161
 go_wp2_with fail
 go_loop [7,8] (fun i j=>zeJ keys key i j) (fun i j=>(intOf j).toNat - (intOf i).toNat)
 case atStart=>exact ⟨0,keys.length,zfp _,ze3 _,rfl,rfl,fun k hk h=>absurd h (Nat.not_lt_zero k),fun k hk h=>absurd hk (by omega)⟩
 case round =>
  obtain ⟨a,b,hab,hb,rfl,rfl,h1,h2⟩:=hrel;have H1:=Hi h1;have H2:=Hi h2;clear h1 h2;by_cases hlt:a < b
  ·have hb4:(b:Int) <= 1000:=by omega
   have hab2:(a:Int) < (b:Int):=by omega
   obtain ⟨m,HM⟩:=hY ((a + b) / 2);have HMI:=hI (((a:Int) + (b:Int)) / 2 = (m:Int)) (by rw [HM.o]; omega);have hm1:a <= m:=by rw [HM.o]; omega
   have hm2:m < b:=by rw [HM.o]; omega
   have hmn:m < keys.length:=by omega
   obtain ⟨ad,rfl,hc⟩:=yf HV.o hmn;obtain ⟨z,HZ⟩:=hY (keys[m]);rw [<- HZ.o] at hc;go_upto_region 5 with (fail)
   rw [HMI.o];go_wp2_with fail;refine (Km z key _).mono ?_;by_cases hz:z < key
   ·rw [decide_eq_true hz];have HZL:=Hi hz;clear hz;rintro e w' ⟨rfl,rfl⟩;go_wp2_with fail
    go_round
    case rel =>
     refine ⟨m + 1,b,by omega,hb,by go_num,rfl,fun k hk hlt2=>?_,H2.o⟩;rcases Nat.lt_or_ge k m with h3 | h3
     ·have:=List.pairwise_iff_getElem.1 HS.o k m hk hmn h3;have:=HZL.o;have:=HZ.o;omega
     ·obtain rfl:k = m:=by omega
      rw [<- HZ.o];exact HZL.o
    case measure=>simp [intOf]; omega
   ·rw [decide_eq_false hz];have HZL:=Hi hz;clear hz;rintro e w' ⟨rfl,rfl⟩;go_wp2_with fail
    go_round
    case rel =>
     refine ⟨a,m,hm1,by omega,rfl,by go_num,H1.o,fun k hk hle=>?_⟩;rcases Nat.lt_or_ge m k with h3 | h3
     ·have:=List.pairwise_iff_getElem.1 HS.o m k hmn hk h3;have:=HZL.o;have:=HZ.o;omega
     ·obtain rfl:k = m:=by omega
      rw [<- HZ.o];have:=HZL.o;omega
    case measure=>simp [intOf]; omega
  ·obtain rfl:a = b:=by omega
   have HL:=hI (less keys key = a) (VK HS.o key hb (fun i hi=>H1.o i (by omega) hi) (fun hi=>by have:=H2.o a hi (ze3 _); omega));have HLA:=hI (lz = (a:Int)) (by rw [HLZ.o,HL.o]);by_cases hin:a < keys.length
   ·obtain ⟨ad,rfl,hc⟩:=yf HV.o hin;obtain ⟨z,HZ⟩:=hY (keys[a]);rw [<- HZ.o] at hc;have HF:=hI (keys[a]? = some z) (by rw [ze7 hin,HZ.o]);by_cases hz:z = key
    ·have HB:=hI (fz = true) (by rw [HFZ.o,HL.o,HF.o]; exact decide_eq_true (by rw [hz]));subst hz;go_wp2_with fail
     go_ret2
     exact ⟨by rw [HLA.o,HB.o]; rfl,rfl⟩
    ·have HB:=hI (fz = false) (by rw [HFZ.o,HL.o,HF.o]; exact decide_eq_false (fun h=>hz (ze8.inj h)));have hz2:(z == key) = false:=beq_eq_false_iff_ne.2 hz;go_wp2_with fail;refine (zcq z _).mono ?_;rintro e w' ⟨rfl,rfl⟩;go_wp2_with fail
     go_ret2
     exact ⟨by rw [HLA.o,HB.o]; rfl,rfl⟩
   ·have HB:=hI (fz = false) (by rw [HFZ.o,HL.o]; exact decide_eq_false (by rw [List.getElem?_eq_none (by omega)]; exact fun h=>by cases h));go_wp2_with fail
    go_ret2
    exact ⟨by rw [HLA.o,HB.o]; rfl,rfl⟩
theorem Z0 {w:World} {l:zd} {x:Nd} (h:xt w l x) (key:Int):Calls Tryz.prog 138 #[ndV l x,.int .i64 key] w fun e w'=>e = .returned (.tuple #[.int .i64 ((yw x key).1:Int),.bool (yw x key).2]) /\ Below w.1.size w w':=by
 obtain ⟨A,B,C,ca,cb,cc⟩:=l;obtain ⟨p,HP⟩:=hY (w.1.size);obtain ⟨w1,HW⟩:=hY (w.alloc (.cells #[.slice A x.keys.length ca,.slice B x.vals.length cb,.slice C x.kids.length cc] 48));have HBX:=hI (zb w1 p ⟨A,B,C,ca,cb,cc⟩ x) (by rw [HW.o,HP.o]; exact zb.new (l:=⟨A,B,C,ca,cb,cc⟩) (x:=x) _);have HBL:=hI (Below w.1.size w w1) (by rw [HW.o]; exact bA);have HN:=Hi (h.carry HBL.o);obtain ⟨V,HVV⟩:=hY (Value.tuple #[.int .i64 ((yw x key).1:Int),.bool (yw x key).2]);rw [<- HVV.o];obtain ⟨rr,HRR⟩:=hY (zJ x);clear h
 go_enter Tryz.func138,Tryz.ntmps138
 go_upto_region 1 with (fail)
 rw [<- HW.o,<- HP.o];clear HW HP;go_wp2_with (with_reducible refine xD9 (some 6) ?_);refine zf Tryz.ndProg (by rfl) _ rfl p rfl ⟨A,B,C,ca,cb,cc⟩ x HBX.o ?_;go_wp2_with fail;refine (ke HN.o).mono ?_;rw [<- HRR.o];rintro e w2 ⟨rfl,hb⟩;have HBX2:=Hi (HBX.o.carry hb HBX.o.lt);have HN2:=Hi (HN.o.carry hb);have HB2:=Hi (HBL.o.trans (hb.mono HBL.o.size));clear hb;have c0:w2.cell? ⟨p,0,none⟩ = some (.slice A x.keys.length ca):=HBX2.o.c0;cases rr with
 | false =>
  have HE:=hI (V = .tuple #[.int .i64 0,.bool false]) (by rw [HVV.o]; unfold yw; rw [if_neg (by rw [<- HRR.o]; decide)]; rfl);go_wp2_with fail
  go_ret2
  exact ⟨by rw [HE.o]; rfl,HB2.o⟩
 | true =>
  have HE:=hI (V = .tuple #[.int .i64 (less x.keys key:Int),.bool (decide (x.keys[less x.keys key]? = some key))]) (by rw [HVV.o]; unfold yw; rw [if_pos HRR.o.symm]);have HK:=Hi (wJ.1 (zm HRR.o.symm).1).2;have hk7:x.keys.length <= 1000:=ze2 (zm HRR.o.symm).2.1 (by decide);obtain ⟨lz,HLZ⟩:∃ lz:Int,Hid (lz = (less x.keys key:Int)):=Hy;obtain ⟨fz,HFZ⟩:∃ fz:Bool,Hid (fz = decide (x.keys[less x.keys key]? = some key)):=Hy;rw [<- HLZ.o,<- HFZ.o] at HE;go_wp2_with fail;refine (Jg HN2.o.keys HK.o hk7 key).mono ?_;rw [<- HLZ.o,<- HFZ.o];rintro e w' ⟨rfl,rfl⟩;go_wp2_with fail
  go_ret2
  exact ⟨by rw [HE.o]; rfl,HB2.o⟩
end
