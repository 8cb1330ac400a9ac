/-
  Tq. Conditions: as said.
-/
import Derived.Test.YtafclmbecmgbnaaGreatDoorTy
set_option maxRecDepth 100000
set_option maxHeartbeats 2000000
open List renaming append_assoc -> zgh,length_append -> zf0
open Int renaming toNat_natCast -> zf1
namespace Go.Proofs.YtafclmbecmgbnaaGreatDoor
open Go.RowKit
section
def Kr (p:Int × ByteArray):List Value:=[.int .i64 p.1,.string p.2]
def zE (ps:List (Int × ByteArray)):List Value:=ps.flatMap Kr
theorem kt (ps:List (Int × ByteArray)) (p:Int × ByteArray):zE (ps ++ [p]) = zE ps ++ [.int .i64 p.1,.string p.2]:=by simp [zE,Kr]
theorem Tryz.infoPair9:(Tryz.prog.info? 97).map (fun i=>(i.zero,i.size,i.bytes)) = some (some (.agg #[.int .i64 0,.string ⟨#[]⟩]),2,24):=by kernel_rfl
abbrev zat (a r g:Nat):Value:=.func (.func 81) #[] #[.pointer (some ⟨a,0,none⟩),.pointer (some ⟨r,0,none⟩),.pointer (some ⟨g,0,none⟩)]
structure RgS (P a r g N:Nat) (out:List (Int × ByteArray)) (A:Option Addr) (cap:Nat) (wr:World):Prop where
 ca:wr.cell? ⟨a,0,none⟩ = some (ptr P)
 cg:wr.cell? ⟨g,0,none⟩ = some (zat a r g)
 cr:wr.cell? ⟨r,0,none⟩ = some (.slice A out.length cap)
 fr:wr.frozen? ⟨r,0,none⟩ = false
 own:wr.ownsRow N 97 2 (.slice A out.length cap) out.length (zE out)
 aN:a < N
 gN:g < N
 rN:r < N
 ar:a ≠ r
 gr:g ≠ r
 sz:N <= wr.1.size
section
variable {P a r g N:Nat} {out:List (Int × ByteArray)} {A:Option Addr} {cap:Nat} {w wr w':World}
theorem RgS.blk (h:RgS P a r g N out A cap wr) {x:Addr} (hx:A = some x):N <= x.block /\ x.block < wr.1.size:=h.own.lt x.block (by rw [hx]; rfl)
theorem RgS.carry (h:RgS P a r g N out A cap wr) (hb:Below wr.1.size wr w'):RgS P a r g N out A cap w':=by
 have h1:=h.sz;have h2:=h.aN;have h3:=h.gN;have h4:=h.rN;exact ⟨(hb.cell (p:=⟨a,0,none⟩) (by show a < _; omega)).trans h.ca,(hb.cell (p:=⟨g,0,none⟩) (by show g < _; omega)).trans h.cg,(hb.cell (p:=⟨r,0,none⟩) (by show r < _; omega)).trans h.cr,
  (World.frozen?_of_block (w:=wr) (a:=⟨r,0,none⟩) (hb.block r (by omega))).trans h.fr,zA h.own fun i hi=>hb.block i (h.own.lt i hi).2,h2,h3,h4,h.ar,h.gr,Nat.le_trans h1 hb.size⟩
theorem RgS.push {gg c2:Nat} {p:Int × ByteArray} {w3:World} (h:RgS P a r g N out A cap wr) (hg:wr.grownBy w3 (Value.slice A out.length cap).ownBlock) (hown:w3.ownsRow N 97 2 (.slice (some ⟨gg,0,none⟩) (out.length + 1) c2) (out.length + 1) (zE out ++ [.int .i64 p.1,.string p.2])) :
  RgS P a r g N (out ++ [p]) (some ⟨gg,0,none⟩) c2 (w3.setCell ⟨r,0,none⟩ (.slice (some ⟨gg,0,none⟩) (out ++ [p]).length c2)):=by
 have h1:=h.sz;have h2:=h.aN;have h3:=h.gN;have h4:=h.rN;have far:∀ i,i < N -> i ≠ r -> (w3.setCell ⟨r,0,none⟩ (.slice (some ⟨gg,0,none⟩) (out ++ [p]).length c2)).1[i]? = wr.1[i]?:=fun i hi hr=>(World.heap_setCell_far9 _ _ _ (by exact hr)).trans (hg.block i (by omega) (fun e=>by have:=(h.own.lt i e.symm).1; omega))
 have hr3:w3.1[r]? = wr.1[r]?:=hg.block r (by omega) (fun e=>by have:=(h.own.lt r e.symm).1; omega);refine ⟨(World.cell?_of_block (w:=wr) (a:=⟨a,0,none⟩) (far a h2 h.ar)).trans h.ca,(World.cell?_of_block (w:=wr) (a:=⟨g,0,none⟩) (far g h3 h.gr)).trans h.cg,
  World.cell?_setCell_same _ _ _ ((World.cell?_of_block (w:=wr) (a:=⟨r,0,none⟩) hr3).trans h.cr),by rw [World.frozen?_setCell]; exact (World.frozen?_of_block (w:=wr) (a:=⟨r,0,none⟩) hr3).trans h.fr,?_,h2,h3,h4,h.ar,h.gr,by rw [World.heap_setCell_size9]; exact Nat.le_trans h1 hg.size⟩
 rw [kt,zf0,List.length_singleton];exact ownsRow_setCell_below hown (by exact h4) _
end
abbrev RgM (r:Nat) (A:Option Addr) (k:Nat):Prop:=k = r \/ ∃ x,A = some x /\ x.block = k
def V2 (w:World) (P a r g N f:Nat) (out:List (Int × ByteArray)) (A:Option Addr) (R:Except Int (List (Int × ByteArray))) (e:Ending) (w':World):Prop :=
 ∃ out' A' cap',RgS P a r g N out' A' cap' w' /\ zw (RgM r A) w w' /\ (∀ x,A' = some x -> A = some x \/ w.1.size <= x.block) /\ out'.length <= out.length + 8 ^ f /\ match R with
 | .error c=>c ≠ 0 /\ ∃ v,e = .returned v /\ zi w' w.1.size c v
 | .ok l=>e = .returned .nilIface /\ out' = out ++ l
structure RgL (w:World) (P a r g N:Nat) (A:Option Addr) (q:Nat) (l:zd) (x:Nd) (out1:List (Int × ByteArray)) (wr:World):Prop where
 ex:∃ A1 c1,RgS P a r g N out1 A1 c1 wr /\ zw (RgM r A) w wr /\ (∀ y,A1 = some y -> (A = some y \/ w.1.size <= y.block) /\ y.block ≠ q /\ ¬ l.has y.block) /\ zb wr q l x /\ zo wr w.1.size l x
 wq:w.1.size <= q
 lq:∀ k,l.has k -> k ≠ q
theorem RgM.more {r:Nat} {A A1:Option Addr} {w:World} (hA:∀ y,A1 = some y -> A = some y \/ w.1.size <= y.block) (k:Nat) (hk:RgM r A1 k):RgM r A k \/ w.1.size <= k:=by
 rcases hk with hk | ⟨y,hy,rfl⟩
 ·exact .inl (.inl hk)
 ·rcases hA y hy with h | h
  ·exact .inl (.inr ⟨y,h,rfl⟩)
  ·exact .inr h
theorem RgL.push {w wr w3:World} {P a r g N:Nat} {A A1:Option Addr} {q c1:Nat} {l:zd} {x:Nd} {out1:List (Int × ByteArray)} {gg c2:Nat} {p:Int × ByteArray} (hs:RgS P a r g N out1 A1 c1 wr) (ht:zw (RgM r A) w wr) (hA:∀ y,A1 = some y -> (A = some y \/ w.1.size <= y.block) /\ y.block ≠ q /\ ¬ l.has y.block) (hq:zb wr q l x) (hn:zo wr w.1.size l x)
  (wq:w.1.size <= q) (lq:∀ k,l.has k -> k ≠ q) (hrw:r < w.1.size) (hg:wr.grownBy w3 (Value.slice A1 out1.length c1).ownBlock) (hown:w3.ownsRow N 97 2 (.slice (some ⟨gg,0,none⟩) (out1.length + 1) c2) (out1.length + 1) (zE out1 ++ [.int .i64 p.1,.string p.2])) (hat:(Value.slice A1 out1.length c1).ownBlock = some gg \/ gg = wr.1.size) :
  RgL w P a r g N A q l x (out1 ++ [p]) (w3.setCell ⟨r,0,none⟩ (.slice (some ⟨gg,0,none⟩) (out1 ++ [p]).length c2)):=by
 have hrow:∀ i,(Value.slice A1 out1.length c1).ownBlock = some i -> ∃ y,A1 = some y /\ y.block = i:=fun i hi=>by
  cases h:A1 with
  | none=>rw [h] at hi; cases hi
  | some y=>rw [h] at hi; cases hi; exact ⟨y,rfl,rfl⟩
 have blk:∀ i,i < wr.1.size -> i ≠ r -> (∀ y,A1 = some y -> y.block ≠ i) -> (w3.setCell ⟨r,0,none⟩ (.slice (some ⟨gg,0,none⟩) (out1 ++ [p]).length c2)).1[i]? = wr.1[i]?:=fun i hi h1 h2 =>
  (World.heap_setCell_far9 _ _ _ (by exact h1)).trans (hg.block i hi fun e=>by obtain ⟨y,hy,hb⟩:=hrow i e.symm; exact h2 y hy hb)
 have hsz:wr.1.size <= (w3.setCell ⟨r,0,none⟩ (.slice (some ⟨gg,0,none⟩) (out1 ++ [p]).length c2)).1.size:=by rw [World.heap_setCell_size9]; exact hg.size
 have ht2:zw (RgM r A1) wr (w3.setCell ⟨r,0,none⟩ (.slice (some ⟨gg,0,none⟩) (out1 ++ [p]).length c2)):=⟨hg.os,hg.tape,hg.output,hsz,fun k hk=>blk k hk.1 (fun e=>hk.2 (.inl e)) fun y hy e=>hk.2 (.inr ⟨y,hy,e⟩)⟩
 refine ⟨⟨some ⟨gg,0,none⟩,c2,hs.push hg hown,ht.trans (ht2.more fun k _ hk=>?_),fun y hy=>?_,hq.keep (blk q hq.lt (by omega) fun y hy=>(hA y hy).2.1),hn.keep hsz fun k hk=>blk k (hn.lt k hk).2 (by have:=(hn.lt k hk).1; omega) fun y hy e=>(hA y hy).2.2 (by rw [e]; exact hk)⟩,wq,lq⟩
 ·rcases hk with hk | ⟨y,hy,hk⟩
  ·exact .inl (.inl hk)
  ·rcases (hA y hy).1 with h | h
   ·exact .inl (.inr ⟨y,h,hk⟩)
   ·exact .inr (by omega)
 ·cases hy;rcases hat with h | h
  ·obtain ⟨y,hy,hb⟩:=hrow gg h;have hg0:A1 = some ⟨gg,0,none⟩:=by
    rcases hs.own.2 with ⟨e,_⟩ | ⟨g',cap,cur,e,_⟩
    ·simp only [Value.slice.injEq] at e;rw [e.1] at hy;cases hy
    ·simp only [Value.slice.injEq] at e;rw [e.1] at hy ⊢;cases hy;simp only at hb;rw [hb]
   have:=hA _ hg0;exact this
  ·subst h;exact ⟨.inr ht.size,fun e=>by have:=hq.lt; have e':wr.1.size = q:=e; omega,fun e=>by have:=(hn.lt _ e).2; exact absurd this (Nat.lt_irrefl _)⟩
end
section
theorem QW {x:Nd} (h:zM x = true):x.vals.length <= x.keys.length /\ x.keys.length <= 7 /\ x.kids.length <= 8 /\ (x.kids.length ≠ 0 -> x.vals.length = 0 /\ x.kids.length = x.keys.length + 1):=by
 have h7:=(zm h).2.1;have hs:=yh h;by_cases h0:x.kids.length = 0
 ·have:=hs.leaf h0; exact ⟨by omega,h7,by omega,fun h=>absurd h0 h⟩
 ·have:=hs.inner h0; exact ⟨by omega,h7,by omega,fun _=>this⟩
structure RgI (w:World) (P a r g N:Nat) (A:Option Addr) (q:Nat) (l:zd) (x:Nd) (out:List (Int × ByteArray)) (from_ to_:Int) (i:Value) (wr:World):Prop where
 ex:∃ k,k <= x.vals.length /\ i = .int .i64 (k:Int) /\ RgL w P a r g N A q l x (out ++ ((x.keys.zip x.vals).take k).filter fun p=>decide (from_ <= p.1) && decide (p.1 < to_)) wr
structure RgJ (w:World) (P a r g N:Nat) (A:Option Addr) (q:Nat) (l:zd) (x:Nd) (out:List (Int × ByteArray)) (f:Int -> Int -> Int -> Except Int (List (Int × ByteArray))) (e:Nat) (from_ to_:Int) (i:Value) (wr:World):Prop where
 ex:∃ k m,k <= x.kids.length /\ i = .int .i64 (k:Int) /\ xS f x from_ to_ 0 (x.kids.take k) = .ok m /\ (out ++ m).length <= out.length + k * e /\ RgL w P a r g N A q l x (out ++ m) wr
section
variable {O:ye} (H:ym O)
include H
theorem zfr {w0:World} {K:Nat -> Prop} {w wr:World} {P D n:Nat} {S:TS} {firm:Nat -> List UInt8} {r:Nat} {A A1:Option Addr} (hl:zX O w0 K w P D n S firm) (ht:zw (RgM r A) w wr) (hr:K r /\ w0.1.size <= r) (hA:∀ y,A = some y -> K y.block /\ w0.1.size <= y.block) (hA1:∀ y,A1 = some y -> (A = some y \/ w.1.size <= y.block) /\ y.block < wr.1.size) :
  zX O w0 (fun k=>K k \/ ∃ y,A1 = some y /\ y.block = k) wr P D n S firm:=by
 have hth:=hl.there;refine hl.off H ht (fun k hk=>?_) (fun k hk=>?_) (fun k hk=>?_) fun k hk=>.inl (hl.low k hk)
 ·rcases hk with rfl | ⟨y,hy,rfl⟩
  ·exact hr
  ·exact hA y hy
 ·rcases hk with hk | ⟨y,hy,rfl⟩
  ·exact .inl hk
  ·rcases (hA1 y hy).1 with h | h
   ·exact .inl (hA y h).1
   ·exact .inr h
 ·rcases hk with hk | ⟨y,hy,rfl⟩
  ·exact Nat.lt_of_lt_of_le (hth k hk) ht.size
  ·exact (hA1 y hy).2
theorem zeD {w0:World} {P D n:Nat} {S:TS} {firm:Nat -> List UInt8} (hg:yL w0) {a r g N:Nat} (hr0:w0.1.size <= r) (hN0:w0.1.size <= N) (f:Nat) (hf:f <= 12) {K:Nat -> Prop} {w:World} (hl:zX O w0 K w P D n S firm) {out:List (Int × ByteArray)} {A:Option Addr} {cap:Nat} (hs:RgS P a r g N out A cap w) (hrK:K r) (hAK:∀ y,A = some y -> K y.block) (hm:out.length + 8 ^ f <= 68719476736) (i from_ to_:Int) :
  Calls Tryz.prog 81 #[.int .i64 i,.int .i64 (13 - (f:Int)),.int .i64 from_,.int .i64 to_,.pointer (some ⟨a,0,none⟩),.pointer (some ⟨r,0,none⟩),.pointer (some ⟨g,0,none⟩)] w (V2 w P a r g N f out A (xq f S i from_ to_)):=by
 induction f generalizing w K i out A cap from_ to_ with
 | zero =>
  have HLD:=Hi (kI H hl hg i 13);have HM:=hI (yp S i 13 = .error 2) (by unfold yp; rw [if_pos (by decide)]);have HG0:=hI (xq 0 S i from_ to_ = .error 2) rfl;have HS:=Hi hs;have ca:=hs.ca;rw [HM.o] at HLD;rw [show (13:Int) - ((0:Nat):Int) = 13 from rfl];clear hl hs hm
  go_enter Tryz.func81,Tryz.ntmps81
  go_wp2_with fail;refine HLD.o.mono ?_;rintro e w1 ⟨hc,v,rfl,he,hb⟩;obtain ⟨tt,xx,rfl⟩:=he.some hc;have HE:=Hi he;have HB:=Hi hb;have HC:=Hi hc;clear he hb HLD hc;go_wp2_with fail
  go_ret
  have hb2:=(Below.refl w1.1.size w1).alloc (Nat.le_refl _) (.cells #[.slice zd.none_.A Nd.empty.keys.length zd.none_.ca,.slice zd.none_.B Nd.empty.vals.length zd.none_.cb,.slice zd.none_.C Nd.empty.kids.length zd.none_.cc] 48);have hb3:=HB.o.trans (hb2.mono HB.o.size);rw [HG0.o];exact ⟨out,A,cap,HS.o.carry hb3,zw.of_below hb3,fun y hy=>.inl hy,Nat.le_add_right _ _,HC.o,_,rfl,HE.o.below hb2⟩
 | succ f ih =>
  obtain ⟨lv,HLV⟩:∃ lv:Int,Hid (lv = 12 - (f:Int)):=Hy;have HLW:=hI (wrap64 (lv + 1) = 13 - (f:Int)) (by rw [HLV.o]; unfold wrap64; omega);rw [show (13:Int) - ((f + 1:Nat):Int) = lv by rw [HLV.o]; omega];have HLD:=Hi (kI H hl hg i lv);have HL:=Hi hl;have HS:=Hi hs;have HRK:=Hi (And.intro hrK hr0);have HAK:=hI (∀ y,A = some y -> K y.block /\ w0.1.size <= y.block) fun y hy=>⟨hAK y hy,by have:=(hs.blk hy).1; omega⟩
  have HMM:=hI (out.length + 8 * 8 ^ f <= 68719476736) (by rw [Nat.pow_succ] at hm; omega);have HIH:Hid (∀ {K:Nat -> Prop} {w:World},zX O w0 K w P D n S firm -> ∀ {out:List (Int × ByteArray)} {A:Option Addr} {cap:Nat},RgS P a r g N out A cap w -> K r -> (∀ y,A = some y -> K y.block) -> out.length + 8 ^ f <= 68719476736 -> ∀ i from_ to_:Int,
    Calls Tryz.prog 81 #[.int .i64 i,.int .i64 (13 - (f:Int)),.int .i64 from_,.int .i64 to_,.pointer (some ⟨a,0,none⟩),.pointer (some ⟨r,0,none⟩),.pointer (some ⟨g,0,none⟩)] w (V2 w P a r g N f out A (xq f S i from_ to_))):=Hi fun h1 {_ _ _} h2 h3 h4 h5 i a b=>ih (by omega) h1 h2 h3 h4 h5 i a b
  have HRW:=hI (r < w.1.size) (by have:=hs.rN; have:=hs.sz; omega);have ca:=hs.ca;have HP1:=hI (1 <= 8 ^ f) (Nat.pow_pos (by decide));obtain ⟨R,HRR⟩:=hY (xq (f + 1) S i from_ to_);rw [<- HRR.o];clear hl ih hf hs hrK hAK hm;cases hlm:yp S i lv with
  | error c =>
   have HG0:=hI (R = .error c) (by rw [HRR.o]; unfold xq; rw [<- HLV.o,hlm]);rw [hlm] at HLD;clear hlm HRR
   go_enter Tryz.func81,Tryz.ntmps81
   go_wp2_with fail;refine HLD.o.mono ?_;rintro e w1 ⟨hc,v,rfl,he,hb⟩;obtain ⟨tt,xx,rfl⟩:=he.some hc;have HE:=Hi he;have HB:=Hi hb;have HC:=Hi hc;clear he hb HLD hc;go_wp2_with fail
   go_ret
   have hb2:=(Below.refl w1.1.size w1).alloc (Nat.le_refl _) (.cells #[.slice zd.none_.A Nd.empty.keys.length zd.none_.ca,.slice zd.none_.B Nd.empty.vals.length zd.none_.cb,.slice zd.none_.C Nd.empty.kids.length zd.none_.cc] 48);have hb3:=HB.o.trans (hb2.mono HB.o.size);rw [HG0.o];exact ⟨out,A,cap,HS.o.carry hb3,zw.of_below hb3,fun y hy=>.inl hy,Nat.le_add_right _ _,HC.o,_,rfl,HE.o.below hb2⟩
  | ok x =>
   have HRT:=Hi (QW (xB hlm));have HG0:=hI (R = match xS (fun k a b=>xq f S k a b) x from_ to_ 0 x.kids with
    | .error c=>.error c
    | .ok m=>.ok (Jd x from_ to_ ++ m)) (by
    rw [HRR.o];show (match yp S i (12 - f:Int) with | .error c=>Except.error c | .ok x=>_) = _;rw [<- HLV.o,hlm];rfl)
   rw [hlm] at HLD;clear hlm HRR
   go_enter Tryz.func81,Tryz.ntmps81
   go_wp2_with fail;refine HLD.o.mono ?_;rintro e w2 ⟨-,l,rfl,hn,hb⟩;obtain ⟨q,HCq⟩:=hY (w2.1.size);obtain ⟨w3,HW3⟩:=hY (w2.alloc (.cells #[.slice l.A x.keys.length l.ca,.slice l.B x.vals.length l.cb,.slice l.C x.kids.length l.cc] 48));have HQL:=hI (∀ k,l.has k -> k ≠ q) fun k hk e=>by have:=(hn.lt k hk).2; have:=HCq.o; omega
   have HQW:=hI (w.1.size <= q) (by rw [HCq.o]; exact hb.size);have HR3:=hI (RgL w P a r g N A q l x (out ++ ((x.keys.zip x.vals).take 0).filter fun p=>decide (from_ <= p.1) && decide (p.1 < to_)) w3) (by
    have h23:Below w2.1.size w2 w3:=by rw [HW3.o]; exact (Below.refl _ _).alloc (Nat.le_refl _) _
    have hb3:=hb.trans (h23.mono hb.size);have hq:zb w3 q l x:=by rw [HW3.o,HCq.o]; exact zb.new _
    refine ⟨⟨A,cap,?_,zw.of_below hb3,fun y hy=>⟨.inl hy,fun e=>?_,fun e=>?_⟩,hq,hn.carry h23⟩,HQW.o,HQL.o⟩
    ·rw [List.take_zero,List.filter_nil,List.append_nil]; exact HS.o.carry hb3
    ·have:=(HS.o.blk hy).2; have:=HQW.o; omega
    ·have:=(HS.o.blk hy).2; have:=(hn.lt _ e).1; omega)
   go_upto_region 2 with (fail)
   rw [<- HW3.o,<- HCq.o];clear HW3 HCq hn hb HLD ca;obtain ⟨lB,HLB⟩:=hY (l.B);obtain ⟨lC,HLC⟩:=hY (l.C);obtain ⟨ip,hi0,hi1,hi2,hi3⟩:=info_parts Tryz.infoPair9;have c1:w3.cell? ⟨q,1,none⟩ = some (.slice lB x.vals.length l.cb):=by obtain ⟨_,_,_,_,_,h,_⟩:=HR3.o.ex; rw [HLB.o]; exact h.c1
   go_wp2_with fail;clear c1
   go_loopw [35] (fun i wr=>RgI w P a r g N A q l x out from_ to_ i wr) (fun i _=>x.vals.length - (intOf i).toNat)
   case atStart=>exact ⟨0,Nat.zero_le _,rfl,HR3.o⟩
   case round =>
    clear HR3;obtain ⟨k,hk,rfl,hrl⟩:=hrel.ex;have HRL:=Hi hrl;clear hrel hrl;by_cases hlt:k < x.vals.length
    ·obtain ⟨A1,c1,hS,hT,hA1,hQ,hN⟩:=HRL.o.ex;have hk7:k < x.keys.length:=by have:=HRT.o.1; omega
     obtain ⟨B,hB0,hcv⟩:=ZE hN.is.vals (i:=k) hlt;obtain ⟨A0,hA0,hck⟩:=yj hN.is.keys (i:=k) hk7;have hfl:=zbp hk7 hlt (fun p=>decide (from_ <= p.1) && decide (p.1 < to_));obtain ⟨kz,HKZ⟩:=hY (x.keys[k]);obtain ⟨vz,HVZ⟩:=hY (x.vals[k]);rw [<- HKZ.o] at hck hfl;rw [<- HVZ.o] at hcv hfl;have HFL:=Hi hfl;have c0:=hQ.c0;rw [hA0] at c0;obtain rfl:lB = some B:=HLB.o.trans hB0;have hkl:(k:Int) < (x.vals.length:Int):=by omega
     have hkl2:(k:Int) < (x.keys.length:Int):=by omega
     have HWK:=hI (wrap64 ((k:Int) + 1) = ((k + 1:Nat):Int)) (by have:=HRT.o; unfold wrap64; omega);have HSS:=Hi hS;have HTT:=Hi hT;have HAA:=Hi hA1;have HQQ:=Hi hQ;have HNN:=Hi hN;have HA0:=Hi hA0;obtain ⟨outk,HOUT⟩:=hY (out ++ ((x.keys.zip x.vals).take k).filter fun p=>decide (from_ <= p.1) && decide (p.1 < to_));rw [<- HOUT.o] at HSS HRL;have HOLEN:=hI (outk.length <= out.length + 7) (by
      rw [HOUT.o,zf0];have h1:=List.length_filter_le (fun p:Int × ByteArray=>decide (from_ <= p.1) && decide (p.1 < to_)) ((x.keys.zip x.vals).take k);rw [List.length_take] at h1;have:=HRT.o;omega)
     clear hS hT hA1 hQ hN hfl hB0 hA0 HKZ HVZ hk7 hlt hk;by_cases hp:from_ <= kz /\ kz < to_
     ·have h1:decide (from_ <= kz) = true:=decide_eq_true hp.1;have h2:decide (kz < to_) = true:=decide_eq_true hp.2;have HF2:=hI (out ++ ((x.keys.zip x.vals).take (k + 1)).filter (fun p=>decide (from_ <= p.1) && decide (p.1 < to_)) = outk ++ [(kz,vz)]) (by
       rw [HFL.o,if_pos (by rw [h1,h2]; rfl),<- zgh,<- HOUT.o])
      have cr:=HSS.o.cr;have fr:=HSS.o.fr;go_wp2_with (with_reducible refine xD9 (some 58) ?_);obtain ⟨g6,HG6⟩:=hY (wr.1.size);obtain ⟨w6,HW6⟩:=hY (wr.alloc (.cells #[.int .i64 kz,.string vz] 97));rw [<- HG6.o,<- HW6.o];have hb6:Below wr.1.size wr w6:=by rw [HW6.o]; exact (Below.refl _ _).alloc (Nat.le_refl _) _
      have HS6:=Hi (HSS.o.carry hb6);have HT6:=hI (zw (RgM r A) w w6) (HTT.o.trans ((zw.of_below (M:=fun _=>False) hb6).more fun _ _ h=>h.elim));have HQ6:=Hi (HQQ.o.carry hb6 HQQ.o.lt);have HN6:=Hi (HNN.o.carry hb6);have hn6:∀ (j:Nat) u,([.int .i64 kz,.string vz]:List Value)[j]? = some u -> w6.cell? ((⟨g6,0,none⟩:Addr).add j) = some u:=by rw [HW6.o,HG6.o]; exact World.news_of_block (cs:=#[.int .i64 kz,.string vz]) (heap_alloc_last wr _)
      clear HG6 HW6 cr fr hcv hck c0 hb6 HSS HTT HQQ HNN;refine wpList_append_lies (P:=Tryz.prog) w6 rfl _ _ 58 rfl N 97 ip _ 2 24 Tryz.underlying58 hi0 hi1 hi2 hi3 rfl (by decide) (.slice A1 outk.length c1) outk.length (zE outk) rfl HS6.o.own ⟨g6,0,none⟩ 1 1 [.int .i64 kz,.string vz] rfl rfl hn6 (fun u hu=>by rcases List.mem_cons.1 hu with h | h; (rw [h]; rfl); (rw [List.mem_singleton.1 h]; rfl)) (by decide) (by have:=HOLEN.o; have:=HMM.o; have:=HP1.o; unfold maxLen; omega) (by have:=HOLEN.o; have:=HMM.o; have:=HP1.o; omega) HS6.o.sz w6.1.size rfl ?_;intro gg cap7 w7 hown hgrow hat _;have HP7:=Hi (RgL.push (p:=(kz,vz)) HS6.o HT6.o HAA.o HQ6.o HN6.o HQW.o HQL.o HRW.o hgrow hown hat);have cr:w7.cell? ⟨r,0,none⟩ = some (.slice A1 outk.length c1):=(hgrow.cell_far _ (by have:=HS6.o.rN; have:=HS6.o.sz; show r < _; omega) (fun e=>by have:=(HS6.o.own.lt r e.symm).1; have:=HS6.o.rN; omega)).trans HS6.o.cr;have fr:w7.frozen? ⟨r,0,none⟩ = false:=(hgrow.frozen_far _ (by have:=HS6.o.rN; have:=HS6.o.sz; show r < _; omega) (fun e=>by have:=(HS6.o.own.lt r e.symm).1; have:=HS6.o.rN; omega)).trans HS6.o.fr;rw [zf0,List.length_singleton] at HP7;clear hown hgrow hat hn6 HS6;go_wp2_with fail
      go_roundw
      case rel=>exact ⟨k + 1,by have:=hkl; omega,by rw [HWK.o],by rw [HF2.o]; exact HP7.o⟩
      case measure=>rw [HWK.o]; simp only [intOf,zf1]; omega
     ·have HF2:=hI (out ++ ((x.keys.zip x.vals).take (k + 1)).filter (fun p=>decide (from_ <= p.1) && decide (p.1 < to_)) = outk) (by
       rw [HFL.o,if_neg (by rw [Bool.and_eq_true,decide_eq_true_eq,decide_eq_true_eq]; exact hp),List.append_nil,<- HOUT.o])
      have h12:decide (from_ <= kz) = false \/ (decide (from_ <= kz) = true /\ decide (kz < to_) = false):=by
       by_cases h1:from_ <= kz
       ·exact .inr ⟨decide_eq_true h1,decide_eq_false fun h2=>hp ⟨h1,h2⟩⟩
       ·exact .inl (decide_eq_false h1)
      clear hp;rcases h12 with h1 | ⟨h1,h2⟩
      all_goals
       go_wp2_with fail
       go_roundw
       case rel=>exact ⟨k + 1,by have:=hkl; omega,by rw [HWK.o],by rw [HF2.o]; exact HRL.o⟩
       case measure=>rw [HWK.o]; simp only [intOf,zf1]; omega
    ·obtain ⟨o1,HO1⟩:=hY (out ++ Jd x from_ to_);have HR1:=hI (RgL w P a r g N A q l x o1 wr) (by
      have h:=HRL.o;rw [List.take_of_length_le (by rw [List.length_zip]; omega)] at h;rw [HO1.o];exact h)
     have HOL:=hI (o1.length <= out.length + x.vals.length) (by
      rw [HO1.o,zf0];unfold Jd;have h1:=List.length_filter_le (fun p:Int × ByteArray=>decide (from_ <= p.1) && decide (p.1 < to_)) (x.keys.zip x.vals);rw [List.length_zip] at h1;omega)
     obtain ⟨E,HEE⟩:=hY (8 ^ f);have HE1:=hI (1 <= E /\ out.length + 8 * E <= 68719476736 /\ 8 ^ (f + 1) = 8 * E) ⟨by rw [HEE.o]; exact HP1.o,by rw [HEE.o]; exact HMM.o,by rw [HEE.o,Nat.pow_succ,Nat.mul_comm]⟩;have c2:wr.cell? ⟨q,2,none⟩ = some (.slice lC x.kids.length l.cc):=by obtain ⟨_,_,_,_,_,h,_⟩:=HR1.o.ex; rw [HLC.o]; exact h.c2
     clear HRL;go_wp2_with fail;clear hlt hk
     go_loopw [63] (fun i wr=>RgJ w P a r g N A q l x o1 (fun k a b=>xq f S k a b) E from_ to_ i wr) (fun i _=>x.kids.length - (intOf i).toNat)
     case atStart=>exact ⟨0,[],Nat.zero_le _,rfl,rfl,by simp,by rw [List.append_nil]; exact HR1.o⟩
     case round =>
      clear HR1 c2;obtain ⟨k,m,hk,rfl,hkm,hlen,hrl⟩:=hrel.ex;have HRL:=Hi hrl;have HKM:=Hi hkm;have HLEN:=Hi hlen;clear hrel hrl hkm hlen;by_cases hlt:k < x.kids.length
      ·obtain ⟨A1,c1,hS,hT,hA1,hQ,hN⟩:=HRL.o.ex;obtain ⟨C,hC0,hck⟩:=yj hN.is.kids (i:=k) hlt;obtain ⟨kz,HKZ⟩:=hY (x.kids[k]);rw [<- HKZ.o] at hck;have HTK:=hI (x.kids.take k ++ [kz] = x.kids.take (k + 1) /\ x.kids.take k ++ [kz] ++ x.kids.drop (k + 1) = x.kids) ⟨by rw [HKZ.o,List.take_append_getElem],by rw [HKZ.o,zgh,List.singleton_append,List.getElem_cons_drop,List.take_append_drop]⟩;have HSN:=Hi (QA (fun k a b=>xq f S k a b) x from_ to_ (x.kids.take k) kz HKM.o);rw [List.length_take,Nat.min_eq_left (Nat.le_of_lt hlt),Nat.zero_add] at HSN;have hin:=HRT.o.2.2.2 (by omega);have HWI:=Hi (zah hN.is k (by omega) from_ to_);obtain ⟨lo,HLO⟩:=hY (jG x k from_);obtain ⟨hi,HHI⟩:=hY (wI x k to_);rw [<- HLO.o,<- HHI.o] at HWI HSN;obtain rfl:lC = some C:=HLC.o.trans hC0;have HKE:=hI (k * E <= 7 * E /\ (k + 1) * E = k * E + E /\ o1.length <= out.length) ⟨Nat.mul_le_mul_right _ (by have:=HRT.o.2.2.1; omega),Nat.succ_mul k E,by have:=HOL.o; omega⟩;have hkl:(k:Int) < (x.kids.length:Int):=by omega
       have HWK:=hI (wrap64 ((k:Int) + 1) = ((k + 1:Nat):Int)) (by have:=HRT.o; unfold wrap64; omega);have HSS:=Hi hS;have HTT:=Hi hT;have HAA:=Hi hA1;have HQQ:=Hi hQ;have HNN:=Hi hN;have HL2:=hI (∀ w5,Below wr.1.size wr w5 -> zX O w0 (fun k=>K k \/ ∃ y,A1 = some y /\ y.block = k) w5 P D n S firm) fun w5 hb=>(zfr H HL.o HTT.o HRK.o HAK.o fun y hy=>⟨(HAA.o y hy).1,(HSS.o.blk hy).2⟩).carry H hb
       have hlw:=HLW.o;clear hS hT hA1 hQ hN hC0 HKZ hin hlt hk;go_wp2_with (with_reducible refine xD9 (some 69) ?_);refine zg Tryz.ndProg (by rfl) _ rfl q rfl l x HQQ.o ?_;go_wp2_with fail;refine HWI.o.mono ?_;rintro e w5 ⟨rfl,hb⟩;have HB5:=Hi hb;have HS5:=Hi (HSS.o.carry hb);have HQ5:=Hi (HQQ.o.carry hb HQQ.o.lt);have HN5:=Hi (HNN.o.carry hb);have HT5:=hI (zw (RgM r A) w w5) (HTT.o.trans ((zw.of_below (M:=fun _=>False) hb).more fun _ _ h=>h.elim));have HL5:=Hi (HL2.o w5 hb);clear hb hck HSS HTT HQQ HNN HL2 HWI;by_cases hlh:lo < hi
       ·have hd:decide (hi <= lo) = false:=decide_eq_false (by omega);have cg:=HS5.o.cg;have HCL:=Hi (HIH.o HL5.o HS5.o (.inl HRK.o.1) (fun y hy=>.inr ⟨y,hy,rfl⟩) (by have:=HLEN.o; have:=HKE.o; have:=HE1.o; rw [<- HEE.o]; omega) kz lo hi);have HSN2:=hI (xS (fun k a b=>xq f S k a b) x from_ to_ 0 (x.kids.take k ++ [kz]) = match xq f S kz lo hi with | .error c=>.error c | .ok m2=>.ok (m ++ m2)) (by rw [HSN.o,if_pos hlh]; rfl);clear hlh;go_wp2_with fail;refine HCL.o.mono ?_;rintro e w6 ⟨out6,A6,c6,hS6,hT6,hA6,hl6,hm6⟩;have hA9:∀ y,A6 = some y -> A = some y \/ w.1.size <= y.block:=fun y hy=>by
         rcases hA6 y hy with h | h
         ·exact (HAA.o y h).1
         ·exact .inr (by have:=HT5.o.size; omega)
        have HT6:=hI (zw (RgM r A) w w6) (HT5.o.trans (hT6.more fun k _ hk=>RgM.more (fun y hy=>(HAA.o y hy).1) k hk));have HL6:=hI (out6.length <= o1.length + k * E + E) (by rw [<- HEE.o] at hl6; have:=HLEN.o; omega);cases hrm:xq f S kz lo hi with
        | error cd =>
         rw [hrm] at hm6;obtain ⟨hc,v,rfl,he⟩:=hm6;obtain ⟨tt,xx,rfl⟩:=he.some hc;have HR6:=hI (R = .error cd) (by
          have h1:=HSN2.o;rw [hrm] at h1;have h2:=QB _ x from_ to_ _ (x.kids.drop (k + 1)) h1;rw [HTK.o.2] at h2;rw [HG0.o,h2])
         have HP9:=hI (V2 w P a r g N (f + 1) out A R (.returned (.iface tt xx)) w6) (by
          rw [HR6.o];exact ⟨out6,A6,c6,hS6,HT6.o,hA9,by have:=HL6.o; have:=HKE.o; have:=HE1.o; omega,hc,_,rfl,he.mono HT5.o.size⟩)
         clear hS6 hT6 hA6 hl6 hc he hA9 hrm cg hd HCL;go_wp2_with fail
         go_ret
         exact HP9.o
        | ok l2 =>
         rw [hrm] at hm6;obtain ⟨rfl,rfl⟩:=hm6;have HKM2:=hI (xS (fun k a b=>xq f S k a b) x from_ to_ 0 (x.kids.take (k + 1)) = .ok (m ++ l2)) (by
          have h1:=HSN2.o;rw [hrm,HTK.o.1] at h1;exact h1)
         have HRL6:=hI (RgL w P a r g N A q l x (o1 ++ (m ++ l2)) w6) (by
          rw [<- zgh];refine ⟨⟨A6,c6,hS6,HT6.o,fun y hy=>⟨hA9 y hy,?_⟩,HQ5.o.keep (hT6.block q ⟨HQ5.o.lt,fun hm=>?_⟩),HN5.o.keep hT6.size fun z hz=>hT6.block z ⟨(HN5.o.lt z hz).2,fun hm=>?_⟩⟩,HQW.o,HQL.o⟩
          ·rcases hA6 y hy with h | h
           ·exact (HAA.o y h).2
           ·exact ⟨by have:=HQ5.o.lt; omega,fun hz=>by have:=(HN5.o.lt _ hz).2; omega⟩
          ·rcases hm with hm | ⟨y,hy,hm⟩
           ·have:=HQW.o; have:=HRW.o; omega
           ·exact (HAA.o y hy).2.1 hm
          ·rcases hm with hm | ⟨y,hy,hm⟩
           ·have:=(HN5.o.lt z hz).1; have:=HRW.o; omega
           ·exact (HAA.o y hy).2.2 (by rw [hm]; exact hz))
         have HLN6:=hI ((o1 ++ (m ++ l2)).length <= o1.length + (k + 1) * E) (by
          have h1:=HL6.o;have h2:=HKE.o;rw [<- zgh];omega)
         clear hS6 hT6 hA6 hl6 hA9 hrm cg hd HCL;go_wp2_with fail
         go_roundw
         case rel=>exact ⟨k + 1,m ++ l2,by have:=hkl; omega,by rw [HWK.o],HKM2.o,HLN6.o,HRL6.o⟩
         case measure=>rw [HWK.o]; simp only [intOf,zf1]; omega
       ·have hd:decide (hi <= lo) = true:=decide_eq_true (by omega);have HKM2:=hI (xS (fun k a b=>xq f S k a b) x from_ to_ 0 (x.kids.take (k + 1)) = .ok m) (by
         have h1:=HSN.o;rw [if_neg hlh,HTK.o.1] at h1;exact h1)
        have HRL6:=hI (RgL w P a r g N A q l x (o1 ++ m) w5) ⟨⟨A1,c1,HS5.o,HT5.o,HAA.o,HQ5.o,HN5.o⟩,HQW.o,HQL.o⟩;have HLN6:=hI ((o1 ++ m).length <= o1.length + (k + 1) * E) (by have:=HLEN.o; have:=HKE.o; omega);clear hlh;go_wp2_with fail
        go_roundw
        case rel=>exact ⟨k + 1,m,by have:=hkl; omega,by rw [HWK.o],HKM2.o,HLN6.o,HRL6.o⟩
        case measure=>rw [HWK.o]; simp only [intOf,zf1]; omega
      ·have HP9:=hI (V2 w P a r g N (f + 1) out A R (.returned .nilIface) wr) (by
        have h1:=HKM.o;rw [List.take_of_length_le (by omega)] at h1;obtain ⟨A1,c1,hS,hT,hA1,_,_⟩:=HRL.o.ex;rw [HG0.o,h1];refine ⟨o1 ++ m,A1,c1,hS,hT,fun y hy=>(hA1 y hy).1,?_,rfl,by rw [HO1.o,zgh]⟩;have h2:=HLEN.o;have h3:=HE1.o;have h4:=HOL.o;have h5:=HRT.o;rcases Nat.eq_zero_or_pos x.kids.length with h6 | h6
        ·have h7:k = 0:=by omega
         subst h7;omega
        ·have h7:=h5.2.2.2 (by omega);have h8:k * E <= 8 * E:=Nat.mul_le_mul_right _ (by omega);omega)
       clear hk;go_wp2_with fail
       go_ret
       exact HP9.o
end
end
