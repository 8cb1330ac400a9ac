/-
  Ldd. Conditions: as said.
-/
import Derived.Test.YtafclmbecmgbnaaGreatDoorLdb
import Derived.Test.YtafclmbecmgbnaaGreatDoorLdc
import Derived.Test.YtafclmbecmgbnaaGreatDoorChkMath
set_option maxRecDepth 100000
set_option maxHeartbeats 2000000
namespace Go.Proofs.YtafclmbecmgbnaaGreatDoor
section
open Go.RowKit
abbrev S0 (n:Nat):TS:=⟨xM (Dk.new n) (Sb.bare 1),Pst.opened (Sb.bare 1),fun _=>[]⟩
theorem Qm {n:Nat} (h3:3 <= n) (hn:n <= 240):(S0 n).s.first n = some 2:=(zco.opened_bare 1).first_some (yH.start h3 hn (fun _=>[])) (by decide) (by omega) rfl fun m h1 h2=>absurd h2 (by omega)
def qK:ByteArray:=⟨#[49,50,51,52,53,54,55,56,57,48,49,50]⟩
theorem zfh {n:Nat} {S:TS} {firm:Nat -> List UInt8} (ho:OkT n S firm) {root key:Int} {val:ByteArray} {ps:List Pr} {qs:List Int} (ht:Rt (Dm S) root ps qs) (hps:ps.length <= 500) (hin:(key,val) ∈ ps):xR S root key = .ok val:=by
 rcases ht with ⟨rfl,rfl,rfl⟩ | ⟨h,ht⟩
 ·cases hin
 ·have hh:h <= 8:=by
   rcases Nat.eq_zero_or_pos h with h0 | h0
   ·omega
   ·exact Zb (ht.high (.inr h0)) hps
  obtain ⟨x,qt,hx,rfl⟩:=ht.head;have hr:=(ky ho hx).1;unfold xR;rw [if_neg (by omega)];exact Qo h ht hin (by omega) (Nat.le_refl _)
theorem Tryz.chgSize:(Tryz.prog.info? 93).map (·.size) = some 2:=by kernel_rfl
theorem Tryz.chgZero:((Tryz.prog.info? 93).bind (·.zero)).isSome = true:=by kernel_rfl
theorem zaU:∃ r S',ki 20 (S0 20) (S0 20).s.sup.root [(5,qK)] = (.ok r,S') /\ rootOk S'.s r = true /\ S'.s.sup.gen + 1 < 4294967296 /\ S'.d.soft.length <= 99900 /\ xR (S'.commit r) (S'.commit r).s.sup.root 5 = .ok qK:=by
 have hw:WhM 20 (S0 20) (fun _=>[]) [] [] 0:=WhM.start (by decide) (by decide);obtain ⟨S1,hput,-⟩:=zba (n:=20) (S:=S0 20) (firm:=fun _=>[]) (yH.start (by decide) (by decide) _) (Qm (by decide) (by decide)) (key:=5) (by decide) (val:=qK) rfl;rcases VG hw.ok (key:=5) (val:=qK) rfl (by decide) hw.rt hw.used.1 hw.com.nodup (by decide) with ⟨S2,he,-⟩ | ⟨r,S2,qs',he,hp⟩
 ·have h0:(S0 20).s.sup.root = 0:=rfl;rw [h0,hput] at he;cases he
 ·have hs:=XD (n:=20) (root:=(S0 20).s.sup.root) hw.ok (key:=5) (val:=qK);rw [he] at hs;have hps:(xH [] 5 qK).length <= 0 + 1:=by decide
  obtain ⟨h1,h2,h3⟩:=hw.commit hs hp hps (by decide);refine ⟨r,S2,?_,h1,h2,by have h4:S2.d.soft.length <= (S0 20).d.soft.length + 27:=hs.soft; have h5:(S0 20).d.soft.length = 0:=rfl; omega,zfh h3.ok h3.rt (by decide) List.mem_cons_self⟩;rw [ki,YY,if_pos (by decide),he];rfl
section
variable {O:ye} (H:ym O)
include H
theorem WA {w0 w1 w:World} {D n:Nat} (h3:3 <= n) (hn:n <= 240) (hb0:Below w0.1.size w0 w1) (hd:zB (· < w1.1.size) w D n (Dk.new n)) (hb:Below w1.1.size w1 w) (hg:yL w0) :
  Calls Tryz.prog 38 #[ptr D] w fun e w'=>∃ b P K,e = .returned (.tuple #[ptr b,.nilIface]) /\ xc w' b P /\ zX O w0 K w' P D n (S0 n) (fun _=>[]) /\ K b /\ (∀ k,k < w1.1.size -> K k):=by
 have HF:=Hi (JU H h3 hn (fun _=>[]) hb0 hd hb hg);clear hd hb
 go_enter Tryz.func38,Tryz.ntmps38
 go_wp2_with fail;refine HF.o.mono ?_;rintro e w2 ⟨P,rfl,hl⟩;have HL:=hI (zX O w0 (· < w1.1.size) w2 P D n (S0 n) (fun _=>[])) hl;clear hl;dsimp only;obtain ⟨w3,HW3⟩:=hY (w2.alloc (.cells #[ptr P] 143));obtain ⟨b,HB⟩:=hY (w2.1.size);have HLA:=hI (xc w3 b P) (by rw [HW3.o,HB.o]; exact heap_alloc_new w2 _);have HB3:=hI (Below w2.1.size w2 w3) (by rw [HW3.o]; exact (Below.refl _ _).alloc (Nat.le_refl _) _);have HN:=hI (b < w3.1.size) (by rw [HW3.o,HB.o]; simp);go_wp2_with fail
 go_ret2
 rw [<- HB.o,<- HW3.o];exact ⟨b,P,_,rfl,HLA.o,HL.o.grow H HB3.o,.inr ⟨by rw [HB.o]; exact Nat.le_refl _,HN.o⟩,fun k hk=>.inl hk⟩
variable (HA:AbD O)
include HA
theorem KP (w:World) (hg:yL w):Calls Tryz.prog 37 #[] w fun e w'=>e = .returned (.bool true) /\ Below w.1.size w w':=by
 have HG:=Hi hg;clear hg
 go_enter Tryz.func37,Tryz.ntmps37
 go_wp2_with fail;refine (zak 20 (by decide) (by decide) w).mono ?_;rintro e w1 ⟨D,rfl,hd,hb⟩;have HF:=Hi (WA H (n:=20) (by decide) (by decide) (Below.refl w.1.size w) hd hb HG.o);clear hd hb;go_wp2_with fail;refine HF.o.mono ?_;rintro e w2 ⟨b,P,K,rfl,hd,hl,hkb,hlow⟩;have HL:=Hi hl;have HD:=Hi hd;have HKB:=Hi hkb;clear hd hl hkb hlow HF;go_wp2_with (with_reducible refine xD9 (some 19) ?_);refine Zr rfl 72 93 2 1 #[(0,.tmp 18)] rfl [[.int .i64 5,.string qK]] Tryz.underlying72 Tryz.chgSize Tryz.chgZero rfl (by decide) (by decide) (by simp) (by rfl) ?_;intro w3 B HBB HRW HBE HBL;obtain ⟨L,HLL⟩:∃ L:Nat -> Prop,Hid (L = fun k=>K k \/ (w2.1.size <= k /\ k < w3.1.size)):=Hy;have HL3:=hI (zX O w L w3 P D 20 (S0 20) (fun _=>[])) (by rw [HLL.o]; exact HL.o.grow H HBE.o);have HD3:=Hi (HD.o.carry HBE.o);have HKL:=hI (L b /\ L B) (by rw [HLL.o]; exact ⟨.inl HKB.o,.inr ⟨by rw [HBB.o]; exact Nat.le_refl _,HBL.o⟩⟩);have HC3:=hI (Xh w3 L (some ⟨B,0,none⟩) [(5,qK)]) (fun _=>⟨B,0,rfl,HKL.o.2,HBL.o,fun i c hc=>by
  cases i with
  | zero =>
   obtain rfl:(5,qK) = c:=by simpa using hc
   exact ⟨by have:=HRW.o 0 0 _ _ rfl rfl; simpa [Addr.add] using this,by have:=HRW.o 0 1 _ _ rfl rfl; simpa [Addr.add] using this⟩
  | succ i=>simp at hc⟩)
 obtain ⟨r,S1,hrun,hro,hge,hsf,hget⟩:=zaU;have HGT:=Hi hget;have HAP:=Hi (Xz H HA HL3.o HG.o HD3.o HKL.o.1 (cs:=[(5,qK)]) (m:=1) (cap:=1) HC3.o rfl (by intro c hc; obtain rfl:=List.mem_singleton.1 hc; exact ⟨by decide,by decide,.inr rfl⟩) (by
  intro j hj;rcases Nat.eq_zero_or_pos j with rfl | h
  ·exact Nat.zero_le _
  ·obtain rfl:j = 1:=by omega
   show (ki 20 (S0 20) (S0 20).s.sup.root [(5,qK)]).2.d.soft.length <= 99900;rw [hrun];exact hsf) hrun hro hge (by decide))
 clear hrun hro hge hsf hget HRW HBE HL HD HKB;go_wp2_with fail;refine HAP.o.mono ?_;rintro e w4 ⟨rfl,hl,hk⟩;have HD4:=Hi (HD3.o.kept hk HKL.o.1);have HL4:=Hi hl;have HGA:=Hi (QD H HG.o HL4.o HD4.o 5);rw [HGT.o] at HGA;unfold qK at HGA;clear hl hk HAP;go_wp2_with fail;refine HGA.o.mono ?_;rintro e w5 ⟨rfl,hb⟩;have HB5:=hI (Below w.1.size w w5) (HL4.o.below.trans (hb.mono HL4.o.below.size));clear hb HGA;go_wp2_with fail;refine (kp _).mono ?_;rintro e w' ⟨rfl,rfl⟩;go_wp2_with fail;refine (kp _).mono ?_;rintro e w' ⟨rfl,rfl⟩;go_wp2_with fail;refine (kp _).mono ?_;rintro e w' ⟨rfl,rfl⟩;go_wp2_with fail;refine (kp _).mono ?_;rintro e w' ⟨rfl,rfl⟩;go_wp2_with fail
 go_ret
 exact ⟨rfl,HB5.o⟩
end
end
section
open Go.RowKit
theorem zc2 {n:Nat} {S:TS} {firm:Nat -> List UInt8} {ps cs:List Pr} {qs:List Int} {k:Nat} (h:WhM n S firm ps qs k) (hmay:∀ c ∈ cs,xa c.1 c.2.size) (hn:ps.length + ps.length + cs.length + 29 < n) (h5:ps.length + cs.length <= 500) (hk:k <= 1000) :
  ∃ r S' qs',ki n S S.s.sup.root cs = (.ok r,S') /\ rootOk S'.s r = true /\ S'.s.sup.gen + 1 < 4294967296 /\ (∀ j,j <= cs.length -> (ki n S S.s.sup.root (cs.take j)).2.d.soft.length <= 99900) /\ WhM n (S'.commit r) S'.data (jq ps cs) qs' (k + cs.length + 1) /\ (S'.commit r).s.sup.gen = S.s.sup.gen + 1:=by
 have hb:=h.begin;obtain ⟨r,S',qs',hr,hm⟩:=hb.batch cs hmay hn h5;have hl:=qY ps cs;obtain ⟨h1,h2,h3⟩:=hm.commit (k:=k + cs.length) (by have:=h.few; omega) (by have:=h.gen; omega) (by omega);refine ⟨r,S',qs',hr,h1,h2,fun j hj=>?_,h3,?_⟩
 ·obtain ⟨r1,S1,q1,e1,m1⟩:=hb.batch (cs.take j) (fun c hc=>hmay c (List.mem_of_mem_take hc)) (by rw [List.length_take]; omega) (by rw [List.length_take]; omega);rw [e1];have:=m1.soft;rw [List.length_take] at this;show S1.d.soft.length <= 99900;omega
 ·show S'.s.sup.gen + 1 = _;rw [hm.sup]
theorem zcu {ps:List Pr} (h:∀ p ∈ ps,0 <= p.1 /\ p.1 < 256) {cs:List Pr} (hc:∀ c ∈ cs,0 <= c.1 /\ c.1 < 256):∀ p ∈ jq ps cs,0 <= p.1 /\ p.1 < 256:=by
 induction cs generalizing ps with
 | nil=>exact h
 | cons c r ih =>
  refine ih ?_ fun x hx=>hc x (List.mem_cons_of_mem _ hx)
  unfold YX;split
  ·exact zcR h (hc c List.mem_cons_self) _
  ·exact fun p hp=>h p (List.mem_filter.1 hp).1
theorem zcw {ks ns:List Nat} (hk:∀ k ∈ ks,k < 256):∀ c ∈ vE ks ns,0 <= c.1 /\ c.1 < 256:=by
 intro c hc;unfold vE at hc;obtain ⟨x,hx,rfl⟩:=List.mem_map.1 hc;have h1:=hk x.1 (List.of_mem_zip (List.mem_of_mem_take hx)).1;refine ⟨?_,?_⟩
 ·show (0:Int) <= (x.1:Int); omega
 ·show ((x.1:Nat):Int) < 256; omega
theorem zef {w:World} {K:Nat -> Prop} {N:Nat} {T:TypeId} {A:Option Addr} {c:Nat} {cs:List Pr} (h:w.ownsRow N T 2 (.slice A cs.length c) cs.length (zE cs)) (hK:∀ k,N <= k -> k < w.1.size -> K k):Xh w K A cs:=fun hp=>by
 obtain ⟨g,e,h1,h2⟩:=jf h hp;have hg:=h.lt g (by rw [e]; rfl);refine ⟨g,0,e,hK g hg.1 hg.2,hg.2,fun i x hx=>?_⟩;have hi:i < cs.length:=(List.getElem?_eq_some_iff.1 hx).1;obtain ⟨g2,e2,h3,h4⟩:=jf h hi;have hx2:cs[i] = x:=by rw [List.getElem?_eq_getElem hi] at hx; exact Option.some.inj hx
 rw [e] at e2;injection e2 with e2
 injection e2 with e2
 subst e2;rw [hx2] at h3 h4;rw [Nat.zero_add];exact ⟨h3,h4⟩
theorem QJ {K:Nat -> Prop} {w w':World} {N:Nat} {T:TypeId} {v:Value} {n:Nat} {xs:List Value} (h:w.ownsRow N T 2 v n xs) (hk:zf K w w') (hK:∀ g,N <= g -> g < w.1.size -> K g):w'.ownsRow N T 2 v n xs:=zA h fun g hg=>hk.block g (hK g (h.lt g hg).1 (h.lt g hg).2)
end
end Go.Proofs.YtafclmbecmgbnaaGreatDoor
/-
  Ldf: several texts in one file. Conditions: as each part says.
-/
namespace Go.Proofs.YtafclmbecmgbnaaGreatDoor
section
open Go.RowKit
theorem zbv {l:List Int} (h:l.Nodup) (hb:∀ q ∈ l,2 <= q /\ q <= 239):l.length <= 240:=by
 have h1:(l.map Int.toNat).Nodup:=by
  refine List.pairwise_map.2 (h.imp_of_mem fun {a b} ha hb2 hne e=>hne ?_);have:=hb a ha;have:=hb b hb2;omega
 have h3:(l.map Int.toNat) ⊆ List.range 240:=fun x hx=>by
  obtain ⟨q,hq,rfl⟩:=List.mem_map.1 hx;have:=hb q hq;exact List.mem_range.2 (by omega)
 have h4:=h1.length_le_of_subset h3;simpa using h4
theorem VQ {n:Nat} {S:TS} {firm:Nat -> List UInt8} (h:OkT n S firm) {q:Int} (hq:usd S q):2 <= q /\ q <= 239:=by
 obtain ⟨k,rfl,hk,hh⟩:=vk hq;have:=h.in_range hk (h.used_in hk hh);omega
theorem zdC {n:Nat} {S:TS} {firm:Nat -> List UInt8} (ho:OkT n S firm) {h:Nat} {root:Int} {ps:List Pr} {qs:List Int} (ht:Tr (Dm S) h 1 0 4294967296 root ps qs) (hu:∀ q ∈ qs,usd S q) (hn:qs.Nodup) (hh:h + 1 <= 12):∃ met,Svd S root ⟨[],met,(h:Int) + 1,[]⟩ /\ met.Perm qs:=by
 obtain ⟨met,h1,h2⟩:=zdB ht hu hn hh;obtain ⟨x,qt,hx,rfl⟩:=ht.head;have hr:=VQ ho (hu root List.mem_cons_self);refine ⟨met,.inr ⟨by omega,by omega,rfl,by simp,fun _=>h2.nodup_iff.2 hn,_,?_,h1⟩,h2⟩;have:=zbv hn fun q hq=>VQ ho (hu q hq)
 omega
theorem zfk {n:Nat} {S:TS} {firm:Nat -> List UInt8} (ho:OkT n S firm) {root:Int} {ps:List Pr} {qs:List Int} (ht:Rt (Dm S) root ps qs) (hu:∀ q ∈ qs,usd S q) (hn:qs.Nodup) (hps:ps.length <= 500):∃ met dep,Svd S root ⟨[],met,dep,[]⟩ /\ met.Perm qs:=by
 rcases ht with ⟨rfl,rfl,rfl⟩ | ⟨h,ht⟩
 ·exact ⟨[],0,.inl ⟨rfl,rfl⟩,List.Perm.refl _⟩
 ·have hh:h <= 8:=by
   rcases Nat.eq_zero_or_pos h with h0 | h0
   ·omega
   ·exact Zb (ht.high (.inr h0)) hps
  obtain ⟨met,h1,h2⟩:=zdC ho ht hu hn (by omega);exact ⟨met,_,h1,h2⟩
theorem QZ (l:List Int):∀ k,k < 240 -> Bits.has (kj l) k = decide ((k:Int) ∈ l):=by
 have:∀ (l:List Int) (s:List Nat),Bits.Ok s -> ∀ k,k < 240 -> Bits.has (l.foldl jl s) k = (Bits.has s k || decide ((k:Int) ∈ l)):=by
  intro l;induction l with
  | nil=>intro s _ k _; simp
  | cons z l ih =>
   intro s hs k hk;show Bits.has (l.foldl jl (jl s z)) k = _;rw [ih _ (JM hs z) k hk];unfold jl jT;by_cases hz:0 <= z /\ z < 240
   ·rw [decide_eq_true hz,if_pos rfl,Bits.has_with hs (by omega)];by_cases he:k = z.toNat
    ·simp [he];omega
    ·have e:(k:Int) ≠ z:=by omega
     simp [he,e]
   ·rw [decide_eq_false hz,if_neg (by decide)];have e:(k:Int) ≠ z:=by omega
    simp [e]
 intro k hk;have h:=this l zQ xC k hk;rw [show Bits.has zQ k = false from xn k,Bool.false_or] at h;exact h
theorem zdJ {n:Nat} {S:TS} {firm:Nat -> List UInt8} (ho:OkT n S firm) {root:Int} {ps:List Pr} {qs:List Int} (ht:Rt (Dm S) root ps qs) (hu:∀ q ∈ qs,usd S q) (hn:qs.Nodup) (hps:ps.length <= 500) (hr:root = S.s.sup.root) (hall:∀ j,usd S j -> j ∈ qs):∃ s,Svd S S.s.sup.root s /\ wholeZ S s = 0:=by
 obtain ⟨met,dep,h1,h2⟩:=zfk ho ht hu hn hps;rw [hr] at h1;refine ⟨_,h1,?_⟩;unfold wholeZ;rw [if_pos rfl];refine if_pos (Bits.ext ho.usedOk (Xb _) fun k hk=>?_);rw [QZ _ k hk];have hm:(k:Int) ∈ WT met ↔ usd S (k:Int):=by
  rw [show WT met = met.mergeSort _ from rfl,List.mem_mergeSort,h2.mem_iff];exact ⟨hu _,hall _⟩
 cases hb:Bits.has S.s.used k with
 | true=>exact (decide_eq_true (hm.2 ((kV hk).2 hb))).symm
 | false =>
  refine (decide_eq_false fun h=>?_).symm;have:=(kV hk).1 (hm.1 h);rw [hb] at this; cases this
section
variable {O:ye} (H:ym O)
include H
end
end
section
open Go.RowKit
section
variable {O:ye} (H:ym O)
include H
end
end
section
open Go.RowKit
section
variable {O:ye} (H:ym O)
include H
variable (HA:AbD O)
include HA
end
end
end Go.Proofs.YtafclmbecmgbnaaGreatDoor
namespace Go.Proofs.YtafclmbecmgbnaaGreatDoor
open Go.RowKit
open Bits (has)
theorem yH.outside {n:Nat} {d:Dk} {s:Pst} {data firm:Nat -> List UInt8} (h:yH n d s data firm) (hn:s.new = vq) {i:Nat} (h2:2 <= i) (hi:i < n) (hu:has s.sup.used i = false) {p:Pg} (hp:p.length = 128):yH n (d.write i p) s data firm :=
 ⟨h.held.write h2 hi hu hp (fun _ _ _=>rfl),h.le,h.newOk,h.goneOk,h.same,fun k _ hk=>absurd hk (by rw [hn,xn]; decide),h.goes⟩
theorem QL {t:List UInt8} (h:pgB (wL t) = zt):False:=by
 have h2:pgB (wL t) = pgB (List.replicate 128 0):=by rw [h]; rfl
 have h3:=congrArg kB (zay h2);unfold wL at h3;rw [Kk] at h3;exact absurd h3 (by decide)
theorem yH.zero_free {n:Nat} {d:Dk} {s:Pst} {data firm:Nat -> List UInt8} (h:yH n d s data firm) {i:Nat} (hi:i < 240) (hz:xU d.seen i = zt):has s.sup.used i = false:=by
 cases hu:has s.sup.used i with
 | false=>rfl
 | true =>
  have:=(h.held.pages i hi hu).1.1;rw [hz] at this;exact (QL this.symm).elim
theorem WhM.opened {n:Nat} {S:TS} {firm:Nat -> List UInt8} {ps:List Pr} {qs:List Int} {k:Nat} (h:WhM n S firm ps qs k) {d:Dk} (m:Nat) (t:Int) (hi:yH n d S.s S.data firm):WhM n ⟨(d.crash m t).up,Pst.opened S.s.sup,firm⟩ firm ps qs k :=
 ⟨hi.crashed m t,rfl,rfl,h.com,h.all,h.few,h.gen,Nat.zero_le _⟩
theorem WhM.wholeZ {n:Nat} {S:TS} {firm:Nat -> List UInt8} {ps:List Pr} {qs:List Int} {k:Nat} (h:WhM n S firm ps qs k) (hps:ps.length <= 500):∃ s,Svd S S.s.sup.root s /\ Proofs.YtafclmbecmgbnaaGreatDoor.wholeZ S s = 0:=zdJ h.ok h.rt h.used.1 h.com.nodup hps rfl h.used.2
