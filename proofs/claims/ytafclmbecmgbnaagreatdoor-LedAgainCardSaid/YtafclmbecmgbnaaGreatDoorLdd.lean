/-
  Ldd. Conditions: as said.
-/
import Derived.Test.YtafclmbecmgbnaaGreatDoorLdb
import Derived.Test.YtafclmbecmgbnaaGreatDoorLdc
import Derived.Test.YtafclmbecmgbnaaGreatDoorChkMath
set_option maxRecDepth 100000
set_option maxHeartbeats 2000000
namespace Go.Proofs.YtafclmbecmgbnaaGreatDoor
open Go.RowKit
section
abbrev S0 (n:Nat):TS:=⟨xC (Dk.new n) (Sb.bare 1),Pst.opened (Sb.bare 1),fun _=>[]⟩
theorem JM {n:Nat} (h3:3 <= n) (hn:n <= 240):(S0 n).s.first n = some 2:=(zbD.opened_bare 1).first_some (yP.start h3 hn (fun _=>[])) (by decide) (by omega) rfl fun m h1 h2=>absurd h2 (by omega)
def qd:ByteArray:=⟨#[49,50,51,52,53,54,55,56,57,48,49,50]⟩
theorem zcK {n:Nat} {S:TS} {firm:Nat -> List UInt8} (ho:OkT n S firm) {root key:Int} {val:ByteArray} {ps:List Pr} {qs:List Int} (ht:Rt (Dm S) root ps qs) (hps:ps.length <= 500) (hin:(key,val) ∈ ps):xy S root key = .ok val:=by
 rcases ht with ⟨rfl,rfl,rfl⟩ | ⟨h,ht⟩
 ·cases hin
 ·have hh:h <= 8:=by
   rcases Nat.eq_zero_or_pos h with h0 | h0
   ·omega
   ·exact qB (ht.high (.inr h0)) hps
  obtain ⟨x,qt,hx,rfl⟩:=ht.head;have hr:=(vY ho hx).1;unfold xy;rw [if_neg (by omega)];exact JO h ht hin (by omega) (Nat.le_refl _)
theorem Tryz.chgSize:(Tryz.prog.info? 93).map (·.size) = some 2:=by kernel_rfl
theorem Tryz.chgZero:((Tryz.prog.info? 93).bind (·.zero)).isSome = true:=by kernel_rfl
theorem zaf:∃ r S',xQ 20 (S0 20) (S0 20).s.sup.root [(5,qd)] = (.ok r,S') /\ rootOk S'.s r = true /\ S'.s.sup.gen + 1 < 4294967296 /\ S'.d.soft.length <= 99900 /\ xy (S'.commit r) (S'.commit r).s.sup.root 5 = .ok qd:=by
 have hw:WhM 20 (S0 20) (fun _=>[]) [] [] 0:=WhM.start (by decide) (by decide);obtain ⟨S1,hput,-⟩:=zat (n:=20) (S:=S0 20) (firm:=fun _=>[]) (yP.start (by decide) (by decide) _) (JM (by decide) (by decide)) (key:=5) (by decide) (val:=qd) rfl;rcases W5 hw.ok (key:=5) (val:=qd) rfl (by decide) hw.rt hw.used.1 hw.com.nodup (by decide) with ⟨S2,he,-⟩ | ⟨r,S2,qs',he,hp⟩
 ·have h0:(S0 20).s.sup.root = 0:=rfl;rw [h0,hput] at he;cases he
 ·have hs:=Y7 (n:=20) (root:=(S0 20).s.sup.root) hw.ok (key:=5) (val:=qd);rw [he] at hs;have hps:(vE [] 5 qd).length <= 0 + 1:=by decide
  obtain ⟨h1,h2,h3⟩:=hw.commit hs hp hps (by decide);refine ⟨r,S2,?_,h1,h2,by have h4:S2.d.soft.length <= (S0 20).d.soft.length + 27:=hs.soft; have h5:(S0 20).d.soft.length = 0:=rfl; omega,zcK h3.ok h3.rt (by decide) List.mem_cons_self⟩;rw [xQ,Zj,if_pos (by decide),he];rfl
section
variable {O:zV} (H:ye O)
include H
theorem X4 {w0 w1 w:World} {D n:Nat} (h3:3 <= n) (hn:n <= 240) (hb0:Below w0.1.size w0 w1) (hd:zE (· < w1.1.size) w D n (Dk.new n)) (hb:Below w1.1.size w1 w) (hg:yC w0) :
  Calls Tryz.prog 38 #[ptr D] w fun e w'=>∃ b P K,e = .returned (.tuple #[ptr b,.nilIface]) /\ yV w' b P /\ zP O w0 K w' P D n (S0 n) (fun _=>[]) /\ K b /\ (∀ k,k < w1.1.size -> K k):=by
 have HF:=Hi (Jk H h3 hn (fun _=>[]) hb0 hd hb hg);clear hd hb
 go_enter Tryz.func38,Tryz.ntmps38
 go_wp2_with fail;refine HF.o.mono ?_;rintro e w2 ⟨P,rfl,hl⟩;have HL:=hI (zP O w0 (· < w1.1.size) w2 P D n (S0 n) (fun _=>[])) hl;clear hl;dsimp only;obtain ⟨w3,HW3⟩:=hY (w2.alloc (.cells #[ptr P] 143));obtain ⟨b,HB⟩:=hY (w2.1.size);have HLA:=hI (yV w3 b P) (by rw [HW3.o,HB.o]; exact heap_alloc_new w2 _);have HB3:=hI (Below w2.1.size w2 w3) (by rw [HW3.o]; exact (Below.refl _ _).alloc (Nat.le_refl _) _);have HN:=hI (b < w3.1.size) (by rw [HW3.o,HB.o]; simp);go_wp2_with fail
 go_ret2
 rw [<- HB.o,<- HW3.o];exact ⟨b,P,_,rfl,HLA.o,HL.o.grow H HB3.o,.inr ⟨by rw [HB.o]; exact Nat.le_refl _,HN.o⟩,fun k hk=>.inl hk⟩
variable (HA:AbD O)
include HA
theorem qr (w:World) (hg:yC w):Calls Tryz.prog 37 #[] w fun e w'=>e = .returned (.bool true) /\ Below w.1.size w w':=by
 have HG:=Hi hg;clear hg
 go_enter Tryz.func37,Tryz.ntmps37
 go_wp2_with fail;refine (QF 20 (by decide) (by decide) w).mono ?_;rintro e w1 ⟨D,rfl,hd,hb⟩;have HF:=Hi (X4 H (n:=20) (by decide) (by decide) (Below.refl w.1.size w) hd hb HG.o);clear hd hb;go_wp2_with fail;refine HF.o.mono ?_;rintro e w2 ⟨b,P,K,rfl,hd,hl,hkb,hlow⟩;have HL:=Hi hl;have HD:=Hi hd;have HKB:=Hi hkb;clear hd hl hkb hlow HF;go_wp2_with (with_reducible refine xD9 (some 19) ?_);refine qS rfl 72 93 2 1 #[(0,.tmp 18)] rfl [[.int .i64 5,.string qd]] Tryz.underlying72 Tryz.chgSize Tryz.chgZero rfl (by decide) (by decide) (by simp) (by rfl) ?_;intro w3 B HBB HRW HBE HBL;obtain ⟨L,HLL⟩:∃ L:Nat -> Prop,Hid (L = fun k=>K k \/ (w2.1.size <= k /\ k < w3.1.size)):=Hy;have HL3:=hI (zP O w L w3 P D 20 (S0 20) (fun _=>[])) (by rw [HLL.o]; exact HL.o.grow H HBE.o);have HD3:=Hi (HD.o.carry HBE.o);have HKL:=hI (L b /\ L B) (by rw [HLL.o]; exact ⟨.inl HKB.o,.inr ⟨by rw [HBB.o]; exact Nat.le_refl _,HBL.o⟩⟩);have HC3:=hI (Zm w3 L (some ⟨B,0,none⟩) [(5,qd)]) (fun _=>⟨B,0,rfl,HKL.o.2,HBL.o,fun i c hc=>by
  cases i with
  | zero =>
   obtain rfl:(5,qd) = c:=by simpa using hc
   exact ⟨by have:=HRW.o 0 0 _ _ rfl rfl; simpa [Addr.add] using this,by have:=HRW.o 0 1 _ _ rfl rfl; simpa [Addr.add] using this⟩
  | succ i=>simp at hc⟩)
 obtain ⟨r,S1,hrun,hro,hge,hsf,hget⟩:=zaf;have HGT:=Hi hget;have HAP:=Hi (Y5 H HA HL3.o HG.o HD3.o HKL.o.1 (cs:=[(5,qd)]) (m:=1) (cap:=1) HC3.o rfl (by intro c hc; obtain rfl:=List.mem_singleton.1 hc; exact ⟨by decide,by decide,.inr rfl⟩) (by
  intro j hj;rcases Nat.eq_zero_or_pos j with rfl | h
  ·exact Nat.zero_le _
  ·obtain rfl:j = 1:=by omega
   show (xQ 20 (S0 20) (S0 20).s.sup.root [(5,qd)]).2.d.soft.length <= 99900;rw [hrun];exact hsf) hrun hro hge (by decide))
 clear hrun hro hge hsf hget HRW HBE HL HD HKB;go_wp2_with fail;refine HAP.o.mono ?_;rintro e w4 ⟨rfl,hl,hk⟩;have HD4:=Hi (HD3.o.kept hk HKL.o.1);have HL4:=Hi hl;have HGA:=Hi (X3 H HG.o HL4.o HD4.o 5);rw [HGT.o] at HGA;unfold qd at HGA;clear hl hk HAP;go_wp2_with fail;refine HGA.o.mono ?_;rintro e w5 ⟨rfl,hb⟩;have HB5:=hI (Below w.1.size w w5) (HL4.o.below.trans (hb.mono HL4.o.below.size));clear hb HGA;go_wp2_with fail;refine (jI _).mono ?_;rintro e w' ⟨rfl,rfl⟩;go_wp2_with fail;refine (jI _).mono ?_;rintro e w' ⟨rfl,rfl⟩;go_wp2_with fail;refine (jI _).mono ?_;rintro e w' ⟨rfl,rfl⟩;go_wp2_with fail;refine (jI _).mono ?_;rintro e w' ⟨rfl,rfl⟩;go_wp2_with fail
 go_ret
 exact ⟨rfl,HB5.o⟩
end
end
section
theorem zbI {ps:List Pr} (h:∀ p ∈ ps,0 <= p.1 /\ p.1 < 256) {cs:List Pr} (hc:∀ c ∈ cs,0 <= c.1 /\ c.1 < 256):∀ p ∈ zae ps cs,0 <= p.1 /\ p.1 < 256:=by
 induction cs generalizing ps with
 | nil=>exact h
 | cons c r ih =>
  refine ih ?_ fun x hx=>hc x (List.mem_cons_of_mem _ hx)
  unfold JE;split
  ·exact zb7 h (hc c List.mem_cons_self) _
  ·exact fun p hp=>h p (List.mem_filter.1 hp).1
theorem zbK {ks ns:List Nat} (hk:∀ k ∈ ks,k < 256):∀ c ∈ vn ks ns,0 <= c.1 /\ c.1 < 256:=by
 intro c hc;unfold vn at hc;obtain ⟨x,hx,rfl⟩:=List.mem_map.1 hc;have h1:=hk x.1 (List.of_mem_zip (List.mem_of_mem_take hx)).1;refine ⟨?_,?_⟩
 ·show (0:Int) <= (x.1:Int); omega
 ·show ((x.1:Nat):Int) < 256; omega
theorem zdw {w:World} {K:Nat -> Prop} {N:Nat} {T:TypeId} {A:Option Addr} {c:Nat} {cs:List Pr} (h:w.ownsRow N T 2 (.slice A cs.length c) cs.length (yv cs)) (hK:∀ k,N <= k -> k < w.1.size -> K k):Zm w K A cs:=fun hp=>by
 obtain ⟨g,e,h1,h2⟩:=qI h hp;have hg:=h.lt g (by rw [e]; rfl);refine ⟨g,0,e,hK g hg.1 hg.2,hg.2,fun i x hx=>?_⟩;have hi:i < cs.length:=(List.getElem?_eq_some_iff.1 hx).1;obtain ⟨g2,e2,h3,h4⟩:=qI h hi;have hx2:cs[i] = x:=by rw [List.getElem?_eq_getElem hi] at hx; exact Option.some.inj hx
 rw [e] at e2;injection e2 with e2
 injection e2 with e2
 subst e2;rw [hx2] at h3 h4;rw [Nat.zero_add];exact ⟨h3,h4⟩
end
end Go.Proofs.YtafclmbecmgbnaaGreatDoor
namespace Go.Proofs.YtafclmbecmgbnaaGreatDoor
open Go.RowKit Bits
section
variable {n:Nat} {S S':TS} {firm:Nat -> List UInt8} {X:Sb} {ps0 ps ps':List Pr} {qs0 qs qs':List Int} {r r':Int} {m k:Nat}
theorem BtM.put_or (h:BtM n S firm X ps0 qs0 r ps qs m) (hps:ps.length <= 500) {key:Int} (hk:0 <= key /\ key <= 4294967295) {val:ByteArray} (hv:val.size = 12) :
  (∃ S',yY n S r key val = (.error 6,S') /\ xD n firm S S' 27) \/ ∃ r' S' qs',yY n S r key val = (.ok r',S') /\ BtM n S' firm X ps0 qs0 r' (vE ps key val) qs' (m + 1):=by
 have hst:=Y7 h.ok r key val;rcases W5 h.ok hv hk h.rt h.used h.nodup hps with ⟨S',he,_⟩ | ⟨r',S',qs',he,hp⟩
 ·rw [he] at hst;exact .inl ⟨S',he,hst⟩
 ·rw [he] at hst;exact .inr ⟨r',S',qs',he,h.made hst hp⟩
theorem BtM.del_or (h:BtM n S firm X ps0 qs0 r ps qs m) (hps:ps.length <= 500) {key:Int} (hk:0 <= key /\ key <= 4294967295) (hin:∃ p ∈ ps,p.1 = key) :
  (∃ S',xL n S r key = (.error 6,S') /\ xD n firm S S' 27) \/ ∃ r' S' qs',xL n S r key = (.ok r',S') /\ BtM n S' firm X ps0 qs0 r' (qh ps key) qs' (m + 1):=by
 have hst:=(Kr h.ok r key).more (m':=27) (by decide);rcases zar h.ok hk h.rt h.used h.nodup hps with ⟨h1,_⟩ | ⟨_,⟨S',he,_⟩ | ⟨r',S',qs',he,hp⟩⟩
 ·obtain ⟨p,hp,e⟩:=hin;exact absurd e (h1 p hp)
 ·rw [he] at hst;exact .inl ⟨S',he,hst⟩
 ·rw [he] at hst;exact .inr ⟨r',S',qs',he,h.made hst hp⟩
theorem BtM.change_or (h:BtM n S firm X ps0 qs0 r ps qs m) (hps:ps.length <= 500) {c:Pr} (hc:yI c.1 c.2.size) :
  (∃ S',Zj n S r c.1 c.2 = (.error 6,S') /\ xD n firm S S' 27) \/ ∃ r' S' qs',Zj n S r c.1 c.2 = (.ok r',S') /\ BtM n S' firm X ps0 qs0 r' (JE ps c) qs' (m + 1):=by
 obtain ⟨h1,h2,h3⟩:=hc;unfold Zj JE;by_cases h0:c.2.size ≠ 0
 ·rw [if_pos h0,if_pos h0];exact h.put_or hps ⟨h1,h2⟩ (by omega)
 ·rw [if_neg h0,if_neg h0,Y8 h.ok h.rt hps];by_cases he:ki ps c.1 (c.1 + 1) = []
  ·rw [he];refine .inr ⟨r,S,qs,rfl,?_⟩;rw [vN (zbT.1 he)];exact h.more
  ·obtain ⟨p,t,e⟩:=List.exists_cons_of_ne_nil he;rw [e];refine h.del_or hps ⟨h1,h2⟩ ?_;have hp:p ∈ ki ps c.1 (c.1 + 1):=by rw [e]; exact List.mem_cons_self
   unfold ki at hp;rw [List.mem_filter] at hp;refine ⟨p,hp.1,?_⟩;have:=hp.2;simp at this;omega
theorem BtM.batch_or:∀ (cs:List Pr) {S:TS} {r:Int} {ps:List Pr} {qs:List Int} {m:Nat},BtM n S firm X ps0 qs0 r ps qs m -> (∀ c ∈ cs,yI c.1 c.2.size) -> ps.length + cs.length <= 500 ->
  (∃ S',xQ n S r cs = (.error 6,S') /\ OkT n S' firm /\ S'.s.sup = X /\ S'.d.soft.length <= 27 * (m + cs.length)) \/ ∃ r' S' qs',xQ n S r cs = (.ok r',S') /\ BtM n S' firm X ps0 qs0 r' (zae ps cs) qs' (m + cs.length)
 | [],S,r,ps,qs,m,h,_,_=>.inr ⟨r,S,qs,rfl,h⟩
 | c :: cs,S,r,ps,qs,m,h,hc,h5=>by
  simp only [List.length_cons] at h5;have hm:m + (c :: cs).length = m + 1 + cs.length:=by simp only [List.length_cons]; omega
  rw [hm,xQ];rcases h.change_or (by omega) (hc c List.mem_cons_self) with ⟨S1,e1,h1⟩ | ⟨r1,S1,qs1,e1,h1⟩
  ·rw [e1];exact .inl ⟨S1,rfl,h1.ok,h1.sup.trans h.sup,by have:=h1.soft; have:=h.soft; omega⟩
  ·rw [e1];have hl:=YY ps c;rcases BtM.batch_or cs h1 (fun x hx=>hc x (List.mem_cons_of_mem _ hx)) (by omega) with ⟨S2,e2,h2⟩ | ⟨r2,S2,qs2,e2,h2⟩
   ·exact .inl ⟨S2,e2,h2⟩
   ·exact .inr ⟨r2,S2,qs2,e2,h2⟩
theorem WhM.aborted (h:WhM n S firm ps qs k) (hok:OkT n S' firm) (hsup:S'.s.sup = S.s.sup) {k':Nat} (hk:k <= k') (hsoft:S'.d.soft.length <= 27 * k'):WhM n S'.abort firm ps qs k':=by
 have e:S'.abort.s.sup = S.s.sup:=hsup;refine ⟨hok.aborted,rfl,rfl,?_,?_,by have:=h.few; omega,?_,hsoft⟩
 ·rw [e]; exact h.com
 ·rw [e]; exact h.all
 ·rw [e]; have:=h.gen; omega
end
theorem zdJ {n:Nat} {S:TS} {firm:Nat -> List UInt8} {ps cs:List Pr} {qs:List Int} {k:Nat} (h:WhM n S firm ps qs k) (hmay:∀ c ∈ cs,yI c.1 c.2.size) (h5:ps.length + cs.length <= 500) (hk:k + cs.length <= 2000) :
  (∀ j,j <= cs.length -> (xQ n S S.s.sup.root (cs.take j)).2.d.soft.length <= 99900) /\
  ((∃ S',xQ n S S.s.sup.root cs = (.error 6,S') /\ WhM n S'.abort firm ps qs (k + cs.length + 1) /\ S'.abort.s.sup.gen = S.s.sup.gen) \/
   ∃ r S' qs',xQ n S S.s.sup.root cs = (.ok r,S') /\ rootOk S'.s r = true /\ S'.s.sup.gen + 1 < 4294967296 /\ WhM n (S'.commit r) S'.data (zae ps cs) qs' (k + cs.length + 1) /\ (S'.commit r).s.sup.gen = S.s.sup.gen + 1):=by
 have hb:=h.begin;have hl:=YU ps cs;refine ⟨fun j hj=>?_,?_⟩
 ·rcases hb.batch_or (cs.take j) (fun c hc=>hmay c (List.mem_of_mem_take hc)) (by rw [List.length_take]; omega) with ⟨S1,e1,_,_,h1⟩ | ⟨r1,S1,q1,e1,m1⟩
  ·rw [e1];rw [List.length_take] at h1;show S1.d.soft.length <= 99900;omega
  ·rw [e1];have:=m1.soft;rw [List.length_take] at this;show S1.d.soft.length <= 99900;omega
 ·rcases hb.batch_or cs hmay h5 with ⟨S1,e1,h1,h2,h3⟩ | ⟨r,S',qs',hr,hm⟩
  ·refine .inl ⟨S1,e1,h.aborted h1 h2 (by omega) (by omega),?_⟩;show S1.s.sup.gen = _;rw [h2]
  ·obtain ⟨h1,h2,h3⟩:=hm.commit (k:=k + cs.length) (by have:=h.few; omega) (by have:=h.gen; omega) (by omega);refine .inr ⟨r,S',qs',hr,h1,h2,h3,?_⟩;show S'.s.sup.gen + 1 = _;rw [hm.sup]
end Go.Proofs.YtafclmbecmgbnaaGreatDoor
namespace Go.Proofs.YtafclmbecmgbnaaGreatDoor
section
open Go.RowKit
theorem zaL {l:List Int} (h:l.Nodup) (hb:∀ q ∈ l,2 <= q /\ q <= 239):l.length <= 240:=by
 have h1:(l.map Int.toNat).Nodup:=by
  refine List.pairwise_map.2 (h.imp_of_mem fun {a b} ha hb2 hne e=>hne ?_);have:=hb a ha;have:=hb b hb2;omega
 have h3:(l.map Int.toNat) ⊆ List.range 240:=fun x hx=>by
  obtain ⟨q,hq,rfl⟩:=List.mem_map.1 hx;have:=hb q hq;exact List.mem_range.2 (by omega)
 have h4:=h1.length_le_of_subset h3;simpa using h4
theorem Vd {n:Nat} {S:TS} {firm:Nat -> List UInt8} (h:OkT n S firm) {q:Int} (hq:usd S q):2 <= q /\ q <= 239:=by
 obtain ⟨k,rfl,hk,hh⟩:=wW hq;have:=h.in_range hk (h.used_in hk hh);omega
theorem zcT {n:Nat} {S:TS} {firm:Nat -> List UInt8} (ho:OkT n S firm) {h:Nat} {root:Int} {ps:List Pr} {qs:List Int} (ht:Tr (Dm S) h 1 0 4294967296 root ps qs) (hu:∀ q ∈ qs,usd S q) (hn:qs.Nodup) (hh:h + 1 <= 12):∃ met,Svd S root ⟨[],met,(h:Int) + 1,[]⟩ /\ met.Perm qs:=by
 obtain ⟨met,h1,h2⟩:=zcS ht hu hn hh;obtain ⟨x,qt,hx,rfl⟩:=ht.head;have hr:=Vd ho (hu root List.mem_cons_self);refine ⟨met,.inr ⟨by omega,by omega,rfl,by simp,fun _=>h2.nodup_iff.2 hn,_,?_,h1⟩,h2⟩;have:=zaL hn fun q hq=>Vd ho (hu q hq)
 omega
theorem zeE {n:Nat} {S:TS} {firm:Nat -> List UInt8} (ho:OkT n S firm) {root:Int} {ps:List Pr} {qs:List Int} (ht:Rt (Dm S) root ps qs) (hu:∀ q ∈ qs,usd S q) (hn:qs.Nodup) (hps:ps.length <= 500):∃ met dep,Svd S root ⟨[],met,dep,[]⟩ /\ met.Perm qs:=by
 rcases ht with ⟨rfl,rfl,rfl⟩ | ⟨h,ht⟩
 ·exact ⟨[],0,.inl ⟨rfl,rfl⟩,List.Perm.refl _⟩
 ·have hh:h <= 8:=by
   rcases Nat.eq_zero_or_pos h with h0 | h0
   ·omega
   ·exact qB (ht.high (.inr h0)) hps
  obtain ⟨met,h1,h2⟩:=zcT ho ht hu hn (by omega);exact ⟨met,_,h1,h2⟩
theorem Qn (l:List Int):∀ k,k < 240 -> Bits.has (vS l) k = decide ((k:Int) ∈ l):=by
 have:∀ (l:List Int) (s:List Nat),Bits.Ok s -> ∀ k,k < 240 -> Bits.has (l.foldl kV s) k = (Bits.has s k || decide ((k:Int) ∈ l)):=by
  intro l;induction l with
  | nil=>intro s _ k _; simp
  | cons z l ih =>
   intro s hs k hk;show Bits.has (l.foldl kV (kV s z)) k = _;rw [ih _ (Jc hs z) k hk];unfold kV ju;by_cases hz:0 <= z /\ z < 240
   ·rw [decide_eq_true hz,if_pos rfl,Bits.has_with hs (by omega)];by_cases he:k = z.toNat
    ·simp [he];omega
    ·have e:(k:Int) ≠ z:=by omega
     simp [he,e]
   ·rw [decide_eq_false hz,if_neg (by decide)];have e:(k:Int) ≠ z:=by omega
    simp [e]
 intro k hk;have h:=this l zO xM k hk;rw [show Bits.has zO k = false from xP k,Bool.false_or] at h;exact h
theorem zc0 {n:Nat} {S:TS} {firm:Nat -> List UInt8} (ho:OkT n S firm) {root:Int} {ps:List Pr} {qs:List Int} (ht:Rt (Dm S) root ps qs) (hu:∀ q ∈ qs,usd S q) (hn:qs.Nodup) (hps:ps.length <= 500) (hr:root = S.s.sup.root) (hall:∀ j,usd S j -> j ∈ qs):∃ s,Svd S S.s.sup.root s /\ wholeZ S s = 0:=by
 obtain ⟨met,dep,h1,h2⟩:=zeE ho ht hu hn hps;rw [hr] at h1;refine ⟨_,h1,?_⟩;unfold wholeZ;rw [if_pos rfl];refine if_pos (Bits.ext ho.usedOk (YL _) fun k hk=>?_);rw [Qn _ k hk];have hm:(k:Int) ∈ Wl met ↔ usd S (k:Int):=by
  rw [show Wl met = met.mergeSort _ from rfl,List.mem_mergeSort,h2.mem_iff];exact ⟨hu _,hall _⟩
 cases hb:Bits.has S.s.used k with
 | true=>exact (decide_eq_true (hm.2 ((jh hk).2 hb))).symm
 | false =>
  refine (decide_eq_false fun h=>?_).symm;have:=(jh hk).1 (hm.1 h);rw [hb] at this; cases this
section
variable {O:zV} (H:ye O)
include H
end
end
section
open Go.RowKit
section
variable {O:zV} (H:ye O)
include H
end
end
section
open Go.RowKit
structure LgS (O:zV) (w0:World) (K:Nat -> Prop) (w:World) (b P D n:Nat) (S:TS) (firm:Nat -> List UInt8) (ps:List Pr) (k:Nat):Prop where
 law:zP O w0 K w P D n S firm
 led:yV w b P
 mine:K b
 whole:∃ qs,WhM n S firm ps qs k
theorem LgS.more {O:zV} {w0:World} {K:Nat -> Prop} {w:World} {b P D n:Nat} {S:TS} {firm:Nat -> List UInt8} {ps:List Pr} {k k':Nat} (h:LgS O w0 K w b P D n S firm ps k) (hk:k <= k'):LgS O w0 K w b P D n S firm ps k':=by
 obtain ⟨h1,h2,h3,qs,h4⟩:=h;exact ⟨h1,h2,h3,qs,h4.more hk⟩
section
variable {O:zV} (H:ye O)
include H
theorem LgS.grow {w0:World} {K:Nat -> Prop} {w w':World} {b P D n:Nat} {S:TS} {firm:Nat -> List UInt8} {ps:List Pr} {k:Nat} (h:LgS O w0 K w b P D n S firm ps k) (hb:Below w.1.size w w'):LgS O w0 (fun k=>K k \/ (w.1.size <= k /\ k < w'.1.size)) w' b P D n S firm ps k:=⟨h.law.grow H hb,h.led.carry hb,.inl h.mine,h.whole⟩
variable (HA:AbD O)
include HA
end
end
end Go.Proofs.YtafclmbecmgbnaaGreatDoor
namespace Go.Proofs.YtafclmbecmgbnaaGreatDoor
open Go.RowKit
open Bits (has)
theorem WhM.wholeZ {n:Nat} {S:TS} {firm:Nat -> List UInt8} {ps:List Pr} {qs:List Int} {k:Nat} (h:WhM n S firm ps qs k) (hps:ps.length <= 500):∃ s,Svd S S.s.sup.root s /\ Proofs.YtafclmbecmgbnaaGreatDoor.wholeZ S s = 0:=zc0 h.ok h.rt h.used.1 h.com.nodup hps rfl h.used.2
