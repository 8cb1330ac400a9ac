/-
 TrJoin. Conditions: as each theorem says.
-/
import Derived.Test.YtafclmbecmgbnaaGreatDoorTrApp
import Derived.Test.YtafclmbecmgbnaaGreatDoorTrDelModel
set_option maxRecDepth 100000
set_option maxHeartbeats 4000000
open Nat renaming le_trans -> ze2,le_refl -> ze3
open List renaming mem_append -> zfy
namespace Go.Proofs.YtafclmbecmgbnaaGreatDoor
open Go.RowKit
structure JoS (w:World) (p q r b b2:Nat) (l l2:zd) (x y:Nd) (m:zd) (z:Nd) (wr:World):Prop where
 bp:zb wr p l x
 bq:zb wr q l2 y
 br:zb wr r zd.none_ Nd.empty
 fr:∀ j,wr.frozen? ⟨r,j,none⟩ = false
 my:zo wr b2 l2 y
 k:wr.ownsRow b 3 1 (.slice m.A z.keys.length m.ca) z.keys.length (z.keys.map (Value.int .i64))
 v:wr.ownsRow b 9 1 (.slice m.B z.vals.length m.cb) z.vals.length (z.vals.map Value.string)
 c:wr.ownsRow b 3 1 (.slice m.C z.kids.length m.cc) z.kids.length (z.kids.map (Value.int .i64))
 new:∀ g,m.has g -> l.has g \/ w.1.size + 3 <= g
 akv:∀ a c,m.A = some a -> m.B = some c -> a.block ≠ c.block
 akc:∀ a c,m.A = some a -> m.C = some c -> a.block ≠ c.block
 avc:∀ a c,m.B = some a -> m.C = some c -> a.block ≠ c.block
 turn:zr l.has w wr
 lw:∀ g,l.has g -> g < w.1.size
 dis:∀ g,l2.has g -> g < w.1.size /\ ¬ l.has g
 pw:w.1.size <= p /\ p < w.1.size + 3
 qw:w.1.size <= q /\ q < w.1.size + 3
 rw_:w.1.size <= r /\ r < w.1.size + 3
 hw:w.1.size + 3 <= wr.1.size
section
variable {w:World} {p q r b b2:Nat} {l l2:zd} {x y:Nd} {m:zd} {z:Nd} {wr w':World}
theorem JoS.lt (h:JoS w p q r b b2 l l2 x y m z wr) {g:Nat} (hg:m.has g):g < wr.1.size:=by
 rcases hg with ⟨a,e,rfl⟩ | ⟨a,e,rfl⟩ | ⟨a,e,rfl⟩
 ·exact (h.k.lt _ (by rw [e]; rfl)).2
 ·exact (h.v.lt _ (by rw [e]; rfl)).2
 ·exact (h.c.lt _ (by rw [e]; rfl)).2
theorem JoS.rest (h:JoS w p q r b b2 l l2 x y m z wr) {M:Nat -> Prop} (ht:zr M wr w') (hM:∀ k,M k -> m.has k) :
  zb w' p l x /\ zb w' q l2 y /\ zb w' r zd.none_ Nd.empty /\ (∀ j,w'.frozen? ⟨r,j,none⟩ = false) /\ zo w' b2 l2 y /\ zr l.has w w' /\ w.1.size + 3 <= w'.1.size:=by
 have hm:∀ k,M k -> l.has k \/ w.1.size + 3 <= k:=fun k hk=>h.new k (hM k hk)
 have hn:∀ k,w.1.size <= k -> k < w.1.size + 3 -> ¬ M k:=fun k h1 h2 hk=>(hm k hk).elim (fun h3=>by have:=h.lw k h3; omega) (fun h3=>by omega)
 have hbr:=ht.block r ⟨h.br.lt,hn r h.rw_.1 h.rw_.2⟩;refine ⟨h.bp.turn ht (hn p h.pw.1 h.pw.2),h.bq.turn ht (hn q h.qw.1 h.qw.2),h.br.turn ht (hn r h.rw_.1 h.rw_.2),fun j=>(World.frozen?_of_block (w:=wr) (a:=⟨r,j,none⟩) hbr).trans (h.fr j),?_,?_,ze2 h.hw ht.size⟩
 ·exact h.my.keep ht.size fun g hg=>ht.block g ⟨(h.my.lt g hg).2,fun hk=>(hm g hk).elim (h.dis g hg).2 fun h3=>by have:=(h.dis g hg).1; omega⟩
 ·exact h.turn.trans (ht.more fun k _ hk=>(hm k hk).imp id fun h3=>by omega)
theorem JoS.below (h:JoS w p q r b b2 l l2 x y m z wr) (hb:Below wr.1.size wr w'):JoS w p q r b b2 l l2 x y m z w':=by
 have ht:zr (fun _=>False) wr w':=zr.of_below hb;obtain ⟨h1,h2,h3,h4,h5,h6,h7⟩:=h.rest ht (fun _ hk=>hk.elim);exact ⟨h1,h2,h3,h4,h5,zu h.k ht (fun _ _ h=>h),zu h.v ht (fun _ _ h=>h),zu h.c ht (fun _ _ h=>h),h.new,h.akv,h.akc,h.avc,h6,h.lw,h.dis,h.pw,h.qw,h.rw_,h7⟩
theorem JoS.keys (h:JoS w p q r b b2 l l2 x y m z wr) {A':Option Addr} {c':Nat} {ks:List Int} (ho:w'.ownsRow b 3 1 (.slice A' ks.length c') ks.length (ks.map (Value.int .i64))) (ht:zr (fun k=>∃ a,m.A = some a /\ a.block = k) wr w') (hA:∀ g,A' = some g -> m.A = some g \/ wr.1.size <= g.block) :
  JoS w p q r b b2 l l2 x y ⟨A',m.B,m.C,c',m.cb,m.cc⟩ ⟨ks,z.vals,z.kids⟩ w':=by
 obtain ⟨h1,h2,h3,h4,h5,h6,h7⟩:=h.rest ht (fun _ ⟨a,e1,e2⟩=>.inl ⟨a,e1,e2⟩);have hv:=zu h.v ht (fun g hg ⟨c,e1,e2⟩=>by cases hB:m.B with | none=>(rw [hB] at hg; cases hg) | some d=>(rw [hB] at hg; cases hg; exact h.akv c d e1 hB e2));have hc:=zu h.c ht (fun g hg ⟨c,e1,e2⟩=>by cases hB:m.C with | none=>(rw [hB] at hg; cases hg) | some d=>(rw [hB] at hg; cases hg; exact h.akc c d e1 hB e2));refine ⟨h1,h2,h3,h4,h5,ho,hv,hc,?_,?_,?_,h.avc,h6,h.lw,h.dis,h.pw,h.qw,h.rw_,h7⟩
 ·rintro g (⟨a,e,rfl⟩ | ⟨a,e,rfl⟩ | ⟨a,e,rfl⟩)
  ·exact (hA a e).elim (fun h8=>h.new _ (.inl ⟨a,h8,rfl⟩)) (fun h8=>.inr (ze2 h.hw h8))
  ·exact h.new _ (.inr (.inl ⟨a,e,rfl⟩))
  ·exact h.new _ (.inr (.inr ⟨a,e,rfl⟩))
 ·exact fun a c e1 e2=>(hA a e1).elim (fun h8=>h.akv a c h8 e2) (fun h8=>by have:=h.lt (.inr (.inl ⟨c,e2,rfl⟩)); omega)
 ·exact fun a c e1 e2=>(hA a e1).elim (fun h8=>h.akc a c h8 e2) (fun h8=>by have:=h.lt (.inr (.inr ⟨c,e2,rfl⟩)); omega)
theorem JoS.vals (h:JoS w p q r b b2 l l2 x y m z wr) {A':Option Addr} {c':Nat} {vs:List ByteArray} (ho:w'.ownsRow b 9 1 (.slice A' vs.length c') vs.length (vs.map Value.string)) (ht:zr (fun k=>∃ a,m.B = some a /\ a.block = k) wr w') (hA:∀ g,A' = some g -> m.B = some g \/ wr.1.size <= g.block) :
  JoS w p q r b b2 l l2 x y ⟨m.A,A',m.C,m.ca,c',m.cc⟩ ⟨z.keys,vs,z.kids⟩ w':=by
 obtain ⟨h1,h2,h3,h4,h5,h6,h7⟩:=h.rest ht (fun _ ⟨a,e1,e2⟩=>.inr (.inl ⟨a,e1,e2⟩));have hk:=zu h.k ht (fun g hg ⟨c,e1,e2⟩=>by cases hB:m.A with | none=>(rw [hB] at hg; cases hg) | some d=>(rw [hB] at hg; cases hg; exact h.akv d c hB e1 e2.symm));have hc:=zu h.c ht (fun g hg ⟨c,e1,e2⟩=>by cases hB:m.C with | none=>(rw [hB] at hg; cases hg) | some d=>(rw [hB] at hg; cases hg; exact h.avc c d e1 hB e2));refine ⟨h1,h2,h3,h4,h5,hk,ho,hc,?_,?_,h.akc,?_,h6,h.lw,h.dis,h.pw,h.qw,h.rw_,h7⟩
 ·rintro g (⟨a,e,rfl⟩ | ⟨a,e,rfl⟩ | ⟨a,e,rfl⟩)
  ·exact h.new _ (.inl ⟨a,e,rfl⟩)
  ·exact (hA a e).elim (fun h8=>h.new _ (.inr (.inl ⟨a,h8,rfl⟩))) (fun h8=>.inr (ze2 h.hw h8))
  ·exact h.new _ (.inr (.inr ⟨a,e,rfl⟩))
 ·exact fun a c e1 e2=>(hA c e2).elim (fun h8=>h.akv a c e1 h8) (fun h8=>by have:=h.lt (.inl ⟨a,e1,rfl⟩); omega)
 ·exact fun a c e1 e2=>(hA a e1).elim (fun h8=>h.avc a c h8 e2) (fun h8=>by have:=h.lt (.inr (.inr ⟨c,e2,rfl⟩)); omega)
theorem JoS.kids (h:JoS w p q r b b2 l l2 x y m z wr) {A':Option Addr} {c':Nat} {cs:List Int} (ho:w'.ownsRow b 3 1 (.slice A' cs.length c') cs.length (cs.map (Value.int .i64))) (ht:zr (fun k=>∃ a,m.C = some a /\ a.block = k) wr w') (hA:∀ g,A' = some g -> m.C = some g \/ wr.1.size <= g.block) :
  JoS w p q r b b2 l l2 x y ⟨m.A,m.B,A',m.ca,m.cb,c'⟩ ⟨z.keys,z.vals,cs⟩ w':=by
 obtain ⟨h1,h2,h3,h4,h5,h6,h7⟩:=h.rest ht (fun _ ⟨a,e1,e2⟩=>.inr (.inr ⟨a,e1,e2⟩));have hk:=zu h.k ht (fun g hg ⟨c,e1,e2⟩=>by cases hB:m.A with | none=>(rw [hB] at hg; cases hg) | some d=>(rw [hB] at hg; cases hg; exact h.akc d c hB e1 e2.symm));have hv:=zu h.v ht (fun g hg ⟨c,e1,e2⟩=>by cases hB:m.B with | none=>(rw [hB] at hg; cases hg) | some d=>(rw [hB] at hg; cases hg; exact h.avc d c hB e1 e2.symm));refine ⟨h1,h2,h3,h4,h5,hk,hv,ho,?_,h.akv,?_,?_,h6,h.lw,h.dis,h.pw,h.qw,h.rw_,h7⟩
 ·rintro g (⟨a,e,rfl⟩ | ⟨a,e,rfl⟩ | ⟨a,e,rfl⟩)
  ·exact h.new _ (.inl ⟨a,e,rfl⟩)
  ·exact h.new _ (.inr (.inl ⟨a,e,rfl⟩))
  ·exact (hA a e).elim (fun h8=>h.new _ (.inr (.inr ⟨a,h8,rfl⟩))) (fun h8=>.inr (ze2 h.hw h8))
 ·exact fun a c e1 e2=>(hA c e2).elim (fun h8=>h.akc a c e1 h8) (fun h8=>by have:=h.lt (.inl ⟨a,e1,rfl⟩); omega)
 ·exact fun a c e1 e2=>(hA c e2).elim (fun h8=>h.avc a c e1 h8) (fun h8=>by have:=h.lt (.inr (.inl ⟨a,e1,rfl⟩)); omega)
theorem JoS.done (h:JoS w p q r b b2 l l2 x y m z wr) (kl:z.keys.length <= 100) (vl:z.vals.length <= 100) (cl:z.kids.length <= 101)
  (kw:∀ i ∈ z.keys,-9223372036854775808 <= i /\ i <= 9223372036854775807) (vw:∀ v ∈ z.vals,v.size <= maxLen) (cw:∀ i ∈ z.kids,-9223372036854775808 <= i /\ i <= 9223372036854775807):XD w b l z (.returned (ndV m z)) (zx wr r m z):=by
 have ht:zr (fun k=>k = r) wr (zx wr r m z):=⟨rfl,rfl,rfl,by rw [zK]; exact ze3 _,fun k hk=>zj hk.2⟩
 have hr:¬ m.has r:=fun hk=>(h.new r hk).elim (fun h3=>by have:=h.lw r h3; have:=h.rw_.1; omega) (fun h3=>by have:=h.rw_.2; omega)
 refine ⟨m,rfl,vi (zo.of_own h.k h.v h.c h.akv h.akc h.avc kl vl cl kw vw cw) hr,h.turn.trans (ht.more fun k _ hk=>.inr (by rw [hk]; exact h.rw_.1)),fun g hg=>(h.new g hg).imp id fun h3=>by omega⟩
end
theorem Kx {w:World} {b b2:Nat} {l l2:zd} {x y:Nd} (hx:zo w b l x) (hy:zo w b2 l2 y) (hdis:∀ g,l.has g -> ¬ l2.has g) (hb:b <= w.1.size) {k:Int} (hk:-9223372036854775808 <= k /\ k <= 9223372036854775807)
  (hkl:x.keys.length + y.keys.length <= 90) (hvl:x.vals.length + y.vals.length <= 90) (hcl:x.kids.length + y.kids.length <= 90) :
  Calls Tryz.prog 141 #[ndV l x,.int .i64 k,ndV l2 y] w (XD w b l (vr x k y)):=by
 obtain ⟨ii,hi0,hi1,hi2,hi3⟩:=info_parts Tryz.infoInt9;obtain ⟨is,hs0,hs1,hs2,hs3⟩:=info_parts Tryz.infoStr9;obtain ⟨p,HPP⟩:=hY (w.1.size);obtain ⟨q,HQQ⟩:=hY (p + 1);obtain ⟨r,HRR⟩:=hY (q + 1);obtain ⟨w1,HW1⟩:=hY (((w.alloc (.cells #[.slice l.A x.keys.length l.ca,.slice l.B x.vals.length l.cb,.slice l.C x.kids.length l.cc] 48)).alloc (.cells #[.slice l2.A y.keys.length l2.ca,.slice l2.B y.vals.length l2.cb,.slice l2.C y.kids.length l2.cc] 48)).alloc (.cells #[.slice none 0 0,.slice none 0 0,.slice none 0 0] 48));have HB1:=hI (Below w.1.size w w1 /\ w1.1.size = w.1.size + 3) (by rw [HW1.o]; exact ⟨(((Below.refl _ _).alloc (ze3 _) _).alloc (by simp) _).alloc (by simp; omega) _,by simp⟩);have HX1:=hI (zb w1 p l x /\ zb w1 q l2 y /\ zb w1 r zd.none_ Nd.empty /\ ∀ j,w1.frozen? ⟨r,j,none⟩ = false) (by
  have e1:=zb.new (w:=w) (l:=l) (x:=x) 48;rw [HW1.o];obtain ⟨wa,hwa⟩:∃ wa,wa = w.alloc (.cells #[.slice l.A x.keys.length l.ca,.slice l.B x.vals.length l.cb,.slice l.C x.kids.length l.cc] 48):=⟨_,rfl⟩
  rw [<- hwa] at e1 ⊢;have hsa:wa.1.size = w.1.size + 1:=by rw [hwa]; simp
  have e2:=zb.new (w:=wa) (l:=l2) (x:=y) 48;obtain ⟨wb,hwb⟩:∃ wb,wb = wa.alloc (.cells #[.slice l2.A y.keys.length l2.ca,.slice l2.B y.vals.length l2.cb,.slice l2.C y.kids.length l2.cc] 48):=⟨_,rfl⟩
  rw [<- hwb] at e2 ⊢;have hsb:wb.1.size = wa.1.size + 1:=by rw [hwb]; simp
  have hab:Below wa.1.size wa wb:=by rw [hwb]; exact bA
  have e3:=zb.new (w:=wb) (l:=zd.none_) (x:=Nd.empty) 48;have f3:=zU wb #[.slice none 0 0,.slice none 0 0,.slice none 0 0] 48;have hbc:Below wb.1.size wb (wb.alloc (.cells #[.slice none 0 0,.slice none 0 0,.slice none 0 0] 48)):=(Below.refl _ _).alloc (ze3 _) _;rw [hsb,hsa] at e3 f3;rw [hsa] at e2;rw [HRR.o,HQQ.o,HPP.o];exact ⟨(e1.carry hab e1.lt).carry hbc (e1.carry hab e1.lt).lt,e2.carry hbc e2.lt,e3,f3⟩)
 have HJ1:=hI (JoS w p q r b b2 l l2 x y l x w1) (by
  have hmx:=hx.carry HB1.o.1;refine ⟨HX1.o.1,HX1.o.2.1,HX1.o.2.2.1,HX1.o.2.2.2,hy.carry HB1.o.1,hmx.k,hmx.v,hmx.c,fun g hg=>.inl hg,hmx.akv,hmx.akc,hmx.avc,zr.of_below HB1.o.1,fun g hg=>(hx.lt g hg).2,fun g hg=>⟨(hy.lt g hg).2,fun h=>hdis g h hg⟩,?_,?_,?_,by rw [HB1.o.2]; exact ze3 _⟩
  ·rw [HPP.o]; omega
  ·rw [HQQ.o,HPP.o]; omega
  ·rw [HRR.o,HQQ.o,HPP.o]; omega)
 have HKW:=hI ((∀ i ∈ (vr x k y).keys,-9223372036854775808 <= i /\ i <= 9223372036854775807) /\ (∀ v ∈ (vr x k y).vals,v.size <= maxLen) /\ ∀ i ∈ (vr x k y).kids,-9223372036854775808 <= i /\ i <= 9223372036854775807) (by
  refine ⟨fun i hi=>?_,fun v hv=>(zfy.1 hv).elim (hx.is.vw v) (hy.is.vw v),fun i hi=>(zfy.1 hi).elim (hx.is.cw i) (hy.is.cw i)⟩;rcases zfy.1 hi with h | h
  ·split at h
   ·exact hx.is.kw i h
   ·rcases zfy.1 h with h | h
    ·exact hx.is.kw i h
    ·rw [List.mem_singleton.1 h]; exact hk
  ·exact hy.is.kw i h)
 have HLN:=hI (x.keys.length + y.keys.length <= 90 /\ x.vals.length + y.vals.length <= 90 /\ x.kids.length + y.kids.length <= 90) ⟨hkl,hvl,hcl⟩;have HBW:=hI (b <= w.1.size) hb;obtain ⟨R,HRS⟩:=hY (vr x k y);rw [<- HRS.o] at HKW ⊢;clear hx hy hdis hb hk hkl hvl hcl HX1;have c0:=HJ1.o.bp.c0
 go_enter Tryz.func141,Tryz.ntmps141
 go_upto_region 1 with (fail)
 rw [<- HW1.o,<- HPP.o,<- HQQ.o,<- HRR.o];clear HW1;go_wp2_with (with_reducible refine xD9 (some 10) ?_);refine zf Tryz.ndProg (by rfl) _ rfl p rfl l x HJ1.o.bp ?_;go_wp2_with fail;refine (wR x).mono ?_;rintro e w2 ⟨rfl,hb⟩;have HJ2:=Hi (HJ1.o.below hb);clear hb HJ1 c0;by_cases hlf:x.kids.length = 0
 case' pos =>
  rw [decide_eq_true hlf];obtain ⟨A1,HA1⟩:=hY (l.A);obtain ⟨c1,HC1⟩:=hY (l.ca);obtain ⟨ks,HKS⟩:=hY (x.keys);have HG:=hI (R = ⟨ks ++ y.keys,x.vals ++ y.vals,x.kids ++ y.kids⟩ /\ ks.length <= x.keys.length + 1) (by rw [HRS.o,HKS.o]; unfold vr; rw [if_pos hlf]; exact ⟨rfl,Nat.le_succ _⟩);obtain ⟨w3,HW3⟩:=hY (w2);have HJ3:=hI (JoS w p q r b b2 l l2 x y ⟨A1,l.B,l.C,c1,l.cb,l.cc⟩ ⟨ks,x.vals,x.kids⟩ w3) (by rw [HW3.o,HA1.o,HC1.o,HKS.o]; exact HJ2.o);clear HJ2;go_upto_region 4 with (fail)
  rw [<- HW3.o];generalize HWV:Value.slice l.A x.keys.length l.ca = wv;obtain rfl:wv = .slice A1 ks.length c1:=by rw [<- HWV,HA1.o,HC1.o,HKS.o]
  clear HWV HA1 HC1 HKS HW3 hlf
 case' neg =>
  rw [decide_eq_false hlf];go_wp2_with (with_reducible refine xD9 (some 16) ?_);obtain ⟨g6,HG6⟩:=hY (w2.1.size);obtain ⟨w6,HW6⟩:=hY (w2.alloc (.cells #[.int .i64 k] 3));rw [<- HG6.o,<- HW6.o];have HJ6:=Hi (HJ2.o.below (w':=w6) (by rw [HW6.o]; exact bA));have hsrc:w6.ownsRow 0 3 1 (.slice (some ⟨g6,0,none⟩) 1 1) 1 [.int .i64 k]:=by rw [HW6.o,HG6.o]; exact wK (ya.made _ _ _) rfl rfl (ze3 _) (by decide) (Nat.zero_le _)
  clear HG6 HW6 HJ2;refine wpList_plain rfl fun K0 hK=>Xn _ _ 45 rfl 3 ii _ 8 Tryz.underlying45 hi0 hi1 hi2 hi3 rfl (by decide) rfl rfl HJ6.o.k hsrc (fun u hu=>by rw [List.mem_singleton.1 hu]; rfl) (by have:=HLN.o.1; omega) (ze2 HBW.o HJ6.o.turn.size) ?_
  intro A1 c1 w3 hown ht hA;obtain ⟨ks,HKS⟩:=hY (x.keys ++ [k]);have HG:=hI (R = ⟨ks ++ y.keys,x.vals ++ y.vals,x.kids ++ y.kids⟩ /\ ks.length <= x.keys.length + 1) (by rw [HRS.o,HKS.o]; unfold vr; rw [if_neg hlf]; exact ⟨rfl,by simp⟩);have hkl:x.keys.length + 1 = ks.length:=by rw [HKS.o]; simp
  have hkm:x.keys.map (Value.int .i64) ++ [.int .i64 k] = ks.map (Value.int .i64):=by rw [HKS.o]; simp
  rw [hkl,hkm] at hown;rw [hkl];have HJ3:=Hi (HJ6.o.keys hown ht hA);refine hK _ _ ?_;clear hK K0 hown ht hA hsrc HJ6 hkl hkm HKS hlf;go_upto_region 4 with (fail)
 all_goals
  refine wp_region_held (S:=fun w9=>zb w9 p l x /\ zb w9 q l2 y) (by kernel_rfl) ?_;change wpAnyH _ _ _ _ _ _ _ _ w3.drew;obtain ⟨wa,HWA⟩:=hY (w3.drew);rw [<- HWA.o];have HJA:=Hi (HJ3.o.below (w':=wa) (by rw [HWA.o]; exact (Below.refl _ _).drew));have hS:zb wa p l x /\ zb wa q l2 y:=⟨HJA.o.bp,HJA.o.bq⟩
  clear HWA HJ3;refine xA9 0 17 (.slice A1 ks.length c1) hS ?_;refine xA9 1 18 (.pointer (some ⟨q,0,none⟩)) hS ?_;refine xG9 2 19 (.slice l2.A y.keys.length l2.ca) rfl (.inl ⟨by rfl,fun _ h=>by have c0:=h.2.c0; go_simp⟩) hS ?_;refine xA9 4 21 (.pointer (some ⟨p,1,none⟩)) hS ?_;refine xG9 5 22 (.slice l.B x.vals.length l.cb) rfl (.inl ⟨by rfl,fun _ h=>by have c1:=h.1.c1; go_simp⟩) hS ?_;refine xA9 6 23 (.pointer (some ⟨q,1,none⟩)) hS ?_;refine xG9 7 24 (.slice l2.B y.vals.length l2.cb) rfl (.inl ⟨by rfl,fun _ h=>by have c1:=h.2.c1; go_simp⟩) hS ?_;refine xA9 9 26 (.pointer (some ⟨p,2,none⟩)) hS ?_;refine xG9 10 27 (.slice l.C x.kids.length l.cc) rfl (.inl ⟨by rfl,fun _ h=>by have c2:=h.1.c2; go_simp⟩) hS ?_;refine xA9 11 28 (.pointer (some ⟨q,2,none⟩)) hS ?_;refine xG9 12 29 (.slice l2.C y.kids.length l2.cc) rfl (.inl ⟨by rfl,fun _ h=>by have c2:=h.2.c2; go_simp⟩) hS ?_;refine xJ9 3 (some 20) (fun K0 hK=>?_);rw [if_pos (by rfl)];refine Xn _ _ 45 rfl 3 ii _ 8 Tryz.underlying45 hi0 hi1 hi2 hi3 rfl (by decide) rfl rfl HJA.o.k HJA.o.my.k (fun u hu=>by obtain ⟨j,_,rfl⟩:=List.mem_map.1 hu; rfl) (by have:=HLN.o; have:=HG.o.2; show ks.length + _ <= _; omega) (ze2 HBW.o HJA.o.turn.size) ?_;intro kA kc wb hown ht hA;obtain ⟨z1,Hz1⟩:=hY (ks ++ y.keys);have hkl:ks.length + y.keys.length = z1.length:=by rw [Hz1.o]; simp
  have hkm:ks.map (Value.int .i64) ++ y.keys.map (Value.int .i64) = z1.map (Value.int .i64):=by rw [Hz1.o]; simp
  rw [show _ ++ _ = z1.map (Value.int .i64) from hkm,show _ + _ = z1.length from hkl] at hown;rw [show _ + _ = z1.length from hkl];have HJB:=Hi (HJA.o.keys hown ht hA);have hS2:zb wb p l x /\ zb wb q l2 y:=⟨HJB.o.bp,HJB.o.bq⟩
  clear hS hown ht hA hkl hkm HJA;refine hK.out _ _ hS2 ?_;clear hK K0;have hS:=hS2;clear hS2;refine xJ9 8 (some 25) (fun K0 hK=>?_);rw [if_pos (by rfl)];refine Xn _ _ 46 rfl 9 is _ 16 Tryz.underlying46 hs0 hs1 hs2 hs3 rfl (by decide) rfl rfl HJB.o.v HJB.o.my.v (fun u hu=>by obtain ⟨j,_,rfl⟩:=List.mem_map.1 hu; rfl) (by have:=HLN.o; have:=HG.o.2; show x.vals.length + _ <= _; omega) (ze2 HBW.o HJB.o.turn.size) ?_;intro vA vc wc hown ht hA;obtain ⟨z2,Hz2⟩:=hY (x.vals ++ y.vals);have hkl:x.vals.length + y.vals.length = z2.length:=by rw [Hz2.o]; simp
  have hkm:x.vals.map Value.string ++ y.vals.map Value.string = z2.map Value.string:=by rw [Hz2.o]; simp
  rw [show _ ++ _ = z2.map Value.string from hkm,show _ + _ = z2.length from hkl] at hown;rw [show _ + _ = z2.length from hkl];have HJC:=Hi (HJB.o.vals hown ht hA);have hS2:zb wc p l x /\ zb wc q l2 y:=⟨HJC.o.bp,HJC.o.bq⟩
  clear hS hown ht hA hkl hkm HJB;refine hK.out _ _ hS2 ?_;clear hK K0;have hS:=hS2;clear hS2;refine xJ9 13 (some 30) (fun K0 hK=>?_);rw [if_pos (by rfl)];refine Xn _ _ 45 rfl 3 ii _ 8 Tryz.underlying45 hi0 hi1 hi2 hi3 rfl (by decide) rfl rfl HJC.o.c HJC.o.my.c (fun u hu=>by obtain ⟨j,_,rfl⟩:=List.mem_map.1 hu; rfl) (by have:=HLN.o; have:=HG.o.2; show x.kids.length + _ <= _; omega) (ze2 HBW.o HJC.o.turn.size) ?_;intro dA dc wd hown ht hA;obtain ⟨z3,Hz3⟩:=hY (x.kids ++ y.kids);have hkl:x.kids.length + y.kids.length = z3.length:=by rw [Hz3.o]; simp
  have hkm:x.kids.map (Value.int .i64) ++ y.kids.map (Value.int .i64) = z3.map (Value.int .i64):=by rw [Hz3.o]; simp
  rw [show _ ++ _ = z3.map (Value.int .i64) from hkm,show _ + _ = z3.length from hkl] at hown;rw [show _ + _ = z3.length from hkl];have HJD:=Hi (HJC.o.kids hown ht hA);have hS2:zb wd p l x /\ zb wd q l2 y:=⟨HJD.o.bp,HJD.o.bq⟩
  clear hS hown ht hA hkl hkm HJC;refine hK.out _ _ hS2 ?_;clear hK K0;have hS:=hS2;clear hS2;refine xA9 14 31 (.agg #[.slice kA z1.length kc,.slice vA z2.length vc,.slice dA z3.length dc]) hS ?_;refine xJ9 15 (none) (fun K0 hK=>?_);have HBQ:=Hi HJD.o.br;have f0:=HJD.o.fr 0;have f1:=HJD.o.fr 1;have f2:=HJD.o.fr 2;have HR9:=hI (R = ⟨z1,z2,z3⟩) (by rw [HG.o.1,Hz1.o,Hz2.o,Hz3.o]);obtain ⟨x2,HX2⟩:∃ x2:Nd,Hid (x2 = ⟨z1,z2,z3⟩):=Hy;have d0:=HBQ.o.c0;have d1:=HBQ.o.c1;have d2:=HBQ.o.c2;obtain ⟨w4,HWw4⟩:=hY (((wd.setCell ⟨r,0,none⟩ (.slice kA z1.length kc)).setCell ⟨r,1,none⟩ (.slice vA z2.length vc)).setCell ⟨r,2,none⟩ (.slice dA z3.length dc));have HSw4:=hI (w4 = zx wd r ⟨kA,vA,dA,kc,vc,dc⟩ x2) (by rw [HX2.o]; exact HWw4.o);have HXw4:=hI (zb w4 r ⟨kA,vA,dA,kc,vc,dc⟩ x2) (by rw [HSw4.o]; exact zC HBQ.o);go_simp;rw [<- HWw4.o];have hS4:zb w4 p l x /\ zb w4 q l2 y:=⟨hS.1.keep (by rw [HSw4.o]; exact zj (by rw [HRR.o,HQQ.o]; omega)),hS.2.keep (by rw [HSw4.o]; exact zj (by rw [HRR.o]; omega))⟩
  clear hS d0 d1 d2 f0 f1 f2;refine hK.out _ _ hS4 ?_;clear hK K0;refine wpAnyH_done (by kernel_rfl) ?_ _;go_wp2_with fail;refine bodyPost_ret (kS Tryz.ndProg rfl _ _ r ⟨kA,vA,dA,kc,vc,dc⟩ x2 rfl HXw4.o) rfl ?_;have hkw:=HKW.o;rw [HR9.o,<- HX2.o] at hkw ⊢;rw [HSw4.o];have hj:JoS w p q r b b2 l l2 x y ⟨kA,vA,dA,kc,vc,dc⟩ x2 wd:=by rw [HX2.o]; exact HJD.o
  have hl1:z1.length = ks.length + y.keys.length:=by rw [Hz1.o]; simp
  have hl2:z2.length = x.vals.length + y.vals.length:=by rw [Hz2.o]; simp
  have hl3:z3.length = x.kids.length + y.kids.length:=by rw [Hz3.o]; simp
  have hln:=HLN.o;have hkk:=HG.o.2;exact hj.done (by rw [HX2.o]; show z1.length <= _; omega) (by rw [HX2.o]; show z2.length <= _; omega) (by rw [HX2.o]; show z3.length <= _; omega) hkw.1 hkw.2.1 hkw.2.2
end Go.Proofs.YtafclmbecmgbnaaGreatDoor
set_option maxRecDepth 100000
set_option maxHeartbeats 4000000
open Nat renaming le_trans -> ze2,le_refl -> ze3
open List renaming getD_eq_getElem?_getD -> ze6,getElem?_eq_getElem -> ze7
namespace Go.Proofs.YtafclmbecmgbnaaGreatDoor
open Go.RowKit
def jp (O:zV) (w0:World) (K:Nat -> Prop) (w:World) (P D n:Nat) (firm:Nat -> List UInt8) (b:Nat) (l l2:zd) (R:Except Int Nd × TS) (e:Ending) (w':World):Prop :=
 zh (fun g=>K g /\ ¬ l.has g /\ ¬ l2.has g) w w' /\ match R.1 with
 | .error c=>zP O w0 K w' P D n R.2 firm /\ c ≠ 0 /\ ∃ v,e = .returned (.tuple #[ndV zd.none_ Nd.empty,v]) /\ zi w' w.1.size c v
 | .ok x=>∃ l',zP O w0 (fun g=>K g \/ l'.has g) w' P D n R.2 firm /\ e = .returned (.tuple #[ndV l' x,.nilIface]) /\ zo w' b l' x
structure MeS (w:World) (p q r b b2:Nat) (l l2:zd) (x y:Nd) (wr:World):Prop where
 bp:zb wr p l x
 bq:zb wr q l2 y
 br:zb wr r zd.none_ Nd.empty
 fr:∀ j,wr.frozen? ⟨r,j,none⟩ = false
 mx:zo wr b l x
 my:zo wr b2 l2 y
 below:Below w.1.size w wr
 pw:w.1.size <= p /\ p < w.1.size + 3
 qw:w.1.size <= q /\ q < w.1.size + 3
 rw_:w.1.size <= r /\ r < w.1.size + 3
 hw:w.1.size + 3 <= wr.1.size
theorem MeS.carry {w:World} {p q r b b2:Nat} {l l2:zd} {x y:Nd} {wr w':World} (h:MeS w p q r b b2 l l2 x y wr) (hb:Below wr.1.size wr w'):MeS w p q r b b2 l l2 x y w' :=
 ⟨h.bp.carry hb h.bp.lt,h.bq.carry hb h.bq.lt,h.br.carry hb h.br.lt,zl hb h.br.lt h.fr,h.mx.carry hb,h.my.carry hb,h.below.trans (hb.mono h.below.size),h.pw,h.qw,h.rw_,ze2 h.hw hb.size⟩
theorem xl {x:Nd} (h:xB x):x.vals.length <= x.keys.length /\ x.kids.length <= x.keys.length + 1:=by
 by_cases h0:x.kids.length = 0
 ·have:=h.leaf h0; omega
 ·have:=h.inner h0; omega
section
variable {O:zV} (H:ye O)
include H
theorem KE {w0:World} {K:Nat -> Prop} {w wj:World} {P D n:Nat} {S:TS} {firm:Nat -> List UInt8} {l2:zd} (hl:zP O w0 K w P D n S firm) (ht:zr l2.has w wj) (h2:∀ g,l2.has g -> K g /\ w0.1.size <= g) :
  zP O w0 (fun k=>K k \/ (w.1.size <= k /\ k < wj.1.size)) wj P D n S firm :=
 hl.off H ht h2 (fun _ hk=>hk.imp id fun h=>h.1) (fun k hk=>hk.elim (fun h=>Nat.lt_of_lt_of_le (hl.there k h) ht.size) fun h=>h.2) fun k hk=>.inl (hl.low k hk)
theorem KF {w0:World} {K:Nat -> Prop} {w wj w2:World} {P D n:Nat} {firm:Nat -> List UInt8} {b r:Nat} {l l2:zd} {R:Except Int Nd × TS} {e:Ending} (h:XF O w0 (fun k=>K k \/ (w.1.size <= k /\ k < wj.1.size)) wj P D n firm b l R e w2) (ht:zr l2.has w wj) (hK:zZ K w)
  (hlow:∀ k,k < w0.1.size -> K k) (hlw:∀ g,l.has g -> g < w.1.size) (hr:w.1.size <= r /\ r < wj.1.size) (hw0:w0.1.size <= w.1.size) :
  ∃ lk xk v,e = .returned (.tuple #[ndV lk xk,v]) /\ zh (fun k=>w.1.size <= k /\ k < wj.1.size) wj w2 /\ zh (fun k=>K k /\ ¬ l.has k) wj w2 /\ jp O w0 K w P D n firm b l l2 R (.returned (.tuple #[ndV lk xk,v])) (zx w2 r lk xk):=by
 obtain ⟨h1,h2⟩:=h;have k1:zh (fun k=>w.1.size <= k /\ k < wj.1.size) wj w2:=h1.less8 fun k hk=>⟨.inr hk,fun hh=>by have:=hlw k hh; omega⟩
 have k2:zh (fun k=>K k /\ ¬ l.has k) wj w2:=h1.less8 fun k hk=>⟨.inl hk.1,hk.2⟩
 have hst:∀ lk xk,zr (fun k=>k = r) w2 (zx w2 r lk xk):=fun lk xk=>⟨rfl,rfl,rfl,by rw [zK]; exact ze3 _,fun k hk=>zj hk.2⟩
 have hkp:∀ lk xk,zh (fun g=>K g /\ ¬ l.has g /\ ¬ l2.has g) w (zx w2 r lk xk):=fun lk xk=>by
  have h3:=hst lk xk;refine ⟨h3.os.trans (k2.os.trans ht.os),h3.tape.trans (k2.tape.trans ht.tape),h3.output.trans (k2.output.trans ht.output),ze2 ht.size (ze2 k2.size h3.size),fun k hk=>?_⟩;have h4:=hK k hk.1;exact ((zj (by omega)).trans (k2.block k ⟨hk.1,hk.2.1⟩)).trans (ht.block k ⟨h4,hk.2.2⟩)
 have hrw:r < w2.1.size:=Nat.lt_of_lt_of_le hr.2 k2.size;obtain ⟨R1,R2⟩:=R;cases R1 with
 | error cd =>
  obtain ⟨h3,h4,v,h5,h6⟩:=h2;refine ⟨zd.none_,Nd.empty,v,h5,k1,k2,hkp _ _,?_,h4,v,rfl,?_⟩
  ·refine h3.off H (hst _ _) (fun k hk=>?_) (fun k hk=>.inl (.inl hk)) (fun k hk=>?_) hlow
   ·have hk':k = r:=hk;subst hk';exact ⟨.inr hr,by omega⟩
   ·rw [zK]; exact h3.there k (.inl hk)
  ·exact (yR h6 hr.2).mono ht.size
 | ok z =>
  obtain ⟨l',h3,h4,h5,h6⟩:=h2;have hnr:¬ l'.has r:=fun hh=>(h6 r hh).elim (fun h7=>by have:=hlw r h7; omega) fun h7=>by omega
  refine ⟨l',z,.nilIface,h4,k1,k2,hkp _ _,l',?_,rfl,vi h5 hnr⟩;refine h3.off H (hst _ _) (fun k hk=>?_) (fun k hk=>.inl (hk.imp .inl id)) (fun k hk=>?_) fun k hk=>.inl (hlow k hk)
  ·have hk':k = r:=hk;subst hk';exact ⟨.inl (.inr hr),by omega⟩
  ·rw [zK]; exact h3.there k (hk.imp .inl id)
theorem W4 {w0:World} {K:Nat -> Prop} {w wr:World} {P D n:Nat} {S:TS} {firm:Nat -> List UInt8} {b r lo:Nat} {l l2:zd} {c:Int} {v:Value} (hl:zP O w0 K w P D n S firm) (hb:Below w.1.size w wr) (hr:w.1.size <= r /\ r < lo) (hlo:w.1.size <= lo) (hc:c ≠ 0) (he:zi wr lo c v) :
  jp O w0 K w P D n firm b l l2 (.error c,S) (.returned (.tuple #[ndV zd.none_ Nd.empty,v])) (zx wr r zd.none_ Nd.empty):=by
 have h3:Below w.1.size w (zx wr r zd.none_ Nd.empty):=xc hb hr.1;exact ⟨(zh.of_below h3 hl.there).less8 fun k hk=>hk.1,hl.carry H h3,hc,v,rfl,(yR he hr.2).mono hlo⟩
theorem zcl {w0:World} {K:Nat -> Prop} {w:World} {P D n:Nat} {S:TS} {firm:Nat -> List UInt8} (hl:zP O w0 K w P D n S firm) (hg:yC w0) (hs:S.d.soft.length <= 99990) {b b2:Nat} {l l2:zd} {x y:Nd}
  (hx:zo w b l x) (hxK:∀ g,l.has g -> K g) (hr:zJ x = true) (hki:x.kids.length ≠ 0) (hy:zo w b2 l2 y) (hyK:∀ g,l2.has g -> K g) (hys:xB y) (hyf:y.keys.length < 3) (hdis:∀ g,l.has g -> ¬ l2.has g) (hbw:b <= w.1.size) (hbw2:b2 <= w.1.size) (hw0:w0.1.size <= b) (hw02:w0.1.size <= b2)
  {at_:Nat} (hat:at_ < x.kids.length) {lv:Int} (hlv:0 <= lv /\ lv <= 13) :
  Calls Tryz.prog 103 #[ptr P,ndV l x,.int .i64 (at_:Int),.int .i64 (lv - 1),ndV l2 y] w (jp O w0 K w P D n firm b l l2 (kq n S x at_ lv y)):=by
 have hbn:=Tryz.nodeNone;have hz:=Tryz.zeroNode;have h7:=(zm hr).2.1;have hin:=(yc hr).inner hki;have HSZ:=hI (x.keys.length <= 7 /\ x.kids.length = x.keys.length + 1 /\ x.vals.length = 0 /\ 0 < x.keys.length) ⟨h7,hin.2,hin.1,YJ hr hki⟩;have HLV:=hI (wrap64 lv = lv /\ IntKind.i64.wrap lv = lv) (by rw [IntKind.wrap_i64]; unfold wrap64; omega);obtain ⟨ot,HOT⟩:=hY (jl x at_);obtain ⟨la,HLA⟩:=hY (decide (at_ = x.keys.length));have HOL:=hI (ot < x.kids.length /\ (la = true -> ot + 1 = at_ /\ at_ = x.keys.length) /\ (la = false -> ot = at_ + 1 /\ at_ < x.keys.length)) (by
  have h1:=HSZ.o;rw [HOT.o,HLA.o];unfold jl;by_cases e:at_ = x.keys.length
  ·rw [if_pos e,decide_eq_true e]; exact ⟨by omega,fun _=>⟨by omega,e⟩,fun h=>(by cases h)⟩
  ·rw [if_neg e,decide_eq_false e]; exact ⟨by omega,fun h=>(by cases h),fun _=>⟨rfl,by omega⟩⟩)
 obtain ⟨p,HPP⟩:=hY (w.1.size);obtain ⟨q,HQQ⟩:=hY (p + 1);obtain ⟨r,HRR⟩:=hY (q + 1);obtain ⟨w1,HW1⟩:=hY (((w.alloc (.cells #[.slice l.A x.keys.length l.ca,.slice l.B x.vals.length l.cb,.slice l.C x.kids.length l.cc] 48)).alloc (.cells #[.slice l2.A y.keys.length l2.ca,.slice l2.B y.vals.length l2.cb,.slice l2.C y.kids.length l2.cc] 48)).alloc (.cells #[.slice none 0 0,.slice none 0 0,.slice none 0 0] 48));have HB1:=hI (Below w.1.size w w1 /\ w1.1.size = w.1.size + 3) (by rw [HW1.o]; exact ⟨(((Below.refl _ _).alloc (ze3 _) _).alloc (by simp) _).alloc (by simp; omega) _,by simp⟩);have HS1:=hI (MeS w p q r b b2 l l2 x y w1) (by
  have hmx:=hx.carry HB1.o.1;have hmy:=hy.carry HB1.o.1;have hbel:=HB1.o.1;have hsz1:w.1.size + 3 <= w1.1.size:=by rw [HB1.o.2]; exact ze3 _
  have e1:=zb.new (w:=w) (l:=l) (x:=x) 48;rw [HW1.o] at hmx hmy hbel hsz1 ⊢;obtain ⟨wa,hwa⟩:∃ wa,wa = w.alloc (.cells #[.slice l.A x.keys.length l.ca,.slice l.B x.vals.length l.cb,.slice l.C x.kids.length l.cc] 48):=⟨_,rfl⟩
  rw [<- hwa] at e1 hmx hmy hbel hsz1 ⊢;have hsa:wa.1.size = w.1.size + 1:=by rw [hwa]; simp
  have e2:=zb.new (w:=wa) (l:=l2) (x:=y) 48;obtain ⟨wb,hwb⟩:∃ wb,wb = wa.alloc (.cells #[.slice l2.A y.keys.length l2.ca,.slice l2.B y.vals.length l2.cb,.slice l2.C y.kids.length l2.cc] 48):=⟨_,rfl⟩
  rw [<- hwb] at e2 hmx hmy hbel hsz1 ⊢;have hsb:wb.1.size = wa.1.size + 1:=by rw [hwb]; simp
  have hab:Below wa.1.size wa wb:=by rw [hwb]; exact bA
  have e3:=zb.new (w:=wb) (l:=zd.none_) (x:=Nd.empty) 48;have f3:=zU wb #[.slice none 0 0,.slice none 0 0,.slice none 0 0] 48;have hbc:Below wb.1.size wb (wb.alloc (.cells #[.slice none 0 0,.slice none 0 0,.slice none 0 0] 48)):=(Below.refl _ _).alloc (ze3 _) _;rw [hsb,hsa] at e3 f3;rw [hsa] at e2;rw [HRR.o,HQQ.o,HPP.o];exact ⟨(e1.carry hab e1.lt).carry hbc (e1.carry hab e1.lt).lt,e2.carry hbc e2.lt,e3,f3,hmx,hmy,hbel,by omega,by omega,by omega,hsz1⟩)
 have HL:=Hi hl;have HSS:=Hi hs;have HXK:=Hi hxK;have HYK:=hI (∀ g,l2.has g -> K g /\ w0.1.size <= g) fun g hh=>⟨hyK g hh,ze2 hw02 (hy.lt g hh).1⟩
 have HYS:=Hi (And.intro hys hyf);have HDIS:=Hi hdis;have HRT:=Hi hr;have HKI:=Hi hki;have HXW:=hI (∀ g,l.has g -> g < w.1.size) fun g hh=>(hx.lt g hh).2
 have HYW:=hI (∀ g,l2.has g -> g < w.1.size) fun g hh=>(hy.lt g hh).2
 have HBW:=hI (w0.1.size <= b /\ b <= w.1.size /\ b2 <= w.1.size) ⟨hw0,hbw,hbw2⟩;obtain ⟨z,HZ⟩:=hY (x.kids.getD ot 0);obtain ⟨R,HRS⟩:=hY (kq n S x at_ lv y);have HG0:=hI (R = match yk S z lv with
   | .error c=>(.error c,S)
   | .ok yn=>if decide (yn.kids.length = 0) ≠ decide (y.kids.length = 0) then (.error 2,S)
    else if la = true then zQ n S x ot 2 (vr yn (x.keys.getD ot 0) y)
    else zQ n S x at_ 2 (vr y (x.keys.getD at_ 0) yn)) (by
  rw [HRS.o,HZ.o,HOT.o];unfold kq;cases yk S (x.kids.getD (jl x at_) 0) lv with
  | error c=>rfl
  | ok yn =>
   simp only;split
   ·rfl
   ·rw [HLA.o];by_cases e:at_ = x.keys.length
    ·rw [if_pos e,if_pos (by simpa using e)];have:at_ - 1 = jl x at_:=by unfold jl; rw [if_pos e]
     rw [<- this]
    ·rw [if_neg e,if_neg (by simpa using e)])
 obtain ⟨o,HO⟩:=hY (yk S z lv);have HLD:=Hi fun wr (h:Below w.1.size w wr)=>kp H (hl.carry H h) hg z lv
 rw [<- HO.o] at HG0 HLD;rw [<- HRS.o];have hwl:=HLV.o.1;have hwl2:=HLV.o.2;have hcc0:=HS1.o.bp.c0;clear hl hs hx hxK hr hki hy hyK hys hyf hdis hbw hbw2 hw0 hw02 hlv h7 hin HRS;have HX1:=hI (∀ w',xt w' l x -> ∃ C,l.C = some C /\ w'.cell? (C.add ot) = some (.int .i64 z)) fun w' h=>by
  obtain ⟨C,h1,h2⟩:=yf h.kids (i:=ot) HOL.o.1;exact ⟨C,h1,by rw [h2,HZ.o,ze6,ze7 HOL.o.1]; rfl⟩
 obtain ⟨C,hC,hcc⟩:=HX1.o w1 HS1.o.mx.is;have HCC:=Hi hC;have c2:=HS1.o.bp.c2;rw [hC] at c2;clear hC;have hkl:(ot:Int) < (x.kids.length:Int):=by have:=HOL.o.1; omega
 have hwo:wrap64 (ot:Int) = (ot:Int):=by have:=HOL.o.1; have:=HSZ.o; unfold wrap64; omega
 by_cases hat2:at_ = x.keys.length
 case' pos =>
  obtain rfl:la = true:=by rw [HLA.o]; exact decide_eq_true hat2
  have hi1:(at_:Int) = (x.keys.length:Int):=by omega
  have hi2:(x.keys.length:Int) - 1 = (ot:Int):=by have:=(HOL.o.2.1 rfl).1; omega
  have hi3:IntKind.i64.wrap ((x.keys.length:Int) - 1) = (ot:Int):=by have:=HSZ.o; rw [IntKind.wrap_i64]; omega
  have hi4:IntKind.i64.wrap ((x.keys.length:Int) + 1) = (x.keys.length:Int) + 1:=by have:=HSZ.o; rw [IntKind.wrap_i64]; omega
  rw [hi1]
  go_enter Tryz.func103,Tryz.ntmps103
  go_upto_region 1 with (fail)
  rw [<- HW1.o,<- HPP.o,<- HQQ.o,<- HRR.o];clear HW1;go_upto_region 5 with (fail)
  rw [hwo];clear hi1 hi2 hi3 hi4 hwo hat2
 case' neg =>
  obtain rfl:la = false:=by rw [HLA.o]; exact decide_eq_false hat2
  have hi1:¬ (at_:Int) = (x.keys.length:Int):=by omega
  have hi2:(at_:Int) + 1 = (ot:Int):=by have:=(HOL.o.2.2 rfl).1; omega
  have hi3:IntKind.i64.wrap ((at_:Int) + 1) = (ot:Int):=by have:=HSZ.o; rw [IntKind.wrap_i64]; omega
  go_enter Tryz.func103,Tryz.ntmps103
  go_upto_region 1 with (fail)
  rw [<- HW1.o,<- HPP.o,<- HQQ.o,<- HRR.o];clear HW1;go_upto_region 5 with (fail)
  rw [hwo,show ((at_:Int) == (x.keys.length:Int)) = false by simpa using hi1];clear hi1 hi2 hi3 hwo hat2
 all_goals
  go_wp2_with fail
  try rw [hwl]
  refine (HLD.o _ HB1.o.1).mono ?_;rintro e w2 hld;clear HLD;cases o
  case error cd =>
   obtain ⟨hc0,v,rfl,he,hb⟩:=hld;obtain ⟨tt,xx,rfl⟩:=he.some hc0;have HE:=Hi he;have HC0:=Hi hc0;have HS2:=Hi (HS1.o.carry hb);have HRN:=hI (R = (.error cd,S)) HG0.o;clear he hb hc0 HG0 hcc c2 hwl hwl2 hkl;obtain ⟨c,HCc⟩:=hY (w2.1.size);obtain ⟨w3,HWw3⟩:=hY (w2.alloc (.cells #[.slice zd.none_.A Nd.empty.keys.length zd.none_.ca,.slice zd.none_.B Nd.empty.vals.length zd.none_.cb,.slice zd.none_.C Nd.empty.kids.length zd.none_.cc] 48));have HBw3:=hI (Below w2.1.size w2 w3) (by rw [HWw3.o]; exact bA);go_upto_region 6 with (fail)
   rw [<- HWw3.o,<- HCc.o];have HS3:=Hi (HS2.o.carry HBw3.o);have HE3:=Hi (HE.o.below HBw3.o);clear HWw3 HBw3 HE;have f0:=HS3.o.fr 0;have f1:=HS3.o.fr 1;have f2:=HS3.o.fr 2;have HBR9:=Hi HS3.o.br;have d0:=HBR9.o.c0;have d1:=HBR9.o.c1;have d2:=HBR9.o.c2;obtain ⟨w9,HW9⟩:=hY (((w3.setCell ⟨r,0,none⟩ (.slice none 0 0)).setCell ⟨r,1,none⟩ (.slice none 0 0)).setCell ⟨r,2,none⟩ (.slice none 0 0));have HS9:=hI (w9 = zx w3 r zd.none_ Nd.empty) HW9.o;have HX9:=hI (zb w9 r zd.none_ Nd.empty) (by rw [HS9.o]; exact zC HBR9.o);have HP9:=hI (jp O w0 K w P D n firm b l l2 R (.returned (.tuple #[ndV zd.none_ Nd.empty,.iface tt xx])) w9) (by
    rw [HS9.o,HRN.o];exact W4 H HL.o HS3.o.below ⟨HS1.o.rw_.1,HS1.o.br.lt⟩ HB1.o.1.size HC0.o HE3.o)
   go_wp2_with fail;rw [<- HW9.o];exact bodyPost_ret (zq Tryz.ndProg rfl _ _ r zd.none_ Nd.empty (.iface tt xx) rfl rfl HX9.o) rfl HP9.o
  case' ok yn =>
   obtain ⟨hyr,ln,rfl,hmn,hb⟩:=hld;have HYR:=Hi hyr;have HS2:=Hi (HS1.o.carry hb);have HN2:=Hi hmn;have HSZ1:=hI (w1.1.size <= w2.1.size /\ r < w1.1.size /\ w.1.size <= w1.1.size) ⟨hb.size,HS1.o.br.lt,HB1.o.1.size⟩;clear hb hyr hmn hcc c2 hwl hwl2 hkl;obtain ⟨c,HCc⟩:=hY (w2.1.size);obtain ⟨w3,HWw3⟩:=hY (w2.alloc (.cells #[.slice ln.A yn.keys.length ln.ca,.slice ln.B yn.vals.length ln.cb,.slice ln.C yn.kids.length ln.cc] 48));have HBw3:=hI (Below w2.1.size w2 w3) (by rw [HWw3.o]; exact bA);have HBC:=hI (zb w3 c ln yn) (by rw [HWw3.o,HCc.o]; exact zb.new _);go_upto_region 8 with (fail)
   rw [<- HWw3.o,<- HCc.o];have HS3:=Hi (HS2.o.carry HBw3.o);have HN3:=Hi (HN2.o.carry HBw3.o);have HNW:=hI (∀ g,ln.has g -> w1.1.size <= g /\ g < c) (fun g hg=>by rw [HCc.o]; exact HN2.o.lt g hg);have HCW:=hI (w1.1.size <= c) (by rw [HCc.o]; exact HSZ1.o.1);clear HWw3 HBw3 HS2 HN2;obtain ⟨bl,HBL⟩:=hY (decide (yn.kids.length = 0));obtain ⟨bk,HBK⟩:=hY (decide (y.kids.length = 0));have HLY:=Hi fun wr=>wR (w:=wr) (l:=ln) yn
   have HLK:=Hi fun wr=>wR (w:=wr) (l:=l2) y
   rw [<- HBL.o] at HLY;rw [<- HBK.o] at HLK;have HG1:=hI (R = if bl ≠ bk then (.error 2,S) else if _ then _ else _) (by rw [HG0.o,HBL.o,HBK.o]);clear HG0;refine wp_region_held (S:=fun w9=>zb w9 c ln yn /\ zb w9 q l2 y) (by kernel_rfl) ?_;change wpAnyH _ _ _ _ _ _ _ _ w3.drew;obtain ⟨wa,HWA⟩:=hY (w3.drew);rw [<- HWA.o];have HSA:=hI (MeS w p q r b b2 l l2 x y wa /\ zo wa w1.1.size ln yn /\ zb wa c ln yn) (by
    have hdr:Below w3.1.size w3 wa:=by rw [HWA.o]; exact (Below.refl _ _).drew
    exact ⟨HS3.o.carry hdr,HN3.o.carry hdr,HBC.o.carry hdr HBC.o.lt⟩)
   have hS:zb wa c ln yn /\ zb wa q l2 y:=⟨HSA.o.2.2,HSA.o.1.bq⟩
   clear HWA HS3 HN3 HBC;refine xG9 0 42 (ndV ln yn) rfl (yE Tryz.ndProg (by rfl) _ rfl c rfl ln yn (fun _ h=>h.1)) hS ?_;refine xG9 2 44 (ndV l2 y) rfl (yE Tryz.ndProg (by rfl) _ rfl q rfl l2 y (fun _ h=>h.2)) hS ?_;refine xJ9 1 (some 43) (fun K0 hK=>?_);go_simp;refine (HLY.o wa).mono ?_;rintro e wb ⟨rfl,hb⟩;have HSA:=hI (MeS w p q r b b2 l l2 x y wb /\ zo wb w1.1.size ln yn /\ zb wb c ln yn) ⟨HSA.o.1.carry hb,HSA.o.2.1.carry hb,HSA.o.2.2.carry hb HSA.o.2.2.lt⟩;have hS2:zb wb c ln yn /\ zb wb q l2 y:=⟨HSA.o.2.2,HSA.o.1.bq⟩
   clear hS hb;refine hK.out _ _ hS2 ?_;clear hK K0;have hS:=hS2;clear hS2;refine xJ9 3 (some 45) (fun K0 hK=>?_);go_simp;refine (HLK.o wb).mono ?_;rintro e wc ⟨rfl,hb⟩;have HSA:=hI (MeS w p q r b b2 l l2 x y wc /\ zo wc w1.1.size ln yn /\ zb wc c ln yn) ⟨HSA.o.1.carry hb,HSA.o.2.1.carry hb,HSA.o.2.2.carry hb HSA.o.2.2.lt⟩;have hS2:zb wc c ln yn /\ zb wc q l2 y:=⟨HSA.o.2.2,HSA.o.1.bq⟩
   clear hS hb;refine hK.out _ _ hS2 ?_;clear hK K0;have hS:=hS2;clear hS2;refine xG9 4 46 (.bool (bl != bk)) rfl (.inl ⟨by rfl,fun _ _=>by go_simp; cases bl <;> cases bk <;> rfl⟩) hS ?_;refine wpAnyH_done (by kernel_rfl) ?_ _;by_cases hne:bl = bk
   case' neg =>
    rw [show (bl != bk) = true by revert hne; cases bl <;> cases bk <;> simp];have HRN:=hI (R = (.error 2,S)) (by rw [HG1.o,if_pos hne]);clear hS HG1 hne;go_wp2_with fail;refine (xJ 2 (by decide) _).mono ?_;rintro e wd ⟨v,rfl,he,hb⟩;obtain ⟨tt,xx,rfl⟩:=he.some (by decide);have HE3:=Hi he;have HS3:=Hi (HSA.o.1.carry hb);have HLO:=hI (r < wc.1.size /\ w.1.size <= wc.1.size) ⟨HSA.o.1.br.lt,HSA.o.1.below.size⟩;clear he hb HSA;have f0:=HS3.o.fr 0;have f1:=HS3.o.fr 1;have f2:=HS3.o.fr 2;have HBR9:=Hi HS3.o.br;have d0:=HBR9.o.c0;have d1:=HBR9.o.c1;have d2:=HBR9.o.c2;obtain ⟨w9,HW9⟩:=hY (((wd.setCell ⟨r,0,none⟩ (.slice none 0 0)).setCell ⟨r,1,none⟩ (.slice none 0 0)).setCell ⟨r,2,none⟩ (.slice none 0 0));have HS9:=hI (w9 = zx wd r zd.none_ Nd.empty) HW9.o;have HX9:=hI (zb w9 r zd.none_ Nd.empty) (by rw [HS9.o]; exact zC HBR9.o);have HP9:=hI (jp O w0 K w P D n firm b l l2 R (.returned (.tuple #[ndV zd.none_ Nd.empty,.iface tt xx])) w9) (by
     rw [HS9.o,HRN.o];exact W4 H HL.o HS3.o.below ⟨HS3.o.rw_.1,HLO.o.1⟩ HLO.o.2 (by decide) HE3.o)
    go_wp2_with fail;rw [<- HW9.o];exact bodyPost_ret (zq Tryz.ndProg rfl _ _ r zd.none_ Nd.empty (.iface tt xx) rfl rfl HX9.o) rfl HP9.o
   case' pos =>
    rw [show (bl != bk) = false by rw [hne]; cases bk <;> rfl];have HG2:=HG1.o;rw [if_neg (not_not_intro hne)] at HG2;have HNE:=hI (decide (yn.kids.length = 0) = decide (y.kids.length = 0)) (by rw [<- HBL.o,<- HBK.o]; exact hne);clear HG1 hne hS HBL HBK
 ·obtain ⟨k,HKK⟩:=hY (x.keys.getD at_ 0);have HIL:=hI (at_ < x.keys.length /\ at_ + 2 <= x.kids.length) (by have h:=HOL.o.2.2 (by simp); have h2:=HSZ.o; omega);rw [if_neg (by simp),<- HKK.o] at HG2;have HGR:=Hi HG2;clear HG2;have HKR:=hI (-9223372036854775808 <= k /\ k <= 9223372036854775807) (by rw [HKK.o,ze6,ze7 HIL.o.1]; exact HSA.o.1.mx.is.kw _ (List.getElem_mem _));have hil:(at_:Int) < (x.keys.length:Int):=by have:=HIL.o.1; omega
  go_upto_region 12 with (fail)
  refine wp_region_held (S:=fun w9=>zb w9 p l x /\ zb w9 q l2 y /\ zb w9 c ln yn) (by kernel_rfl) ?_;change wpAnyH _ _ _ _ _ _ _ _ wc.drew;obtain ⟨wd,HWD⟩:=hY (wc.drew);rw [<- HWD.o];have HSD:=hI (MeS w p q r b b2 l l2 x y wd /\ zo wd w1.1.size ln yn /\ zb wd c ln yn) (by
   have hdr:Below wc.1.size wc wd:=by rw [HWD.o]; exact (Below.refl _ _).drew
   exact ⟨HSA.o.1.carry hdr,HSA.o.2.1.carry hdr,HSA.o.2.2.carry hdr HSA.o.2.2.lt⟩)
  have hS:zb wd p l x /\ zb wd q l2 y /\ zb wd c ln yn:=⟨HSD.o.1.bp,HSD.o.1.bq,HSD.o.2.2⟩
  clear HWD HSA;obtain ⟨A,hA,hcell⟩:=yf HSD.o.1.mx.is.keys (i:=at_) HIL.o.1;rw [show x.keys[at_]'HIL.out.1 = k by rw [HKK.o,ze6,ze7 HIL.o.1]; rfl] at hcell;have HAA:=Hi hA;clear hA;refine xA9 0 64 (ptr P) hS ?_;refine xG9 1 65 (ndV l x) rfl (yE Tryz.ndProg (by rfl) _ rfl p rfl l x (fun _ h=>h.1)) hS ?_;refine xA9 2 66 (.int .i64 (at_:Int)) hS ?_;refine xG9 3 67 (ndV l2 y) rfl (yE Tryz.ndProg (by rfl) _ rfl q rfl l2 y (fun _ h=>h.2.1)) hS ?_;refine xA9 4 68 (.pointer (some ⟨p,0,none⟩)) hS ?_;refine xG9 5 69 (.slice (some A) x.keys.length l.ca) rfl (.inl ⟨by rfl,fun _ h=>by have c0:=h.1.c0; rw [HAA.o] at c0; go_simp⟩) hS ?_;refine xA9 6 70 (.int .i64 (at_:Int)) hS ?_;refine xA9 7 71 (.pointer (some (A.add at_))) hS ?_;refine xG9 9 73 (ndV ln yn) rfl (yE Tryz.ndProg (by rfl) _ rfl c rfl ln yn (fun _ h=>h.2.2)) hS ?_;refine xJ9 8 (some 72) (fun K0 hK=>?_);go_simp;refine hK.out _ _ hS ?_;clear hK K0 hcell hil;have HJN:=Hi (Kx (k:=k) HSD.o.1.my HSD.o.2.1 (fun g h1 h2=>by have:=(HNW.o g h2).1; have:=HYW.o g h1; have:=HSZ1.o; omega) (ze2 HBW.o.2.2 HSD.o.1.below.size) HKR.o (by have:=xl (yc HYR.o); have:=xl HYS.o.1; have:=HYS.o.2; have:=(zm HYR.o).2.1; omega) (by have:=xl (yc HYR.o); have:=xl HYS.o.1; have:=HYS.o.2; have:=(zm HYR.o).2.1; omega) (by have:=xl (yc HYR.o); have:=xl HYS.o.1; have:=HYS.o.2; have:=(zm HYR.o).2.1; omega));refine xJ9 10 (some 74) (fun K0 hK=>?_);go_simp;refine HJN.o.mono ?_;rintro e we ⟨lj,rfl,hmj,ht,hlj⟩;have hno:∀ g,w.1.size <= g -> ¬ l2.has g:=fun g hg h=>by have:=HYW.o g h; omega
  have hl1:∀ g,l.has g -> ¬ l2.has g:=HDIS.o;have HTE:=hI (zr l2.has w we) ((zr.of_below HSD.o.1.below).trans (ht.more fun g _ hg=>.inl hg));have hS2:zb we p l x /\ zb we q l2 y /\ zb we c ln yn:=⟨hS.1.turn ht (hno p HSD.o.1.pw.1),hS.2.1.turn ht (hno q HSD.o.1.qw.1),hS.2.2.turn ht (hno c (by have:=HCW.o; have:=HSZ1.o; omega))⟩
  have HRE:=hI (zb we r zd.none_ Nd.empty /\ ∀ j,we.frozen? ⟨r,j,none⟩ = false) ⟨HSD.o.1.br.turn ht (hno r HSD.o.1.rw_.1),fun j=>(World.frozen?_of_block (w:=wd) (a:=⟨r,j,none⟩) (ht.block r ⟨HSD.o.1.br.lt,(hno r HSD.o.1.rw_.1)⟩)).trans (HSD.o.1.fr j)⟩;have HXE:=hI (zo we b l x) (HSD.o.1.mx.keep ht.size fun g hg=>ht.block g ⟨(HSD.o.1.mx.lt g hg).2,hl1 g hg⟩);have HME:=Hi hmj;have HLJ:=hI ((∀ g,l.has g -> ¬ lj.has g) /\ ∀ g,lj.has g -> K g \/ (w.1.size <= g /\ g < we.1.size)) (by
   have hwd:=HSD.o.1.below.size;have hlt:=fun g hg=>(hmj.lt g hg).2
   refine ⟨fun g h1 h2=>(hlj g h2).elim (hl1 g h1) fun h3=>by have:=HXW.o g h1; omega,fun g hg=>?_⟩;exact (hlj g hg).imp (fun h=>(HYK.o g h).1) fun h=>⟨by omega,hlt g hg⟩)
  have HEW:=hI (w.1.size <= we.1.size /\ r < we.1.size /\ c < we.1.size) ⟨HTE.o.size,HRE.o.1.lt,hS2.2.2.lt⟩;clear hS hmj ht hlj hno hl1 HJN;refine hK.out _ _ hS2 ?_;clear hK K0;have hS:=hS2;clear hS2;have HRP:=Hi (jf H (at_:=at_) (many:=2) (KE H HL.o HTE.o HYK.o) hg HSS.o HXE.o (fun g hg=>.inl (HXK.o g hg)) HRT.o HKI.o HME.o HLJ.o.2 (Y4 HYS.o.1 (yc HYR.o) HNE.o.symm (by have:=HYS.o.2; have:=(zm HYR.o).2.1; omega) k) HLJ.o.1 (ze2 HBW.o.2.1 HEW.o.1) HBW.o.1 (by decide) (by decide) HIL.o.2);rw [<- HGR.o,show ((2:Nat):Int) = 2 from rfl] at HRP;refine xJ9 11 (some 75) (fun K0 hK=>?_);go_simp;refine HRP.o.mono ?_;rintro e wf hrp;obtain ⟨lk,xk,v,rfl,hk1,_,hpo⟩:=KF H hrp HTE.o HL.o.there HL.o.low HXW.o ⟨HSD.o.1.rw_.1,HEW.o.2.1⟩ (ze2 HBW.o.1 HBW.o.2.1);have HPO:=Hi hpo;have hbp:=hk1.block p ⟨HSD.o.1.pw.1,hS.1.lt⟩;have hbq:=hk1.block q ⟨HSD.o.1.qw.1,hS.2.1.lt⟩;have hbc:=hk1.block c ⟨by have:=HCW.o; have:=HSZ1.o; omega,hS.2.2.lt⟩;have hbr:=hk1.block r ⟨HSD.o.1.rw_.1,HEW.o.2.1⟩;have hS2:zb wf p l x /\ zb wf q l2 y /\ zb wf c ln yn:=⟨hS.1.keep hbp,hS.2.1.keep hbq,hS.2.2.keep hbc⟩
  have HRF:=hI (zb wf r zd.none_ Nd.empty /\ ∀ j,wf.frozen? ⟨r,j,none⟩ = false) ⟨HRE.o.1.keep hbr,fun j=>(World.frozen?_of_block (w:=we) (a:=⟨r,j,none⟩) hbr).trans (HRE.o.2 j)⟩;clear hS hrp hk1 hpo hbp hbq hbc hbr HRP HME HRE HXE;refine hK.out _ _ hS2 ?_;clear hK K0;have hS:=hS2;clear hS2;refine xA9 12 76 (ndV lk xk) hS ?_;refine xA9 13 77 (v) hS ?_;refine xJ9 14 (none) (fun K0 hK=>?_);have HBQ:=Hi HRF.o.1;have f0:=HRF.o.2 0;have f1:=HRF.o.2 1;have f2:=HRF.o.2 2;have d0:=HBQ.o.c0;have d1:=HBQ.o.c1;have d2:=HBQ.o.c2;obtain ⟨w4,HWw4⟩:=hY (((wf.setCell ⟨r,0,none⟩ (.slice lk.A xk.keys.length lk.ca)).setCell ⟨r,1,none⟩ (.slice lk.B xk.vals.length lk.cb)).setCell ⟨r,2,none⟩ (.slice lk.C xk.kids.length lk.cc));have HSw4:=hI (w4 = zx wf r lk xk) HWw4.o;have HXw4:=hI (zb w4 r lk xk) (by rw [HSw4.o]; exact zC HBQ.o);go_simp;rw [<- HWw4.o];have hS4:zb w4 p l x /\ zb w4 q l2 y /\ zb w4 c ln yn:=⟨hS.1.keep (by rw [HSw4.o]; exact zj (by rw [HRR.o,HQQ.o]; omega)),hS.2.1.keep (by rw [HSw4.o]; exact zj (by rw [HRR.o]; omega)),hS.2.2.keep (by rw [HSw4.o]; exact zj (by have:=HCW.o; have:=HSZ1.o; omega))⟩
  clear hS d0 d1 d2 f0 f1 f2;refine hK.out _ _ hS4 ?_;clear hK K0;refine xA9 15 11 (v) hS4 ?_;refine wpAnyH_done (by kernel_rfl) ?_ _;go_wp2_with fail;exact bodyPost_ret (zq Tryz.ndProg rfl _ _ r lk xk v rfl rfl HXw4.o) rfl (by rw [HSw4.o]; exact HPO.o)
 ·obtain ⟨k,HKK⟩:=hY (x.keys.getD ot 0);have HIL:=hI (ot < x.keys.length /\ ot + 2 <= x.kids.length) (by have h:=HOL.o.2.1 (by simp); have h2:=HSZ.o; omega);rw [if_pos (by simp),<- HKK.o] at HG2;have HGR:=Hi HG2;clear HG2;have HKR:=hI (-9223372036854775808 <= k /\ k <= 9223372036854775807) (by rw [HKK.o,ze6,ze7 HIL.o.1]; exact HSA.o.1.mx.is.kw _ (List.getElem_mem _));have hil:(ot:Int) < (x.keys.length:Int):=by have:=HIL.o.1; omega
  go_upto_region 11 with (fail)
  refine wp_region_held (S:=fun w9=>zb w9 p l x /\ zb w9 q l2 y /\ zb w9 c ln yn) (by kernel_rfl) ?_;change wpAnyH _ _ _ _ _ _ _ _ wc.drew;obtain ⟨wd,HWD⟩:=hY (wc.drew);rw [<- HWD.o];have HSD:=hI (MeS w p q r b b2 l l2 x y wd /\ zo wd w1.1.size ln yn /\ zb wd c ln yn) (by
   have hdr:Below wc.1.size wc wd:=by rw [HWD.o]; exact (Below.refl _ _).drew
   exact ⟨HSA.o.1.carry hdr,HSA.o.2.1.carry hdr,HSA.o.2.2.carry hdr HSA.o.2.2.lt⟩)
  have hS:zb wd p l x /\ zb wd q l2 y /\ zb wd c ln yn:=⟨HSD.o.1.bp,HSD.o.1.bq,HSD.o.2.2⟩
  clear HWD HSA;obtain ⟨A,hA,hcell⟩:=yf HSD.o.1.mx.is.keys (i:=ot) HIL.o.1;rw [show x.keys[ot]'HIL.out.1 = k by rw [HKK.o,ze6,ze7 HIL.o.1]; rfl] at hcell;have HAA:=Hi hA;clear hA;refine xA9 0 50 (ptr P) hS ?_;refine xG9 1 51 (ndV l x) rfl (yE Tryz.ndProg (by rfl) _ rfl p rfl l x (fun _ h=>h.1)) hS ?_;refine xA9 2 52 (.int .i64 (ot:Int)) hS ?_;refine xG9 3 53 (ndV ln yn) rfl (yE Tryz.ndProg (by rfl) _ rfl c rfl ln yn (fun _ h=>h.2.2)) hS ?_;refine xA9 4 54 (.pointer (some ⟨p,0,none⟩)) hS ?_;refine xG9 5 55 (.slice (some A) x.keys.length l.ca) rfl (.inl ⟨by rfl,fun _ h=>by have c0:=h.1.c0; rw [HAA.o] at c0; go_simp⟩) hS ?_;refine xA9 6 56 (.int .i64 (ot:Int)) hS ?_;refine xA9 7 57 (.pointer (some (A.add ot))) hS ?_;refine xG9 9 59 (ndV l2 y) rfl (yE Tryz.ndProg (by rfl) _ rfl q rfl l2 y (fun _ h=>h.2.1)) hS ?_;refine xJ9 8 (some 58) (fun K0 hK=>?_);go_simp;refine hK.out _ _ hS ?_;clear hK K0 hcell hil;have HJN:=Hi (Kx (k:=k) HSD.o.2.1 HSD.o.1.my (fun g h1 h2=>by have:=(HNW.o g h1).1; have:=HYW.o g h2; have:=HSZ1.o; omega) (by have:=HSZ1.o; have:=HSD.o.2.2.lt; have:=HCW.o; omega) HKR.o (by have:=xl (yc HYR.o); have:=xl HYS.o.1; have:=HYS.o.2; have:=(zm HYR.o).2.1; omega) (by have:=xl (yc HYR.o); have:=xl HYS.o.1; have:=HYS.o.2; have:=(zm HYR.o).2.1; omega) (by have:=xl (yc HYR.o); have:=xl HYS.o.1; have:=HYS.o.2; have:=(zm HYR.o).2.1; omega));refine xJ9 10 (some 60) (fun K0 hK=>?_);go_simp;refine HJN.o.mono ?_;rintro e we ⟨lj,rfl,hmj,ht,hlj⟩;have hno:∀ g,g < w1.1.size \/ c <= g -> ¬ ln.has g:=fun g hg h=>by have:=HNW.o g h; omega
  have hl1:∀ g,l.has g -> ¬ ln.has g:=fun g hg=>hno g (.inl (by have:=HXW.o g hg; have:=HSZ1.o; omega))
  have HTE:=hI (zr l2.has w we) ((zr.of_below HSD.o.1.below).trans (ht.more fun g _ hg=>.inr (by have:=(HNW.o g hg).1; have:=HSZ1.o; omega)));have hS2:zb we p l x /\ zb we q l2 y /\ zb we c ln yn:=⟨hS.1.turn ht (hno p (.inl (by have:=HSD.o.1.pw; have:=HB1.o.2; omega))),hS.2.1.turn ht (hno q (.inl (by have:=HSD.o.1.qw; have:=HB1.o.2; omega))),hS.2.2.turn ht (hno c (.inr (ze3 _)))⟩
  have HRE:=hI (zb we r zd.none_ Nd.empty /\ ∀ j,we.frozen? ⟨r,j,none⟩ = false) ⟨HSD.o.1.br.turn ht (hno r (.inl (by have:=HSD.o.1.rw_; have:=HB1.o.2; omega))),fun j=>(World.frozen?_of_block (w:=wd) (a:=⟨r,j,none⟩) (ht.block r ⟨HSD.o.1.br.lt,(hno r (.inl (by have:=HSD.o.1.rw_; have:=HB1.o.2; omega)))⟩)).trans (HSD.o.1.fr j)⟩;have HXE:=hI (zo we b l x) (HSD.o.1.mx.keep ht.size fun g hg=>ht.block g ⟨(HSD.o.1.mx.lt g hg).2,hl1 g hg⟩);have HME:=Hi hmj;have HLJ:=hI ((∀ g,l.has g -> ¬ lj.has g) /\ ∀ g,lj.has g -> K g \/ (w.1.size <= g /\ g < we.1.size)) (by
   have hwd:=HSD.o.1.below.size;have hlt:=fun g hg=>(hmj.lt g hg).2
   refine ⟨fun g h1 h2=>(hlj g h2).elim (hl1 g h1) fun h3=>by have:=HXW.o g h1; omega,fun g hg=>?_⟩;exact .inr ⟨(hlj g hg).elim (fun h=>by have:=(HNW.o g h).1; have:=HSZ1.o; omega) fun h=>by omega,hlt g hg⟩)
  have HEW:=hI (w.1.size <= we.1.size /\ r < we.1.size /\ c < we.1.size) ⟨HTE.o.size,HRE.o.1.lt,hS2.2.2.lt⟩;clear hS hmj ht hlj hno hl1 HJN;refine hK.out _ _ hS2 ?_;clear hK K0;have hS:=hS2;clear hS2;have HRP:=Hi (jf H (at_:=ot) (many:=2) (KE H HL.o HTE.o HYK.o) hg HSS.o HXE.o (fun g hg=>.inl (HXK.o g hg)) HRT.o HKI.o HME.o HLJ.o.2 (Y4 (yc HYR.o) HYS.o.1 HNE.o (by have:=HYS.o.2; have:=(zm HYR.o).2.1; omega) k) HLJ.o.1 (ze2 HBW.o.2.1 HEW.o.1) HBW.o.1 (by decide) (by decide) HIL.o.2);rw [<- HGR.o,show ((2:Nat):Int) = 2 from rfl] at HRP;refine xJ9 11 (some 61) (fun K0 hK=>?_);go_simp;refine HRP.o.mono ?_;rintro e wf hrp;obtain ⟨lk,xk,v,rfl,hk1,_,hpo⟩:=KF H hrp HTE.o HL.o.there HL.o.low HXW.o ⟨HSD.o.1.rw_.1,HEW.o.2.1⟩ (ze2 HBW.o.1 HBW.o.2.1);have HPO:=Hi hpo;have hbp:=hk1.block p ⟨HSD.o.1.pw.1,hS.1.lt⟩;have hbq:=hk1.block q ⟨HSD.o.1.qw.1,hS.2.1.lt⟩;have hbc:=hk1.block c ⟨by have:=HCW.o; have:=HSZ1.o; omega,hS.2.2.lt⟩;have hbr:=hk1.block r ⟨HSD.o.1.rw_.1,HEW.o.2.1⟩;have hS2:zb wf p l x /\ zb wf q l2 y /\ zb wf c ln yn:=⟨hS.1.keep hbp,hS.2.1.keep hbq,hS.2.2.keep hbc⟩
  have HRF:=hI (zb wf r zd.none_ Nd.empty /\ ∀ j,wf.frozen? ⟨r,j,none⟩ = false) ⟨HRE.o.1.keep hbr,fun j=>(World.frozen?_of_block (w:=we) (a:=⟨r,j,none⟩) hbr).trans (HRE.o.2 j)⟩;clear hS hrp hk1 hpo hbp hbq hbc hbr HRP HME HRE HXE;refine hK.out _ _ hS2 ?_;clear hK K0;have hS:=hS2;clear hS2;refine xA9 12 62 (ndV lk xk) hS ?_;refine xA9 13 63 (v) hS ?_;refine xJ9 14 (none) (fun K0 hK=>?_);have HBQ:=Hi HRF.o.1;have f0:=HRF.o.2 0;have f1:=HRF.o.2 1;have f2:=HRF.o.2 2;have d0:=HBQ.o.c0;have d1:=HBQ.o.c1;have d2:=HBQ.o.c2;obtain ⟨w4,HWw4⟩:=hY (((wf.setCell ⟨r,0,none⟩ (.slice lk.A xk.keys.length lk.ca)).setCell ⟨r,1,none⟩ (.slice lk.B xk.vals.length lk.cb)).setCell ⟨r,2,none⟩ (.slice lk.C xk.kids.length lk.cc));have HSw4:=hI (w4 = zx wf r lk xk) HWw4.o;have HXw4:=hI (zb w4 r lk xk) (by rw [HSw4.o]; exact zC HBQ.o);go_simp;rw [<- HWw4.o];have hS4:zb w4 p l x /\ zb w4 q l2 y /\ zb w4 c ln yn:=⟨hS.1.keep (by rw [HSw4.o]; exact zj (by rw [HRR.o,HQQ.o]; omega)),hS.2.1.keep (by rw [HSw4.o]; exact zj (by rw [HRR.o]; omega)),hS.2.2.keep (by rw [HSw4.o]; exact zj (by have:=HCW.o; have:=HSZ1.o; omega))⟩
  clear hS d0 d1 d2 f0 f1 f2;refine hK.out _ _ hS4 ?_;clear hK K0;refine xA9 15 11 (v) hS4 ?_;refine wpAnyH_done (by kernel_rfl) ?_ _;go_wp2_with fail;exact bodyPost_ret (zq Tryz.ndProg rfl _ _ r lk xk v rfl rfl HXw4.o) rfl (by rw [HSw4.o]; exact HPO.o)
end
