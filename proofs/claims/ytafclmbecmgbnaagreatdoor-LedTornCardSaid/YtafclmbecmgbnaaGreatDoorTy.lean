/-
  Ty. Conditions: as said.
-/
import Derived.Test.YtafclmbecmgbnaaGreatDoorTx
import Derived.Lib.SliceRun
import Derived.Laws.AppendOwn
import Derived.Laws.AppendOwnNone
set_option maxRecDepth 100000
set_option maxHeartbeats 4000000
open List renaming length_append -> zf0,length_take -> zfZ,length_drop -> zf8,getElem?_eq_getElem -> zfM,getElem?_take -> zgZ,getElem?_drop -> zg3,length_replicate -> zg9,append_nil -> zgx,replicate -> zfY,append_assoc -> zgh,take_left' -> zha,mem_of_mem_drop -> zgv,getElem?_append -> zg1
open Nat renaming min_eq_left -> zg6,lt_of_lt_of_le -> zfG,add_lt_add_left -> zg7
open Int renaming natCast_nonneg -> zg8
open Array renaming length_toList -> zf7
namespace Go.Proofs.YtafclmbecmgbnaaGreatDoor
section
open Go.RowKit Go.Shelf
theorem Jp {w:World} {b:Nat} {e:TypeId} {g n c:Nat} {xs:List Value} (h:w.ownsRow b e 1 (.slice (some ⟨g,0,none⟩) n c) n xs) {i:Nat} (hi:i <= n):w.ownsRow b e 1 (.slice (some ⟨g,0,none⟩) i c) i (xs.take i):=by
 obtain ⟨l,h1,h2,h3,h4,h5,h6⟩:=wC h;exact wV h1 h2 (by rw [<- h3,List.take_take]; congr 1; omega) (by omega) h5 h6
theorem Wv {w w':World} {A:Option Addr} {n c:Nat} (h:w.grownBy w' (Value.slice A n c).ownBlock):zw (fun k=>∃ a,A = some a /\ a.block = k) w w' :=
 ⟨h.os,h.tape,h.output,h.size,fun k hk=>h.block k hk.1 (by
  cases A with
  | none=>rintro e; cases e
  | some a=>rintro e; cases e; exact hk.2 ⟨a,rfl,rfl⟩)⟩
theorem zff {w:World} {b:Nat} {A:Option Addr} {n c:Nat} {xs vs lv:List Value} (h:w.ownsRow b 3 1 (.slice A n c) n xs) (hn0:0 < n) (h1:∀ v ∈ xs,v.oneCell' = true) {i:Nat} (hi:i <= n) {vb voff m vc:Nat} {eV:TypeId} (hm:0 < m) (hvl:vs.length = m)
  (hr:yf w vb eV lv) (hv:∀ j v,vs[j]? = some v -> lv[voff + j]? = some v) (hv1:∀ v ∈ vs,v.oneCell' = true) (hne:∀ a,A = some a -> a.block ≠ vb) (hs:n + m <= 1000) (hb:b <= w.1.size) :
  Calls Tryz.prog 142 #[.slice A n c,.int .i64 (i:Int),.int .i64 (i:Int),.slice (some ⟨vb,voff,none⟩) m vc] w (xe w b 3 A (xs.take i ++ vs ++ xs.drop i)):=by
 obtain ⟨X,HX⟩:=hY (xs.take i ++ vs ++ xs.drop i);have HIN:=Hi (zcQ h h1 hi hm hvl hr hv hv1 hne hs hb (vc:=vc));obtain ⟨g,rfl,hnc,hcm,_,_⟩:=yu h hn0;rw [<- HX.o] at HIN ⊢;have hi1:(i:Int) <= (c:Int):=by omega
 have hi2:(0:Int) <= (i:Int):=by omega
 clear h h1 hr hv hv1 hne HX hvl hi hs hm hn0 hnc hcm;by_cases hci:c = i
 case' pos=>subst hci
 all_goals
  go_enter Tryz.func142,Tryz.ntmps142
  go_wp2_with fail;refine HIN.o.mono ?_;rintro e w' ⟨⟨A',c',rfl,h2,h3⟩,h4⟩;have H2:=Hi h2;have H3:=Hi h3;have H4:=Hi h4;clear h2 h3 h4;go_wp2_with fail
  go_ret
  exact ⟨⟨A',c',rfl,H2.o,H3.o⟩,H4.o⟩
theorem xm {P:Program} {w:World} {ops:Array Oper} {rest:List Oper} {o:Oper} {a:Act} {Q:Exit -> Act -> World -> Prop} (hgd:o.guard = none) (s:Operand) (t:TypeId)
  (ho:o.op = .call { callee:=.builtin .clear,args:=#[s],argTypes:=#[t] }) (v:Value) (hs:a.eval s = v) {w':World} (hr:(Builtin.clear_ #[t] o.type #[v]).run P w = .ok (.tuple #[]) w')
  (h:wpList P ops Q rest (a.put o.dst (.tuple #[])) w'):wpList P ops Q (o :: rest) a w:=by
 refine wpList_plain hgd fun K hK=>?_
 unfold Oper.wp;simp [execOp,ho,resolve,invoke,builtin,hs,hr,Result.andThen];exact hK _ _ h
theorem Zm {P:Program} (w:World) (t e ty:TypeId) (ht:P.underlying t = some (.slice e)) (A:Option Addr) (c:Nat):(Builtin.clear_ #[t] ty #[.slice A 0 c]).run P w = .ok (.tuple #[]) w:=by
 cases A <;> simp [Builtin.clear_,run_underlying ht]
theorem Tryz.zeroInt9:∀ w,(zeroValue 3).run Tryz.prog w = .ok (.int .i64 0) w:=fun _=>by kernel_rfl
theorem zfd {w:World} {b:Nat} {A:Option Addr} {n c:Nat} {xs vs lv:List Value} (h:w.ownsRow b 3 1 (.slice A n c) n xs) {i:Nat} (hi:i < n) {vb voff m vc:Nat} {eV:TypeId} (hm:0 < m) (hvl:vs.length = m)
  (hr:yf w vb eV lv) (hv:∀ j v,vs[j]? = some v -> lv[voff + j]? = some v) (hv1:∀ v ∈ vs,v.oneCell' = true) (hs:n + m <= 1000) (hb:b <= w.1.size) :
  Calls Tryz.prog 142 #[.slice A n c,.int .i64 (i:Int),.int .i64 (n:Int),.slice (some ⟨vb,voff,none⟩) m vc] w (xe w b 3 A (xs.take i ++ vs ++ xs.drop n)):=by
 obtain ⟨ii,hi0,hi1,hi2,hi3⟩:=info_parts Tryz.infoInt9;have hxl:xs.length = n:=by have:=h.1; omega
 have hdn:xs.drop n = []:=List.drop_of_length_le (by omega);rw [hdn,zgx];obtain ⟨X,HX⟩:=hY (xs.take i ++ vs);have HXL:=hI (X.length = i + m) (by rw [HX.o]; simp; omega);obtain ⟨g,rfl,hnc,hcm,_,hgw⟩:=yu h (by omega);have HOW:=Hi (Jp h (i:=i) (by omega));have HVS:=hI (∀ j v,vs[j]? = some v -> w.cell? ((⟨vb,voff,none⟩:Addr).add j) = some v) fun j v hj=>by rw [Addr.add_mid,hr.cell]; exact hv j v hj
 have HV1:=Hi hv1;have HVL:=Hi hvl;have HB:=Hi hb;have HNN:=Hi (And.intro hnc hcm);have HSS:=Hi hs;have HMM:=Hi hm;rw [<- HX.o];have hi1':(i:Int) <= (c:Int):=by omega
 have hi2':(0:Int) <= (i:Int):=by omega
 have hi3':(i:Int) <= (n:Int):=by omega
 have hi4':(n:Int) <= (c:Int):=by omega
 have hci:¬ c = i:=by omega
 have hin:¬ (i:Int) = (n:Int):=by omega
 have HII:=Hi hi;have HRW:=Hi (wC h);have HI0:=Hi hi0;have HI1:=Hi hi1;have HI2:=Hi hi2;have HI3:=Hi hi3;clear h hr hv hv1 hvl hb hnc hcm hs hm hi hi0 hi1 hi2 hi3 hxl hdn;by_cases hfit:i + m <= c
 ·have HFIT:=Hi hfit;clear hfit
  go_enter Tryz.func142,Tryz.ntmps142
  go_wp2_with (with_reducible refine xD9 (some 34) ?_);refine wpList_append_fits (P:=Tryz.prog) w rfl _ _ 45 rfl b 3 ii 1 Tryz.underlying45 HI0.o HI2.o g i c (xs.take i) rfl HOW.o ⟨vb,voff,none⟩ m vc vs rfl (by rw [HVL.o]; omega) HVS.o HV1.o HFIT.o (fun w' h2 h3=>?_);rw [<- HX.o] at h2;have H2:=Hi h2;have H3:=hI (zw (fun k=>∃ a,some (⟨g,0,none⟩:Addr) = some a /\ a.block = k) w w') (Wv (A:=some ⟨g,0,none⟩) (n:=n) (c:=c) h3);clear h2 h3;have hwm:IntKind.i64.wrap ((i:Int) + (m:Int)) = ((i + m:Nat):Int):=by have:=HSS.o; have:=HII.o; rw [IntKind.wrap_i64]; omega
  by_cases hsh:i + m < n
  ·have hsh':((i + m:Nat):Int) < (n:Int):=by omega
   have hsh1:(i:Int) + (m:Int) < (n:Int):=by omega
   have hsh2:(0:Int) <= (i:Int) + (m:Int):=by omega
   have hcm2:¬ c = i + m:=by have:=HNN.o.1; omega
   have HSH:=Hi hsh;obtain ⟨l,hrow,hll,hlt,_,_,_⟩:=wC H2.o;have HRR:=Hi hrow;have HLL:=Hi hll;have HLT:=Hi hlt;have HCL:=Hi (Lib.run_clear_slice w' 45 3 0 (.int .i64 0) Tryz.underlying45 Tryz.zeroInt9 rfl rfl g (i + m) (n - (i + m)) (c - (i + m)) (by omega) (fun j hj=>by rw [hrow.cell,zfM (by have:=HNN.o.1; omega)]; rfl) (fun j _=>hrow.frozen _));clear hsh hrow hll hlt;go_wp2_with (with_reducible refine xD9 (none) ?_);refine xm (P:=Tryz.prog) rfl _ 45 rfl (.slice (some ⟨g,i + m,none⟩) (n - (i + m)) (c - (i + m))) rfl HCL.o ?_;go_wp2_with fail
   go_ret
   have hr2:=HRR.o.setCells (i + m) (zfY (n - (i + m)) (.int .i64 0)) (by rw [zg9,HLL.o]; have:=HNN.o.1; omega);refine ⟨⟨_,c,by rw [HXL.o]; rfl,?_,fun a ha=>.inl ha⟩,H3.o.setCells (.inl ⟨_,rfl,rfl⟩) _ _⟩;rw [HXL.o];refine wV hr2 ?_ ?_ HFIT.o HNN.o.2 (by assumption)
   ·simp [HLL.o]; have:=HNN.o.1; omega
   ·rw [zgh,zha (by rw [zfZ,HLL.o]; omega)];exact HLT.o
  ·have hsh':¬ ((i + m:Nat):Int) < (n:Int):=by omega
   have hsh1:¬ (i:Int) + (m:Int) < (n:Int):=by omega
   clear hsh;go_wp2_with fail
   go_ret
   exact ⟨⟨_,c,by rw [HXL.o]; rfl,by rw [HXL.o]; exact H2.o,fun a ha=>.inl ha⟩,H3.o⟩
 ·have hsh:¬ (i:Int) + (m:Int) < (n:Int):=by have:=HNN.o.1; omega
  clear hfit
  go_enter Tryz.func142,Tryz.ntmps142
  go_wp2_with (with_reducible refine xD9 (some 34) ?_);refine wpList_append_lies (P:=Tryz.prog) w rfl _ _ 45 rfl b 3 ii _ 1 8 Tryz.underlying45 HI0.o HI1.o HI2.o HI3.o rfl (by decide) (.slice (some ⟨g,0,none⟩) i c) i (xs.take i) rfl HOW.o ⟨vb,voff,none⟩ m vc vs rfl (by rw [HVL.o]; omega) HVS.o HV1.o HMM.o (by have:=HSS.o; have:=HII.o; unfold maxLen; omega) (by have:=HSS.o; have:=HII.o; omega) HB.o w.1.size rfl (fun g' c' w' h2 h3 h4 h5=>?_);rw [<- HX.o] at h2;have H2:=Hi h2;have H3:=hI (zw (fun k=>∃ a,some (⟨g,0,none⟩:Addr) = some a /\ a.block = k) w w') (Wv (A:=some ⟨g,0,none⟩) (n:=n) (c:=c) h3);have H4:=hI (g = g' \/ g' = w.1.size) (h4.imp (fun h=>by cases h; rfl) id);have hwm:IntKind.i64.wrap ((i:Int) + (m:Int)) = ((i + m:Nat):Int):=by have:=HSS.o; have:=HII.o; rw [IntKind.wrap_i64]; omega
  clear h2 h3 h4 h5;go_wp2_with fail
  go_ret
  refine ⟨⟨some ⟨g',0,none⟩,c',by rw [HXL.o]; rfl,by rw [HXL.o]; exact H2.o,fun a ha=>?_⟩,H3.o⟩;cases ha;rcases H4.o with h | h
  ·exact .inl (by rw [h])
  ·exact .inr (by show w.1.size <= g'; omega)
theorem Zs {z:Int} (h0:0 <= z) (h1:z <= 100000):wrap64 z = z:=by unfold wrap64; omega
theorem VT {z:Int} (h0:0 <= z) (h1:z <= 100000):IntKind.i64.wrap z = z:=by rw [IntKind.wrap_i64]; omega
theorem zc8 {α:Type} {l vs:List α} {i j n m:Nat} (hij:i <= j) (hj:j <= n) (hm:vs.length = m) (hmj:i + m <= j) (hn:n <= l.length) :
  ((l.take i ++ vs ++ l.drop (i + vs.length)).take (i + m) ++ (l.take n).drop j ++ (l.take i ++ vs ++ l.drop (i + vs.length)).drop (i + m + ((l.take n).drop j).length)).take (i + m + (n - j)) = (l.take n).take i ++ vs ++ (l.take n).drop j:=by
 apply List.ext_getElem?;intro k;simp only [zg1,zf0,zfZ,zf8,zgZ,zg3]
 grind
theorem zbY {α:Type} {l vs:List α} {i j n m:Nat} (hij:i <= j) (hj:j <= n) (hm:vs.length = m) (hmj:j <= i + m) (hn:i + m + (n - j) <= l.length) (hnl:n <= l.length) :
  ((l.take (i + m) ++ (l.take n).drop j ++ l.drop (i + m + ((l.take n).drop j).length)).take i ++ vs ++ (l.take (i + m) ++ (l.take n).drop j ++ l.drop (i + m + ((l.take n).drop j).length)).drop (i + vs.length)).take (i + m + (n - j)) = (l.take n).take i ++ vs ++ (l.take n).drop j:=by
 apply List.ext_getElem?;intro k;simp only [zg1,zf0,zfZ,zf8,zgZ,zg3]
 grind
theorem zbc {i j n m c T q:Nat} (hij:i < j) (hjn:j < n) (hmj:i + m <= j) (hm:0 < m) (hnc:n <= c) (hs:n + m <= 1000) (hT:T = i + m + (n - j)) (hq:q = i + m) :
  ((i:Int) <= (j:Int) /\ (j:Int) <= (n:Int) /\ (n:Int) <= (c:Int) /\ (0:Int) <= (i:Int) /\ ¬ (i:Int) = (j:Int) /\ ¬ (j:Int) = (n:Int) /\ ¬ c = i /\ ¬ c = j /\ (j:Int) <= (c:Int) /\ (i:Int) <= (c:Int)) /\
  (¬ (c:Int) < (T:Int) /\ (T:Int) <= (c:Int) /\ (0:Int) <= (T:Int) /\ (i:Int) <= (T:Int) /\ (q:Int) <= (j:Int) /\ (q:Int) <= (T:Int) /\ (0:Int) <= (q:Int) /\ ¬ c = q /\ (T:Int) <= (n:Int)):=by omega
theorem Ya {i j n m T q:Nat} (hs:n + m <= 1000) (_hij:i < j) (_hjn:j < n) (hT:T = i + m + (n - j)) (hq:q = i + m):wrap64 ((i:Int) + (m:Int)) = (q:Int) /\ IntKind.i64.wrap ((i:Int) + (m:Int)) = (q:Int) /\ wrap64 ((q:Int) + ((n - j:Nat):Int)) = (T:Int):=by
 have e:(q:Int) + ((n - j:Nat):Int) = (T:Int):=by rw [hq,hT]; simp only [Int.natCast_add]
 have e2:(i:Int) + (m:Int) = (q:Int):=by rw [hq]; simp only [Int.natCast_add]
 rw [e,e2];refine ⟨Zs (zg8 q) (by omega),VT (zg8 q) (by omega),Zs (zg8 T) (by omega)⟩
theorem zei {i j n m c T q:Nat} (hij:i < j) (hjn:j < n) (hmj:i + m <= j) (hm:0 < m) (hnc:n <= c) (hT:T = i + m + (n - j)) (hq:q = i + m) :
  m = Nat.min m (T - i) /\ n - j = Nat.min (n - j) (T - q) /\ i + m <= c /\ q + (n - j) <= c /\ T <= c /\ T + (n - T) <= c /\ T = q + (n - j) /\ q <= j /\ T <= n /\ j + (n - j) <= c:=by
 have h1:m <= T - i:=by omega
 have h2:n - j <= T - q:=by omega
 refine ⟨(zg6 h1).symm,(zg6 h2).symm,by omega,by omega,by omega,by omega,by omega,by omega,by omega,by omega⟩
theorem zeJ {l xs vs:List Value} {i j n m k:Nat} {v:Value} (hlt:l.take n = xs) (hvl:vs.length = m) (_hij:i < j) (_hjn:j < n) (hmj:i + m <= j) (hnl:n <= l.length) (hk:(xs.drop j)[k]? = some v):(l.take i ++ vs ++ l.drop (i + vs.length))[j + k]? = some v:=by
 rw [<- hlt,zg3,zgZ] at hk;split at hk
 ·rw [List.getElem?_append_right (by simp; omega),zg3,<- hk];congr 1;simp;omega
 ·cases hk
theorem zfe {w:World} {b:Nat} {A:Option Addr} {n c:Nat} {xs vs lv:List Value} (h:w.ownsRow b 3 1 (.slice A n c) n xs) (h1:∀ v ∈ xs,v.oneCell' = true) {i j:Nat} (hij:i < j) (hjn:j < n) {vb voff m vc:Nat} {eV:TypeId} (hm:0 < m) (hmj:i + m <= j) (hvl:vs.length = m)
  (hr:yf w vb eV lv) (hv:∀ j v,vs[j]? = some v -> lv[voff + j]? = some v) (hv1:∀ v ∈ vs,v.oneCell' = true) (hs:n + m <= 1000) :
  Calls Tryz.prog 142 #[.slice A n c,.int .i64 (i:Int),.int .i64 (j:Int),.slice (some ⟨vb,voff,none⟩) m vc] w (xe w b 3 A (xs.take i ++ vs ++ xs.drop j)):=by
 obtain ⟨ii,hi0,hi1,hi2,hi3⟩:=info_parts Tryz.infoInt9;have HSZ:=hI ((Tryz.prog.info? 3).map (·.size) = some 1) (by rw [hi0]; simp [hi2]);have hxl:xs.length = n:=by have:=h.1; omega
 obtain ⟨X,HX⟩:=hY (xs.take i ++ vs ++ xs.drop j);obtain ⟨T,HT⟩:=hY (i + m + (n - j));obtain ⟨q,HQ⟩:=hY (i + m);have HXL:=hI (X.length = T) (by rw [HX.o,HT.o]; simp; omega);obtain ⟨g,rfl,hnc,hcm,hbg,hgw⟩:=yu h (by omega);obtain ⟨l,hrow,hll,hlt,_,_,_⟩:=wC h;have HRO:=Hi hrow;have HLL:=Hi hll;have HDL:=hI ((xs.drop j).length = n - j) (by rw [zf8,hxl]);have HVL:=Hi hvl;have HNN:=Hi (zei hij hjn hmj hm hnc HT.o HQ.o);have HVR:=hI (∀ k v,vs[k]? = some v -> w.cell? ⟨vb,voff + k,none⟩ = some v) fun k v hk=>by rw [hr.cell]; exact hv k v hk
 have HV1:=Hi hv1;have HXD:=hI (∀ v ∈ xs.drop j,v.oneCell' = true) fun v hv=>h1 v (zgv hv)
 have HSRC:=hI (∀ k v,(xs.drop j)[k]? = some v -> (l.take i ++ vs ++ l.drop (i + vs.length))[j + k]? = some v) fun k v hk=>zeJ hlt hvl hij hjn hmj (by rw [hll]; exact hnc) hk
 have HMID:=hI (((l.take i ++ vs ++ l.drop (i + vs.length)).take q ++ xs.drop j ++ (l.take i ++ vs ++ l.drop (i + vs.length)).drop (q + (xs.drop j).length)).take T = X) (by
  have:=zc8 (l:=l) (vs:=vs) (i:=i) (j:=j) (n:=n) (m:=m) (by omega) (by omega) hvl hmj (by omega);rw [hlt] at this;rw [HX.o,HT.o,HQ.o];exact this)
 have HEND:=hI (c <= maxLen /\ b <= g /\ T <= c) ⟨hcm,hbg,HNN.o.2.2.2.2.1⟩;have HFF:=Hi (zbc hij hjn hmj hm hnc hs HT.o HQ.o);have HWF:=Hi (Ya hs hij hjn HT.o HQ.o);rw [<- HX.o]
 rename_i k1 k2 k3
 clear h h1 hr hv hv1 hvl hnc hcm hs hm hi0 hi1 hi2 hi3 hxl hij hjn hmj hrow hll hlt hbg hgw k1 k2 k3;obtain ⟨⟨e1,e2,e3,e4,e5,e6,e7,e8,e9,e10⟩,e11,e12,e13,e14,e15,e16,e17,e18,e19⟩:=HFF.o;obtain ⟨eQ,eQ2,eT⟩:=HWF.o
 go_enter Tryz.func142,Tryz.ntmps142
 go_upto_region 9 with (fail)
 go_region
 go_wp2_with (with_reducible refine xD9 (some 97) ?_);obtain ⟨w1,HW1⟩:=hY (w.drew);rw [<- HW1.o];have HR1:=hI (yf w1 g 3 l) (by rw [HW1.o]; exact HRO.o.drew);have HV2:=hI (∀ k v,vs[k]? = some v -> w1.cell? ⟨vb,voff + k,none⟩ = some v) fun k v hk=>by rw [HW1.o]; exact HVR.o k v hk
 have HT1:=hI (zw (fun k=>∃ a,some (⟨g,0,none⟩:Addr) = some a /\ a.block = k) w w1) (by rw [HW1.o]; exact (zw.refl _ _).drew);have HC1:=Hi (run_copy_cells (P:=Tryz.prog) w1 45 45 3 3 g i (T - i) (c - i) ⟨vb,voff,none⟩ m vc vs Tryz.underlying45 HSZ.o (by rw [HVL.o]; exact HNN.o.1)
   (fun k v hk=>by rw [Addr.add_mid]; exact HV2.o k v hk) (fun k hk=>by rw [HR1.o.cell,zfM (by rw [HLL.o]; rw [HVL.o] at hk; exact zfG (zg7 hk i) HNN.o.2.2.1)]; rfl) (fun k _=>HR1.o.frozen _) HV1.o)
 refine wpList_copy_runI (P:=Tryz.prog) _ rfl _ _ 45 45 rfl (.slice (some ⟨g,i,none⟩) (T - i) (c - i)) (.slice (some ⟨vb,voff,none⟩) m vc) rfl rfl HC1.o ?_;obtain ⟨w2,HW2⟩:=hY (w1.setCells g i vs);rw [<- HW2.o];obtain ⟨l1,HL1⟩:=hY (l.take i ++ vs ++ l.drop (i + vs.length));have HR2:=hI (yf w2 g 3 l1) (by rw [HW2.o,HL1.o]; exact HR1.o.setCells i vs (by rw [HVL.o,HLL.o]; exact HNN.o.2.2.1));have HT2:=hI (zw (fun k=>∃ a,some (⟨g,0,none⟩:Addr) = some a /\ a.block = k) w w2) (by rw [HW2.o]; exact HT1.o.setCells (.inl ⟨_,rfl,rfl⟩) _ _);have HLL1:=hI (l1.length = c) (by
  have h1:=HNN.o.2.2.1;rw [HL1.o,zf0,zf0,zfZ,zf8,HLL.o,HVL.o];clear e1 e2 e3 e4 e5 e6 e7 e8 e9 e10 e11 e12 e13 e14 e15 e16 e17 e18 e19 eQ eQ2 eT;omega)
 rw [<- HL1.o] at HSRC HMID;clear HC1 HW1 HW2 HT1 HR1 HV2;have HC2:=Hi (run_copy_cells (P:=Tryz.prog) w2.drew 45 45 3 3 g q (T - q) (c - q) ⟨g,j,none⟩ (n - j) (c - j) (xs.drop j) Tryz.underlying45 HSZ.o (by rw [HDL.o]; exact HNN.o.2.1)
   (fun k v hk=>by rw [Addr.add_mid,HR2.o.drew.cell]; exact HSRC.o k v hk) (fun k hk=>by rw [HR2.o.drew.cell,zfM (by rw [HLL1.o]; rw [HDL.o] at hk; exact zfG (zg7 hk q) HNN.o.2.2.2.1)]; rfl) (fun k _=>HR2.o.drew.frozen _) HXD.o)
 go_upto_region 18 with (fail)
 refine wp_region_held (S:=fun _=>True) (by kernel_rfl) ?_;change wpAnyH _ _ _ _ _ _ _ _ w2.drew;refine xA9 0 98 (.slice (some ⟨g,0,none⟩) T c) trivial ?_;refine xA9 1 99 (.int .i64 (i:Int)) trivial ?_;refine xA9 2 100 (.slice (some ⟨vb,voff,none⟩) m vc) trivial ?_;refine xA9 3 101 (.int .i64 (m:Int)) trivial ?_;refine xA9 4 102 (.int .i64 (q:Int)) trivial ?_;refine xA9 5 103 (.slice (some ⟨g,q,none⟩) (T - q) (c - q)) trivial ?_;refine xA9 6 104 (.slice (some ⟨g,0,none⟩) n c) trivial ?_;refine xA9 7 105 (.int .i64 (j:Int)) trivial ?_;refine xA9 8 106 (.slice (some ⟨g,j,none⟩) (n - j) (c - j)) trivial ?_;refine xJ9 9 (some 107) (fun K hK=>?_);refine step_copy_runI rfl _ _ 45 45 rfl (.slice (some ⟨g,q,none⟩) (T - q) (c - q)) (.slice (some ⟨g,j,none⟩) (n - j) (c - j)) rfl rfl HC2.o ?_;refine hK.out _ _ trivial ?_;clear hK K;refine wpAnyH_done (by kernel_rfl) ?_ _;obtain ⟨w3,HW3⟩:=hY (w2.drew.setCells g q (xs.drop j));rw [<- HW3.o];obtain ⟨l2,HL2⟩:=hY (l1.take q ++ xs.drop j ++ l1.drop (q + (xs.drop j).length));have HR3:=hI (yf w3 g 3 l2) (by rw [HW3.o,HL2.o]; exact HR2.o.drew.setCells q (xs.drop j) (by rw [HDL.o,HLL1.o]; exact HNN.o.2.2.2.1));have HT3:=hI (zw (fun k=>∃ a,some (⟨g,0,none⟩:Addr) = some a /\ a.block = k) w w3) (by rw [HW3.o]; exact HT2.o.drew.setCells (.inl ⟨_,rfl,rfl⟩) _ _);have HLL2:=hI (l2.length = c) (by
  have h1:=HNN.o.2.2.2.1;rw [HL2.o,zf0,zf0,HDL.o,zfZ,zf8,HLL1.o];clear e1 e2 e3 e4 e5 e6 e7 e8 e9 e10 e11 e12 e13 e14 e15 e16 e17 e18 e19 eQ eQ2 eT;omega)
 rw [<- HL2.o] at HMID;have HFIN:=hI (∀ w' l',yf w' g 3 l' -> l'.length = c -> l'.take T = X -> zw (fun k=>∃ a,some (⟨g,0,none⟩:Addr) = some a /\ a.block = k) w w' -> xe w b 3 (some ⟨g,0,none⟩) X (.returned (.slice (some ⟨g,0,none⟩) T c)) w') (fun w' l' h1 h2 h3 h4=>by
  refine ⟨⟨_,c,by rw [HXL.o],?_,fun a ha=>.inl ha⟩,h4⟩;rw [HXL.o];exact wV h1 h2 h3 HEND.o.2.2 HEND.o.1 HEND.o.2.1)
 clear HC2 HW3 HR2 HT2 HL1 HL2;by_cases hTn:T = n
 ·have hTc:n - T = 0:=by rw [hTn]; exact Nat.sub_self n
  have HCL:=Hi fun A d=>Zm (P:=Tryz.prog) w3 45 3 0 Tryz.underlying45 A d
  clear hTn;by_cases hcT:c = T
  case' pos=>subst hcT
  all_goals
   go_wp2_with (with_reducible refine xD9 (none) ?_);refine xm (P:=Tryz.prog) rfl _ 45 rfl (.slice _ 0 _) rfl (HCL.o _ _) ?_;go_wp2_with fail
   go_ret
   exact HFIN.o _ _ HR3.o HLL2.o HMID.o HT3.o
 ·have hcT:¬ c = T:=by
   have h1:=HNN.o.2.2.2.2.2.2.2.2.1;have h3:=e3;clear e1 e2 e4 e5 e6 e7 e8 e9 e10 e11 e12 e13 e14 e15 e16 e17 e18 e19 eQ eQ2 eT;omega
  have HLT:=hI (0 < n - T /\ T + (n - T) <= c) ⟨by
   have h1:=HNN.o.2.2.2.2.2.2.2.2.1;clear e1 e2 e3 e4 e5 e6 e7 e8 e9 e10 e11 e12 e13 e14 e15 e16 e17 e18 e19 eQ eQ2 eT hcT;omega,HNN.o.2.2.2.2.2.1⟩
  have HCL:=Hi (Lib.run_clear_slice w3 45 3 0 (.int .i64 0) Tryz.underlying45 Tryz.zeroInt9 rfl rfl g T (n - T) (c - T) HLT.o.1 (fun k hk=>by rw [HR3.o.cell,zfM (by rw [HLL2.o]; exact zfG (zg7 hk T) HLT.o.2)]; rfl) (fun k _=>HR3.o.frozen _));clear hTn;go_wp2_with (with_reducible refine xD9 (none) ?_);refine xm (P:=Tryz.prog) rfl _ 45 rfl (.slice (some ⟨g,T,none⟩) (n - T) (c - T)) rfl HCL.o ?_;go_wp2_with fail
  go_ret
  have hr2:=HR3.o.setCells T (zfY (n - T) (.int .i64 0)) (by rw [zg9,HLL2.o]; exact HLT.o.2);refine HFIN.o _ _ hr2 ?_ ?_ (HT3.o.setCells (.inl ⟨_,rfl,rfl⟩) _ _)
  ·rw [zf0,zf0,zg9,zfZ,zf8,HLL2.o];have h1:=HLT.o;clear e1 e2 e3 e4 e5 e6 e7 e8 e9 e10 e11 e12 e13 e14 e15 e16 e17 e18 e19 eQ eQ2 eT hcT;omega
  ·rw [zgh,zha (by rw [zfZ,HLL2.o]; exact zg6 HEND.o.2.2)];exact HMID.o
theorem zag {i j n m c T q:Nat} (hij:i < j) (hjn:j < n) (hmj:j < i + m) (hnc:n <= c) (hT:T = i + m + (n - j)) (hq:q = i + m) :
  (i:Int) <= (j:Int) /\ (j:Int) <= (n:Int) /\ (n:Int) <= (c:Int) /\ (0:Int) <= (i:Int) /\ ¬ (i:Int) = (j:Int) /\ ¬ (j:Int) = (n:Int) /\ ¬ c = i /\ ¬ c = j /\ (j:Int) <= (c:Int) /\ (i:Int) <= (c:Int) /\
  (0:Int) <= (T:Int) /\ (i:Int) <= (T:Int) /\ ¬ (q:Int) <= (j:Int) /\ (q:Int) <= (T:Int) /\ (0:Int) <= (q:Int):=by omega
theorem zdK {i j n m c T q:Nat} (hij:i < j) (hjn:j < n) (hmj:j < i + m) (hT:T = i + m + (n - j)) (hq:q = i + m) (hTc:T <= c) :
  m = Nat.min m (T - i) /\ n - j = Nat.min (n - j) (T - q) /\ i + m <= c /\ q + (n - j) <= c /\ ¬ c = q:=by
 have h1:m <= T - i:=by omega
 have h2:n - j <= T - q:=by omega
 refine ⟨(zg6 h1).symm,(zg6 h2).symm,by omega,by omega,by omega⟩
theorem zeB {w:World} {b:Nat} {A:Option Addr} {n c:Nat} {xs vs lv:List Value} (h:w.ownsRow b 3 1 (.slice A n c) n xs) (h1:∀ v ∈ xs,v.oneCell' = true) {i j:Nat} (hij:i < j) (hjn:j < n) {vb voff m vc:Nat} {eV:TypeId} (hmj:j < i + m) (hvl:vs.length = m)
  (hr:yf w vb eV lv) (hv:∀ j v,vs[j]? = some v -> lv[voff + j]? = some v) (hv1:∀ v ∈ vs,v.oneCell' = true) (hne:∀ a,A = some a -> a.block ≠ vb) (hs:n + m <= 1000) (hroom:i + m + (n - j) <= c) :
  Calls Tryz.prog 142 #[.slice A n c,.int .i64 (i:Int),.int .i64 (j:Int),.slice (some ⟨vb,voff,none⟩) m vc] w (xe w b 3 A (xs.take i ++ vs ++ xs.drop j)):=by
 obtain ⟨ii,hi0,hi1,hi2,hi3⟩:=info_parts Tryz.infoInt9;have HSZ:=hI ((Tryz.prog.info? 3).map (·.size) = some 1) (by rw [hi0]; simp [hi2]);have hxl:xs.length = n:=by have:=h.1; omega
 obtain ⟨X,HX⟩:=hY (xs.take i ++ vs ++ xs.drop j);obtain ⟨T,HT⟩:=hY (i + m + (n - j));obtain ⟨q,HQ⟩:=hY (i + m);have HXL:=hI (X.length = T) (by rw [HX.o,HT.o]; simp; omega);obtain ⟨g,rfl,hnc,hcm,hbg,hgw⟩:=yu h (by omega);obtain ⟨l,hrow,hll,hlt,_,_,_⟩:=wC h;have hgv:g ≠ vb:=hne _ rfl;have HRO:=Hi hrow;have HLL:=Hi hll;have HDL:=hI ((xs.drop j).length = n - j) (by rw [zf8,hxl]);have HVL:=Hi hvl;have HNN:=Hi (zdK hij hjn hmj HT.o HQ.o (by rw [HT.o]; exact hroom));have HGV:=Hi hgv;have HVRW:=Hi hr;have HV0:=Hi hv;have HV1:=Hi hv1;have HXD:=hI (∀ v ∈ xs.drop j,v.oneCell' = true) fun v hv=>h1 v (zgv hv)
 have HSRC:=hI (∀ k v,(xs.drop j)[k]? = some v -> l[j + k]? = some v) fun k v hk=>by
  rw [<- hlt,zg3,zgZ] at hk;split at hk
  ·exact hk
  ·cases hk
 have HMID:=hI (((l.take q ++ xs.drop j ++ l.drop (q + (xs.drop j).length)).take i ++ vs ++ (l.take q ++ xs.drop j ++ l.drop (q + (xs.drop j).length)).drop (i + vs.length)).take T = X) (by
  have:=zbY (l:=l) (vs:=vs) (i:=i) (j:=j) (n:=n) (m:=m) (by omega) (by omega) hvl (by omega) (by omega) (by omega);rw [hlt] at this;rw [HX.o,HT.o,HQ.o];exact this)
 have HEND:=hI (c <= maxLen /\ b <= g /\ T <= c) ⟨hcm,hbg,by rw [HT.o]; exact hroom⟩;have HFF:=Hi (zag hij hjn hmj hnc HT.o HQ.o);have HWF:=Hi (Ya hs hij hjn HT.o HQ.o);have hnb:lv.length ≠ 0:=by
  intro h0;have h2:=hv 0 (vs[0]'(by omega)) (zfM (by omega));rw [List.length_eq_zero_iff.1 h0] at h2;cases h2
 have HOV:=hI (∀ lb cb,(callFunc 162 #[.slice (some ⟨g,q,none⟩) lb cb,.slice (some ⟨vb,voff,none⟩) m vc]).run Tryz.prog w.drew = .ok (.value (.bool false)) w.drew) fun lb cb=>by
  rw [show (162:Nat) = zeP.f 27 from rfl,run_callFunc_extern Zf.f27 (by kernel_rfl) (by kernel_rfl) (by kernel_rfl) (e:=Extern.SlicesOverlaps.overlaps #[45,45] #[4]) (by kernel_rfl),
   Lib.run_overlaps_apart w.drew 45 4 3 Zf.t22 1 Zf.z3 ⟨g,q,none⟩ ⟨vb,voff,none⟩ lb cb m vc hgv 3 eV l.length lv.length hrow.drew.shape hr.drew.shape hnb (hrow.drew.frozen _) (hrow.drew.frozen _)]
  rfl
 have hTi:(T:Int) <= (c:Int):=Int.ofNat_le.2 HEND.o.2.2;have hTc:¬ (c:Int) < (T:Int):=Int.not_lt.2 hTi;have hcq:¬ c = q:=HNN.o.2.2.2.2;rw [<- HX.o]
 rename_i k1 k2 k3
 clear h h1 hr hv hv1 hvl hnc hcm hs hmj hroom hi0 hi1 hi2 hi3 hxl hij hjn hrow hll hlt hbg hgw k1 k2 k3 hgv hne hnb;obtain ⟨e1,e2,e3,e4,e5,e6,e7,e8,e9,e10,e13,e14,e15,e16,e17⟩:=HFF.o;obtain ⟨eQ,eQ2,eT⟩:=HWF.o;have hov:=HOV.o
 go_enter Tryz.func142,Tryz.ntmps142
 go_upto_region 9 with (fail)
 go_region
 obtain ⟨w1,HW1⟩:=hY (w.drew);rw [<- HW1.o] at hov ⊢;have HR1:=hI (yf w1 g 3 l) (by rw [HW1.o]; exact HRO.o.drew);have HVW:=hI (yf w1 vb eV lv) (by rw [HW1.o]; exact HVRW.o.drew);have HT1:=hI (zw (fun k=>∃ a,some (⟨g,0,none⟩:Addr) = some a /\ a.block = k) w w1) (by rw [HW1.o]; exact (zw.refl _ _).drew);have HC1:=Hi (run_copy_cells (P:=Tryz.prog) w1.drew 45 45 3 3 g q (T - q) (c - q) ⟨g,j,none⟩ (n - j) (c - j) (xs.drop j) Tryz.underlying45 HSZ.o (by rw [HDL.o]; exact HNN.o.2.1)
   (fun k v hk=>by rw [Addr.add_mid,HR1.o.drew.cell]; exact HSRC.o k v hk) (fun k hk=>by rw [HR1.o.drew.cell,zfM (by rw [HLL.o]; rw [HDL.o] at hk; exact zfG (zg7 hk q) HNN.o.2.2.2.1)]; rfl) (fun k _=>HR1.o.drew.frozen _) HXD.o)
 clear HW1 HOV HVRW;have hov2:=hov;go_upto_region 22 with (simp only [hov2])
 clear hov hov2;go_upto_region 22 with (fail)
 refine wp_region_held (S:=fun _=>True) (by kernel_rfl) ?_;change wpAnyH _ _ _ _ _ _ _ _ w1.drew;refine xA9 0 121 (.slice (some ⟨g,0,none⟩) T c) trivial ?_;refine xA9 1 122 (.int .i64 (i:Int)) trivial ?_;refine xA9 2 123 (.slice (some ⟨vb,voff,none⟩) m vc) trivial ?_;refine xA9 3 124 (.int .i64 (m:Int)) trivial ?_;refine xA9 4 125 (.int .i64 (q:Int)) trivial ?_;refine xA9 5 126 (.slice (some ⟨g,q,none⟩) (T - q) (c - q)) trivial ?_;refine xA9 6 127 (.slice (some ⟨g,0,none⟩) n c) trivial ?_;refine xA9 7 128 (.int .i64 (j:Int)) trivial ?_;refine xA9 8 129 (.slice (some ⟨g,j,none⟩) (n - j) (c - j)) trivial ?_;refine xJ9 9 (some 130) (fun K hK=>?_);refine step_copy_runI rfl _ _ 45 45 rfl (.slice (some ⟨g,q,none⟩) (T - q) (c - q)) (.slice (some ⟨g,j,none⟩) (n - j) (c - j)) rfl rfl HC1.o ?_;refine hK.out _ _ trivial ?_;clear hK K;refine wpAnyH_done (by kernel_rfl) ?_ _;obtain ⟨w2,HW2⟩:=hY (w1.drew.setCells g q (xs.drop j));rw [<- HW2.o];obtain ⟨l1,HL1⟩:=hY (l.take q ++ xs.drop j ++ l.drop (q + (xs.drop j).length));have HR2:=hI (yf w2 g 3 l1) (by rw [HW2.o,HL1.o]; exact HR1.o.drew.setCells q (xs.drop j) (by rw [HDL.o,HLL.o]; exact HNN.o.2.2.2.1));have HV2:=hI (yf w2 vb eV lv) (HVW.o.drew.keep (by rw [HW2.o]; exact qz _ _ _ _ (Ne.symm HGV.o)));have HT2:=hI (zw (fun k=>∃ a,some (⟨g,0,none⟩:Addr) = some a /\ a.block = k) w w2) (by rw [HW2.o]; exact HT1.o.drew.setCells (.inl ⟨_,rfl,rfl⟩) _ _);have HLL1:=hI (l1.length = c) (by
  have h1:=HNN.o.2.2.2.1;rw [HL1.o,zf0,zf0,HDL.o,zfZ,zf8,HLL.o];clear e1 e2 e3 e4 e5 e6 e7 e8 e9 e10 e13 e14 e15 e16 e17 eQ eQ2 eT hTi hTc hcq;omega)
 rw [<- HL1.o] at HMID;have HC2:=Hi (run_copy_cells (P:=Tryz.prog) w2 45 45 3 3 g i (T - i) (c - i) ⟨vb,voff,none⟩ m vc vs Tryz.underlying45 HSZ.o (by rw [HVL.o]; exact HNN.o.1)
   (fun k v hk=>by rw [Addr.add_mid,HV2.o.cell]; exact HV0.o k v hk) (fun k hk=>by rw [HR2.o.cell,zfM (by rw [HLL1.o]; rw [HVL.o] at hk; exact zfG (zg7 hk i) HNN.o.2.2.1)]; rfl) (fun k _=>HR2.o.frozen _) HV1.o)
 clear HC1 HW2 HT1 HR1 HVW;go_wp2_with (with_reducible refine xD9 (some 135) ?_);refine wpList_copy_runI (P:=Tryz.prog) _ rfl _ _ 45 45 rfl (.slice (some ⟨g,i,none⟩) (T - i) (c - i)) (.slice (some ⟨vb,voff,none⟩) m vc) rfl rfl HC2.o ?_;obtain ⟨w3,HW3⟩:=hY (w2.setCells g i vs);rw [<- HW3.o];go_wp2_with fail
 go_ret
 have hr3:=HR2.o.setCells i vs (by rw [HVL.o,HLL1.o]; exact HNN.o.2.2.1);rw [<- HW3.o] at hr3;refine ⟨⟨_,c,by rw [HXL.o]; rfl,?_,fun a ha=>.inl ha⟩,by rw [HW3.o]; exact HT2.o.setCells (.inl ⟨_,rfl,rfl⟩) _ _⟩;rw [HXL.o];refine wV hr3 ?_ HMID.o HEND.o.2.2 HEND.o.1 HEND.o.2.1;rw [zf0,zf0,zfZ,zf8,HLL1.o,HVL.o];have h1:=HNN.o.2.2.1;clear e1 e2 e3 e4 e5 e6 e7 e8 e9 e10 e13 e14 e15 e16 e17 eQ eQ2 eT hTi hTc hcq;omega
theorem Qp {i j n m c T q:Nat} (hij:i < j) (hjn:j < n) (hnc:n <= c) (hT:T = i + m + (n - j)) (hq:q = i + m) (hTc:c < T) (_hs:n + m <= 1000) :
  ((i:Int) <= (j:Int) /\ (j:Int) <= (n:Int) /\ (n:Int) <= (c:Int) /\ (0:Int) <= (i:Int) /\ ¬ (i:Int) = (j:Int) /\ ¬ (j:Int) = (n:Int) /\ ¬ c = i /\ ¬ c = j /\ (j:Int) <= (c:Int) /\ (i:Int) <= (c:Int)) /\
  ((0:Int) <= (T:Int) /\ (i:Int) <= (T:Int) /\ (q:Int) <= (T:Int) /\ (0:Int) <= (q:Int) /\ (c:Int) < (T:Int)):=by omega
theorem zdy {i T:Nat} (h:i <= T) (hT:T <= 2000):wrap64 ((T:Int) - (i:Int)) = ((T - i:Nat):Int):=by
 rw [show (T:Int) - (i:Int) = ((T - i:Nat):Int) by omega];exact Zs (zg8 _) (by omega)
theorem zcK {i j n m c T q:Nat} (hij:i < j) (hjn:j < n) (hnc:n <= c) (hT:T = i + m + (n - j)) (hq:q = i + m) (hTc:c < T) (hs:n + m <= 1000) :
  m = Nat.min m (T - i) /\ n - j = Nat.min (n - j) (T - q) /\ i + m <= T /\ q + (n - j) <= T /\ i + (T - i) = T /\ 0 < T - i /\ T <= 2000 /\ i <= n /\ m + (n - j) <= T - i /\ i <= T:=by
 have h1:m <= T - i:=by omega
 have h2:n - j <= T - q:=by omega
 refine ⟨(zg6 h1).symm,(zg6 h2).symm,by omega,by omega,by omega,by omega,by omega,by omega,by omega,by omega⟩
theorem zeA {w:World} {b:Nat} {A:Option Addr} {n c:Nat} {xs vs lv:List Value} (h:w.ownsRow b 3 1 (.slice A n c) n xs) (h1:∀ v ∈ xs,v.oneCell' = true) {i j:Nat} (hij:i < j) (hjn:j < n) {vb voff m vc:Nat} {eV:TypeId} (hvl:vs.length = m)
  (hr:yf w vb eV lv) (hv:∀ j v,vs[j]? = some v -> lv[voff + j]? = some v) (hv1:∀ v ∈ vs,v.oneCell' = true) (hs:n + m <= 1000) (hb:b <= w.1.size) (hroom:c < i + m + (n - j)) :
  Calls Tryz.prog 142 #[.slice A n c,.int .i64 (i:Int),.int .i64 (j:Int),.slice (some ⟨vb,voff,none⟩) m vc] w (xe w b 3 A (xs.take i ++ vs ++ xs.drop j)):=by
 obtain ⟨ii,hi0,hi1,hi2,hi3⟩:=info_parts Tryz.infoInt9;have HSZ:=hI ((Tryz.prog.info? 3).map (·.size) = some 1) (by rw [hi0]; simp [hi2]);have hxl:xs.length = n:=by have:=h.1; omega
 obtain ⟨X,HX⟩:=hY (xs.take i ++ vs ++ xs.drop j);obtain ⟨T,HT⟩:=hY (i + m + (n - j));obtain ⟨q,HQ⟩:=hY (i + m);have HXL:=hI (X.length = T) (by rw [HX.o,HT.o]; simp; omega);obtain ⟨g,rfl,hnc,hcm,hbg,hgw⟩:=yu h (by omega);obtain ⟨l,hrow,hll,hlt,_,_,_⟩:=wC h;have HNN:=Hi (zcK hij hjn hnc HT.o HQ.o (by rw [HT.o]; exact hroom) hs);have HDL:=hI ((xs.drop j).length = n - j) (by rw [zf8,hxl]);have HTL:=hI ((xs.take i).length = i) (by rw [zfZ,hxl]; exact zg6 HNN.o.2.2.2.2.2.2.2.1);have HVL:=Hi hvl;have HV1:=Hi hv1;have HXD:=hI (∀ v ∈ xs.drop j,v.oneCell' = true) fun v hv=>h1 v (zgv hv)
 obtain ⟨p,HP⟩:=hY (w.1.size);obtain ⟨G,HG⟩:=hY (grownCap w.drew T c 3);have HGG:=hI (T <= G /\ G <= maxLen) (by
  rw [HG.o];exact ⟨grownCap_ge _ _ _ _,grownCap_le_maxLen _ _ _ _ (Nat.le_trans HNN.o.2.2.2.2.2.2.1 (by unfold maxLen; decide))⟩)
 obtain ⟨row,HROW⟩:∃ row:Array Value,Hid (row = (xs.take i).toArray ++ Builtin.zeroCells (Value.int .i64 0).cells (T - i) ++ Builtin.zeroCells (Value.int .i64 0).cells (G - T)):=Hy;have HAP:=hI (∀ ty,(Builtin.append_ #[45,3] ty #[.slice (some ⟨g,0,none⟩) i c,.int .i64 ((T - i:Nat):Int)]).run Tryz.prog w.drew = .ok (.slice (some ⟨p,0,none⟩) T G) (w.drew.drew.alloc (.cells row 3))) fun ty=>by
  have hold:(Builtin.firstCells ii.size i (.slice (some ⟨g,0,none⟩) i c)).run Tryz.prog w.drew.drew = .ok (xs.take i).toArray w.drew.drew:=by
   rw [hi2];exact run_firstCells_some w.drew.drew 1 i ⟨g,0,none⟩ i c (xs.take i) (by rw [HTL.o,Nat.mul_one]) (fun k v hk=>by
    rw [Addr.add_mid,hrow.drew.drew.cell,Nat.zero_add];rw [<- hlt,List.take_take,zgZ] at hk;split at hk
    ·exact hk
    ·cases hk)
  have h:=Lib.run_append_grow_zeros w.drew 45 3 ty 3 ii _ .i64 .i64 Tryz.underlying45 Tryz.underlying3 hi0 hi1 (some ⟨g,0,none⟩) i c (xs.take i) hold (T - i) HNN.o.2.2.2.2.2.1 (by rw [hi2]; decide) (by rw [HNN.o.2.2.2.2.1,HT.o]; exact hroom) (by rw [HNN.o.2.2.2.2.1]; have:=HNN.o.2.2.2.2.2.2.1; omega) (by rw [hi3]; have:=HNN.o.2.2.2.2.2.2.1; omega) (by rw [hi3,HNN.o.2.2.2.2.1]; exact growslice_fits (by rw [HT.o]; exact hroom) (by have:=HNN.o.2.2.2.2.2.2.1; omega));rw [HNN.o.2.2.2.2.1,<- HG.o,<- HROW.o,show w.drew.1.size = p from HP.o.symm] at h;exact h
 have HZL:=hI (row.toList = xs.take i ++ ((Builtin.zeroCells (Value.int .i64 0).cells (T - i)).toList ++ (Builtin.zeroCells (Value.int .i64 0).cells (G - T)).toList)) (by rw [HROW.o]; simp);obtain ⟨z,HZ⟩:=hY ((Builtin.zeroCells (Value.int .i64 0).cells (T - i)).toList ++ (Builtin.zeroCells (Value.int .i64 0).cells (G - T)).toList);rw [<- HZ.o] at HZL;have HZN:=hI (z.length = (T - i) + (G - T)) (by rw [HZ.o,zf0,zf7,zf7,size_zeroCells,size_zeroCells]; simp [Value.cells]);have HRG:=hI (i + z.length = G /\ i + m <= G /\ q + (n - j) <= G /\ ¬ G = i /\ ¬ G = q) (by
  have h1:=HNN.o;have h2:=HGG.o.1;have h3:=HZN.o;have h4:=HQ.o;clear HNN HGG HZN HQ;omega)
 have HFIN:=hI ((((xs.take i ++ z).take i ++ vs ++ (xs.take i ++ z).drop (i + vs.length)).take q ++ xs.drop j ++ ((xs.take i ++ z).take i ++ vs ++ (xs.take i ++ z).drop (i + vs.length)).drop (q + (xs.drop j).length)).take T = X) (by
  have h2:=HNN.o.2.2.2.2.2.2.2.2.1;have:=Y3 (a:=xs.take i) (vs:=vs) (d:=xs.drop j) (z:=z) (i:=i) (m:=m) HTL.o hvl (by rw [HDL.o,HZN.o]; omega);rw [HX.o,HT.o,HQ.o]
  rwa [HDL.o] at this ⊢)
 have HSRC:=hI (∀ k v,(xs.drop j)[k]? = some v -> l[j + k]? = some v) fun k v hk=>by
  rw [<- hlt,zg3,zgZ] at hk;split at hk
  ·exact hk
  ·cases hk
 have HGP:=hI (g ≠ p /\ vb ≠ p) (by have h2:=hr.lt; have h3:=HP.o; constructor <;> omega);have HRO:=Hi hrow;have HVRW:=Hi hr;have HV0:=Hi hv;have HBB:=hI (b <= p) (by rw [HP.o]; exact hb);have HFF:=Hi (Qp hij hjn hnc HT.o HQ.o (by rw [HT.o]; exact hroom) hs);have HWF:=Hi (Ya hs hij hjn HT.o HQ.o);have eS:=zdy HNN.o.2.2.2.2.2.2.2.2.2 HNN.o.2.2.2.2.2.2.1;have hGi:=HRG.o.2.2.2.1;have hGq:=HRG.o.2.2.2.2;rw [<- HX.o]
 rename_i k1 k2 k3
 clear h h1 hr hv hv1 hvl hnc hcm hs hroom hi0 hi1 hi2 hi3 hxl hij hjn hrow hll hlt hbg hgw k1 k2 k3 hb;obtain ⟨⟨e1,e2,e3,e4,e5,e6,e7,e8,e9,e10⟩,e13,e14,e16,e17,e20⟩:=HFF.o;obtain ⟨eQ,eQ2,eT⟩:=HWF.o
 go_enter Tryz.func142,Tryz.ntmps142
 go_upto_region 9 with (fail)
 go_region
 rw [eT];go_wp2_with (with_reducible refine xD9 (some 67) ?_);refine Lib.wpList_append_run (P:=Tryz.prog) _ rfl _ _ 45 3 rfl (.slice (some ⟨g,0,none⟩) i c) (.int .i64 (wrap64 ((T:Int) - (i:Int)))) rfl rfl _ _ (by rw [eS]; exact HAP.o _) ?_;obtain ⟨w2,HW2⟩:=hY (w.drew.drew.alloc (.cells row 3));rw [<- HW2.o];have HR2:=hI (yf w2 p 3 (xs.take i ++ z)) (by rw [HW2.o,HP.o,<- HZL.o]; exact yf.made w.drew.drew row 3);have HT2:=hI (zw (fun k=>∃ a,some (⟨g,0,none⟩:Addr) = some a /\ a.block = k) w w2) (by rw [HW2.o]; exact (zw.refl _ w).drew.drew.alloc _);have HBL:=hI (zw (fun _=>False) w w2) (by rw [HW2.o]; exact (zw.refl _ w).drew.drew.alloc _);have HG2:=hI (yf w2 g 3 l) (HRO.o.keep (HBL.o.block _ ⟨HRO.o.lt,fun h=>h⟩));have HV2:=hI (yf w2 vb eV lv) (HVRW.o.keep (HBL.o.block _ ⟨HVRW.o.lt,fun h=>h⟩));have HC1:=Hi (run_copy_cells (P:=Tryz.prog) w2 45 45 3 3 p i (T - i) (G - i) ⟨vb,voff,none⟩ m vc vs Tryz.underlying45 HSZ.o (by rw [HVL.o]; exact HNN.o.1)
   (fun k v hk=>by rw [Addr.add_mid,HV2.o.cell]; exact HV0.o k v hk) (fun k hk=>by rw [HR2.o.cell,zfM (by rw [zf0,HTL.o,HRG.o.1]; rw [HVL.o] at hk; exact zfG (zg7 hk i) HRG.o.2.1)]; rfl) (fun k _=>HR2.o.frozen _) HV1.o)
 go_wp2_with (with_reducible refine xD9 (some 72) ?_);refine wpList_copy_runI (P:=Tryz.prog) _ rfl _ _ 45 45 rfl (.slice (some ⟨p,i,none⟩) (T - i) (G - i)) (.slice (some ⟨vb,voff,none⟩) m vc) rfl rfl HC1.o ?_;obtain ⟨w3,HW3⟩:=hY (w2.setCells p i vs);rw [<- HW3.o];obtain ⟨l1,HL1⟩:=hY ((xs.take i ++ z).take i ++ vs ++ (xs.take i ++ z).drop (i + vs.length));have HR3:=hI (yf w3 p 3 l1) (by rw [HW3.o,HL1.o]; exact HR2.o.setCells i vs (by rw [HVL.o,zf0,HTL.o,HRG.o.1]; exact HRG.o.2.1));have HG3:=hI (yf w3 g 3 l) (HG2.o.keep (by rw [HW3.o]; exact qz _ _ _ _ HGP.o.1));have HT3:=hI (zw (fun k=>∃ a,some (⟨g,0,none⟩:Addr) = some a /\ a.block = k) w w3) (by rw [HW3.o]; exact HT2.o.setCells (.inr (by rw [HP.o]; exact Nat.le_refl _)) _ _);have HLL1:=hI (l1.length = G) (by
  have h1:=HRG.o.1;have h2:=HRG.o.2.1;rw [HL1.o,zf0,zf0,zfZ,zf8,zf0,HTL.o,HVL.o];clear e1 e2 e3 e4 e5 e6 e7 e8 e9 e10 e13 e14 e16 e17 e20 eQ eQ2 eT eS hGi hGq;omega)
 rw [<- HL1.o] at HFIN;have HC2:=Hi (run_copy_cells (P:=Tryz.prog) w3.drew 45 45 3 3 p q (T - q) (G - q) ⟨g,j,none⟩ (n - j) (c - j) (xs.drop j) Tryz.underlying45 HSZ.o (by rw [HDL.o]; exact HNN.o.2.1)
   (fun k v hk=>by rw [Addr.add_mid,HG3.o.drew.cell]; exact HSRC.o k v hk) (fun k hk=>by rw [HR3.o.drew.cell,zfM (by rw [HLL1.o]; rw [HDL.o] at hk; exact zfG (zg7 hk q) HRG.o.2.2.1)]; rfl) (fun k _=>HR3.o.drew.frozen _) HXD.o)
 clear HC1 HW3 HR2 HT2 HBL HW2 HV2;go_upto_region 13 with (fail)
 refine wp_region_held (S:=fun _=>True) (by kernel_rfl) ?_;change wpAnyH _ _ _ _ _ _ _ _ w3.drew;refine xA9 0 73 (.slice (some ⟨p,0,none⟩) T G) trivial ?_;refine xA9 1 74 (.int .i64 (i:Int)) trivial ?_;refine xA9 2 75 (.slice (some ⟨vb,voff,none⟩) m vc) trivial ?_;refine xA9 3 76 (.int .i64 (m:Int)) trivial ?_;refine xA9 4 77 (.int .i64 (q:Int)) trivial ?_;refine xA9 5 78 (.slice (some ⟨p,q,none⟩) (T - q) (G - q)) trivial ?_;refine xA9 6 79 (.slice (some ⟨g,0,none⟩) n c) trivial ?_;refine xA9 7 80 (.int .i64 (j:Int)) trivial ?_;refine xA9 8 81 (.slice (some ⟨g,j,none⟩) (n - j) (c - j)) trivial ?_;refine xJ9 9 (some 82) (fun K hK=>?_);refine step_copy_runI rfl _ _ 45 45 rfl (.slice (some ⟨p,q,none⟩) (T - q) (G - q)) (.slice (some ⟨g,j,none⟩) (n - j) (c - j)) rfl rfl HC2.o ?_;refine hK.out _ _ trivial ?_;clear hK K;refine wpAnyH_done (by kernel_rfl) ?_ _;go_wp2_with fail
 go_ret
 have hr4:=HR3.o.drew.setCells q (xs.drop j) (by rw [HDL.o,HLL1.o]; exact HRG.o.2.2.1);refine ⟨⟨some ⟨p,0,none⟩,G,by rw [HXL.o]; rfl,?_,fun a ha=>.inr (by cases ha; rw [HP.o]; exact Nat.le_refl _)⟩,HT3.o.drew.setCells (.inr (by rw [HP.o]; exact Nat.le_refl _)) _ _⟩;rw [HXL.o];refine wV hr4 ?_ HFIN.o HGG.o.1 HGG.o.2 HBB.o;rw [zf0,zf0,HDL.o,zfZ,zf8,HLL1.o];have h1:=HRG.o.2.2.1;clear e1 e2 e3 e4 e5 e6 e7 e8 e9 e10 e13 e14 e16 e17 e20 eQ eQ2 eT eS hGi hGq;omega
theorem zeC {w:World} {b:Nat} {A:Option Addr} {n c:Nat} {xs vs lv:List Value} (h:w.ownsRow b 3 1 (.slice A n c) n xs) (hn0:0 < n) (h1:∀ v ∈ xs,v.oneCell' = true) {i j:Nat} (hij:i <= j) (hjn:j <= n) {vb voff m vc:Nat} {eV:TypeId} (hm:0 < m) (hvl:vs.length = m)
  (hr:yf w vb eV lv) (hv:∀ j v,vs[j]? = some v -> lv[voff + j]? = some v) (hv1:∀ v ∈ vs,v.oneCell' = true) (hne:∀ a,A = some a -> a.block ≠ vb) (hs:n + m <= 1000) (hb:b <= w.1.size) :
  Calls Tryz.prog 142 #[.slice A n c,.int .i64 (i:Int),.int .i64 (j:Int),.slice (some ⟨vb,voff,none⟩) m vc] w (xe w b 3 A (xs.take i ++ vs ++ xs.drop j)):=by
 by_cases h2:i = j
 ·subst h2;exact zff h hn0 h1 hjn hm hvl hr hv hv1 hne hs hb
 by_cases h3:j = n
 ·subst h3;exact zfd h (by omega) hm hvl hr hv hv1 hs hb
 by_cases h4:i + m <= j
 ·exact zfe h h1 (by omega) (by omega) hm h4 hvl hr hv hv1 hs
 by_cases h5:i + m + (n - j) <= c
 ·exact zeB h h1 (by omega) (by omega) (by omega) hvl hr hv hv1 hne hs h5
 ·exact zeA h h1 (by omega) (by omega) hvl hr hv hv1 hs hb (by omega)
theorem ze3 {w:World} {g n c i:Nat} (hi:i <= n) (_hnc:n <= c):Calls Tryz.prog 143 #[.slice (some ⟨g,0,none⟩) n c,.int .i64 (i:Int),.slice none 0 0] w fun e w'=>e = .returned (.slice (some ⟨g,0,none⟩) n c) /\ w = w':=by
 have e1:(i:Int) <= (n:Int):=by omega
 have e2:(0:Int) <= (i:Int):=by omega
 clear hi _hnc;by_cases hci:c = i
 case' pos=>subst hci
 all_goals
  go_enter Tryz.func143,Tryz.ntmps143
  go_wp2_with fail
  go_ret
  exact ⟨rfl,rfl⟩
theorem zfg {w:World} {g n c i:Nat} (hi:i <= n) (hnc:n <= c):Calls Tryz.prog 142 #[.slice (some ⟨g,0,none⟩) n c,.int .i64 (i:Int),.int .i64 (i:Int),.slice none 0 0] w fun e w'=>e = .returned (.slice (some ⟨g,0,none⟩) n c) /\ w = w':=by
 have HIN:=Hi (ze3 (w:=w) (g:=g) hi hnc);have e1:(i:Int) <= (c:Int):=by omega
 have e2:(0:Int) <= (i:Int):=by omega
 clear hi hnc;by_cases hci:c = i
 case' pos=>subst hci
 all_goals
  go_enter Tryz.func142,Tryz.ntmps142
  go_wp2_with fail;refine HIN.o.mono ?_;rintro e w' ⟨rfl,rfl⟩;go_wp2_with fail
  go_ret
  exact ⟨rfl,rfl⟩
end
section
open Go.RowKit
theorem zbs {α:Type} {l:List α} {i j n:Nat} (hij:i <= j) (hj:j <= n) (hn:n <= l.length) :
  (l.take i ++ (l.take n).drop j ++ l.drop (i + ((l.take n).drop j).length)).take (i + (n - j)) = (l.take n).take i ++ (l.take n).drop j:=by
 apply List.ext_getElem?;intro k;simp only [zg1,zf0,zfZ,zf8,zgZ,zg3]
 grind
theorem Qn {i j n c T:Nat} (hij:i < j) (hjn:j < n) (hnc:n <= c) (hT:T = i + (n - j)) :
  ((i:Int) <= (j:Int) /\ (j:Int) <= (n:Int) /\ (n:Int) <= (c:Int) /\ (0:Int) <= (i:Int) /\ ¬ (i:Int) = (j:Int) /\ ¬ (j:Int) = (n:Int) /\ ¬ c = i /\ ¬ c = j /\ (j:Int) <= (c:Int) /\ (i:Int) <= (c:Int)) /\
  (¬ (c:Int) < (T:Int) /\ (T:Int) <= (c:Int) /\ (0:Int) <= (T:Int) /\ (i:Int) <= (T:Int) /\ (i:Int) <= (j:Int) /\ (i:Int) <= (T:Int) /\ (0:Int) <= (i:Int) /\ ¬ c = i /\ (T:Int) <= (n:Int)):=by omega
theorem JO {i j n T:Nat} (hs:n <= 1000) (_hij:i < j) (_hjn:j < n) (hT:T = i + (n - j)):wrap64 (i:Int) = (i:Int) /\ IntKind.i64.wrap (i:Int) = (i:Int) /\ wrap64 ((i:Int) + ((n - j:Nat):Int)) = (T:Int):=by
 have e:(i:Int) + ((n - j:Nat):Int) = (T:Int):=by rw [hT]; simp only [Int.natCast_add]
 rw [e];refine ⟨Zs (zg8 i) (by omega),VT (zg8 i) (by omega),Zs (zg8 T) (by omega)⟩
theorem zcH {i j n c T:Nat} (hij:i < j) (hjn:j < n) (hnc:n <= c) (hT:T = i + (n - j)) :
  True /\ n - j = Nat.min (n - j) (T - i) /\ i <= c /\ i + (n - j) <= c /\ T <= c /\ T + (n - T) <= c /\ T = i + (n - j) /\ i <= j /\ T <= n /\ j + (n - j) <= c:=by
 have h2:n - j <= T - i:=by omega
 refine ⟨trivial,(zg6 h2).symm,by omega,by omega,by omega,by omega,by omega,by omega,by omega,by omega⟩
theorem zey {w:World} {b:Nat} {A:Option Addr} {n c:Nat} {xs:List Value} (h:w.ownsRow b 3 1 (.slice A n c) n xs) {i:Nat} (hi:i < n) :
  Calls Tryz.prog 142 #[.slice A n c,.int .i64 (i:Int),.int .i64 (n:Int),.slice none 0 0] w (xe w b 3 A (xs.take i ++ xs.drop n)):=by
 obtain ⟨ii,hi0,hi1,hi2,hi3⟩:=info_parts Tryz.infoInt9;have hxl:xs.length = n:=by have:=h.1; omega
 have hdn:xs.drop n = []:=List.drop_of_length_le (by omega);rw [hdn,zgx];obtain ⟨X,HX⟩:=hY (xs.take i);have HXL:=hI (X.length = i) (by rw [HX.o]; simp; omega);obtain ⟨g,rfl,hnc,hcm,hbg,hgw⟩:=yu h (by omega);have HOW:=Hi (Jp h (i:=i) (by omega));rw [<- HX.o] at HOW ⊢;have HNN:=Hi (And.intro hnc hcm);have HBG:=Hi hbg;have hi1':(i:Int) <= (c:Int):=by omega
 have hi2':(0:Int) <= (i:Int):=by omega
 have hi3':(i:Int) <= (n:Int):=by omega
 have hi4':(n:Int) <= (c:Int):=by omega
 have hci:¬ c = i:=by omega
 have hin:¬ (i:Int) = (n:Int):=by omega
 have hsh1:(i:Int) < (n:Int):=by omega
 have HII:=Hi hi;have HI0:=Hi hi0;obtain ⟨l,hrow,hll,hlt,_,_,_⟩:=wC HOW.o;have HRR:=Hi hrow;have HLL:=Hi hll;have HLT:=Hi hlt;have HCL:=Hi (Lib.run_clear_slice w 45 3 0 (.int .i64 0) Tryz.underlying45 Tryz.zeroInt9 rfl rfl g i (n - i) (c - i) (by omega) (fun j hj=>by rw [hrow.cell,zfM (by omega)]; rfl) (fun j _=>hrow.frozen _));clear h hi hnc hcm hbg hgw hi0 hi1 hi2 hi3 hxl hdn hrow hll hlt
 go_enter Tryz.func142,Tryz.ntmps142
 go_wp2_with (with_reducible refine xD9 (some 34) ?_);refine wpList_append_own_none (P:=Tryz.prog) rfl _ _ 45 rfl b 3 ii 1 Tryz.underlying45 HI0.o (.slice (some ⟨g,0,none⟩) i c) i X rfl HOW.o rfl ?_;go_wp2_with (with_reducible refine xD9 (none) ?_);refine xm (P:=Tryz.prog) rfl _ 45 rfl (.slice (some ⟨g,i,none⟩) (n - i) (c - i)) rfl HCL.o ?_;go_wp2_with fail
 go_ret
 have hr2:=HRR.o.setCells i (zfY (n - i) (.int .i64 0)) (by rw [zg9,HLL.o]; have:=HNN.o.1; have:=HII.o; omega);refine ⟨⟨_,c,by rw [HXL.o]; rfl,?_,fun a ha=>.inl ha⟩,(zw.refl _ _).setCells (.inl ⟨_,rfl,rfl⟩) _ _⟩;rw [HXL.o];refine wV hr2 ?_ ?_ (by have:=HNN.o.1; have:=HII.o; omega) HNN.o.2 HBG.o
 ·simp [HLL.o]; have:=HNN.o.1; have:=HII.o; omega
 ·rw [zgh,zha (by rw [zfZ,HLL.o]; have:=HNN.o.1; have:=HII.o; omega)];exact HLT.o
theorem zez {w:World} {b:Nat} {A:Option Addr} {n c:Nat} {xs:List Value} (h:w.ownsRow b 3 1 (.slice A n c) n xs) (h1:∀ v ∈ xs,v.oneCell' = true) {i j:Nat} (hij:i < j) (hjn:j < n) (hs:n <= 1000) :
  Calls Tryz.prog 142 #[.slice A n c,.int .i64 (i:Int),.int .i64 (j:Int),.slice none 0 0] w (xe w b 3 A (xs.take i ++ xs.drop j)):=by
 obtain ⟨ii,hi0,hi1,hi2,hi3⟩:=info_parts Tryz.infoInt9;have HSZ:=hI ((Tryz.prog.info? 3).map (·.size) = some 1) (by rw [hi0]; simp [hi2]);have hxl:xs.length = n:=by have:=h.1; omega
 obtain ⟨X,HX⟩:=hY (xs.take i ++ xs.drop j);obtain ⟨T,HT⟩:=hY (i + (n - j));have HXL:=hI (X.length = T) (by rw [HX.o,HT.o]; simp; omega);obtain ⟨g,rfl,hnc,hcm,hbg,hgw⟩:=yu h (by omega);obtain ⟨l,hrow,hll,hlt,_,_,_⟩:=wC h;have HRO:=Hi hrow;have HLL:=Hi hll;have HDL:=hI ((xs.drop j).length = n - j) (by rw [zf8,hxl]);have HNN:=Hi (zcH hij hjn hnc HT.o);have HXD:=hI (∀ v ∈ xs.drop j,v.oneCell' = true) fun v hv=>h1 v (zgv hv)
 have HSRC:=hI (∀ k v,(xs.drop j)[k]? = some v -> l[j + k]? = some v) fun k v hk=>by
  rw [<- hlt,zg3,zgZ] at hk;split at hk
  ·exact hk
  ·cases hk
 have HMID:=hI ((l.take i ++ xs.drop j ++ l.drop (i + (xs.drop j).length)).take T = X) (by
  rw [HX.o,HT.o,<- hlt];exact zbs (by omega) (by omega) (by omega))
 have HEND:=hI (c <= maxLen /\ b <= g /\ T <= c) ⟨hcm,hbg,HNN.o.2.2.2.2.1⟩;have HFF:=Hi (Qn hij hjn hnc HT.o);have HWF:=Hi (JO hs hij hjn HT.o);rw [<- HX.o]
 rename_i k1 k2 k3
 clear h h1 hnc hcm hs hi0 hi1 hi2 hi3 hxl hij hjn hrow hll hlt hbg hgw k1 k2 k3;obtain ⟨⟨e1,e2,e3,e4,e5,e6,e7,e8,e9,e10⟩,e11,e12,e13,e14,e15,e16,e17,e18,e19⟩:=HFF.o;obtain ⟨eQ,eQ2,eT⟩:=HWF.o
 go_enter Tryz.func142,Tryz.ntmps142
 go_upto_region 9 with (fail)
 go_region
 go_wp2_with (with_reducible refine xD9 (some 97) ?_);obtain ⟨w1,HW1⟩:=hY (w.drew);rw [<- HW1.o];have HR1:=hI (yf w1 g 3 l) (by rw [HW1.o]; exact HRO.o.drew);have HT1:=hI (zw (fun k=>∃ a,some (⟨g,0,none⟩:Addr) = some a /\ a.block = k) w w1) (by rw [HW1.o]; exact (zw.refl _ _).drew);have HC1:=Hi fun ty=>run_copy_nil (P:=Tryz.prog) w1 45 45 ty 3 ⟨g,i,none⟩ (T - i) (c - i) Tryz.underlying45 (by rw [HSZ.o]; rfl)
 refine wpList_copy_runI (P:=Tryz.prog) _ rfl _ _ 45 45 rfl (.slice (some ⟨g,i,none⟩) (T - i) (c - i)) (.slice none 0 0) rfl rfl (HC1.o _) ?_;clear HC1 HW1;have HC2:=Hi (run_copy_cells (P:=Tryz.prog) w1.drew 45 45 3 3 g i (T - i) (c - i) ⟨g,j,none⟩ (n - j) (c - j) (xs.drop j) Tryz.underlying45 HSZ.o (by rw [HDL.o]; exact HNN.o.2.1)
   (fun k v hk=>by rw [Addr.add_mid,HR1.o.drew.cell]; exact HSRC.o k v hk) (fun k hk=>by rw [HR1.o.drew.cell,zfM (by rw [HLL.o]; rw [HDL.o] at hk; exact zfG (zg7 hk i) HNN.o.2.2.2.1)]; rfl) (fun k _=>HR1.o.drew.frozen _) HXD.o)
 go_upto_region 18 with (fail)
 refine wp_region_held (S:=fun _=>True) (by kernel_rfl) ?_;change wpAnyH _ _ _ _ _ _ _ _ w1.drew;refine xA9 0 98 (.slice (some ⟨g,0,none⟩) T c) trivial ?_;refine xA9 1 99 (.int .i64 (i:Int)) trivial ?_;refine xA9 2 100 (.slice none 0 0) trivial ?_;refine xA9 3 101 (.int .i64 0) trivial ?_;refine xA9 4 102 (.int .i64 (i:Int)) trivial ?_;refine xA9 5 103 (.slice (some ⟨g,i,none⟩) (T - i) (c - i)) trivial ?_;refine xA9 6 104 (.slice (some ⟨g,0,none⟩) n c) trivial ?_;refine xA9 7 105 (.int .i64 (j:Int)) trivial ?_;refine xA9 8 106 (.slice (some ⟨g,j,none⟩) (n - j) (c - j)) trivial ?_;refine xJ9 9 (some 107) (fun K hK=>?_);refine step_copy_runI rfl _ _ 45 45 rfl (.slice (some ⟨g,i,none⟩) (T - i) (c - i)) (.slice (some ⟨g,j,none⟩) (n - j) (c - j)) rfl rfl HC2.o ?_;refine hK.out _ _ trivial ?_;clear hK K;refine wpAnyH_done (by kernel_rfl) ?_ _;obtain ⟨w3,HW3⟩:=hY (w1.drew.setCells g i (xs.drop j));rw [<- HW3.o];obtain ⟨l2,HL2⟩:=hY (l.take i ++ xs.drop j ++ l.drop (i + (xs.drop j).length));have HR3:=hI (yf w3 g 3 l2) (by rw [HW3.o,HL2.o]; exact HR1.o.drew.setCells i (xs.drop j) (by rw [HDL.o,HLL.o]; exact HNN.o.2.2.2.1));have HT3:=hI (zw (fun k=>∃ a,some (⟨g,0,none⟩:Addr) = some a /\ a.block = k) w w3) (by rw [HW3.o]; exact HT1.o.drew.setCells (.inl ⟨_,rfl,rfl⟩) _ _);have HLL2:=hI (l2.length = c) (by
  have h1:=HNN.o.2.2.2.1;rw [HL2.o,zf0,zf0,HDL.o,zfZ,zf8,HLL.o];clear e1 e2 e3 e4 e5 e6 e7 e8 e9 e10 e11 e12 e13 e14 e15 e16 e17 e18 e19 eQ eQ2 eT;omega)
 rw [<- HL2.o] at HMID;have HFIN:=hI (∀ w' l',yf w' g 3 l' -> l'.length = c -> l'.take T = X -> zw (fun k=>∃ a,some (⟨g,0,none⟩:Addr) = some a /\ a.block = k) w w' -> xe w b 3 (some ⟨g,0,none⟩) X (.returned (.slice (some ⟨g,0,none⟩) T c)) w') (fun w' l' h1 h2 h3 h4=>by
  refine ⟨⟨_,c,by rw [HXL.o],?_,fun a ha=>.inl ha⟩,h4⟩;rw [HXL.o];exact wV h1 h2 h3 HEND.o.2.2 HEND.o.1 HEND.o.2.1)
 clear HC2 HW3 HR1 HT1 HL2;by_cases hTn:T = n
 ·have hTc:n - T = 0:=by rw [hTn]; exact Nat.sub_self n
  have HCL:=Hi fun A d=>Zm (P:=Tryz.prog) w3 45 3 0 Tryz.underlying45 A d
  clear hTn;by_cases hcT:c = T
  case' pos=>subst hcT
  all_goals
   go_wp2_with (with_reducible refine xD9 (none) ?_);refine xm (P:=Tryz.prog) rfl _ 45 rfl (.slice _ 0 _) rfl (HCL.o _ _) ?_;go_wp2_with fail
   go_ret
   exact HFIN.o _ _ HR3.o HLL2.o HMID.o HT3.o
 ·have hcT:¬ c = T:=by
   have h1:=HNN.o.2.2.2.2.2.2.2.2.1;have h3:=e3;clear e1 e2 e4 e5 e6 e7 e8 e9 e10 e11 e12 e13 e14 e15 e16 e17 e18 e19 eQ eQ2 eT;omega
  have HLT:=hI (0 < n - T /\ T + (n - T) <= c) ⟨by
   have h1:=HNN.o.2.2.2.2.2.2.2.2.1;clear e1 e2 e3 e4 e5 e6 e7 e8 e9 e10 e11 e12 e13 e14 e15 e16 e17 e18 e19 eQ eQ2 eT hcT;omega,HNN.o.2.2.2.2.2.1⟩
  have HCL:=Hi (Lib.run_clear_slice w3 45 3 0 (.int .i64 0) Tryz.underlying45 Tryz.zeroInt9 rfl rfl g T (n - T) (c - T) HLT.o.1 (fun k hk=>by rw [HR3.o.cell,zfM (by rw [HLL2.o]; exact zfG (zg7 hk T) HLT.o.2)]; rfl) (fun k _=>HR3.o.frozen _));clear hTn;go_wp2_with (with_reducible refine xD9 (none) ?_);refine xm (P:=Tryz.prog) rfl _ 45 rfl (.slice (some ⟨g,T,none⟩) (n - T) (c - T)) rfl HCL.o ?_;go_wp2_with fail
  go_ret
  have hr2:=HR3.o.setCells T (zfY (n - T) (.int .i64 0)) (by rw [zg9,HLL2.o]; exact HLT.o.2);refine HFIN.o _ _ hr2 ?_ ?_ (HT3.o.setCells (.inl ⟨_,rfl,rfl⟩) _ _)
  ·rw [zf0,zf0,zg9,zfZ,zf8,HLL2.o];have h1:=HLT.o;clear e1 e2 e3 e4 e5 e6 e7 e8 e9 e10 e11 e12 e13 e14 e15 e16 e17 e18 e19 eQ eQ2 eT hcT;omega
  ·rw [zgh,zha (by rw [zfZ,HLL2.o]; exact zg6 HEND.o.2.2)];exact HMID.o
theorem zdr {w:World} {b:Nat} {A:Option Addr} {c:Nat} {xs:List Int} (h:w.ownsRow b 3 1 (.slice A xs.length c) xs.length (xs.map (Value.int .i64))) {i j:Nat} (hij:i < j) (hj:j <= xs.length) (hs:xs.length <= 1000) :
  Calls Tryz.prog 142 #[.slice A xs.length c,.int .i64 (i:Int),.int .i64 (j:Int),.slice none 0 0] w fun e w'=>∃ A' c',e = .returned (.slice A' (xs.take i ++ xs.drop j).length c') /\
   w'.ownsRow b 3 1 (.slice A' (xs.take i ++ xs.drop j).length c') (xs.take i ++ xs.drop j).length ((xs.take i ++ xs.drop j).map (Value.int .i64)) /\ (∀ a,A' = some a -> A = some a \/ w.1.size <= a.block) /\ zw (fun k=>∃ a,A = some a /\ a.block = k) w w':=by
 have he:(xs.map (Value.int .i64)).take i ++ (xs.map (Value.int .i64)).drop j = (xs.take i ++ xs.drop j).map (Value.int .i64):=by simp [List.map_take,List.map_drop]
 have hk:Calls Tryz.prog 142 #[.slice A xs.length c,.int .i64 (i:Int),.int .i64 (j:Int),.slice none 0 0] w (xe w b 3 A ((xs.map (Value.int .i64)).take i ++ (xs.map (Value.int .i64)).drop j)):=by
  by_cases e:j = xs.length
  ·subst e;exact zey h hij
  ·exact zez h (by intro v hv; obtain ⟨y,_,rfl⟩:=List.mem_map.1 hv; rfl) hij (by omega) hs
 refine hk.mono ?_;rw [he];rintro e w' ⟨⟨A',c',rfl,h5,h6⟩,h7⟩;rw [List.length_map] at h5 ⊢;exact ⟨A',c',rfl,h5,h6,h7⟩
end
section
open Go.RowKit
structure zam (w:World) (A:Option Addr) (B:Option Addr) (bc:Nat) (ys:List Int):Prop where
 no:ys = [] -> B = none /\ bc = 0
 yes:ys ≠ [] -> ∃ vb voff eV lv,B = some ⟨vb,voff,none⟩ /\ yf w vb eV lv /\ (∀ (k:Nat) (v:Value),(ys.map (Value.int .i64))[k]? = some v -> lv[voff + k]? = some v) /\ ∀ a,A = some a -> a.block ≠ vb
theorem Jw {w:World} {b:Nat} {A:Option Addr} {c:Nat} {xs:List Int} (h:w.ownsRow b 3 1 (.slice A xs.length c) xs.length (xs.map (Value.int .i64))) (hn0:0 < xs.length) {i j:Nat} (hij:i <= j) (hj:j <= xs.length) {B:Option Addr} {bc:Nat} {ys:List Int} (hr:zam w A B bc ys) (hs:xs.length + ys.length <= 1000) (hb:b <= w.1.size) :
  Calls Tryz.prog 142 #[.slice A xs.length c,.int .i64 (i:Int),.int .i64 (j:Int),.slice B ys.length bc] w fun e w'=>∃ A' c',e = .returned (.slice A' (xs.take i ++ ys ++ xs.drop j).length c') /\
   w'.ownsRow b 3 1 (.slice A' (xs.take i ++ ys ++ xs.drop j).length c') (xs.take i ++ ys ++ xs.drop j).length ((xs.take i ++ ys ++ xs.drop j).map (Value.int .i64)) /\ (∀ a,A' = some a -> A = some a \/ w.1.size <= a.block) /\ zw (fun k=>∃ a,A = some a /\ a.block = k) w w':=by
 by_cases hy:ys = []
 ·obtain ⟨rfl,rfl⟩:=hr.no hy;subst hy;by_cases hne:i ≠ j
  ·refine (zdr h (by omega) hj (by simpa using hs)).mono ?_;rw [zgx];exact fun e w' h=>h
  obtain rfl:i = j:=Classical.not_not.1 hne;clear hne;obtain ⟨g,rfl,h1,h2,h3,h4⟩:=yu h hn0;refine (zfg (w:=w) (g:=g) hj h1).mono ?_;rintro e w' ⟨rfl,rfl⟩;rw [zgx,List.take_append_drop];exact ⟨_,_,rfl,h,fun a ha=>.inl ha,⟨rfl,rfl,rfl,Nat.le_refl _,fun _ _=>rfl⟩⟩
 ·obtain ⟨vb,voff,eV,lv,rfl,h2,h3,h4⟩:=hr.yes hy;have he:(xs.map (Value.int .i64)).take i ++ ys.map (Value.int .i64) ++ (xs.map (Value.int .i64)).drop j = (xs.take i ++ ys ++ xs.drop j).map (Value.int .i64):=by simp [List.map_take,List.map_drop]
  refine (zeC (vs:=ys.map (Value.int .i64)) h hn0 (by intro v hv; obtain ⟨y,_,rfl⟩:=List.mem_map.1 hv; rfl) hij hj (List.length_pos_iff.2 hy) (List.length_map _) h2 h3 (by intro v hv; obtain ⟨y,_,rfl⟩:=List.mem_map.1 hv; rfl) h4 hs hb).mono ?_;rw [he];rintro e w' ⟨⟨A',c',rfl,h5,h6⟩,h7⟩;rw [List.length_map] at h5 ⊢;exact ⟨A',c',rfl,h5,h6,h7⟩
theorem Jr {w:World} {b:Nat} {e:TypeId} {A:Option Addr} {n c:Nat} {xs:List Value} (h:w.ownsRow b e 1 (.slice A n c) n xs) (hn:0 < n):∃ g lv,A = some ⟨g,0,none⟩ /\ yf w g e lv /\ lv.take xs.length = xs:=by
 rcases h.2 with ⟨_,h2⟩ | ⟨g,cap,cur,e1,e2,e3,e4,e5,e6⟩
 ·omega
 ·simp only [Value.slice.injEq] at e1;obtain ⟨rfl,_,rfl⟩:=e1;have hl:xs.length = n * 1:=by
   rw [<- e6.2,zfZ,zf7,e6.1];omega
  exact ⟨g,cur.toList,rfl,e3,by rw [hl]; exact e6.2⟩
end
