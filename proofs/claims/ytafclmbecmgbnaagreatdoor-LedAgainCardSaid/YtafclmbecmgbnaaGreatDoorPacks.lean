/-
  Packs. Conditions: as said.
-/
import Derived.Test.YtafclmbecmgbnaaGreatDoorSm
import Derived.Test.YtafclmbecmgbnaaGreatDoorMaths
import Derived.Laws.BitsAllLaws
import Derived.IntWalk
import Derived.Deep.Cut
import Derived.Deep.QuietTactic
import Derived.OwnWalk
import Derived.Laws.BytesArg
import Derived.Laws.OwnMore
import Derived.Laws.IdiomStrings
import Derived.Deep.AppendLies
import Derived.Test.YtafclmbecmgbnaaGreatDoorTagNum
set_option maxRecDepth 100000
set_option maxHeartbeats 2000000
open Nat renaming le_refl -> ze3,zero_le -> zfp
open List renaming length_append -> zfk,take_of_length_le -> zfG,getElem?_eq_getElem -> ze7
open Array renaming length_toList -> zfq
namespace Go.Proofs.YtafclmbecmgbnaaGreatDoor
section
open Go.RowKit Crc
def val (r:BitVec 32):Int:=(r.toNat:Int)
theorem VY (r:BitVec 32):0 <= val r:=Int.natCast_nonneg _
theorem VX (r:BitVec 32):val r < 4294967296:=by unfold val; have:=r.isLt; omega
theorem VZ (a b:BitVec 32):bits .xor .u32 (val a) (val b) = val (a ^^^ b):=by
 unfold val;rw [u32_xor_nat _ _ a.isLt b.isLt,BitVec.toNat_xor]
theorem zcW (a:BitVec 32):val a / (16:Int) = val (a >>> 4):=by
 unfold val;rw [BitVec.toNat_ushiftRight,Nat.shiftRight_eq_div_pow];omega
def zM (w:World):Prop:=1 < w.1.size /\ ∀ k,k < 16 -> w.cell? ⟨1,k,none⟩ = some (.int .u32 (val (tab k)))
theorem zM.cell {w:World} (h:zM w) (k:Nat) (hk:k < 16):w.cell? ⟨1,k,none⟩ = some (.int .u32 (val (tab k))):=h.2 k hk
theorem zM.carry {w w':World} (h:zM w) (hb:Below w.1.size w w'):zM w' :=
 ⟨Nat.lt_of_lt_of_le h.1 hb.size,fun k hk=>by rw [hb.cell (p:=⟨1,k,none⟩) h.1]; exact h.2 k hk⟩
theorem Ja (x:BitVec 32):bits .xor .u32 (val x) 4294967295 = val (x ^^^ ones):=VZ x ones
theorem zcX (x:BitVec 32) (c:UInt8):bits .xor .u32 (val x) (c.toNat:Int) = val (x ^^^ wide c):=by
 have e:(c.toNat:Int) = val (wide c):=by
  unfold val wide;have:c.toNat < 256:=c.toNat_lt;rw [BitVec.toNat_ofNat,Nat.mod_eq_of_lt (by omega)]
 rw [e,VZ]
theorem zbc (x:BitVec 32) (c:UInt8):bits .xor .u32 (val x) ((c.toNat:Int) % 4294967296) = val (x ^^^ wide c):=by
 have:c.toNat < 256:=c.toNat_lt;rw [Int.emod_eq_of_lt (by omega) (by omega),zcX]
theorem Ve (a:BitVec 32):bits .and .u32 (val a) 15 = ((a.toNat % 16:Nat):Int):=by
 unfold val;have:=u32_and_nat a.toNat 15 a.isLt (by omega);rw [show ((15:Nat):Int) = 15 from rfl] at this;rw [this];have:a.toNat &&& 15 = a.toNat % 16:=Nat.and_two_pow_sub_one_eq_mod _ 4;rw [this]
theorem QW (a:BitVec 32):bits .xor .u32 (val a / 16) (val (tab (a.toNat % 16))) = val (hn 4 a):=by
 rw [zcW,VZ,zew]
theorem za9 (s:ByteArray) (k:Nat) (h:k < s.size):s.data.toList.take (k + 1) = s.data.toList.take k ++ [s[k]]:=by
 rw [List.take_succ_eq_append_getElem (by simpa using h)]; rfl
theorem J4 (s:ByteArray):s.data.toList.length = s.size:=by rw [zfq]; rfl
theorem zco (x:BitVec 32) (s:ByteArray) (w:World) (hs:s.size <= maxLen) (hg:zM w) :
  Calls Tryz.prog 126 #[.int .u32 (val x),.string s] w fun e w'=>e = .returned (.int .u32 (val (more x s.data.toList))) /\ w = w':=by
 unfold maxLen at hs;have HG:=Hi hg;clear hg;have hx0:=VY x;have hx1:=VX x
 go_enter Tryz.func126,Tryz.ntmps126
 go_wp2
 go_loop [5,11] (fun r i=>∃ k:Nat,k <= s.size /\ i = .int .i64 k /\ r = .int .u32 (val (reg (x ^^^ ones) (s.data.toList.take k)))) (fun _ i=>s.size - (intOf i).toNat)
 case atStart=>exact ⟨0,zfp _,rfl,by rw [Ja]; rfl⟩
 case round =>
  obtain ⟨k,hk,rfl,rfl⟩:=hrel;by_cases hlt:k < s.size
  ·have HT:Hid (reg (x ^^^ ones) (s.data.toList.take (k + 1)) = hn 4 (hn 4 (reg (x ^^^ ones) (s.data.toList.take k) ^^^ wide s[k]))) :=
    Hi (by rw [za9 s k hlt,Qh,<- hn_add]; rfl)
   generalize reg (x ^^^ ones) (s.data.toList.take k) = R at HT ⊢;have b0:=VY R;have b1:=VX R;have e1:=zbc R s[k];generalize hR1:R ^^^ wide s[k] = R1 at e1 HT;have E1:=Hi e1;clear hR1 e1;go_upto_region 6 with (fail)
   rw [E1.out];clear E1;have b2:=VY R1;have b3:=VX R1;have e3:=Ve R1;have e4:=QW R1;have c1:=HG.o.cell (R1.toNat % 16) (Nat.mod_lt _ (by omega));have m1:R1.toNat % 16 < 16:=Nat.mod_lt _ (by omega);generalize hm1:R1.toNat % 16 = n1 at e3 e4 c1 m1;generalize hR2:hn 4 R1 = R2 at e4 HT;have E4:=Hi e4;clear hm1 hR2 e4;go_upto_region 7 with (fail)
   rw [E4.out];clear E4 e3 c1;have b4:=VY R2;have b5:=VX R2;have e6:=Ve R2;have e7:=QW R2;have c2:=HG.o.cell (R2.toNat % 16) (Nat.mod_lt _ (by omega));have m2:R2.toNat % 16 < 16:=Nat.mod_lt _ (by omega);generalize hm2:R2.toNat % 16 = n2 at e6 e7 c2 m2;have E7:=Hi e7;clear hm2 e7
   go_wp2
   go_round
   case rel=>exact ⟨k + 1,by omega,by go_num,by rw [HT.o,E7.out]⟩
   case measure=>simp [intOf]; omega
  ·go_wp2
   go_ret
   refine ⟨?_,rfl⟩;rw [zfG (by rw [J4]; omega),Ja];rfl
def sum (s:ByteArray):BitVec 32:=more 0#32 s.data.toList
theorem zaJ (s:ByteArray) (w:World) (hs:s.size <= maxLen) (hg:zM w) :
  Calls Tryz.prog 126 #[.int .u32 0,.string s] w fun e w'=>e = .returned (.int .u32 (val (sum s))) /\ w = w':=by
 have h:=zco 0#32 s w hs hg;rw [show val 0#32 = 0 from rfl] at h;exact h
theorem zd4 (s:ByteArray) (w:World) (hs:s.size <= maxLen) (hg:zM w) :
  Calls Tryz.prog 91 #[.string s] w fun e w'=>e = .returned (.int .u32 (val (sum s))) /\ w = w':=by
 have HG:=Hi hg;clear hg
 go_enter Tryz.func91,Tryz.ntmps91
 go_wp2_with fail;refine (zaJ s w hs HG.o).mono ?_;rintro e w' ⟨rfl,rfl⟩;go_wp2_with fail
 go_ret
 exact ⟨rfl,rfl⟩
end
section
open Go.RowKit
def Row (w:World) (B:Nat) (xs:List UInt8):Prop:=∀ i (h:i < xs.length),w.cell? ⟨B,i,none⟩ = some (.int .u8 (xs[i].toNat:Int)) /\ w.frozen? ⟨B,i,none⟩ = false
theorem Row.store {w:World} {B:Nat} {xs:List UInt8} (h:Row w B xs) (j:Nat) (c:UInt8):Row (w.setCell ⟨B,j,none⟩ (.int .u8 (c.toNat:Int))) B (xs.set j c):=by
 intro i hi;simp only [List.length_set] at hi;refine ⟨?_,by rw [World.frozen?_setCell]; exact (h i hi).2⟩;by_cases e:j = i
 ·subst e;rw [World.cell?_setCell_same _ _ _ (h j hi).1];simp
 ·rw [World.cell?_setCell_other w ⟨B,j,none⟩ ⟨B,i,none⟩ _ (fun h=>e (Addr.mk.inj h).2.1),(h i hi).1,List.getElem_set_ne e]
theorem Row.text {w:World} {B:Nat} {xs:List UInt8} (h:Row w B xs) (cap n:Nat) (hn:xs.length = n):(convert 75 9 (.slice (some ⟨B,0,none⟩) n cap)).run Tryz.prog w = .ok (.string ⟨xs.toArray⟩) w:=by
 have e:=run_convert_bytes_arg (P:=Tryz.prog) w 75 5 Tryz.underlying75 Tryz.underlying5 B 0 n cap (xs.map fun c=>(c.toNat:Int)) (by simp [hn])
  (fun i hi=>by
   have hi':i < xs.length:=by omega
   rw [Nat.zero_add,(h i hi').1];simp [List.getD,hi']) 9 Tryz.underlying9
 rw [e];have e2:(strOfNums (xs.map fun c=>(c.toNat:Int))) = ⟨xs.toArray⟩:=by
  unfold strOfNums;rw [List.map_map];have:(xs.map ((fun n:Int=>UInt8.ofNat n.toNat) ∘ fun c:UInt8=>(c.toNat:Int))) = xs:=by
   rw [List.map_congr_left (g:=id) (fun c _=>by simp),List.map_id]
  rw [this]
 rw [e2]
end
section
open Go.RowKit
def zau (k:Nat) (n:Int):Bool:=decide (0 <= n /\ n < 256 ^ k)
theorem WZ {k:Nat} {n:Int}:zau k n = true ↔ 0 <= n /\ n < 256 ^ k:=by simp [zau]
theorem Qp {k:Nat} (n:Int):(n / 2 ^ (8 * k) == 0) = zau k n:=by
 have e2:(2:Int) ^ (8 * k) = 256 ^ k:=by rw [Int.pow_mul]; rfl
 have hp:(0:Int) < 256 ^ k:=Int.pow_pos (by decide);rw [e2,Bool.eq_iff_iff,WZ,beq_iff_eq];constructor
 ·intro h;have h1:=Int.mul_ediv_add_emod n (256 ^ k);have h2:=Int.emod_nonneg n (Int.ne_of_gt hp);have h3:=Int.emod_lt_of_pos n hp;rw [h,Int.mul_zero] at h1;omega
 ·rintro ⟨h0,h1⟩;exact Int.ediv_eq_zero_of_lt h0 h1
theorem ym {a b:Bool} (h:a = b):Ending.returned (.bool a) = .returned (.bool b):=by rw [h]
theorem VS {k:IntKind} {a b:Int} (h:a = b):Ending.returned (.int k a) = .returned (.int k b):=by rw [h]
theorem qC (k:Nat) (w:World) (h1:1 <= k) (h4:k <= 4):Calls Tryz.prog 112 #[.int .i64 k] w fun e w'=>e = .returned (.bool true) /\ w = w':=by
 go_enter Tryz.func112,Tryz.ntmps112
 go_wp2
 go_ret
 exact ⟨ym (by simp; omega),rfl⟩
theorem JW (n:Int) (w:World) (h:n < 1 \/ 4 < n):Calls Tryz.prog 112 #[.int .i64 n] w fun e w'=>e = .returned (.bool false) /\ w = w':=by
 rcases h with h | h
 ·go_enter Tryz.func112,Tryz.ntmps112
  go_wp2
  go_ret
  exact ⟨rfl,rfl⟩
 ·go_enter Tryz.func112,Tryz.ntmps112
  go_wp2
  go_ret
  exact ⟨ym (by simp; omega),rfl⟩
theorem zbY (k:Nat) (n:Int) (w:World) (h4:k <= 4):Calls Tryz.prog 113 #[.int .i64 k,.int .i64 n] w fun e w'=>e = .returned (.bool (zau k n)) /\ w = w':=by
 go_enter Tryz.func113,Tryz.ntmps113
 go_wp2
 go_ret
 exact ⟨ym (Qp n),rfl⟩
theorem Tryz.infoByte:(Tryz.prog.info? 5).map (fun i=>(i.zero,i.size,i.bytes)) = some (some (.int .u8 0),1,1):=by kernel_rfl
def cellsOf (l:List UInt8):List Value:=l.map fun c=>.int .u8 (c.toNat:Int)
theorem XO (a b:List UInt8):cellsOf (a ++ b) = cellsOf a ++ cellsOf b:=by simp [cellsOf]
theorem XN (n d:Nat):(n:Int) / 2 ^ (8 * d) % 256 = ((UInt8.ofNat (n / 256 ^ d)).toNat:Int):=by
 have e2:(2:Int) ^ (8 * d) = ((256 ^ d:Nat):Int):=by rw [Int.pow_mul]; simp
 rw [e2,UInt8.toNat_ofNat'];omega
theorem KI (w:World) (t:TypeId) (u:Value) (hu:u.oneCell' = true):(∀ j x,[u][j]? = some x -> (w.alloc (.cells #[u] t)).cell? ((⟨w.1.size,0,none⟩:Addr).add j) = some x) /\ ∀ x ∈ [u],x.oneCell' = true:=by
 refine ⟨fun j x hj=>?_,fun x hx=>by simp at hx; subst hx; exact hu⟩
 match j,hj with
 | 0,hj=>simp at hj; subst hj; simp [Addr.add]
def zde (B:Nat) (l:List UInt8) (w:World) (e:Ending) (w':World):Prop :=
 ∃ g cap,e = .returned (.slice (some ⟨g,0,none⟩) l.length cap) /\ w'.ownsRow B 5 1 (.slice (some ⟨g,0,none⟩) l.length cap) l.length (cellsOf l) /\ Below B w w'
def zeg (B k n:Nat) (l:List UInt8) (w:World) (t i:Value) (wr:World):Prop :=
 ∃ j:Nat,j <= k /\ i = .int .i64 (j:Int) /\ wr.ownsRow B 5 1 t (l.length + j) (cellsOf (l ++ (be k n).take j)) /\ Below B w wr
theorem QS (B k n:Nat) (l:List UInt8) (v:Value) (w:World) (h1:1 <= k) (h4:k <= 4) (hl:l.length <= 100000) (hB:B <= w.1.size) (hown:w.ownsRow B 5 1 v l.length (cellsOf l)) :
  Calls Tryz.prog 114 #[v,.int .i64 k,.int .i64 n] w (zde B (l ++ be k n) w):=by
 obtain ⟨i0,hi,hz0,hz1,hz2⟩:=info_parts Tryz.infoByte;have HO:=Hi hown;clear hown
 go_enter Tryz.func114,Tryz.ntmps114
 go_wp2
 go_loopw [0,9] (fun t i wr=>zeg B k n l w t i wr) (fun _ i _=>k - (intOf i).toNat)
 case atStart=>exact ⟨0,zfp _,rfl,by simpa using HO.o,Below.refl _ _⟩
 case round =>
  obtain ⟨j,hj,rfl,ho,hb⟩:=hrel;have HO':=Hi ho;have HB':=Hi hb;clear ho hb HO;by_cases hlt:j < k
  ·have hsz:=HB'.o.size;go_wp2_with (at_builtin; refine wpList_append_lies _ rfl _ _ 75 rfl B 5 i0 (.int .u8 0) 1 1 Tryz.underlying75 hi hz0 hz1 hz2 rfl (by decide) _ _ _ rfl (HO'.o.alloc _) ⟨wr.1.size,0,none⟩ 1 1 [.int .u8 ((n:Int) / 2 ^ (8 * (k - 1 - j)) % 256)] rfl rfl (KI wr 5 _ rfl).1 (KI wr 5 _ rfl).2 (by decide) (by unfold maxLen; omega) (by omega) (by simp; omega) _ rfl ?_; intro g cap w1 hown1 hgrow hat hg1);have HO1:=Hi hown1;have HB1:=Hi ((HB'.o.alloc (by omega) _).grown hgrow (by simp; omega) (fun g hg=>(HO'.o.lt g hg).1));clear hown1 hgrow hat hg1
   go_wp2
   go_roundw
   case rel =>
    refine ⟨j + 1,hlt,by go_num,?_,HB1.o⟩;rw [zdu n hlt,<- List.append_assoc,XO,<- Nat.add_assoc];have e:=HO1.o;rw [XN] at e;exact e
   case measure=>simp [intOf]; omega
  ·obtain rfl:j = k:=by omega
   have e:=HO'.o;rw [QL] at e;obtain ⟨g,cap,rfl,_,_⟩:=e.form (by omega);have HE:=Hi e;clear e
   go_wp2
   go_ret
   refine ⟨g,cap,?_,?_,HB'.o⟩
   ·rw [zfk,yF]; rfl
   ·rw [zfk,yF]; exact HE.o
theorem KM {w:World} {B g cap:Nat} {l:List UInt8} (h:w.ownsRow B 5 1 (.slice (some ⟨g,0,none⟩) l.length cap) l.length (cellsOf l)) :
  (convert 75 9 (.slice (some ⟨g,0,none⟩) l.length cap)).run Tryz.prog w = .ok (.string ⟨l.toArray⟩) w:=by
 have hr:Row w g l:=by
  intro i hi;refine ⟨?_,h.frozenAt i⟩;rw [h.cellAt i (by omega)];simp [cellsOf,hi]
 exact hr.text cap l.length rfl
theorem zbP (k:Nat):((256 ^ k:Nat):Int) = 256 ^ k:=Int.natCast_pow 256 k
theorem zbW {k n:Nat} (hn:n < 256 ^ k):zau k n = true:=WZ.2 ⟨Int.natCast_nonneg n,by rw [<- zbP]; exact Int.ofNat_lt.2 hn⟩
theorem Kw (k n:Nat) (w:World) (h4:k <= 4) (hn:n < 256 ^ k):Calls Tryz.prog 113 #[.int .i64 k,.int .i64 n] w fun e w'=>e = .returned (.bool true) /\ w = w':=by
 have hf:zau k n = true:=zbW hn;have h:=zbY k n w h4;rw [hf] at h;exact h
theorem jJ (k n:Nat) (w:World) (h1:1 <= k) (h4:k <= 4) (hn:n < 256 ^ k) :
  Calls Tryz.prog 76 #[.int .i64 k,.int .i64 n] w fun e w'=>e = .returned (.string ⟨(be k n).toArray⟩) /\ Below w.1.size w w':=by
 have H:=Hi hn;clear hn
 go_enter Tryz.func76,Tryz.ntmps76
 go_wp2_with fail;refine (qC k _ h1 h4).mono ?_;rintro e w' ⟨rfl,rfl⟩;go_wp2_with fail;refine (Kw k n _ h4 H.o).mono ?_;rintro e w' ⟨rfl,rfl⟩;go_wp2_with fail;refine (QS w.1.size k n [] _ w h1 h4 (by decide) (ze3 _) (World.ownsRow_nil w _ _ _)).mono ?_;rw [List.nil_append];obtain ⟨l,HL⟩:=hY (be k n);rw [<- HL.o];rintro e w' ⟨g,cap,rfl,ho,hb⟩;have hc:=KM ho;have HB:=Hi hb;clear ho hb;go_wp2_with fail
 go_ret
 exact ⟨by rw [<- HL.o]; rfl,HB.o⟩
end
section
open Go.RowKit
theorem JS (a b:Nat) (ha:a < 4611686018427387904) (hb:b < 4611686018427387904):bits .or .i64 (a:Int) (b:Int) = ((a ||| b:Nat):Int):=by
 have hx:a ||| b < 2 ^ 62:=Nat.or_lt_two_pow (by omega) (by omega)
 show IntKind.i64.wrap ((BitVec.ofInt 64 (a:Int) ||| BitVec.ofInt 64 (b:Int)).toNat:Int) = _;rw [BitVec.toNat_or,ofInt_u64 a (by omega),ofInt_u64 b (by omega)];exact IntWalk.i64_in _ (by omega)
theorem zay (m:Nat) (c:UInt8) (hm:m < 16777216):bits .or .i64 ((m:Int) * 256) (wrap64 (c.toNat:Int)) = ((256 * m + c.toNat:Nat):Int):=by
 have hc:=c.toNat_lt;have e1:wrap64 (c.toNat:Int) = (c.toNat:Int):=by unfold wrap64; omega
 have e2:(m:Int) * 256 = ((256 * m:Nat):Int):=by omega
 rw [e1,e2,JS _ _ (by omega) (by omega),nat_join 8 (256 * m) c.toNat (by omega) (by omega)]
def zdj (s:ByteArray) (n i:Value):Prop:=∃ k:Nat,k <= s.size /\ i = .int .i64 (k:Int) /\ n = .int .i64 (num (s.data.toList.take k):Int)
theorem KT (s:ByteArray) (w:World) (h4:s.size <= 4):Calls Tryz.prog 173 #[.string s] w fun e w'=>e = .returned (.int .i64 (num s.data.toList:Int)) /\ w = w':=by
 go_enter Tryz.func173,Tryz.ntmps173
 go_wp2
 go_loop [3,7] (fun n i=>zdj s n i) (fun _ i=>s.size - (intOf i).toNat)
 case atStart=>exact ⟨0,zfp _,rfl,rfl⟩
 case round =>
  obtain ⟨k,hk,rfl,rfl⟩:=hrel;by_cases hlt:k < s.size
  ·obtain ⟨m,HM⟩:=hY (num (s.data.toList.take k));have hm:m < 16777216:=by
    have h1:=qH s.data.toList k;have h2:256 ^ k <= 256 ^ 3:=Nat.pow_le_pow_right (by decide) (by omega);rw [HM.o];exact Nat.lt_of_lt_of_le h1 h2
   rw [<- HM.o]
   go_wp2
   go_round
   case rel =>
    refine ⟨k + 1,hlt,by go_num,?_⟩;rw [zay m _ hm,zct (by rw [zfq]; exact hlt),<- HM.o];rfl
   case measure=>simp [intOf]; omega
  ·obtain rfl:k = s.size:=by omega
   go_wp2
   go_ret
   exact ⟨VS (by rw [zfG (by rw [zfq]; exact ze3 _)]),rfl⟩
def Q3 (n:Int) (w:World) (e:Ending) (w':World):Prop:=∃ v l,e = .returned v /\ vj w' n v l /\ Below w.1.size w w'
theorem WF (n:Int) (w:World):Calls Tryz.prog 172 #[.int .i64 n] w (Q3 n w):=by
 go_enter Tryz.func172,Tryz.ntmps172
 go_wp2_with fail;refine (zab _ n _ [] w .base).mono ?_;rintro e w' ⟨rfl,hc,hb⟩;have HC:=Hi hc;have HB:=Hi hb;clear hc hb;go_wp2_with fail
 go_ret
 exact ⟨_,_,rfl,HC.o,HB.o⟩
def zbq (x:Value) (n:Int) (w:World) (e:Ending) (w':World):Prop:=∃ v l,e = .returned (.tuple #[x,v]) /\ vj w' n v l /\ Below w.1.size w w'
theorem Q6 (s:ByteArray) (n:Int) (w:World) (h:n < 1 \/ 4 < n):Calls Tryz.prog 170 #[.string s,.int .i64 n] w (zbq (.int .i64 0) 1 w):=by
 have H:=Hi h;clear h
 go_enter Tryz.func170,Tryz.ntmps170
 go_wp2_with fail;refine (JW n _ H.o).mono ?_;rintro e w' ⟨rfl,rfl⟩;go_wp2_with fail;refine (WF 1 _).mono ?_;rintro e w' ⟨v,l,rfl,hc,hb⟩;have HC:=Hi hc;have HB:=Hi hb;clear hc hb;go_wp2_with fail
 go_ret2
 exact ⟨_,_,rfl,HC.o,HB.o⟩
theorem Z5 (s:ByteArray) (a b:Nat):(s.extract a b).data.toList = (s.data.toList.drop a).take (b - a):=by simp
theorem Z4 (s:ByteArray) (k:Nat):(s.extract 0 k).data.toList = s.data.toList.take k:=by simp
theorem zdc (s:ByteArray) (k:Nat) (w:World) (h1:1 <= k) (h4:k <= 4) (hs:k <= s.size):Calls Tryz.prog 170 #[.string s,.int .i64 k] w fun e w'=>e = .returned (.tuple #[.int .i64 (num (s.data.toList.take k):Int),.nilIface]) /\ w = w':=by
 go_enter Tryz.func170,Tryz.ntmps170
 go_wp2_with fail;refine (qC k _ h1 h4).mono ?_;rintro e w' ⟨rfl,rfl⟩;go_wp2_with fail;refine (KT (s.extract 0 k) _ (by rw [ByteArray.size_extract]; omega)).mono ?_;rw [Z4];rintro e w' ⟨rfl,rfl⟩;go_wp2_with fail
 go_ret2
 exact ⟨rfl,rfl⟩
end
section
open Go.RowKit
theorem yK (a:Addr) (n:Nat):(a.add n).block = a.block:=by unfold Addr.add; split <;> rfl
theorem Jy (a:Addr) (i j:Nat):(a.add i).add j = a.add (i + j):=by
 unfold Addr.add;by_cases hi:i = 0 <;> by_cases hj:j = 0 <;> simp [hi,hj,Nat.add_assoc]
theorem zt {w:World} {p:Addr} {v:Value} (h:w.cell? p = some v):p.block < w.1.size:=by
 rcases Nat.lt_or_ge p.block w.1.size with h1 | h1
 ·exact h1
 ·simp [World.cell?,Array.getElem?_eq_none h1] at h
def Nums (w:World) (k:IntKind) (A:Option Addr) (zs:List Int):Prop :=
 0 < zs.length -> ∃ a,A = some a /\ a.block < w.1.size /\ ∀ i z,zs[i]? = some z -> w.cell? (a.add i) = some (.int k z)
theorem Nums.none_ (w:World) (k:IntKind) (A:Option Addr):Nums w k A []:=fun h=>absurd h (by simp)
theorem Nums.at_ {w:World} {k:IntKind} {A:Option Addr} {zs:List Int} (h:Nums w k A zs) {i:Nat} {z:Int} (hz:zs[i]? = some z):∃ a,A = some a /\ w.cell? (a.add i) = some (.int k z):=by
 obtain ⟨a,e,_,hc⟩:=h (by have:=(List.getElem?_eq_some_iff.1 hz).1; omega);exact ⟨a,e,hc i z hz⟩
theorem Nums.carry {w w':World} {k:IntKind} {A:Option Addr} {zs:List Int} (h:Nums w k A zs) (hb:Below w.1.size w w'):Nums w' k A zs:=fun hp=>by
 obtain ⟨a,e,hlt,hc⟩:=h hp;exact ⟨a,e,Nat.lt_of_lt_of_le hlt hb.size,fun i z hz=>(hb.cell (p:=a.add i) (by rw [yK]; exact hlt)).trans (hc i z hz)⟩
theorem Nums.own {w:World} {k:IntKind} {A:Option Addr} {n c base:Nat} {e:TypeId} {zs:List Int} (h:w.ownsRow base e 1 (.slice A n c) n (zs.map (Value.int k))):Nums w k A zs:=fun hp=>by
 have hl:zs.length = n:=by have:=h.1; simpa using this
 obtain ⟨g,cap,hv,_,hlt⟩:=h.form (by omega);have hA:A = some ⟨g,0,none⟩:=by injection hv
 subst hA;exact ⟨_,rfl,hlt,fun i z hz=>h.cells (g:=g) rfl i _ (by rw [List.getElem?_map,hz]; rfl)⟩
theorem Nums.take {w:World} {k:IntKind} {A:Option Addr} {zs:List Int} (h:Nums w k A zs) (m:Nat):Nums w k A (zs.take m):=fun hp=>by
 obtain ⟨a,e,hlt,hc⟩:=h (by simp at hp; omega);exact ⟨a,e,hlt,fun i z hz=>hc i z (by rw [List.getElem?_take] at hz; split at hz <;> simp_all)⟩
def jN (l:List Nat):List Int:=l.map fun n:Nat=>(n:Int)
theorem Xr {l:List Nat} {i:Nat} (h:i < l.length):(jN l)[i]? = some (l[i]:Int):=by simp [jN,h]
theorem vW {l:List Nat} {k:Nat} (h:k < l.length):(l.take (k + 1)).sum = (l.take k).sum + l[k]:=by
 rw [List.take_add_one,ze7 h,List.sum_append];rfl
theorem jg (l:List Nat) (k:Nat):(l.take k).sum <= l.sum:=by
 have h:=congrArg List.sum (List.take_append_drop k l);rw [List.sum_append] at h;omega
theorem za2 {l:List Nat} {b:Nat} (h:∀ n ∈ l,n <= b):l.sum <= b * l.length:=by
 induction l with
 | nil=>simp
 | cons a r ih =>
  have h1:=h a (by simp);have h2:=ih (fun n hn=>h n (by simp [hn]));rw [List.sum_cons,List.length_cons,Nat.mul_add];omega
end
section
open Go.RowKit
def qq (ws:List Nat):Prop:=ws.length <= 40 /\ ∀ n ∈ ws,1 <= n /\ n <= 4
theorem qq.at_ {ws:List Nat} (h:qq ws) {i:Nat} (hi:i < ws.length):1 <= ws[i] /\ ws[i] <= 4:=h.2 _ (List.getElem_mem hi)
theorem qq.sum {ws:List Nat} (h:qq ws):ws.sum <= 160:=by
 have:=za2 (fun n hn=>(h.2 n hn).2);have:=h.1;omega
def zdl (zs:List Nat) (s i:Value):Prop:=∃ k:Nat,k <= zs.length /\ i = .int .i64 (k:Int) /\ s = .int .i64 ((zs.take k).sum:Int)
theorem Ka (ws:List Nat) (A:Option Addr) (cap:Nat) (w:World) (hw:qq ws) (hn:Nums w .i64 A (jN ws)) :
  Calls Tryz.prog 171 #[.slice A ws.length cap] w fun e w'=>e = .returned (.int .i64 (ws.sum:Int)) /\ w = w':=by
 have HW:=Hi hw;have HN:=Hi hn;have h40:=hw.1;have hsum:=hw.sum;clear hw hn
 go_enter Tryz.func171,Tryz.ntmps171
 go_wp2
 go_loop [3,11] (fun s i=>zdl ws s i) (fun _ i=>ws.length - (intOf i).toNat)
 case atStart=>exact ⟨0,zfp _,rfl,rfl⟩
 case round =>
  obtain ⟨k,hk,rfl,rfl⟩:=hrel;by_cases hlt:k < ws.length
  ·obtain ⟨a,rfl,hc⟩:=HN.o.at_ (Xr hlt);obtain ⟨n,HE⟩:=hY (ws[k]);obtain ⟨s,HS⟩:=hY ((ws.take k).sum);have hs:s <= 160:=by have:=jg ws k; rw [HS.o]; omega
   rw [<- HE.o] at hc;rw [<- HS.o];have h1:1 <= n:=by rw [HE.o]; exact (HW.o.at_ hlt).1
   have h4:n <= 4:=by rw [HE.o]; exact (HW.o.at_ hlt).2
   go_wp2_with fail;refine (qC n _ h1 h4).mono ?_;rintro e w' ⟨rfl,rfl⟩
   go_wp2
   go_round
   case rel =>
    refine ⟨k + 1,hlt,by go_num,?_⟩;rw [vW hlt,<- HS.o,<- HE.o]
    go_num
   case measure=>simp [intOf]; omega
  ·obtain rfl:k = ws.length:=by omega
   go_wp2
   go_ret
   exact ⟨rfl,rfl⟩
end
section
open Go.RowKit
def zbp (ws ns:List Nat):Prop:=∀ i (h1:i < ws.length) (h2:i < ns.length),ns[i] < 256 ^ ws[i]
def laid (ws ns:List Nat) (j:Nat):List UInt8:=lays ((ws.zip ns).take j)
theorem YG {ws ns:List Nat} {j:Nat} (h1:j < ws.length) (h2:j < ns.length):laid ws ns (j + 1) = laid ws ns j ++ be ws[j] ns[j]:=by
 have hz:j < (ws.zip ns).length:=by rw [List.length_zip]; omega
 unfold laid;rw [List.take_add_one,ze7 hz,KA,List.getElem_zip];exact congrArg _ (zcg _)
theorem Kz {ws ns:List Nat} {j:Nat} (h1:j <= ws.length) (h2:j <= ns.length):(laid ws ns j).length = (ws.take j).sum:=by
 induction j with
 | zero=>rfl
 | succ j ih=>rw [YG (by omega) (by omega),zfk,ih (by omega) (by omega),yF,vW (by omega)]
theorem zcc {ws ns:List Nat} (h:ns.length = ws.length):laid ws ns ws.length = lays (ws.zip ns):=by
 unfold laid;rw [zfG (by rw [List.length_zip]; omega)]
def Q4 (B q:Nat) (ws ns:List Nat) (w:World) (t i:Value) (wr:World):Prop :=
 ∃ j g cap:Nat,j <= q /\ i = .int .i64 (j:Int) /\ t = .slice (some ⟨g,0,none⟩) (laid ws ns j).length cap /\ wr.ownsRow B 5 1 (.slice (some ⟨g,0,none⟩) (laid ws ns j).length cap) (laid ws ns j).length (cellsOf (laid ws ns j)) /\ Below B w wr
def Ji (l:List UInt8) (w:World) (e:Ending) (w':World):Prop:=e = .returned (.tuple #[.string ⟨l.toArray⟩,.nilIface]) /\ Below w.1.size w w'
theorem Jj (ws ns:List Nat) (A A2:Option Addr) (cap cap2:Nat) (w:World) (hw:qq ws) (hn:Nums w .i64 A (jN ws)) (hm:Nums w .i64 A2 (jN ns)) (hl:ns.length = ws.length) (hf:zbp ws ns) :
  Calls Tryz.prog 158 #[.slice A ws.length cap,.slice A2 ns.length cap2] w (Ji (lays (ws.zip ns)) w):=by
 obtain ⟨i0,hi,hz0,hz1,hz2⟩:=info_parts Tryz.infoByte;have HW:=Hi hw;have HN:=Hi hn;have HM:=Hi hm;have HF:=Hi hf;have HL:=Hi hl;have hl1:((ns.length:Int) != (ws.length:Int)) = false:=by simp; omega
 have hsum:=hw.sum;have h40:=hw.1;clear hw hn hm hl hf
 go_enter Tryz.func158,Tryz.ntmps158
 go_wp2_with fail;refine (Ka ws A cap _ HW.o HN.o).mono ?_;rintro e w' ⟨rfl,rfl⟩;go_wp2_with (at_make; refine wpList_make_own _ rfl _ _ 75 rfl w.1.size 5 i0 (.int .u8 0) 1 Tryz.underlying75 hi hz0 hz1 .i64 .i64 _ ws.sum rfl rfl rfl (by rw [hz2]; omega) (by unfold maxLen; omega) (ze3 _) ?_; intro w1 hown1 hgrow1);have HO:=Hi hown1;have HB:=Hi ((Below.refl w.1.size w).grown hgrow1 (ze3 _) (fun _ h=>by cases h));clear hown1 hgrow1 hi hz0 hz1 hz2
 go_loopw [7,26] (fun t i wr=>Q4 w.1.size ws.length ws ns w t i wr) (fun _ i _=>ws.length - (intOf i).toNat)
 case atStart=>exact ⟨0,w.1.size,ws.sum,zfp _,rfl,rfl,HO.o,HB.o⟩
 case round =>
  obtain ⟨j,g,c,hj,rfl,rfl,ho,hb⟩:=hrel;have HO':=Hi ho;have HB':=Hi hb;clear ho hb HO HB;obtain ⟨l,HE⟩:=hY (laid ws ns j);rw [<- HE.o] at HO' ⊢;by_cases hlt:j < ws.length
  ·have hlt2:j < ns.length:=by have:=HL.o; omega
   obtain ⟨a,rfl,hc⟩:=(HN.o.carry HB'.o).at_ (Xr hlt);obtain ⟨a2,rfl,hc2⟩:=(HM.o.carry HB'.o).at_ (Xr hlt2);obtain ⟨k,HK⟩:=hY (ws[j]);obtain ⟨n,HNj⟩:=hY (ns[j]);rw [<- HK.o] at hc;rw [<- HNj.o] at hc2;have h1:1 <= k:=by rw [HK.o]; exact (HW.o.at_ hlt).1
   have h4:k <= 4:=by rw [HK.o]; exact (HW.o.at_ hlt).2
   have HFj:=hI (n < 256 ^ k) (by rw [HK.o,HNj.o]; exact HF.o j hlt hlt2);have hll:l.length <= 100000:=by
    have:=jg ws j;rw [HE.o,Kz (by omega) (by omega)];omega
   go_wp2_with fail;refine (Kw k n _ h4 HFj.o).mono ?_;rintro e w' ⟨rfl,rfl⟩;go_wp2_with fail;refine (QS w.1.size k n l _ _ h1 h4 hll HB'.o.size HO'.o).mono ?_;rintro e w2 ⟨g2,c2,rfl,ho2,hb2⟩;have HO2:=Hi ho2;have HB2:=Hi (HB'.o.trans hb2);clear ho2 hb2 hc hc2 HO' HB';go_wp2_with fail
   go_roundw
   case rel =>
    refine ⟨j + 1,g2,c2,hlt,by go_num,?_,?_,HB2.o⟩
    ·rw [YG hlt hlt2,<- HE.o,<- HK.o,<- HNj.o,zfk]
    ·rw [YG hlt hlt2,<- HE.o,<- HK.o,<- HNj.o]; exact HO2.o
   case measure=>simp [intOf]; omega
  ·obtain rfl:j = ws.length:=by omega
   have hc:=KM HO'.o;go_wp2_with fail
   go_ret2
   exact ⟨by rw [<- zcc HL.o,<- HE.o]; rfl,HB'.o⟩
end
section
open Go.RowKit
def wD:List Nat -> List UInt8 -> List Nat
 | [],_=>[]
 | k :: r,s=>num (s.take k) :: wD r (s.drop k)
theorem xS (ws:List Nat) (s:List UInt8):(wD ws s).length = ws.length:=by
 induction ws generalizing s with
 | nil=>rfl
 | cons k r ih=>simp [wD,ih]
theorem zaZ {ws:List Nat} (s:List UInt8) {j:Nat} (h:j < ws.length):(wD ws s)[j]'(by rw [xS]; exact h) = num ((s.drop (ws.take j).sum).take ws[j]):=by
 induction ws generalizing s j with
 | nil=>simp at h
 | cons k r ih =>
  cases j with
  | zero=>simp [wD]
  | succ j =>
   simp only [wD,List.getElem_cons_succ,List.take_succ_cons,List.sum_cons];rw [ih _ (by simpa using h),List.drop_drop]
def kC (l:List Nat) (j:Nat):List Nat:=l.take j ++ List.replicate (l.length - j) 0
theorem WG (l:List Nat) {j:Nat} (h:j <= l.length):(kC l j).length = l.length:=by
 simp [kC];omega
theorem Qc {l:List Nat} {j:Nat} (h:j < l.length):(kC l j).set j l[j] = kC l (j + 1):=by
 unfold kC;have e:l.length - j = (l.length - (j + 1)) + 1:=by omega
 rw [List.set_append_right _ _ (by rw [List.length_take]; omega),List.length_take,Nat.min_eq_left (by omega),Nat.sub_self,e,List.replicate_succ,List.set_cons_zero,List.take_add_one,ze7 h,List.append_assoc];rfl
theorem Qb (l:List Nat):kC l l.length = l:=by simp [kC]
def kP (l:List Nat):List Value:=(jN l).map (Value.int .i64)
theorem VN (l:List Nat) (j x:Nat):(kP l).set j (.int .i64 (x:Int)) = kP (l.set j x):=by simp [kP,jN,List.map_set]
theorem Tryz.infoInt:(Tryz.prog.info? 3).map (fun i=>(i.zero,i.size,i.bytes)) = some (some (.int .i64 0),1,8):=by kernel_rfl
theorem zaH (n:Nat) (l:List Nat) (h:l.length = n):(madeCells (Value.int .i64 0).cells (n * 1)).toList = kP (kC l 0):=by
 have e:(Value.int .i64 0).cells = #[.int .i64 0]:=rfl;rw [e,Nat.mul_one,toList_madeCells_one];simp [kP,jN,kC,h]
def zbw (g:Nat) (ws:List Nat) (s:List UInt8) (w:World) (t i:Value) (wr:World):Prop :=
 ∃ j:Nat,j <= ws.length /\ i = .int .i64 (j:Int) /\ t = .int .i64 ((ws.take j).sum:Int) /\ wr.ownsRow w.1.size 3 1 (.slice (some ⟨g,0,none⟩) ws.length ws.length) ws.length (kP (kC (wD ws s) j)) /\ Below w.1.size w wr
def zbv (l:List Nat) (w:World) (e:Ending) (w':World):Prop:=∃ g cap:Nat,w.1.size <= g /\ e = .returned (.tuple #[.slice (some ⟨g,0,none⟩) l.length cap,.nilIface]) /\ Nums w' .i64 (some ⟨g,0,none⟩) (jN l) /\ Below w.1.size w w'
theorem Q7 (ws:List Nat) (s:ByteArray) (A:Option Addr) (cap:Nat) (w:World) (hw:qq ws) (hn:Nums w .i64 A (jN ws)) (hl:s.size = ws.sum) :
  Calls Tryz.prog 156 #[.slice A ws.length cap,.string s] w (zbv (wD ws s.data.toList) w):=by
 obtain ⟨i0,hi,hz0,hz1,hz2⟩:=info_parts Tryz.infoInt;have HW:=Hi hw;have HN:=Hi hn;have HL:=Hi hl;have hl1:((s.size:Int) != (ws.sum:Int)) = false:=by simp; omega
 have hsum:=hw.sum;have h40:=hw.1;clear hw hn hl
 go_enter Tryz.func156,Tryz.ntmps156
 go_wp2_with fail;refine (Ka ws A cap _ HW.o HN.o).mono ?_;rintro e w' ⟨rfl,rfl⟩;go_wp2_with (at_make; refine wpList_make_full _ rfl _ _ 45 rfl w.1.size 3 i0 (.int .i64 0) 1 Tryz.underlying45 hi hz0 hz1 .i64 .i64 _ _ ws.length rfl rfl rfl rfl (by rw [hz2]; omega) (by unfold maxLen; omega) (ze3 _) ?_; intro w1 hown1 hgrow1);rw [zaH ws.length (wD ws s.data.toList) (xS _ _)] at hown1;have HO:=Hi hown1;have HB:=Hi ((Below.refl w.1.size w).grown hgrow1 (ze3 _) (fun _ h=>by cases h));clear hown1 hgrow1 hi hz0 hz1 hz2;obtain ⟨g,HG⟩:=hY (w.1.size);rw [<- HG.o] at HO ⊢
 go_loopw [8,26] (fun t i wr=>zbw g ws s.data.toList w t i wr) (fun _ i _=>ws.length - (intOf i).toNat)
 case atStart=>exact ⟨0,zfp _,rfl,rfl,by rw [<- HG.o]; exact HO.o,HB.o⟩
 case round =>
  obtain ⟨j,hj,rfl,rfl,ho,hb⟩:=hrel;have HO':=Hi ho;have HB':=Hi hb;clear ho hb HO HB;obtain ⟨t,HT⟩:=hY ((ws.take j).sum);have ht:t <= 160:=by have:=jg ws j; rw [HT.o]; omega
  rw [<- HT.o];by_cases hlt:j < ws.length
  ·obtain ⟨a,rfl,hc⟩:=(HN.o.carry HB'.o).at_ (Xr hlt);obtain ⟨k,HK⟩:=hY (ws[j]);rw [<- HK.o] at hc;have h1:1 <= k:=by rw [HK.o]; exact (HW.o.at_ hlt).1
   have h4:k <= 4:=by rw [HK.o]; exact (HW.o.at_ hlt).2
   have hts:t + k <= s.size:=by
    have e1:=vW hlt;have e2:=jg ws (j + 1);have e3:=HL.o;rw [HK.o,HT.o];omega
   have hsp:j < (wD ws s.data.toList).length:=by rw [xS]; exact hlt
   have hpl:(kC (wD ws s.data.toList) j).length = ws.length:=by rw [WG _ (by omega),xS]
   obtain ⟨old,hcg⟩:∃ old:Nat,wr.cell? ⟨g,j,none⟩ = some (.int .i64 (old:Int)) :=
    ⟨(kC (wD ws s.data.toList) j)[j]'(by rw [hpl]; exact hlt),by rw [HO'.o.cellAt j (by omega)]; simp [kP,jN,hpl,hlt]⟩
   have hfg:wr.frozen? ⟨g,j,none⟩ = false:=HO'.o.frozenAt j;clear hpl;go_wp2_with fail;refine (KT (s.extract t (t + k)) _ (by rw [ByteArray.size_extract]; omega)).mono ?_;have ex:num (s.extract t (t + k)).data.toList = (wD ws s.data.toList)[j]:=by
    rw [zaZ _ hlt,Z5,Nat.add_sub_cancel_left,<- HT.o,<- HK.o]
   obtain ⟨x,HX⟩:=hY ((wD ws s.data.toList)[j]);rw [ex,<- HX.o];clear ex;rintro e w' ⟨rfl,rfl⟩;go_wp2_with fail
   go_roundw
   case rel =>
    refine ⟨j + 1,hlt,by go_num,?_,?_,HB'.o.setCell (by rw [HG.o]; exact ze3 _) _⟩
    ·rw [vW hlt,<- HT.o,<- HK.o]; go_num
    ·have e:=(HO'.o.stored j (.int .i64 (x:Int))).1;rw [VN,HX.o,Qc hsp] at e;rw [<- HX.o] at e;exact e
   case measure=>simp [intOf]; omega
  ·obtain rfl:j = ws.length:=by omega
   go_wp2_with fail
   go_ret2
   refine ⟨g,ws.length,by rw [HG.o]; exact ze3 _,?_,?_,HB'.o⟩
   ·rw [xS]; rfl
   ·have e:=HO'.o;have e2:=Qb (wD ws s.data.toList);rw [xS] at e2;rw [e2] at e;exact Nums.own e
end
