/-
  Lda. Conditions: as said.
-/
import Derived.Test.YtafclmbecmgbnaaGreatDoorTrTopRange
import Derived.Test.YtafclmbecmgbnaaGreatDoorChkCalls
import Derived.Test.YtafclmbecmgbnaaGreatDoorTrTopDel
import Derived.Test.YtafclmbecmgbnaaGreatDoorBtMath
set_option maxRecDepth 100000
open Nat renaming le_refl -> ze3
namespace Go.Proofs.YtafclmbecmgbnaaGreatDoor
section
open Go.RowKit
def yI (k:Int) (n:Nat):Prop:=0 <= k /\ k <= 4294967295 /\ (n = 0 \/ n = 12)
instance (k:Int) (n:Nat):Decidable (yI k n):=by unfold yI; infer_instance
theorem W3 (k:Int) (s:ByteArray) (w:World):Calls Tryz.prog 86 #[.agg #[.int .i64 k,.string s]] w fun e w'=>e = .returned (.bool (decide (yI k s.size))) /\ Below w.1.size w w':=by
 obtain ⟨z,HZ⟩:=hY (decide (yI k s.size));rw [<- HZ.o];have hem:s.toList.isEmpty = decide (s.size = 0):=by
  rw [Bool.eq_iff_iff,List.isEmpty_iff,decide_eq_true_eq,ByteArray.toList_eq];constructor
  ·intro h; have:=congrArg List.length h; simpa using this
  ·intro h; exact List.eq_nil_of_length_eq_zero (by rw [Array.length_toList]; exact h)
 go_enter Tryz.func86,Tryz.ntmps86
 by_cases h0:s.size = 0
 ·have he:s.toList.isEmpty = true:=by rw [hem]; simp [h0]
  clear hem;go_wp2_with fail
  all_goals
   go_ret
   refine ⟨?_,(Below.refl _ _).alloc (ze3 _) _⟩
   first
    | (rw [HZ.o,decide_eq_true (show yI k s.size by unfold yI; omega)]; rfl)
    | (rw [HZ.o,decide_eq_false (show ¬ yI k s.size by unfold yI; omega)]; rfl)
 ·have he:s.toList.isEmpty = false:=by rw [hem]; simp [h0]
  clear hem;by_cases h12:s.size = 12
  ·have h13:((s.size:Int) == 12) = true:=by rw [beq_iff_eq]; omega
   go_wp2_with fail
   all_goals
    go_ret
    refine ⟨?_,(Below.refl _ _).alloc (ze3 _) _⟩
    first
     | (rw [HZ.o,decide_eq_true (show yI k s.size by unfold yI; omega)]; rfl)
     | (rw [HZ.o,decide_eq_false (show ¬ yI k s.size by unfold yI; omega)]; rfl)
  ·have h13:((s.size:Int) == 12) = false:=by rw [beq_eq_false_iff_ne]; omega
   go_wp2_with fail
   all_goals
    go_ret
    refine ⟨?_,(Below.refl _ _).alloc (ze3 _) _⟩
    first
     | (rw [HZ.o,decide_eq_true (show yI k s.size by unfold yI; omega)]; rfl)
     | (rw [HZ.o,decide_eq_false (show ¬ yI k s.size by unfold yI; omega)]; rfl)
def yV (w:World) (b P:Nat):Prop:=w.1[b]? = some (.cells #[ptr P] 143 (0,0))
theorem yV.cell {w:World} {b P:Nat} (h:yV w b P):w.cell? ⟨b,0,none⟩ = some (ptr P):=by simp [World.cell?,show w.1[b]? = _ from h]
theorem yV.lt {w:World} {b P:Nat} (h:yV w b P):b < w.1.size:=(Array.getElem?_eq_some_iff.1 h).1
theorem yV.carry {w w':World} {b P:Nat} (h:yV w b P) (hb:Below w.1.size w w'):yV w' b P:=(hb.block b h.lt).trans h
section
variable {O:zV} (H:ye O)
include H
theorem X2 {K:Nat -> Prop} {w:World} {b P D n:Nat} {d:Dk} {s:Pst} (h:zW O K w P D n d s) (hl:yV w b P) :
  Calls Tryz.prog 40 #[ptr b] w fun e w'=>e = .returned (.int .u32 (s.sup.gen:Int)) /\ Below w.1.size w w':=by
 have c0:=hl.cell;have HG:=Hi (H.pgGen h);clear hl h
 go_enter Tryz.func40,Tryz.ntmps40
 go_wp2_with fail;refine HG.o.mono ?_;rintro e w' ⟨rfl,hb⟩;have HB:=Hi hb;clear hb;dsimp only;go_wp2_with fail
 go_ret
 exact ⟨rfl,HB.o⟩
end
end
section
open Go.RowKit
section
variable {O:zV} (H:ye O)
include H
theorem Yc {w0:World} {P D n b:Nat} {S:TS} {firm:Nat -> List UInt8} (hg:yC w0) {K:Nat -> Prop} {w:World} (hl:zP O w0 K w P D n S firm) (hd:yV w b P) (from_ to_:Int) :
  Calls Tryz.prog 44 #[ptr b,.int .i64 from_,.int .i64 to_] w (WS w (wA S S.s.sup.root from_ to_)):=by
 have HL:=Hi hl;have HD:=Hi hd;clear hl hd
 go_enter Tryz.func44,Tryz.ntmps44
 go_upto_region 3 with (fail)
 refine wp_region_held (S:=fun w9=>yV w9 b P /\ zP O w0 K w9 P D n S firm) (by kernel_rfl) ?_;change wpAnyH _ _ _ _ _ _ _ _ w.drew;obtain ⟨wa,HWA⟩:=hY (w.drew);rw [<- HWA.o];have HB0:=hI (Below w.1.size w wa) (by rw [HWA.o]; exact (Below.refl _ _).drew);have hS:yV wa b P /\ zP O w0 K wa P D n S firm:=⟨HD.o.carry HB0.o,HL.o.carry H HB0.o⟩
 clear HWA HL HD;obtain ⟨R,HRR⟩:∃ R,Hid (wA S S.s.sup.root from_ to_ = R):=⟨_,Hi (rfl)⟩
 rw [HRR.o];cases R with
 | error c =>
  refine xA9 0 14 (.pointer (some ⟨b,0,none⟩)) hS ?_;refine xA9 1 15 (.pointer (some ⟨b,0,none⟩)) hS ?_;refine xA9 2 16 (.pointer (some ⟨b,0,none⟩)) hS ?_;refine xG9 3 17 (.pointer (some ⟨P,0,none⟩)) rfl (.inl ⟨by rfl,fun _ h=>by have c0:=h.1.cell; go_simp⟩) hS ?_;refine xA9 4 18 (.pointer (some ⟨b,0,none⟩)) hS ?_;refine xA9 5 19 (.pointer (some ⟨b,0,none⟩)) hS ?_;refine xA9 6 20 (.pointer (some ⟨b,0,none⟩)) hS ?_;refine xG9 7 21 (.pointer (some ⟨P,0,none⟩)) rfl (.inl ⟨by rfl,fun _ h=>by have c0:=h.1.cell; go_simp⟩) hS ?_;refine xA9 9 23 (.int .i64 from_) hS ?_;refine xA9 10 24 (.int .i64 to_) hS ?_;refine xJ9 8 (some 22) (fun K hK=>?_);go_simp;refine (H.pgRoot hS.2.pg).mono ?_;rintro e wn ⟨rfl,hb⟩;have HBA:=Hi (HB0.o.trans (hb.mono HB0.o.size));have hS2:=And.intro (hS.1.carry hb) (hS.2.carry H hb);refine hK.out _ _ hS2 ?_;clear hK K hb hS HB0;have hS:=hS2;clear hS2;have HB0:=HBA;clear HBA;refine xJ9 11 (some 25) (fun K hK=>?_);go_simp;refine (jq H hg hS.2 S.s.sup.root from_ to_).mono ?_;rw [HRR.o];rintro e wn ⟨hb,hc,v,rfl,he⟩;have HC:=Hi hc;have HE:=Hi (zi.mono he HB0.o.size);clear hc he;have HBA:=Hi (HB0.o.trans (hb.mono HB0.o.size));have hS2:=And.intro (hS.1.carry hb) (hS.2.carry H hb);refine hK.out _ _ hS2 ?_;clear hK K hb hS HB0;have hS:=hS2;clear hS2;have HB0:=HBA;clear HBA;refine xA9 12 13 (.tuple #[.slice none 0 0,v]) hS ?_;refine xA9 13 26 (.slice none 0 0) hS ?_;refine xA9 14 27 (v) hS ?_;refine xA9 15 8 (.slice none 0 0) hS ?_;refine xA9 16 9 (v) hS ?_;refine wpAnyH_done (by kernel_rfl) ?_ _;go_wp2_with fail;refine (yi _ w.1.size c v _ HE.o HB0.o.size).mono ?_;rintro e w2 ⟨v2,rfl,he,hb⟩;have HE2:=Hi he;have HB2:=Hi (HB0.o.trans (hb.mono HB0.o.size));clear he hb;dsimp only;go_wp2_with fail
  go_ret2
  refine ⟨HB2.o,?_⟩;rw [HRR.o];exact ⟨HC.o,v2,rfl,HE2.o⟩
 | ok l =>
  refine xA9 0 14 (.pointer (some ⟨b,0,none⟩)) hS ?_;refine xA9 1 15 (.pointer (some ⟨b,0,none⟩)) hS ?_;refine xA9 2 16 (.pointer (some ⟨b,0,none⟩)) hS ?_;refine xG9 3 17 (.pointer (some ⟨P,0,none⟩)) rfl (.inl ⟨by rfl,fun _ h=>by have c0:=h.1.cell; go_simp⟩) hS ?_;refine xA9 4 18 (.pointer (some ⟨b,0,none⟩)) hS ?_;refine xA9 5 19 (.pointer (some ⟨b,0,none⟩)) hS ?_;refine xA9 6 20 (.pointer (some ⟨b,0,none⟩)) hS ?_;refine xG9 7 21 (.pointer (some ⟨P,0,none⟩)) rfl (.inl ⟨by rfl,fun _ h=>by have c0:=h.1.cell; go_simp⟩) hS ?_;refine xA9 9 23 (.int .i64 from_) hS ?_;refine xA9 10 24 (.int .i64 to_) hS ?_;refine xJ9 8 (some 22) (fun K hK=>?_);go_simp;refine (H.pgRoot hS.2.pg).mono ?_;rintro e wn ⟨rfl,hb⟩;have HBA:=Hi (HB0.o.trans (hb.mono HB0.o.size));have hS2:=And.intro (hS.1.carry hb) (hS.2.carry H hb);refine hK.out _ _ hS2 ?_;clear hK K hb hS HB0;have hS:=hS2;clear hS2;have HB0:=HBA;clear HBA;refine xJ9 11 (some 25) (fun K hK=>?_);go_simp;refine (jq H hg hS.2 S.s.sup.root from_ to_).mono ?_;rw [HRR.o];rintro e wn ⟨hb,A9,cap,rfl,hrow⟩;have HROW:=Hi (yM hrow HB0.o.size);clear hrow;have HBA:=Hi (HB0.o.trans (hb.mono HB0.o.size));have hS2:=And.intro (hS.1.carry hb) (hS.2.carry H hb);refine hK.out _ _ hS2 ?_;clear hK K hb hS HB0;have hS:=hS2;clear hS2;have HB0:=HBA;clear HBA;refine xA9 12 13 (.tuple #[.slice A9 l.length cap,.nilIface]) hS ?_;refine xA9 13 26 (.slice A9 l.length cap) hS ?_;refine xA9 14 27 (.nilIface) hS ?_;refine xA9 15 8 (.slice A9 l.length cap) hS ?_;refine xA9 16 9 (.nilIface) hS ?_;refine wpAnyH_done (by kernel_rfl) ?_ _;go_wp2_with fail;refine (yi _ w.1.size 0 .nilIface _ (zi.nil _ _) HB0.o.size).mono ?_;rintro e w2 ⟨v2,rfl,he,hb⟩;obtain rfl:=he.zero;have HB2:=Hi (HB0.o.trans (hb.mono HB0.o.size));have HO2:=Hi hb;clear he hb;dsimp only;go_wp2_with fail
  go_ret2
  refine ⟨HB2.o,?_⟩;rw [HRR.o];exact ⟨A9,cap,rfl,zB HROW.o fun g hg=>HO2.o.block g (HROW.o.lt g hg).2⟩
theorem X3 {w0:World} {P D n b:Nat} {S:TS} {firm:Nat -> List UInt8} (hg:yC w0) {K:Nat -> Prop} {w:World} (hl:zP O w0 K w P D n S firm) (hd:yV w b P) (key:Int) :
  Calls Tryz.prog 49 #[ptr b,.int .i64 key] w (vT w (xy S S.s.sup.root key)):=by
 have HL:=Hi hl;have HD:=Hi hd;clear hl hd
 go_enter Tryz.func49,Tryz.ntmps49
 go_upto_region 3 with (fail)
 refine wp_region_held (S:=fun w9=>yV w9 b P /\ zP O w0 K w9 P D n S firm) (by kernel_rfl) ?_;change wpAnyH _ _ _ _ _ _ _ _ w.drew;obtain ⟨wa,HWA⟩:=hY (w.drew);rw [<- HWA.o];have HB0:=hI (Below w.1.size w wa) (by rw [HWA.o]; exact (Below.refl _ _).drew);have hS:yV wa b P /\ zP O w0 K wa P D n S firm:=⟨HD.o.carry HB0.o,HL.o.carry H HB0.o⟩
 clear HWA HL HD;obtain ⟨R,HRR⟩:∃ R,Hid (xy S S.s.sup.root key = R):=⟨_,Hi (rfl)⟩
 rw [HRR.o];cases R with
 | error c =>
  refine xA9 0 12 (.pointer (some ⟨b,0,none⟩)) hS ?_;refine xA9 1 13 (.pointer (some ⟨b,0,none⟩)) hS ?_;refine xA9 2 14 (.pointer (some ⟨b,0,none⟩)) hS ?_;refine xG9 3 15 (.pointer (some ⟨P,0,none⟩)) rfl (.inl ⟨by rfl,fun _ h=>by have c0:=h.1.cell; go_simp⟩) hS ?_;refine xA9 4 16 (.pointer (some ⟨b,0,none⟩)) hS ?_;refine xA9 5 17 (.pointer (some ⟨b,0,none⟩)) hS ?_;refine xA9 6 18 (.pointer (some ⟨b,0,none⟩)) hS ?_;refine xG9 7 19 (.pointer (some ⟨P,0,none⟩)) rfl (.inl ⟨by rfl,fun _ h=>by have c0:=h.1.cell; go_simp⟩) hS ?_;refine xA9 9 21 (.int .i64 key) hS ?_;refine xJ9 8 (some 20) (fun K hK=>?_);go_simp;refine (H.pgRoot hS.2.pg).mono ?_;rintro e wn ⟨rfl,hb⟩;have HBA:=Hi (HB0.o.trans (hb.mono HB0.o.size));have hS2:=And.intro (hS.1.carry hb) (hS.2.carry H hb);refine hK.out _ _ hS2 ?_;clear hK K hb hS HB0;have hS:=hS2;clear hS2;have HB0:=HBA;clear HBA;refine xJ9 10 (some 22) (fun K hK=>?_);go_simp;refine (Vj H hg hS.2 S.s.sup.root key).mono ?_;rw [HRR.o];rintro e wn ⟨hc,v,rfl,he,hb⟩;have HC:=Hi hc;have HE:=Hi (zi.mono he HB0.o.size);clear hc he;have HBA:=Hi (HB0.o.trans (hb.mono HB0.o.size));have hS2:=And.intro (hS.1.carry hb) (hS.2.carry H hb);refine hK.out _ _ hS2 ?_;clear hK K hb hS HB0;have hS:=hS2;clear hS2;have HB0:=HBA;clear HBA;refine xA9 11 11 (.tuple #[.string ⟨#[]⟩,v]) hS ?_;refine xA9 12 23 (.string ⟨#[]⟩) hS ?_;refine xA9 13 24 (v) hS ?_;refine xA9 14 6 (.string ⟨#[]⟩) hS ?_;refine xA9 15 7 (v) hS ?_;refine wpAnyH_done (by kernel_rfl) ?_ _;go_wp2_with fail;refine (yi _ w.1.size c v _ HE.o HB0.o.size).mono ?_;rintro e w2 ⟨v2,rfl,he,hb⟩;have HE2:=Hi he;have HB2:=Hi (HB0.o.trans (hb.mono HB0.o.size));clear he hb;dsimp only;go_wp2_with fail
  go_ret2
  rw [HRR.o];exact ⟨HC.o,v2,rfl,HE2.o,HB2.o⟩
 | ok x =>
  refine xA9 0 12 (.pointer (some ⟨b,0,none⟩)) hS ?_;refine xA9 1 13 (.pointer (some ⟨b,0,none⟩)) hS ?_;refine xA9 2 14 (.pointer (some ⟨b,0,none⟩)) hS ?_;refine xG9 3 15 (.pointer (some ⟨P,0,none⟩)) rfl (.inl ⟨by rfl,fun _ h=>by have c0:=h.1.cell; go_simp⟩) hS ?_;refine xA9 4 16 (.pointer (some ⟨b,0,none⟩)) hS ?_;refine xA9 5 17 (.pointer (some ⟨b,0,none⟩)) hS ?_;refine xA9 6 18 (.pointer (some ⟨b,0,none⟩)) hS ?_;refine xG9 7 19 (.pointer (some ⟨P,0,none⟩)) rfl (.inl ⟨by rfl,fun _ h=>by have c0:=h.1.cell; go_simp⟩) hS ?_;refine xA9 9 21 (.int .i64 key) hS ?_;refine xJ9 8 (some 20) (fun K hK=>?_);go_simp;refine (H.pgRoot hS.2.pg).mono ?_;rintro e wn ⟨rfl,hb⟩;have HBA:=Hi (HB0.o.trans (hb.mono HB0.o.size));have hS2:=And.intro (hS.1.carry hb) (hS.2.carry H hb);refine hK.out _ _ hS2 ?_;clear hK K hb hS HB0;have hS:=hS2;clear hS2;have HB0:=HBA;clear HBA;refine xJ9 10 (some 22) (fun K hK=>?_);go_simp;refine (Vj H hg hS.2 S.s.sup.root key).mono ?_;rw [HRR.o];rintro e wn ⟨rfl,hb⟩;have HBA:=Hi (HB0.o.trans (hb.mono HB0.o.size));have hS2:=And.intro (hS.1.carry hb) (hS.2.carry H hb);refine hK.out _ _ hS2 ?_;clear hK K hb hS HB0;have hS:=hS2;clear hS2;have HB0:=HBA;clear HBA;refine xA9 11 11 (.tuple #[.string x,.nilIface]) hS ?_;refine xA9 12 23 (.string x) hS ?_;refine xA9 13 24 (.nilIface) hS ?_;refine xA9 14 6 (.string x) hS ?_;refine xA9 15 7 (.nilIface) hS ?_;refine wpAnyH_done (by kernel_rfl) ?_ _;go_wp2_with fail;refine (yi _ w.1.size 0 .nilIface _ (zi.nil _ _) HB0.o.size).mono ?_;rintro e w2 ⟨v2,rfl,he,hb⟩;obtain rfl:=he.zero;have HB2:=Hi (HB0.o.trans (hb.mono HB0.o.size));clear he hb;dsimp only;go_wp2_with fail
  go_ret2
  rw [HRR.o];exact ⟨rfl,HB2.o⟩
end
end
section
open Go.RowKit
def zeO (n:Nat) (S:TS) (root key:Int):Except Int (List (Int × ByteArray)) -> Except Int Int × TS
 | .error c=>(.error c,S)
 | .ok []=>(.ok root,S)
 | .ok (_ :: _)=>xL n S root key
def Zj (n:Nat) (S:TS) (root key:Int) (val:ByteArray):Except Int Int × TS :=
 if val.size ≠ 0 then yY n S root key val else zeO n S root key (wA S root key (key + 1))
def zc8 (O:zV) (w0:World) (K:Nat -> Prop) (w:World) (P D n:Nat) (firm:Nat -> List UInt8) (r:Except Int Int × TS) (e:Ending) (w':World):Prop :=
 zP O w0 K w' P D n r.2 firm /\ zh K w w' /\ match r.1 with
 | .error c=>c ≠ 0 /\ ∃ k v,e = .returned (.tuple #[.int .i64 k,v]) /\ zi w' w.1.size c v
 | .ok k=>e = .returned (.tuple #[.int .i64 k,.nilIface])
def Yv (w:World) (p:Nat) (key:Int) (val:ByteArray):Prop:=w.cell? ⟨p,0,none⟩ = some (.int .i64 key) /\ w.cell? ⟨p,1,none⟩ = some (.string val)
theorem Yv.carry {w w':World} {p:Nat} {key:Int} {val:ByteArray} (h:Yv w p key val) (hb:Below w.1.size w w'):Yv w' p key val :=
 ⟨(hb.cell (p:=⟨p,0,none⟩) (zt h.1)).trans h.1,(hb.cell (p:=⟨p,1,none⟩) (zt h.2)).trans h.2⟩
theorem Yv.kept {K:Nat -> Prop} {w w':World} {p:Nat} {key:Int} {val:ByteArray} (h:Yv w p key val) (hk:zh K w w') (hp:K p):Yv w' p key val:=⟨(hk.cell (p:=⟨p,0,none⟩) hp).trans h.1,(hk.cell (p:=⟨p,1,none⟩) hp).trans h.2⟩
theorem yV.kept {K:Nat -> Prop} {w w':World} {b P:Nat} (h:yV w b P) (hk:zh K w w') (hb:K b):yV w' b P:=(hk.block b hb).trans h
section
variable {O:zV} (H:ye O)
include H
theorem zP.shrink {w0:World} {K L:Nat -> Prop} {w:World} {P D n:Nat} {S:TS} {firm:Nat -> List UInt8} (h:zP O w0 L w P D n S firm) (hKL:∀ k,K k -> L k) (hlow:∀ k,k < w0.1.size -> K k):zP O w0 K w P D n S firm :=
 ⟨H.pgMore h.pg (Below.refl _ _) (fun k hk=>.inl (hKL k hk)) (fun k hk=>h.there k (hKL k hk)),h.inv,h.up,h.below,hlow⟩
theorem Zq {w0:World} {K:Nat -> Prop} {w:World} {b P D n:Nat} {S:TS} {firm:Nat -> List UInt8} (hl:zP O w0 K w P D n S firm) (hg:yC w0) (hs:S.d.soft.length <= 99900) (hd:yV w b P) (hKb:K b) (root:Int) {key:Int} (hk:0 <= key /\ key <= 4294967295) {val:ByteArray} (hv:val.size <= 12) :
  Calls Tryz.prog 87 #[ptr b,.int .i64 root,.agg #[.int .i64 key,.string val]] w (zc8 O w0 K w P D n firm (Zj n S root key val)):=by
 obtain ⟨R,HRR⟩:∃ R,Hid (Zj n S root key val = R):=⟨_,Hi (rfl)⟩
 rw [HRR.o];obtain ⟨w1,HW1⟩:=hY (w.alloc (.cells #[.int .i64 key,.string val] 93));obtain ⟨p,HP⟩:=hY (w.1.size);have HB1:=hI (Below w.1.size w w1) (by rw [HW1.o]; exact bA);have HC1:=hI (Yv w1 p key val) (by rw [HW1.o,HP.o]; exact ⟨by simp,by simp⟩);have HLO:=hI (∀ k,k < w0.1.size -> K k) hl.low;obtain ⟨L,HLL⟩:∃ L:Nat -> Prop,Hid (L = fun k=>K k \/ (w.1.size <= k /\ k < w1.1.size)):=Hy;have HL1:=hI (zP O w0 L w1 P D n S firm) (by rw [HLL.o]; exact hl.grow H HB1.o);have HKL:=hI ((∀ k,K k -> L k) /\ L p /\ L b) (by rw [HLL.o]; exact ⟨fun k hk=>.inl hk,.inr ⟨by rw [HP.o]; exact ze3 _,zt HC1.o.1⟩,.inl hKb⟩);have HD1:=hI (yV w1 b P) (hd.carry HB1.o);have HTH:=hI (zZ K w) hl.there;have HSS:=Hi hs;have hem:val.toList.isEmpty = decide (val.size = 0):=by
  rw [Bool.eq_iff_iff,List.isEmpty_iff,decide_eq_true_eq,ByteArray.toList_eq];constructor
  ·intro h; have:=congrArg List.length h; simpa using this
  ·intro h; exact List.eq_nil_of_length_eq_zero (by rw [Array.length_toList]; exact h)
 clear hl hd hs
 go_enter Tryz.func87,Tryz.ntmps87
 go_upto_region 1 with (fail)
 rw [<- HP.o,<- HW1.o];clear HP HW1;have c1:=HC1.o.2;by_cases hv0:val.size = 0
 ·have he:val.toList.isEmpty = true:=by rw [hem]; simp [hv0]
  clear hem;obtain ⟨Q,HQQ⟩:∃ Q,Hid (wA S root key (key + 1) = Q):=⟨_,Hi (rfl)⟩
  have HRQ:=hI (R = zeO n S root key Q) (by rw [<- HRR.o,<- HQQ.o]; unfold Zj; rw [if_neg (by omega)]);clear HRR;go_upto_region 3 with (fail)
  refine wp_region_held (S:=fun w9=>yV w9 b P /\ Yv w9 p key val) (by kernel_rfl) ?_;change wpAnyH _ _ _ _ _ _ _ _ w1.drew;obtain ⟨wa,HWA⟩:=hY (w1.drew);rw [<- HWA.o];have HB2:=hI (Below w.1.size w wa) (by rw [HWA.o]; exact HB1.o.drew);have hS:yV wa b P /\ Yv wa p key val:=by rw [HWA.o]; exact ⟨HD1.o.carry (Below.refl _ _).drew,HC1.o.carry (Below.refl _ _).drew⟩
  have HL2:=hI (zP O w0 L wa P D n S firm) (by rw [HWA.o]; exact HL1.o.carry H (Below.refl _ _).drew);clear HWA HL1 HC1 HD1;have hkb:IntKind.i64.wrap (key + 1) = key + 1:=by rw [IntKind.wrap_i64]; omega
  cases Q with
  | error c =>
   obtain rfl:R = (.error c,S):=HRQ.o;refine xA9 0 26 (.pointer (some ⟨b,0,none⟩)) hS ?_;refine xA9 1 27 (.pointer (some ⟨b,0,none⟩)) hS ?_;refine xA9 2 28 (.pointer (some ⟨b,0,none⟩)) hS ?_;refine xG9 3 29 (.pointer (some ⟨P,0,none⟩)) rfl (.inl ⟨by rfl,fun _ h=>by have c0:=h.1.cell; go_simp⟩) hS ?_;refine xA9 4 30 (.int .i64 root) hS ?_;refine xA9 5 31 (.pointer (some ⟨p,0,none⟩)) hS ?_;refine xG9 6 32 (.int .i64 key) rfl (.inl ⟨by rfl,fun _ h=>by have c0:=h.2.1; go_simp⟩) hS ?_;refine xA9 7 33 (.pointer (some ⟨p,0,none⟩)) hS ?_;refine xG9 8 34 (.int .i64 key) rfl (.inl ⟨by rfl,fun _ h=>by have c0:=h.2.1; go_simp⟩) hS ?_;refine xA9 9 35 (.int .i64 (key + 1)) hS ?_;refine xJ9 10 (some 36) (fun K hK=>?_);go_simp;refine (jq H hg HL2.o root key (key + 1)).mono ?_;rw [HQQ.o];rintro e w3 ⟨hb,hc,v,rfl,he⟩;have HV:=Hi (zi.mono he HB2.o.size);have HCC:=Hi hc;clear hc he;have HL3:=Hi (HL2.o.carry H hb);have HB3:=Hi (HB2.o.trans (hb.mono HB2.o.size));have hS2:=And.intro (hS.1.carry hb) (hS.2.carry hb);refine hK.out _ _ hS2 ?_;clear hK K hb hS HL2 HB2;have hS:=hS2;clear hS2;refine xA9 11 25 (.tuple #[.slice none 0 0,v]) hS ?_;refine xA9 12 37 (.slice none 0 0) hS ?_;refine xA9 13 38 (v) hS ?_;refine xA9 14 8 (.slice none 0 0) hS ?_;refine xA9 15 9 (v) hS ?_;refine wpAnyH_done (by kernel_rfl) ?_ _;obtain ⟨ty,x,rfl⟩:=HV.o.some HCC.o;go_wp2_with fail
   go_ret2
   exact ⟨zP.shrink H HL3.o HKL.o.1 HLO.o,zh.of_below HB3.o HTH.o,HCC.o,root,_,rfl,HV.o⟩
  | ok l =>
   cases l with
   | nil =>
    obtain rfl:R = (.ok root,S):=HRQ.o;refine xA9 0 26 (.pointer (some ⟨b,0,none⟩)) hS ?_;refine xA9 1 27 (.pointer (some ⟨b,0,none⟩)) hS ?_;refine xA9 2 28 (.pointer (some ⟨b,0,none⟩)) hS ?_;refine xG9 3 29 (.pointer (some ⟨P,0,none⟩)) rfl (.inl ⟨by rfl,fun _ h=>by have c0:=h.1.cell; go_simp⟩) hS ?_;refine xA9 4 30 (.int .i64 root) hS ?_;refine xA9 5 31 (.pointer (some ⟨p,0,none⟩)) hS ?_;refine xG9 6 32 (.int .i64 key) rfl (.inl ⟨by rfl,fun _ h=>by have c0:=h.2.1; go_simp⟩) hS ?_;refine xA9 7 33 (.pointer (some ⟨p,0,none⟩)) hS ?_;refine xG9 8 34 (.int .i64 key) rfl (.inl ⟨by rfl,fun _ h=>by have c0:=h.2.1; go_simp⟩) hS ?_;refine xA9 9 35 (.int .i64 (key + 1)) hS ?_;refine xJ9 10 (some 36) (fun K hK=>?_);go_simp;refine (jq H hg HL2.o root key (key + 1)).mono ?_;rw [HQQ.o];rintro e w3 ⟨hb,A9,cap,rfl,-⟩;have HL3:=Hi (HL2.o.carry H hb);have HB3:=Hi (HB2.o.trans (hb.mono HB2.o.size));have hS2:=And.intro (hS.1.carry hb) (hS.2.carry hb);refine hK.out _ _ hS2 ?_;clear hK K hb hS HL2 HB2;have hS:=hS2;clear hS2;refine xA9 11 25 (.tuple #[.slice A9 ([]:List (Int × ByteArray)).length cap,.nilIface]) hS ?_;refine xA9 12 37 (.slice A9 ([]:List (Int × ByteArray)).length cap) hS ?_;refine xA9 13 38 (.nilIface) hS ?_;refine xA9 14 8 (.slice A9 ([]:List (Int × ByteArray)).length cap) hS ?_;refine xA9 15 9 (.nilIface) hS ?_;refine wpAnyH_done (by kernel_rfl) ?_ _;go_wp2_with fail
    go_ret2
    exact ⟨zP.shrink H HL3.o HKL.o.1 HLO.o,zh.of_below HB3.o HTH.o,rfl⟩
   | cons y l =>
    have HRD:=hI (xL n S root key = R) HRQ.o.symm;clear HRQ;refine xA9 0 26 (.pointer (some ⟨b,0,none⟩)) hS ?_;refine xA9 1 27 (.pointer (some ⟨b,0,none⟩)) hS ?_;refine xA9 2 28 (.pointer (some ⟨b,0,none⟩)) hS ?_;refine xG9 3 29 (.pointer (some ⟨P,0,none⟩)) rfl (.inl ⟨by rfl,fun _ h=>by have c0:=h.1.cell; go_simp⟩) hS ?_;refine xA9 4 30 (.int .i64 root) hS ?_;refine xA9 5 31 (.pointer (some ⟨p,0,none⟩)) hS ?_;refine xG9 6 32 (.int .i64 key) rfl (.inl ⟨by rfl,fun _ h=>by have c0:=h.2.1; go_simp⟩) hS ?_;refine xA9 7 33 (.pointer (some ⟨p,0,none⟩)) hS ?_;refine xG9 8 34 (.int .i64 key) rfl (.inl ⟨by rfl,fun _ h=>by have c0:=h.2.1; go_simp⟩) hS ?_;refine xA9 9 35 (.int .i64 (key + 1)) hS ?_;refine xJ9 10 (some 36) (fun K hK=>?_);go_simp;refine (jq H hg HL2.o root key (key + 1)).mono ?_;rw [HQQ.o];rintro e w3 ⟨hb,A9,cap,rfl,-⟩;have HL3:=Hi (HL2.o.carry H hb);have HB3:=Hi (HB2.o.trans (hb.mono HB2.o.size));have hS2:=And.intro (hS.1.carry hb) (hS.2.carry hb);refine hK.out _ _ hS2 ?_;clear hK K hb hS HL2 HB2;have hS:=hS2;clear hS2;refine xA9 11 25 (.tuple #[.slice A9 (y :: l).length cap,.nilIface]) hS ?_;refine xA9 12 37 (.slice A9 (y :: l).length cap) hS ?_;refine xA9 13 38 (.nilIface) hS ?_;refine xA9 14 8 (.slice A9 (y :: l).length cap) hS ?_;refine xA9 15 9 (.nilIface) hS ?_;refine wpAnyH_done (by kernel_rfl) ?_ _;obtain ⟨m,HMM⟩:=hY (l.length);rw [List.length_cons,<- HMM.o];go_upto_region 6 with (fail)
    refine wp_region_held (S:=fun w9=>yV w9 b P /\ Yv w9 p key val) (by kernel_rfl) ?_;change wpAnyH _ _ _ _ _ _ _ _ w3.drew;obtain ⟨wc,HWC⟩:=hY (w3.drew);rw [<- HWC.o];have HB2:=hI (Below w.1.size w wc) (by rw [HWC.o]; exact HB3.o.drew);have hS3:yV wc b P /\ Yv wc p key val:=by rw [HWC.o]; exact ⟨hS.1.carry (Below.refl _ _).drew,hS.2.carry (Below.refl _ _).drew⟩
    have HL2:=hI (zP O w0 L wc P D n S firm) (by rw [HWC.o]; exact HL3.o.carry H (Below.refl _ _).drew);clear HWC hS HL3 HB3;have hS:=hS3;clear hS3;obtain ⟨r,S2⟩:=R;cases r with
    | error c =>
     refine xA9 0 48 (.pointer (some ⟨b,0,none⟩)) hS ?_;refine xA9 1 49 (.pointer (some ⟨b,0,none⟩)) hS ?_;refine xA9 2 50 (.pointer (some ⟨b,0,none⟩)) hS ?_;refine xG9 3 51 (.pointer (some ⟨P,0,none⟩)) rfl (.inl ⟨by rfl,fun _ h=>by have c0:=h.1.cell; go_simp⟩) hS ?_;refine xA9 4 52 (.int .i64 root) hS ?_;refine xA9 5 53 (.pointer (some ⟨p,0,none⟩)) hS ?_;refine xG9 6 54 (.int .i64 key) rfl (.inl ⟨by rfl,fun _ h=>by have c0:=h.2.1; go_simp⟩) hS ?_;refine xJ9 7 (some 55) (fun K hK=>?_);go_simp;refine (Xw H HL2.o hg HSS.o root key).mono ?_;rw [HRD.o];rintro e w5 ⟨h1,h2,h3⟩;have HA:=Hi (zP.shrink H h1 HKL.o.1 HLO.o);have HK:=Hi ((zh.of_below HB2.o HTH.o).trans (h2.less8 HKL.o.1));have hS2:=And.intro (hS.1.kept h2 HKL.o.2.2) (hS.2.kept h2 HKL.o.2.1);obtain ⟨hc,v,rfl,hv9⟩:=h3;have HV:=Hi (zi.mono hv9 HB2.o.size);have HCC:=Hi hc;clear hc hv9;refine hK.out _ _ hS2 ?_;clear hK K h1 h2 hS;have hS:=hS2;clear hS2;refine xA9 8 56 (.int .i64 0) hS ?_;refine xA9 9 57 (v) hS ?_;refine xA9 10 6 (.int .i64 0) hS ?_;refine xA9 11 7 (v) hS ?_;refine wpAnyH_done (by kernel_rfl) ?_ _;go_wp2_with fail
     go_ret2
     exact ⟨HA.o,HK.o,HCC.o,0,v,rfl,HV.o⟩
    | ok k9 =>
     refine xA9 0 48 (.pointer (some ⟨b,0,none⟩)) hS ?_;refine xA9 1 49 (.pointer (some ⟨b,0,none⟩)) hS ?_;refine xA9 2 50 (.pointer (some ⟨b,0,none⟩)) hS ?_;refine xG9 3 51 (.pointer (some ⟨P,0,none⟩)) rfl (.inl ⟨by rfl,fun _ h=>by have c0:=h.1.cell; go_simp⟩) hS ?_;refine xA9 4 52 (.int .i64 root) hS ?_;refine xA9 5 53 (.pointer (some ⟨p,0,none⟩)) hS ?_;refine xG9 6 54 (.int .i64 key) rfl (.inl ⟨by rfl,fun _ h=>by have c0:=h.2.1; go_simp⟩) hS ?_;refine xJ9 7 (some 55) (fun K hK=>?_);go_simp;refine (Xw H HL2.o hg HSS.o root key).mono ?_;rw [HRD.o];rintro e w5 ⟨h1,h2,h3⟩;have HA:=Hi (zP.shrink H h1 HKL.o.1 HLO.o);have HK:=Hi ((zh.of_below HB2.o HTH.o).trans (h2.less8 HKL.o.1));have hS2:=And.intro (hS.1.kept h2 HKL.o.2.2) (hS.2.kept h2 HKL.o.2.1);obtain rfl:=h3;refine hK.out _ _ hS2 ?_;clear hK K h1 h2 hS;have hS:=hS2;clear hS2;refine xA9 8 56 (.int .i64 k9) hS ?_;refine xA9 9 57 (.nilIface) hS ?_;refine xA9 10 6 (.int .i64 k9) hS ?_;refine xA9 11 7 (.nilIface) hS ?_;refine wpAnyH_done (by kernel_rfl) ?_ _;go_wp2_with fail
     go_ret2
     exact ⟨HA.o,HK.o,rfl⟩
 ·have he:val.toList.isEmpty = false:=by rw [hem]; simp [hv0]
  clear hem;have HR2:=hI (yY n S root key val = R) (by rw [<- HRR.o]; unfold Zj; rw [if_pos hv0]);clear HRR;go_upto_region 2 with (fail)
  refine wp_region_held (S:=fun w9=>yV w9 b P /\ Yv w9 p key val) (by kernel_rfl) ?_;change wpAnyH _ _ _ _ _ _ _ _ w1.drew;obtain ⟨wa,HWA⟩:=hY (w1.drew);rw [<- HWA.o];have HB2:=hI (Below w.1.size w wa) (by rw [HWA.o]; exact HB1.o.drew);have hS:yV wa b P /\ Yv wa p key val:=by rw [HWA.o]; exact ⟨HD1.o.carry (Below.refl _ _).drew,HC1.o.carry (Below.refl _ _).drew⟩
  have HL2:=hI (zP O w0 L wa P D n S firm) (by rw [HWA.o]; exact HL1.o.carry H (Below.refl _ _).drew);clear HWA HL1 HC1 HD1;obtain ⟨r,S2⟩:=R;cases r with
  | error c =>
   refine xA9 0 13 (.pointer (some ⟨b,0,none⟩)) hS ?_;refine xA9 1 14 (.pointer (some ⟨b,0,none⟩)) hS ?_;refine xA9 2 15 (.pointer (some ⟨b,0,none⟩)) hS ?_;refine xG9 3 16 (.pointer (some ⟨P,0,none⟩)) rfl (.inl ⟨by rfl,fun _ h=>by have c0:=h.1.cell; go_simp⟩) hS ?_;refine xA9 4 17 (.int .i64 root) hS ?_;refine xA9 5 18 (.pointer (some ⟨p,0,none⟩)) hS ?_;refine xG9 6 19 (.int .i64 key) rfl (.inl ⟨by rfl,fun _ h=>by have c0:=h.2.1; go_simp⟩) hS ?_;refine xA9 7 20 (.pointer (some ⟨p,1,none⟩)) hS ?_;refine xG9 8 21 (.string val) rfl (.inl ⟨by rfl,fun _ h=>by have c0:=h.2.2; go_simp⟩) hS ?_;refine xJ9 9 (some 22) (fun K hK=>?_);go_simp;refine (QG H HL2.o hg HSS.o root (key:=key) (by omega) (val:=val) (by unfold maxLen; omega)).mono ?_;rw [HR2.o];rintro e w3 ⟨h1,h2,h3⟩;have HA:=Hi (zP.shrink H h1 HKL.o.1 HLO.o);have HK:=Hi ((zh.of_below HB2.o HTH.o).trans (h2.less8 HKL.o.1));have hS2:=And.intro (hS.1.kept h2 HKL.o.2.2) (hS.2.kept h2 HKL.o.2.1);obtain ⟨hc,v,rfl,hv9⟩:=h3;have HV:=Hi (zi.mono hv9 HB2.o.size);have HCC:=Hi hc;clear hc hv9;refine hK.out _ _ hS2 ?_;clear hK h1 h2 hS;have hS:=hS2;clear hS2;refine xA9 10 23 (.int .i64 0) hS ?_;refine xA9 11 24 (v) hS ?_;refine xA9 12 6 (.int .i64 0) hS ?_;refine xA9 13 7 (v) hS ?_;refine wpAnyH_done (by kernel_rfl) ?_ _;go_wp2_with fail
   go_ret2
   exact ⟨HA.o,HK.o,HCC.o,0,v,rfl,HV.o⟩
  | ok k9 =>
   refine xA9 0 13 (.pointer (some ⟨b,0,none⟩)) hS ?_;refine xA9 1 14 (.pointer (some ⟨b,0,none⟩)) hS ?_;refine xA9 2 15 (.pointer (some ⟨b,0,none⟩)) hS ?_;refine xG9 3 16 (.pointer (some ⟨P,0,none⟩)) rfl (.inl ⟨by rfl,fun _ h=>by have c0:=h.1.cell; go_simp⟩) hS ?_;refine xA9 4 17 (.int .i64 root) hS ?_;refine xA9 5 18 (.pointer (some ⟨p,0,none⟩)) hS ?_;refine xG9 6 19 (.int .i64 key) rfl (.inl ⟨by rfl,fun _ h=>by have c0:=h.2.1; go_simp⟩) hS ?_;refine xA9 7 20 (.pointer (some ⟨p,1,none⟩)) hS ?_;refine xG9 8 21 (.string val) rfl (.inl ⟨by rfl,fun _ h=>by have c0:=h.2.2; go_simp⟩) hS ?_;refine xJ9 9 (some 22) (fun K hK=>?_);go_simp;refine (QG H HL2.o hg HSS.o root (key:=key) (by omega) (val:=val) (by unfold maxLen; omega)).mono ?_;rw [HR2.o];rintro e w3 ⟨h1,h2,h3⟩;have HA:=Hi (zP.shrink H h1 HKL.o.1 HLO.o);have HK:=Hi ((zh.of_below HB2.o HTH.o).trans (h2.less8 HKL.o.1));have hS2:=And.intro (hS.1.kept h2 HKL.o.2.2) (hS.2.kept h2 HKL.o.2.1);obtain rfl:=h3;refine hK.out _ _ hS2 ?_;clear hK h1 h2 hS;have hS:=hS2;clear hS2;refine xA9 10 23 (.int .i64 k9) hS ?_;refine xA9 11 24 (.nilIface) hS ?_;refine xA9 12 6 (.int .i64 k9) hS ?_;refine xA9 13 7 (.nilIface) hS ?_;refine wpAnyH_done (by kernel_rfl) ?_ _;go_wp2_with fail
   go_ret2
   exact ⟨HA.o,HK.o,rfl⟩
end
end
section
open Go.RowKit Bits
def JE (ps:List Pr) (c:Pr):List Pr:=if c.2.size ≠ 0 then vE ps c.1 c.2 else qh ps c.1
def zae (ps:List Pr) (cs:List Pr):List Pr:=cs.foldl JE ps
def zdq (r:Except Int Int × TS) (f:Int -> TS -> Except Int Int × TS):Except Int Int × TS :=
 match r with
 | (.error e,S)=>(.error e,S)
 | (.ok k,S)=>f k S
theorem zdr (r:Except Int Int × TS):(zdq r fun k S=>(.ok k,S)) = r:=by
 rcases r with ⟨e | k,S⟩ <;> rfl
def xQ (n:Nat) (S:TS) (root:Int):List Pr -> Except Int Int × TS
 | []=>(.ok root,S)
 | c :: r=>zdq (Zj n S root c.1 c.2) fun k S'=>xQ n S' k r
theorem Va (n:Nat):∀ (cs:List Pr) (S:TS) (root:Int) (c:Pr),xQ n S root (cs ++ [c]) = zdq (xQ n S root cs) fun k S'=>Zj n S' k c.1 c.2
 | [],S,root,c=>zdr _
 | a :: r,S,root,c=>by
  rw [List.cons_append,xQ,xQ];rcases h:Zj n S root a.1 a.2 with ⟨e | k,S'⟩
  ·rfl
  ·exact Va n r S' k c
theorem Kq (ps:List Pr) (key:Int):(qh ps key).length <= ps.length:=List.length_filter_le _ _
theorem YY (ps:List Pr) (c:Pr):(JE ps c).length <= ps.length + 1:=by
 unfold JE;split
 ·exact Y3.1
 ·have:=Kq ps c.1; omega
theorem zbT {ps:List Pr} {key:Int}:ki ps key (key + 1) = [] ↔ ∀ p ∈ ps,p.1 ≠ key:=by
 unfold ki;rw [List.filter_eq_nil_iff];constructor
 ·intro h p hp e;have:=h p hp;simp at this;omega
 ·intro h p hp;have:=h p hp;simp;omega
section
variable {n:Nat} {S S':TS} {firm:Nat -> List UInt8} {X:Sb} {ps0 ps ps':List Pr} {qs0 qs qs':List Int} {r r':Int} {m k:Nat}
theorem BtM.more (h:BtM n S firm X ps0 qs0 r ps qs m):BtM n S firm X ps0 qs0 r ps qs (m + 1):=⟨h.ok,h.sup,h.com,h.all,h.rt,h.nodup,h.used,h.only,by have:=h.soft; omega⟩
end
theorem YU (ps:List Pr) (cs:List Pr):(zae ps cs).length <= ps.length + cs.length:=by
 induction cs generalizing ps with
 | nil=>exact ze3 _
 | cons c r ih =>
  have h1:=ih (JE ps c);have h2:=YY ps c;simp only [zae,List.foldl_cons,List.length_cons] at *;omega
end
end Go.Proofs.YtafclmbecmgbnaaGreatDoor
set_option maxRecDepth 100000
namespace Go.Proofs.YtafclmbecmgbnaaGreatDoor
open Go.RowKit
def V6 (O:zV) (w0:World) (K:Nat -> Prop) (w:World) (D n:Nat) (S:TS) (firm:Nat -> List UInt8) (e:Ending) (w':World):Prop :=
 ∃ P,e = .returned (.tuple #[ptr P,.nilIface]) /\ zP O w0 K w' P D n S firm /\ zh K w w'
def V3 (O:zV) (w0:World) (K:Nat -> Prop) (w:World) (D n:Nat) (S:TS) (firm:Nat -> List UInt8) (z:Int) (e:Ending) (w':World):Prop :=
 zh K w w' /\ ((z = 0 /\ ∃ b P,e = .returned (.tuple #[ptr b,.nilIface]) /\ yV w' b P /\ w.1.size <= b /\ zP O w0 K w' P D n S firm) \/
   (z ≠ 0 /\ ∃ v,e = .returned (.tuple #[.pointer none,v]) /\ zi w' w.1.size z v))
section
variable {O:zV} (H:ye O)
include H
theorem KC {w0:World} {K:Nat -> Prop} {w:World} {D n:Nat} {S:TS} {firm:Nat -> List UInt8} (hg:yC w0) (ht:zZ K w) (ho:Calls Tryz.prog 27 #[ptr D] w (V6 O w0 K w D n S firm)) {s:Sv} (h:Svd S S.s.sup.root s) :
  Calls Tryz.prog 43 #[ptr D] w (V3 O w0 K w D n S firm (wholeZ S s)):=by
 have HO:=Hi ho;have HT:=Hi ht;have HS:=Hi h;clear ho ht h;obtain ⟨z,HZ⟩:∃ z,Hid (wholeZ S s = z):=⟨_,Hi (rfl)⟩
 rw [HZ.o]
 go_enter Tryz.func43,Tryz.ntmps43
 go_wp2_with fail;refine HO.o.mono ?_;rintro e w1 ⟨P,rfl,hl,hk⟩;have HL:=Hi hl;have HK:=Hi hk;clear hl hk;dsimp only;go_wp2_with fail;refine (Kk H HL.o hg HS.o).mono ?_;rw [HZ.o];rintro e w2 ⟨v,rfl,he,hb⟩;have HL2:=Hi (HL.o.carry H hb);have HK2:=hI (zh K w w2) (HK.o.trans (zh.of_below hb fun k hk=>Nat.lt_of_lt_of_le (HT.o k hk) HK.o.size));have HE:=Hi (zi.mono he HK.o.size);clear he hb HL;dsimp only;by_cases hz:z = 0
 ·subst hz;obtain rfl:=HE.o.zero;obtain ⟨w3,HW3⟩:=hY (w2.alloc (.cells #[ptr P] 143));obtain ⟨b,HB⟩:=hY (w2.1.size);have HLD:=hI (yV w3 b P) (by rw [HW3.o,HB.o]; exact heap_alloc_new w2 _);have HB2:=hI (Below w2.1.size w2 w3) (by rw [HW3.o]; exact (Below.refl _ _).alloc (Nat.le_refl _) _);have HLE:=hI (w.1.size <= b) (by rw [HB.o]; exact HK2.o.size);go_wp2_with fail
  go_ret2
  rw [<- HB.o,<- HW3.o];exact ⟨HK2.o.trans (zh.of_below HB2.o fun k hk=>Nat.lt_of_lt_of_le (HT.o k hk) HK2.o.size),.inl ⟨rfl,b,P,rfl,HLD.o,HLE.o,HL2.o.carry H HB2.o⟩⟩
 ·obtain ⟨ty,x,rfl⟩:=HE.o.some hz;have HNZ:=Hi hz;clear hz;go_wp2_with fail;refine (yi _ w.1.size z _ w2 HE.o HK2.o.size).mono ?_;rintro e w3 ⟨v2,rfl,he,hb⟩;have HE3:=Hi he;have HK3:=hI (zh K w w3) (HK2.o.trans (zh.of_below hb fun k hk=>Nat.lt_of_lt_of_le (HT.o k hk) HK2.o.size));clear he hb;dsimp only;go_wp2_with fail
  go_ret2
  exact ⟨HK3.o,.inr ⟨HNZ.o,v2,rfl,HE3.o⟩⟩
end
