/-
  Lda: several texts in one file. Conditions: as each part says.
-/
import Derived.Test.YtafclmbecmgbnaaGreatDoorTrTopRange
import Derived.Test.YtafclmbecmgbnaaGreatDoorChkSurS
import Derived.Shelf.SlIterI.Nil
import Derived.Shelf.SortM.Plain
import Derived.Shelf.SortM.SortNone
import Derived.Ground.GgzProg
import Derived.Ground.SlgmProg
import Derived.Test.YtafclmbecmgbnaaGreatDoorTrTopDel
import Derived.Test.YtafclmbecmgbnaaGreatDoorBtMath
/-
 LedBasic. Conditions: as each theorem says.
-/
set_option maxRecDepth 100000
open Nat renaming le_refl -> zdH
open List renaming length_cons -> zdO
namespace Go.Proofs.YtafclmbecmgbnaaGreatDoor
section
open Go.RowKit
theorem vi (n : Int) (hn : n ≠ 0) (w : World) : Calls Tryz.prog 85 #[.int .i64 n] w (yN n w.1.size w) := by
 go_enter Tryz.func85, Tryz.ntmps85
 go_wp2_with fail;refine (ym _ w.1.size n _ w (.inr ⟨hn, .base⟩) (zdH _)).mono ?_;rintro e w' ⟨v, rfl, he, hb⟩;go_wp2_with fail
 go_ret
 exact ⟨v, rfl, he, hb⟩
def yv (k : Int) (n : Nat) : Prop := 0 <= k /\ k <= 4294967295 /\ (n = 0 \/ n = 12)
instance (k : Int) (n : Nat) : Decidable (yv k n) := by unfold yv; infer_instance
theorem Ym (k : Int) (s : ByteArray) (w : World) : Calls Tryz.prog 86 #[.agg #[.int .i64 k, .string s]] w fun e w' => e = .returned (.bool (decide (yv k s.size))) /\ Below w.1.size w w' := by
 obtain ⟨z, HZ⟩ : ∃ z, Hid (z = decide (yv k s.size)) := Hy;rw [<- HZ.o];have hem : s.toList.isEmpty = decide (s.size = 0) := by
  rw [Bool.eq_iff_iff, List.isEmpty_iff, decide_eq_true_eq, ByteArray.toList_eq];constructor
  ·intro h; have := congrArg List.length h; simpa using this
  ·intro h; exact List.eq_nil_of_length_eq_zero (by rw [Array.length_toList]; exact h)
 go_enter Tryz.func86, Tryz.ntmps86
 by_cases h0 : s.size = 0
 ·have he : s.toList.isEmpty = true := by rw [hem]; simp [h0]
  clear hem;go_wp2_with fail
  all_goals
   go_ret
   refine ⟨?_, (Below.refl _ _).alloc (zdH _) _⟩
   first
    | (rw [HZ.o, decide_eq_true (show yv k s.size by unfold yv; omega)]; rfl)
    | (rw [HZ.o, decide_eq_false (show ¬ yv k s.size by unfold yv; omega)]; rfl)
 ·have he : s.toList.isEmpty = false := by rw [hem]; simp [h0]
  clear hem;by_cases h12 : s.size = 12
  ·have h13 : ((s.size : Int) == 12) = true := by rw [beq_iff_eq]; omega
   go_wp2_with fail
   all_goals
    go_ret
    refine ⟨?_, (Below.refl _ _).alloc (zdH _) _⟩
    first
     | (rw [HZ.o, decide_eq_true (show yv k s.size by unfold yv; omega)]; rfl)
     | (rw [HZ.o, decide_eq_false (show ¬ yv k s.size by unfold yv; omega)]; rfl)
  ·have h13 : ((s.size : Int) == 12) = false := by rw [beq_eq_false_iff_ne]; omega
   go_wp2_with fail
   all_goals
    go_ret
    refine ⟨?_, (Below.refl _ _).alloc (zdH _) _⟩
    first
     | (rw [HZ.o, decide_eq_true (show yv k s.size by unfold yv; omega)]; rfl)
     | (rw [HZ.o, decide_eq_false (show ¬ yv k s.size by unfold yv; omega)]; rfl)
def xp (w : World) (b P : Nat) : Prop := w.1[b]? = some (.cells #[ptr P] 143 (0, 0))
theorem xp.cell {w : World} {b P : Nat} (h : xp w b P) : w.cell? ⟨b, 0, none⟩ = some (ptr P) := by simp [World.cell?, show w.1[b]? = _ from h]
theorem xp.lt {w : World} {b P : Nat} (h : xp w b P) : b < w.1.size := (Array.getElem?_eq_some_iff.1 h).1
theorem xp.carry {w w' : World} {b P : Nat} (h : xp w b P) (hb : Below w.1.size w w') : xp w' b P := (hb.block b h.lt).trans h
section
variable {O : yq} (H : yA O)
include H
end
end
section
open Go.RowKit
section
variable {O : yq} (H : yA O)
include H
theorem ZO {w0 : World} {P D n b : Nat} {S : TS} {firm : Nat -> List UInt8} (hg : yO w0) {K : Nat -> Prop} {w : World} (hl : zX O w0 K w P D n S firm) (hd : xp w b P) (from_ to_ : Int) :
  Calls Tryz.prog 44 #[ptr b, .int .i64 from_, .int .i64 to_] w (Wx w (xM S S.s.sup.root from_ to_)) := by
 have HL := Hi hl;have HD := Hi hd;clear hl hd
 go_enter Tryz.func44, Tryz.ntmps44
 go_upto_region 3 with (fail)
 refine wp_region_held (S := fun w9 => xp w9 b P /\ zX O w0 K w9 P D n S firm) (by kernel_rfl) ?_;change wpAnyH _ _ _ _ _ _ _ _ w.drew;obtain ⟨wa, HWA⟩ : ∃ wa, Hid (wa = w.drew) := Hy;rw [<- HWA.o];have HB0 : Hid (Below w.1.size w wa) := Hi (by rw [HWA.o]; exact (Below.refl _ _).drew);have hS : xp wa b P /\ zX O w0 K wa P D n S firm := ⟨HD.o.carry HB0.o, HL.o.carry H HB0.o⟩
 clear HWA HL HD;obtain ⟨R, HRR⟩ : ∃ R, Hid (xM S S.s.sup.root from_ to_ = R) := ⟨_, Hi (rfl)⟩
 rw [HRR.o];cases R with
 | error c =>
  refine za (i := 0) 14 (v := .pointer (some ⟨b, 0, none⟩)) rfl rfl hS ?_;simp only [Act.put, pU];refine za (i := 1) 15 (v := .pointer (some ⟨b, 0, none⟩)) rfl rfl hS ?_;simp only [Act.put, pU];refine za (i := 2) 16 (v := .pointer (some ⟨b, 0, none⟩)) rfl rfl hS ?_;simp only [Act.put, pU];refine zy (i := 3) 17 (v := .pointer (some ⟨P, 0, none⟩)) rfl rfl (.inl ⟨by rfl, fun _ h => by have c0 := h.1.cell; go_simp⟩) hS ?_;simp only [Act.put, pU];refine za (i := 4) 18 (v := .pointer (some ⟨b, 0, none⟩)) rfl rfl hS ?_;simp only [Act.put, pU];refine za (i := 5) 19 (v := .pointer (some ⟨b, 0, none⟩)) rfl rfl hS ?_;simp only [Act.put, pU];refine za (i := 6) 20 (v := .pointer (some ⟨b, 0, none⟩)) rfl rfl hS ?_;simp only [Act.put, pU];refine zy (i := 7) 21 (v := .pointer (some ⟨P, 0, none⟩)) rfl rfl (.inl ⟨by rfl, fun _ h => by have c0 := h.1.cell; go_simp⟩) hS ?_;simp only [Act.put, pU];refine za (i := 9) 23 (v := .int .i64 from_) rfl rfl hS ?_;simp only [Act.put, pU];refine za (i := 10) 24 (v := .int .i64 to_) rfl rfl hS ?_;simp only [Act.put, pU];refine zN (i := 8) (oi := ⟨some 22, _, _, _, _, _⟩) rfl (by kernel_rfl) (fun K hK => ?_);go_simp;refine (H.pgRoot hS.2.pg).mono ?_;rintro e wn ⟨rfl, hb⟩;have HBA := Hi (HB0.o.trans (hb.mono HB0.o.size));have hS2 := And.intro (hS.1.carry hb) (hS.2.carry H hb);refine hK.out _ _ hS2 ?_;clear hK K hb hS HB0;have hS := hS2;clear hS2;have HB0 := HBA;clear HBA;refine zN (i := 11) (oi := ⟨some 25, _, _, _, _, _⟩) rfl (by kernel_rfl) (fun K hK => ?_);go_simp;refine (jh H hg hS.2 S.s.sup.root from_ to_).mono ?_;rw [HRR.o];rintro e wn ⟨hb, hc, v, rfl, he⟩;have HC := Hi hc;have HE := Hi (zi.mono he HB0.o.size);clear hc he;have HBA := Hi (HB0.o.trans (hb.mono HB0.o.size));have hS2 := And.intro (hS.1.carry hb) (hS.2.carry H hb);refine hK.out _ _ hS2 ?_;clear hK K hb hS HB0;have hS := hS2;clear hS2;have HB0 := HBA;clear HBA;refine za (i := 12) 13 (v := .tuple #[.slice none 0 0, v]) rfl rfl hS ?_;simp only [Act.put, pU];refine za (i := 13) 26 (v := .slice none 0 0) rfl rfl hS ?_;simp only [Act.put, pU];refine za (i := 14) 27 (v := v) rfl rfl hS ?_;simp only [Act.put, pU];refine za (i := 15) 8 (v := .slice none 0 0) rfl rfl hS ?_;simp only [Act.put, pU];refine za (i := 16) 9 (v := v) rfl rfl hS ?_;simp only [Act.put, pU];refine wpAnyH_done (by kernel_rfl) ?_ _;go_wp2_with fail;refine (ym _ w.1.size c v _ HE.o HB0.o.size).mono ?_;rintro e w2 ⟨v2, rfl, he, hb⟩;have HE2 := Hi he;have HB2 := Hi (HB0.o.trans (hb.mono HB0.o.size));clear he hb;dsimp only;go_wp2_with fail
  go_ret2
  refine ⟨HB2.o, ?_⟩;rw [HRR.o];exact ⟨HC.o, v2, rfl, HE2.o⟩
 | ok l =>
  refine za (i := 0) 14 (v := .pointer (some ⟨b, 0, none⟩)) rfl rfl hS ?_;simp only [Act.put, pU];refine za (i := 1) 15 (v := .pointer (some ⟨b, 0, none⟩)) rfl rfl hS ?_;simp only [Act.put, pU];refine za (i := 2) 16 (v := .pointer (some ⟨b, 0, none⟩)) rfl rfl hS ?_;simp only [Act.put, pU];refine zy (i := 3) 17 (v := .pointer (some ⟨P, 0, none⟩)) rfl rfl (.inl ⟨by rfl, fun _ h => by have c0 := h.1.cell; go_simp⟩) hS ?_;simp only [Act.put, pU];refine za (i := 4) 18 (v := .pointer (some ⟨b, 0, none⟩)) rfl rfl hS ?_;simp only [Act.put, pU];refine za (i := 5) 19 (v := .pointer (some ⟨b, 0, none⟩)) rfl rfl hS ?_;simp only [Act.put, pU];refine za (i := 6) 20 (v := .pointer (some ⟨b, 0, none⟩)) rfl rfl hS ?_;simp only [Act.put, pU];refine zy (i := 7) 21 (v := .pointer (some ⟨P, 0, none⟩)) rfl rfl (.inl ⟨by rfl, fun _ h => by have c0 := h.1.cell; go_simp⟩) hS ?_;simp only [Act.put, pU];refine za (i := 9) 23 (v := .int .i64 from_) rfl rfl hS ?_;simp only [Act.put, pU];refine za (i := 10) 24 (v := .int .i64 to_) rfl rfl hS ?_;simp only [Act.put, pU];refine zN (i := 8) (oi := ⟨some 22, _, _, _, _, _⟩) rfl (by kernel_rfl) (fun K hK => ?_);go_simp;refine (H.pgRoot hS.2.pg).mono ?_;rintro e wn ⟨rfl, hb⟩;have HBA := Hi (HB0.o.trans (hb.mono HB0.o.size));have hS2 := And.intro (hS.1.carry hb) (hS.2.carry H hb);refine hK.out _ _ hS2 ?_;clear hK K hb hS HB0;have hS := hS2;clear hS2;have HB0 := HBA;clear HBA;refine zN (i := 11) (oi := ⟨some 25, _, _, _, _, _⟩) rfl (by kernel_rfl) (fun K hK => ?_);go_simp;refine (jh H hg hS.2 S.s.sup.root from_ to_).mono ?_;rw [HRR.o];rintro e wn ⟨hb, A9, cap, rfl, hrow⟩;have HROW := Hi (yJ hrow HB0.o.size);clear hrow;have HBA := Hi (HB0.o.trans (hb.mono HB0.o.size));have hS2 := And.intro (hS.1.carry hb) (hS.2.carry H hb);refine hK.out _ _ hS2 ?_;clear hK K hb hS HB0;have hS := hS2;clear hS2;have HB0 := HBA;clear HBA;refine za (i := 12) 13 (v := .tuple #[.slice A9 l.length cap, .nilIface]) rfl rfl hS ?_;simp only [Act.put, pU];refine za (i := 13) 26 (v := .slice A9 l.length cap) rfl rfl hS ?_;simp only [Act.put, pU];refine za (i := 14) 27 (v := .nilIface) rfl rfl hS ?_;simp only [Act.put, pU];refine za (i := 15) 8 (v := .slice A9 l.length cap) rfl rfl hS ?_;simp only [Act.put, pU];refine za (i := 16) 9 (v := .nilIface) rfl rfl hS ?_;simp only [Act.put, pU];refine wpAnyH_done (by kernel_rfl) ?_ _;go_wp2_with fail;refine (ym _ w.1.size 0 .nilIface _ (zi.nil _ _) HB0.o.size).mono ?_;rintro e w2 ⟨v2, rfl, he, hb⟩;obtain rfl := he.zero;have HB2 := Hi (HB0.o.trans (hb.mono HB0.o.size));have HO2 := Hi hb;clear he hb;dsimp only;go_wp2_with fail
  go_ret2
  refine ⟨HB2.o, ?_⟩;rw [HRR.o];exact ⟨A9, cap, rfl, zD HROW.o fun g hg => HO2.o.block g (HROW.o.lt g hg).2⟩
theorem Jd {w0 : World} {P D n b : Nat} {S : TS} {firm : Nat -> List UInt8} (hg : yO w0) {K : Nat -> Prop} {w : World} (hl : zX O w0 K w P D n S firm) (hd : xp w b P) (key : Int) :
  Calls Tryz.prog 49 #[ptr b, .int .i64 key] w (vH w (xB S S.s.sup.root key)) := by
 have HL := Hi hl;have HD := Hi hd;clear hl hd
 go_enter Tryz.func49, Tryz.ntmps49
 go_upto_region 3 with (fail)
 refine wp_region_held (S := fun w9 => xp w9 b P /\ zX O w0 K w9 P D n S firm) (by kernel_rfl) ?_;change wpAnyH _ _ _ _ _ _ _ _ w.drew;obtain ⟨wa, HWA⟩ : ∃ wa, Hid (wa = w.drew) := Hy;rw [<- HWA.o];have HB0 : Hid (Below w.1.size w wa) := Hi (by rw [HWA.o]; exact (Below.refl _ _).drew);have hS : xp wa b P /\ zX O w0 K wa P D n S firm := ⟨HD.o.carry HB0.o, HL.o.carry H HB0.o⟩
 clear HWA HL HD;obtain ⟨R, HRR⟩ : ∃ R, Hid (xB S S.s.sup.root key = R) := ⟨_, Hi (rfl)⟩
 rw [HRR.o];cases R with
 | error c =>
  refine za (i := 0) 12 (v := .pointer (some ⟨b, 0, none⟩)) rfl rfl hS ?_;simp only [Act.put, pU];refine za (i := 1) 13 (v := .pointer (some ⟨b, 0, none⟩)) rfl rfl hS ?_;simp only [Act.put, pU];refine za (i := 2) 14 (v := .pointer (some ⟨b, 0, none⟩)) rfl rfl hS ?_;simp only [Act.put, pU];refine zy (i := 3) 15 (v := .pointer (some ⟨P, 0, none⟩)) rfl rfl (.inl ⟨by rfl, fun _ h => by have c0 := h.1.cell; go_simp⟩) hS ?_;simp only [Act.put, pU];refine za (i := 4) 16 (v := .pointer (some ⟨b, 0, none⟩)) rfl rfl hS ?_;simp only [Act.put, pU];refine za (i := 5) 17 (v := .pointer (some ⟨b, 0, none⟩)) rfl rfl hS ?_;simp only [Act.put, pU];refine za (i := 6) 18 (v := .pointer (some ⟨b, 0, none⟩)) rfl rfl hS ?_;simp only [Act.put, pU];refine zy (i := 7) 19 (v := .pointer (some ⟨P, 0, none⟩)) rfl rfl (.inl ⟨by rfl, fun _ h => by have c0 := h.1.cell; go_simp⟩) hS ?_;simp only [Act.put, pU];refine za (i := 9) 21 (v := .int .i64 key) rfl rfl hS ?_;simp only [Act.put, pU];refine zN (i := 8) (oi := ⟨some 20, _, _, _, _, _⟩) rfl (by kernel_rfl) (fun K hK => ?_);go_simp;refine (H.pgRoot hS.2.pg).mono ?_;rintro e wn ⟨rfl, hb⟩;have HBA := Hi (HB0.o.trans (hb.mono HB0.o.size));have hS2 := And.intro (hS.1.carry hb) (hS.2.carry H hb);refine hK.out _ _ hS2 ?_;clear hK K hb hS HB0;have hS := hS2;clear hS2;have HB0 := HBA;clear HBA;refine zN (i := 10) (oi := ⟨some 22, _, _, _, _, _⟩) rfl (by kernel_rfl) (fun K hK => ?_);go_simp;refine (WT H hg hS.2 S.s.sup.root key).mono ?_;rw [HRR.o];rintro e wn ⟨hc, v, rfl, he, hb⟩;have HC := Hi hc;have HE := Hi (zi.mono he HB0.o.size);clear hc he;have HBA := Hi (HB0.o.trans (hb.mono HB0.o.size));have hS2 := And.intro (hS.1.carry hb) (hS.2.carry H hb);refine hK.out _ _ hS2 ?_;clear hK K hb hS HB0;have hS := hS2;clear hS2;have HB0 := HBA;clear HBA;refine za (i := 11) 11 (v := .tuple #[.string ⟨#[]⟩, v]) rfl rfl hS ?_;simp only [Act.put, pU];refine za (i := 12) 23 (v := .string ⟨#[]⟩) rfl rfl hS ?_;simp only [Act.put, pU];refine za (i := 13) 24 (v := v) rfl rfl hS ?_;simp only [Act.put, pU];refine za (i := 14) 6 (v := .string ⟨#[]⟩) rfl rfl hS ?_;simp only [Act.put, pU];refine za (i := 15) 7 (v := v) rfl rfl hS ?_;simp only [Act.put, pU];refine wpAnyH_done (by kernel_rfl) ?_ _;go_wp2_with fail;refine (ym _ w.1.size c v _ HE.o HB0.o.size).mono ?_;rintro e w2 ⟨v2, rfl, he, hb⟩;have HE2 := Hi he;have HB2 := Hi (HB0.o.trans (hb.mono HB0.o.size));clear he hb;dsimp only;go_wp2_with fail
  go_ret2
  rw [HRR.o];exact ⟨HC.o, v2, rfl, HE2.o, HB2.o⟩
 | ok x =>
  refine za (i := 0) 12 (v := .pointer (some ⟨b, 0, none⟩)) rfl rfl hS ?_;simp only [Act.put, pU];refine za (i := 1) 13 (v := .pointer (some ⟨b, 0, none⟩)) rfl rfl hS ?_;simp only [Act.put, pU];refine za (i := 2) 14 (v := .pointer (some ⟨b, 0, none⟩)) rfl rfl hS ?_;simp only [Act.put, pU];refine zy (i := 3) 15 (v := .pointer (some ⟨P, 0, none⟩)) rfl rfl (.inl ⟨by rfl, fun _ h => by have c0 := h.1.cell; go_simp⟩) hS ?_;simp only [Act.put, pU];refine za (i := 4) 16 (v := .pointer (some ⟨b, 0, none⟩)) rfl rfl hS ?_;simp only [Act.put, pU];refine za (i := 5) 17 (v := .pointer (some ⟨b, 0, none⟩)) rfl rfl hS ?_;simp only [Act.put, pU];refine za (i := 6) 18 (v := .pointer (some ⟨b, 0, none⟩)) rfl rfl hS ?_;simp only [Act.put, pU];refine zy (i := 7) 19 (v := .pointer (some ⟨P, 0, none⟩)) rfl rfl (.inl ⟨by rfl, fun _ h => by have c0 := h.1.cell; go_simp⟩) hS ?_;simp only [Act.put, pU];refine za (i := 9) 21 (v := .int .i64 key) rfl rfl hS ?_;simp only [Act.put, pU];refine zN (i := 8) (oi := ⟨some 20, _, _, _, _, _⟩) rfl (by kernel_rfl) (fun K hK => ?_);go_simp;refine (H.pgRoot hS.2.pg).mono ?_;rintro e wn ⟨rfl, hb⟩;have HBA := Hi (HB0.o.trans (hb.mono HB0.o.size));have hS2 := And.intro (hS.1.carry hb) (hS.2.carry H hb);refine hK.out _ _ hS2 ?_;clear hK K hb hS HB0;have hS := hS2;clear hS2;have HB0 := HBA;clear HBA;refine zN (i := 10) (oi := ⟨some 22, _, _, _, _, _⟩) rfl (by kernel_rfl) (fun K hK => ?_);go_simp;refine (WT H hg hS.2 S.s.sup.root key).mono ?_;rw [HRR.o];rintro e wn ⟨rfl, hb⟩;have HBA := Hi (HB0.o.trans (hb.mono HB0.o.size));have hS2 := And.intro (hS.1.carry hb) (hS.2.carry H hb);refine hK.out _ _ hS2 ?_;clear hK K hb hS HB0;have hS := hS2;clear hS2;have HB0 := HBA;clear HBA;refine za (i := 11) 11 (v := .tuple #[.string x, .nilIface]) rfl rfl hS ?_;simp only [Act.put, pU];refine za (i := 12) 23 (v := .string x) rfl rfl hS ?_;simp only [Act.put, pU];refine za (i := 13) 24 (v := .nilIface) rfl rfl hS ?_;simp only [Act.put, pU];refine za (i := 14) 6 (v := .string x) rfl rfl hS ?_;simp only [Act.put, pU];refine za (i := 15) 7 (v := .nilIface) rfl rfl hS ?_;simp only [Act.put, pU];refine wpAnyH_done (by kernel_rfl) ?_ _;go_wp2_with fail;refine (ym _ w.1.size 0 .nilIface _ (zi.nil _ _) HB0.o.size).mono ?_;rintro e w2 ⟨v2, rfl, he, hb⟩;obtain rfl := he.zero;have HB2 := Hi (HB0.o.trans (hb.mono HB0.o.size));clear he hb;dsimp only;go_wp2_with fail
  go_ret2
  rw [HRR.o];exact ⟨rfl, HB2.o⟩
end
end
section
open Go.RowKit
def zdt (n : Nat) (S : TS) (root key : Int) : Except Int (List (Int × ByteArray)) -> Except Int Int × TS
 | .error c => (.error c, S)
 | .ok [] => (.ok root, S)
 | .ok (_ :: _) => xO n S root key
def Ye (n : Nat) (S : TS) (root key : Int) (val : ByteArray) : Except Int Int × TS :=
 if val.size ≠ 0 then xb n S root key val else zdt n S root key (xM S root key (key + 1))
def zbT (O : yq) (w0 : World) (K : Nat -> Prop) (w : World) (P D n : Nat) (firm : Nat -> List UInt8) (r : Except Int Int × TS) (e : Ending) (w' : World) : Prop :=
 zX O w0 K w' P D n r.2 firm /\ zg K w w' /\ match r.1 with
 | .error c => c ≠ 0 /\ ∃ k v, e = .returned (.tuple #[.int .i64 k, v]) /\ zi w' w.1.size c v
 | .ok k => e = .returned (.tuple #[.int .i64 k, .nilIface])
def Ya (w : World) (p : Nat) (key : Int) (val : ByteArray) : Prop := w.cell? ⟨p, 0, none⟩ = some (.int .i64 key) /\ w.cell? ⟨p, 1, none⟩ = some (.string val)
theorem Ya.carry {w w' : World} {p : Nat} {key : Int} {val : ByteArray} (h : Ya w p key val) (hb : Below w.1.size w w') : Ya w' p key val :=
 ⟨(hb.cell (p := ⟨p, 0, none⟩) (zm h.1)).trans h.1, (hb.cell (p := ⟨p, 1, none⟩) (zm h.2)).trans h.2⟩
theorem Ya.kept {K : Nat -> Prop} {w w' : World} {p : Nat} {key : Int} {val : ByteArray} (h : Ya w p key val) (hk : zg K w w') (hp : K p) : Ya w' p key val := ⟨(hk.cell (p := ⟨p, 0, none⟩) hp).trans h.1, (hk.cell (p := ⟨p, 1, none⟩) hp).trans h.2⟩
theorem xp.kept {K : Nat -> Prop} {w w' : World} {b P : Nat} (h : xp w b P) (hk : zg K w w') (hb : K b) : xp w' b P := (hk.block b hb).trans h
section
variable {O : yq} (H : yA O)
include H
theorem zX.shrink {w0 : World} {K L : Nat -> Prop} {w : World} {P D n : Nat} {S : TS} {firm : Nat -> List UInt8} (h : zX O w0 L w P D n S firm) (hKL : ∀ k, K k -> L k) (hlow : ∀ k, k < w0.1.size -> K k) : zX O w0 K w P D n S firm :=
 ⟨H.pgMore h.pg (Below.refl _ _) (fun k hk => .inl (hKL k hk)) (fun k hk => h.there k (hKL k hk)), h.inv, h.up, h.below, hlow⟩
theorem Wh {w0 : World} {K : Nat -> Prop} {w : World} {b P D n : Nat} {S : TS} {firm : Nat -> List UInt8} (hl : zX O w0 K w P D n S firm) (hg : yO w0) (hs : S.d.soft.length <= 99900) (hd : xp w b P) (hKb : K b) (root : Int) {key : Int} (hk : 0 <= key /\ key <= 4294967295) {val : ByteArray} (hv : val.size <= 12) :
  Calls Tryz.prog 87 #[ptr b, .int .i64 root, .agg #[.int .i64 key, .string val]] w (zbT O w0 K w P D n firm (Ye n S root key val)) := by
 obtain ⟨R, HRR⟩ : ∃ R, Hid (Ye n S root key val = R) := ⟨_, Hi (rfl)⟩
 rw [HRR.o];obtain ⟨w1, HW1⟩ : ∃ w1, Hid (w1 = w.alloc (.cells #[.int .i64 key, .string val] 93)) := Hy;obtain ⟨p, HP⟩ : ∃ p, Hid (p = w.1.size) := Hy;have HB1 : Hid (Below w.1.size w w1) := Hi (by rw [HW1.o]; exact (Below.refl _ _).alloc (zdH _) _);have HC1 : Hid (Ya w1 p key val) := Hi (by rw [HW1.o, HP.o]; exact ⟨by simp, by simp⟩);have HLO : Hid (∀ k, k < w0.1.size -> K k) := Hi hl.low;obtain ⟨L, HLL⟩ : ∃ L : Nat -> Prop, Hid (L = fun k => K k \/ (w.1.size <= k /\ k < w1.1.size)) := Hy;have HL1 : Hid (zX O w0 L w1 P D n S firm) := Hi (by rw [HLL.o]; exact hl.grow H HB1.o);have HKL : Hid ((∀ k, K k -> L k) /\ L p /\ L b) := Hi (by rw [HLL.o]; exact ⟨fun k hk => .inl hk, .inr ⟨by rw [HP.o]; exact zdH _, zm HC1.o.1⟩, .inl hKb⟩);have HD1 : Hid (xp w1 b P) := Hi (hd.carry HB1.o);have HTH : Hid (yd K w) := Hi hl.there;have HSS := Hi hs;have hem : val.toList.isEmpty = decide (val.size = 0) := by
  rw [Bool.eq_iff_iff, List.isEmpty_iff, decide_eq_true_eq, ByteArray.toList_eq];constructor
  ·intro h; have := congrArg List.length h; simpa using this
  ·intro h; exact List.eq_nil_of_length_eq_zero (by rw [Array.length_toList]; exact h)
 clear hl hd hs
 go_enter Tryz.func87, Tryz.ntmps87
 go_upto_region 1 with (fail)
 rw [<- HP.o, <- HW1.o];clear HP HW1;have c1 := HC1.o.2;by_cases hv0 : val.size = 0
 ·have he : val.toList.isEmpty = true := by rw [hem]; simp [hv0]
  clear hem;obtain ⟨Q, HQQ⟩ : ∃ Q, Hid (xM S root key (key + 1) = Q) := ⟨_, Hi (rfl)⟩
  have HRQ : Hid (R = zdt n S root key Q) := Hi (by rw [<- HRR.o, <- HQQ.o]; unfold Ye; rw [if_neg (by omega)]);clear HRR;go_upto_region 3 with (fail)
  refine wp_region_held (S := fun w9 => xp w9 b P /\ Ya w9 p key val) (by kernel_rfl) ?_;change wpAnyH _ _ _ _ _ _ _ _ w1.drew;obtain ⟨wa, HWA⟩ : ∃ wa, Hid (wa = w1.drew) := Hy;rw [<- HWA.o];have HB2 : Hid (Below w.1.size w wa) := Hi (by rw [HWA.o]; exact HB1.o.drew);have hS : xp wa b P /\ Ya wa p key val := by rw [HWA.o]; exact ⟨HD1.o.carry (Below.refl _ _).drew, HC1.o.carry (Below.refl _ _).drew⟩
  have HL2 : Hid (zX O w0 L wa P D n S firm) := Hi (by rw [HWA.o]; exact HL1.o.carry H (Below.refl _ _).drew);clear HWA HL1 HC1 HD1;have hkb : IntKind.i64.wrap (key + 1) = key + 1 := by rw [IntKind.wrap_i64]; omega
  cases Q with
  | error c =>
   obtain rfl : R = (.error c, S) := HRQ.o;refine za (i := 0) 26 (v := .pointer (some ⟨b, 0, none⟩)) rfl rfl hS ?_;simp only [Act.put, pU];refine za (i := 1) 27 (v := .pointer (some ⟨b, 0, none⟩)) rfl rfl hS ?_;simp only [Act.put, pU];refine za (i := 2) 28 (v := .pointer (some ⟨b, 0, none⟩)) rfl rfl hS ?_;simp only [Act.put, pU];refine zy (i := 3) 29 (v := .pointer (some ⟨P, 0, none⟩)) rfl rfl (.inl ⟨by rfl, fun _ h => by have c0 := h.1.cell; go_simp⟩) hS ?_;simp only [Act.put, pU];refine za (i := 4) 30 (v := .int .i64 root) rfl rfl hS ?_;simp only [Act.put, pU];refine za (i := 5) 31 (v := .pointer (some ⟨p, 0, none⟩)) rfl rfl hS ?_;simp only [Act.put, pU];refine zy (i := 6) 32 (v := .int .i64 key) rfl rfl (.inl ⟨by rfl, fun _ h => by have c0 := h.2.1; go_simp⟩) hS ?_;simp only [Act.put, pU];refine za (i := 7) 33 (v := .pointer (some ⟨p, 0, none⟩)) rfl rfl hS ?_;simp only [Act.put, pU];refine zy (i := 8) 34 (v := .int .i64 key) rfl rfl (.inl ⟨by rfl, fun _ h => by have c0 := h.2.1; go_simp⟩) hS ?_;simp only [Act.put, pU];refine za (i := 9) 35 (v := .int .i64 (key + 1)) rfl rfl hS ?_;simp only [Act.put, pU];refine zN (i := 10) (oi := ⟨some 36, _, _, _, _, _⟩) rfl (by kernel_rfl) (fun K hK => ?_);go_simp;refine (jh H hg HL2.o root key (key + 1)).mono ?_;rw [HQQ.o];rintro e w3 ⟨hb, hc, v, rfl, he⟩;have HV := Hi (zi.mono he HB2.o.size);have HCC := Hi hc;clear hc he;have HL3 := Hi (HL2.o.carry H hb);have HB3 := Hi (HB2.o.trans (hb.mono HB2.o.size));have hS2 := And.intro (hS.1.carry hb) (hS.2.carry hb);refine hK.out _ _ hS2 ?_;clear hK K hb hS HL2 HB2;have hS := hS2;clear hS2;refine za (i := 11) 25 (v := .tuple #[.slice none 0 0, v]) rfl rfl hS ?_;simp only [Act.put, pU];refine za (i := 12) 37 (v := .slice none 0 0) rfl rfl hS ?_;simp only [Act.put, pU];refine za (i := 13) 38 (v := v) rfl rfl hS ?_;simp only [Act.put, pU];refine za (i := 14) 8 (v := .slice none 0 0) rfl rfl hS ?_;simp only [Act.put, pU];refine za (i := 15) 9 (v := v) rfl rfl hS ?_;simp only [Act.put, pU];refine wpAnyH_done (by kernel_rfl) ?_ _;obtain ⟨ty, x, rfl⟩ := HV.o.some HCC.o;go_wp2_with fail
   go_ret2
   exact ⟨zX.shrink H HL3.o HKL.o.1 HLO.o, zg.of_below HB3.o HTH.o, HCC.o, root, _, rfl, HV.o⟩
  | ok l =>
   cases l with
   | nil =>
    obtain rfl : R = (.ok root, S) := HRQ.o;refine za (i := 0) 26 (v := .pointer (some ⟨b, 0, none⟩)) rfl rfl hS ?_;simp only [Act.put, pU];refine za (i := 1) 27 (v := .pointer (some ⟨b, 0, none⟩)) rfl rfl hS ?_;simp only [Act.put, pU];refine za (i := 2) 28 (v := .pointer (some ⟨b, 0, none⟩)) rfl rfl hS ?_;simp only [Act.put, pU];refine zy (i := 3) 29 (v := .pointer (some ⟨P, 0, none⟩)) rfl rfl (.inl ⟨by rfl, fun _ h => by have c0 := h.1.cell; go_simp⟩) hS ?_;simp only [Act.put, pU];refine za (i := 4) 30 (v := .int .i64 root) rfl rfl hS ?_;simp only [Act.put, pU];refine za (i := 5) 31 (v := .pointer (some ⟨p, 0, none⟩)) rfl rfl hS ?_;simp only [Act.put, pU];refine zy (i := 6) 32 (v := .int .i64 key) rfl rfl (.inl ⟨by rfl, fun _ h => by have c0 := h.2.1; go_simp⟩) hS ?_;simp only [Act.put, pU];refine za (i := 7) 33 (v := .pointer (some ⟨p, 0, none⟩)) rfl rfl hS ?_;simp only [Act.put, pU];refine zy (i := 8) 34 (v := .int .i64 key) rfl rfl (.inl ⟨by rfl, fun _ h => by have c0 := h.2.1; go_simp⟩) hS ?_;simp only [Act.put, pU];refine za (i := 9) 35 (v := .int .i64 (key + 1)) rfl rfl hS ?_;simp only [Act.put, pU];refine zN (i := 10) (oi := ⟨some 36, _, _, _, _, _⟩) rfl (by kernel_rfl) (fun K hK => ?_);go_simp;refine (jh H hg HL2.o root key (key + 1)).mono ?_;rw [HQQ.o];rintro e w3 ⟨hb, A9, cap, rfl, -⟩;have HL3 := Hi (HL2.o.carry H hb);have HB3 := Hi (HB2.o.trans (hb.mono HB2.o.size));have hS2 := And.intro (hS.1.carry hb) (hS.2.carry hb);refine hK.out _ _ hS2 ?_;clear hK K hb hS HL2 HB2;have hS := hS2;clear hS2;refine za (i := 11) 25 (v := .tuple #[.slice A9 ([] : List (Int × ByteArray)).length cap, .nilIface]) rfl rfl hS ?_;simp only [Act.put, pU];refine za (i := 12) 37 (v := .slice A9 ([] : List (Int × ByteArray)).length cap) rfl rfl hS ?_;simp only [Act.put, pU];refine za (i := 13) 38 (v := .nilIface) rfl rfl hS ?_;simp only [Act.put, pU];refine za (i := 14) 8 (v := .slice A9 ([] : List (Int × ByteArray)).length cap) rfl rfl hS ?_;simp only [Act.put, pU];refine za (i := 15) 9 (v := .nilIface) rfl rfl hS ?_;simp only [Act.put, pU];refine wpAnyH_done (by kernel_rfl) ?_ _;go_wp2_with fail
    go_ret2
    exact ⟨zX.shrink H HL3.o HKL.o.1 HLO.o, zg.of_below HB3.o HTH.o, rfl⟩
   | cons y l =>
    have HRD : Hid (xO n S root key = R) := Hi HRQ.o.symm;clear HRQ;refine za (i := 0) 26 (v := .pointer (some ⟨b, 0, none⟩)) rfl rfl hS ?_;simp only [Act.put, pU];refine za (i := 1) 27 (v := .pointer (some ⟨b, 0, none⟩)) rfl rfl hS ?_;simp only [Act.put, pU];refine za (i := 2) 28 (v := .pointer (some ⟨b, 0, none⟩)) rfl rfl hS ?_;simp only [Act.put, pU];refine zy (i := 3) 29 (v := .pointer (some ⟨P, 0, none⟩)) rfl rfl (.inl ⟨by rfl, fun _ h => by have c0 := h.1.cell; go_simp⟩) hS ?_;simp only [Act.put, pU];refine za (i := 4) 30 (v := .int .i64 root) rfl rfl hS ?_;simp only [Act.put, pU];refine za (i := 5) 31 (v := .pointer (some ⟨p, 0, none⟩)) rfl rfl hS ?_;simp only [Act.put, pU];refine zy (i := 6) 32 (v := .int .i64 key) rfl rfl (.inl ⟨by rfl, fun _ h => by have c0 := h.2.1; go_simp⟩) hS ?_;simp only [Act.put, pU];refine za (i := 7) 33 (v := .pointer (some ⟨p, 0, none⟩)) rfl rfl hS ?_;simp only [Act.put, pU];refine zy (i := 8) 34 (v := .int .i64 key) rfl rfl (.inl ⟨by rfl, fun _ h => by have c0 := h.2.1; go_simp⟩) hS ?_;simp only [Act.put, pU];refine za (i := 9) 35 (v := .int .i64 (key + 1)) rfl rfl hS ?_;simp only [Act.put, pU];refine zN (i := 10) (oi := ⟨some 36, _, _, _, _, _⟩) rfl (by kernel_rfl) (fun K hK => ?_);go_simp;refine (jh H hg HL2.o root key (key + 1)).mono ?_;rw [HQQ.o];rintro e w3 ⟨hb, A9, cap, rfl, -⟩;have HL3 := Hi (HL2.o.carry H hb);have HB3 := Hi (HB2.o.trans (hb.mono HB2.o.size));have hS2 := And.intro (hS.1.carry hb) (hS.2.carry hb);refine hK.out _ _ hS2 ?_;clear hK K hb hS HL2 HB2;have hS := hS2;clear hS2;refine za (i := 11) 25 (v := .tuple #[.slice A9 (y :: l).length cap, .nilIface]) rfl rfl hS ?_;simp only [Act.put, pU];refine za (i := 12) 37 (v := .slice A9 (y :: l).length cap) rfl rfl hS ?_;simp only [Act.put, pU];refine za (i := 13) 38 (v := .nilIface) rfl rfl hS ?_;simp only [Act.put, pU];refine za (i := 14) 8 (v := .slice A9 (y :: l).length cap) rfl rfl hS ?_;simp only [Act.put, pU];refine za (i := 15) 9 (v := .nilIface) rfl rfl hS ?_;simp only [Act.put, pU];refine wpAnyH_done (by kernel_rfl) ?_ _;obtain ⟨m, HMM⟩ : ∃ m, Hid (m = l.length) := Hy;rw [zdO, <- HMM.o];go_upto_region 6 with (fail)
    refine wp_region_held (S := fun w9 => xp w9 b P /\ Ya w9 p key val) (by kernel_rfl) ?_;change wpAnyH _ _ _ _ _ _ _ _ w3.drew;obtain ⟨wc, HWC⟩ : ∃ wc, Hid (wc = w3.drew) := Hy;rw [<- HWC.o];have HB2 : Hid (Below w.1.size w wc) := Hi (by rw [HWC.o]; exact HB3.o.drew);have hS3 : xp wc b P /\ Ya wc p key val := by rw [HWC.o]; exact ⟨hS.1.carry (Below.refl _ _).drew, hS.2.carry (Below.refl _ _).drew⟩
    have HL2 : Hid (zX O w0 L wc P D n S firm) := Hi (by rw [HWC.o]; exact HL3.o.carry H (Below.refl _ _).drew);clear HWC hS HL3 HB3;have hS := hS3;clear hS3;obtain ⟨r, S2⟩ := R;cases r with
    | error c =>
     refine za (i := 0) 48 (v := .pointer (some ⟨b, 0, none⟩)) rfl rfl hS ?_;simp only [Act.put, pU];refine za (i := 1) 49 (v := .pointer (some ⟨b, 0, none⟩)) rfl rfl hS ?_;simp only [Act.put, pU];refine za (i := 2) 50 (v := .pointer (some ⟨b, 0, none⟩)) rfl rfl hS ?_;simp only [Act.put, pU];refine zy (i := 3) 51 (v := .pointer (some ⟨P, 0, none⟩)) rfl rfl (.inl ⟨by rfl, fun _ h => by have c0 := h.1.cell; go_simp⟩) hS ?_;simp only [Act.put, pU];refine za (i := 4) 52 (v := .int .i64 root) rfl rfl hS ?_;simp only [Act.put, pU];refine za (i := 5) 53 (v := .pointer (some ⟨p, 0, none⟩)) rfl rfl hS ?_;simp only [Act.put, pU];refine zy (i := 6) 54 (v := .int .i64 key) rfl rfl (.inl ⟨by rfl, fun _ h => by have c0 := h.2.1; go_simp⟩) hS ?_;simp only [Act.put, pU];refine zN (i := 7) (oi := ⟨some 55, _, _, _, _, _⟩) rfl (by kernel_rfl) (fun K hK => ?_);go_simp;refine (Y9 H HL2.o hg HSS.o root key).mono ?_;rw [HRD.o];rintro e w5 ⟨h1, h2, h3⟩;have HA := Hi (zX.shrink H h1 HKL.o.1 HLO.o);have HK := Hi ((zg.of_below HB2.o HTH.o).trans (h2.less8 HKL.o.1));have hS2 := And.intro (hS.1.kept h2 HKL.o.2.2) (hS.2.kept h2 HKL.o.2.1);obtain ⟨hc, v, rfl, hv9⟩ := h3;have HV := Hi (zi.mono hv9 HB2.o.size);have HCC := Hi hc;clear hc hv9;refine hK.out _ _ hS2 ?_;clear hK K h1 h2 hS;have hS := hS2;clear hS2;refine za (i := 8) 56 (v := .int .i64 0) rfl rfl hS ?_;simp only [Act.put, pU];refine za (i := 9) 57 (v := v) rfl rfl hS ?_;simp only [Act.put, pU];refine za (i := 10) 6 (v := .int .i64 0) rfl rfl hS ?_;simp only [Act.put, pU];refine za (i := 11) 7 (v := v) rfl rfl hS ?_;simp only [Act.put, pU];refine wpAnyH_done (by kernel_rfl) ?_ _;go_wp2_with fail
     go_ret2
     exact ⟨HA.o, HK.o, HCC.o, 0, v, rfl, HV.o⟩
    | ok k9 =>
     refine za (i := 0) 48 (v := .pointer (some ⟨b, 0, none⟩)) rfl rfl hS ?_;simp only [Act.put, pU];refine za (i := 1) 49 (v := .pointer (some ⟨b, 0, none⟩)) rfl rfl hS ?_;simp only [Act.put, pU];refine za (i := 2) 50 (v := .pointer (some ⟨b, 0, none⟩)) rfl rfl hS ?_;simp only [Act.put, pU];refine zy (i := 3) 51 (v := .pointer (some ⟨P, 0, none⟩)) rfl rfl (.inl ⟨by rfl, fun _ h => by have c0 := h.1.cell; go_simp⟩) hS ?_;simp only [Act.put, pU];refine za (i := 4) 52 (v := .int .i64 root) rfl rfl hS ?_;simp only [Act.put, pU];refine za (i := 5) 53 (v := .pointer (some ⟨p, 0, none⟩)) rfl rfl hS ?_;simp only [Act.put, pU];refine zy (i := 6) 54 (v := .int .i64 key) rfl rfl (.inl ⟨by rfl, fun _ h => by have c0 := h.2.1; go_simp⟩) hS ?_;simp only [Act.put, pU];refine zN (i := 7) (oi := ⟨some 55, _, _, _, _, _⟩) rfl (by kernel_rfl) (fun K hK => ?_);go_simp;refine (Y9 H HL2.o hg HSS.o root key).mono ?_;rw [HRD.o];rintro e w5 ⟨h1, h2, h3⟩;have HA := Hi (zX.shrink H h1 HKL.o.1 HLO.o);have HK := Hi ((zg.of_below HB2.o HTH.o).trans (h2.less8 HKL.o.1));have hS2 := And.intro (hS.1.kept h2 HKL.o.2.2) (hS.2.kept h2 HKL.o.2.1);obtain rfl := h3;refine hK.out _ _ hS2 ?_;clear hK K h1 h2 hS;have hS := hS2;clear hS2;refine za (i := 8) 56 (v := .int .i64 k9) rfl rfl hS ?_;simp only [Act.put, pU];refine za (i := 9) 57 (v := .nilIface) rfl rfl hS ?_;simp only [Act.put, pU];refine za (i := 10) 6 (v := .int .i64 k9) rfl rfl hS ?_;simp only [Act.put, pU];refine za (i := 11) 7 (v := .nilIface) rfl rfl hS ?_;simp only [Act.put, pU];refine wpAnyH_done (by kernel_rfl) ?_ _;go_wp2_with fail
     go_ret2
     exact ⟨HA.o, HK.o, rfl⟩
 ·have he : val.toList.isEmpty = false := by rw [hem]; simp [hv0]
  clear hem;have HR2 : Hid (xb n S root key val = R) := Hi (by rw [<- HRR.o]; unfold Ye; rw [if_pos hv0]);clear HRR;go_upto_region 2 with (fail)
  refine wp_region_held (S := fun w9 => xp w9 b P /\ Ya w9 p key val) (by kernel_rfl) ?_;change wpAnyH _ _ _ _ _ _ _ _ w1.drew;obtain ⟨wa, HWA⟩ : ∃ wa, Hid (wa = w1.drew) := Hy;rw [<- HWA.o];have HB2 : Hid (Below w.1.size w wa) := Hi (by rw [HWA.o]; exact HB1.o.drew);have hS : xp wa b P /\ Ya wa p key val := by rw [HWA.o]; exact ⟨HD1.o.carry (Below.refl _ _).drew, HC1.o.carry (Below.refl _ _).drew⟩
  have HL2 : Hid (zX O w0 L wa P D n S firm) := Hi (by rw [HWA.o]; exact HL1.o.carry H (Below.refl _ _).drew);clear HWA HL1 HC1 HD1;obtain ⟨r, S2⟩ := R;cases r with
  | error c =>
   refine za (i := 0) 13 (v := .pointer (some ⟨b, 0, none⟩)) rfl rfl hS ?_;simp only [Act.put, pU];refine za (i := 1) 14 (v := .pointer (some ⟨b, 0, none⟩)) rfl rfl hS ?_;simp only [Act.put, pU];refine za (i := 2) 15 (v := .pointer (some ⟨b, 0, none⟩)) rfl rfl hS ?_;simp only [Act.put, pU];refine zy (i := 3) 16 (v := .pointer (some ⟨P, 0, none⟩)) rfl rfl (.inl ⟨by rfl, fun _ h => by have c0 := h.1.cell; go_simp⟩) hS ?_;simp only [Act.put, pU];refine za (i := 4) 17 (v := .int .i64 root) rfl rfl hS ?_;simp only [Act.put, pU];refine za (i := 5) 18 (v := .pointer (some ⟨p, 0, none⟩)) rfl rfl hS ?_;simp only [Act.put, pU];refine zy (i := 6) 19 (v := .int .i64 key) rfl rfl (.inl ⟨by rfl, fun _ h => by have c0 := h.2.1; go_simp⟩) hS ?_;simp only [Act.put, pU];refine za (i := 7) 20 (v := .pointer (some ⟨p, 1, none⟩)) rfl rfl hS ?_;simp only [Act.put, pU];refine zy (i := 8) 21 (v := .string val) rfl rfl (.inl ⟨by rfl, fun _ h => by have c0 := h.2.2; go_simp⟩) hS ?_;simp only [Act.put, pU];refine zN (i := 9) (oi := ⟨some 22, _, _, _, _, _⟩) rfl (by kernel_rfl) (fun K hK => ?_);go_simp;refine (JK H HL2.o hg HSS.o root (key := key) (by omega) (val := val) (by unfold maxLen; omega)).mono ?_;rw [HR2.o];rintro e w3 ⟨h1, h2, h3⟩;have HA := Hi (zX.shrink H h1 HKL.o.1 HLO.o);have HK := Hi ((zg.of_below HB2.o HTH.o).trans (h2.less8 HKL.o.1));have hS2 := And.intro (hS.1.kept h2 HKL.o.2.2) (hS.2.kept h2 HKL.o.2.1);obtain ⟨hc, v, rfl, hv9⟩ := h3;have HV := Hi (zi.mono hv9 HB2.o.size);have HCC := Hi hc;clear hc hv9;refine hK.out _ _ hS2 ?_;clear hK h1 h2 hS;have hS := hS2;clear hS2;refine za (i := 10) 23 (v := .int .i64 0) rfl rfl hS ?_;simp only [Act.put, pU];refine za (i := 11) 24 (v := v) rfl rfl hS ?_;simp only [Act.put, pU];refine za (i := 12) 6 (v := .int .i64 0) rfl rfl hS ?_;simp only [Act.put, pU];refine za (i := 13) 7 (v := v) rfl rfl hS ?_;simp only [Act.put, pU];refine wpAnyH_done (by kernel_rfl) ?_ _;go_wp2_with fail
   go_ret2
   exact ⟨HA.o, HK.o, HCC.o, 0, v, rfl, HV.o⟩
  | ok k9 =>
   refine za (i := 0) 13 (v := .pointer (some ⟨b, 0, none⟩)) rfl rfl hS ?_;simp only [Act.put, pU];refine za (i := 1) 14 (v := .pointer (some ⟨b, 0, none⟩)) rfl rfl hS ?_;simp only [Act.put, pU];refine za (i := 2) 15 (v := .pointer (some ⟨b, 0, none⟩)) rfl rfl hS ?_;simp only [Act.put, pU];refine zy (i := 3) 16 (v := .pointer (some ⟨P, 0, none⟩)) rfl rfl (.inl ⟨by rfl, fun _ h => by have c0 := h.1.cell; go_simp⟩) hS ?_;simp only [Act.put, pU];refine za (i := 4) 17 (v := .int .i64 root) rfl rfl hS ?_;simp only [Act.put, pU];refine za (i := 5) 18 (v := .pointer (some ⟨p, 0, none⟩)) rfl rfl hS ?_;simp only [Act.put, pU];refine zy (i := 6) 19 (v := .int .i64 key) rfl rfl (.inl ⟨by rfl, fun _ h => by have c0 := h.2.1; go_simp⟩) hS ?_;simp only [Act.put, pU];refine za (i := 7) 20 (v := .pointer (some ⟨p, 1, none⟩)) rfl rfl hS ?_;simp only [Act.put, pU];refine zy (i := 8) 21 (v := .string val) rfl rfl (.inl ⟨by rfl, fun _ h => by have c0 := h.2.2; go_simp⟩) hS ?_;simp only [Act.put, pU];refine zN (i := 9) (oi := ⟨some 22, _, _, _, _, _⟩) rfl (by kernel_rfl) (fun K hK => ?_);go_simp;refine (JK H HL2.o hg HSS.o root (key := key) (by omega) (val := val) (by unfold maxLen; omega)).mono ?_;rw [HR2.o];rintro e w3 ⟨h1, h2, h3⟩;have HA := Hi (zX.shrink H h1 HKL.o.1 HLO.o);have HK := Hi ((zg.of_below HB2.o HTH.o).trans (h2.less8 HKL.o.1));have hS2 := And.intro (hS.1.kept h2 HKL.o.2.2) (hS.2.kept h2 HKL.o.2.1);obtain rfl := h3;refine hK.out _ _ hS2 ?_;clear hK h1 h2 hS;have hS := hS2;clear hS2;refine za (i := 10) 23 (v := .int .i64 k9) rfl rfl hS ?_;simp only [Act.put, pU];refine za (i := 11) 24 (v := .nilIface) rfl rfl hS ?_;simp only [Act.put, pU];refine za (i := 12) 6 (v := .int .i64 k9) rfl rfl hS ?_;simp only [Act.put, pU];refine za (i := 13) 7 (v := .nilIface) rfl rfl hS ?_;simp only [Act.put, pU];refine wpAnyH_done (by kernel_rfl) ?_ _;go_wp2_with fail
   go_ret2
   exact ⟨HA.o, HK.o, rfl⟩
end
end
section
open Go.RowKit Bits
def Yd (ps : List Pr) (c : Pr) : List Pr := if c.2.size ≠ 0 then xt ps c.1 c.2 else wM ps c.1
def kR (ps : List Pr) (cs : List Pr) : List Pr := cs.foldl Yd ps
def zcb (r : Except Int Int × TS) (f : Int -> TS -> Except Int Int × TS) : Except Int Int × TS :=
 match r with
 | (.error e, S) => (.error e, S)
 | (.ok k, S) => f k S
theorem zcc (r : Except Int Int × TS) : (zcb r fun k S => (.ok k, S)) = r := by
 rcases r with ⟨e | k, S⟩ <;> rfl
def vG (n : Nat) (S : TS) (root : Int) : List Pr -> Except Int Int × TS
 | [] => (.ok root, S)
 | c :: r => zcb (Ye n S root c.1 c.2) fun k S' => vG n S' k r
theorem WO (n : Nat) : ∀ (cs : List Pr) (S : TS) (root : Int) (c : Pr), vG n S root (cs ++ [c]) = zcb (vG n S root cs) fun k S' => Ye n S' k c.1 c.2
 | [], S, root, c => zcc _
 | a :: r, S, root, c => by
  rw [List.cons_append, vG, vG];rcases h : Ye n S root a.1 a.2 with ⟨e | k, S'⟩
  ·rfl
  ·exact WO n r S' k c
theorem YB (ps : List Pr) (key : Int) : (wM ps key).length <= ps.length := List.length_filter_le _ _
theorem Yz (ps : List Pr) (c : Pr) : (Yd ps c).length <= ps.length + 1 := by
 unfold Yd;split
 ·exact kU.1
 ·have := YB ps c.1; omega
theorem zaP {ps : List Pr} {key : Int} : kq ps key (key + 1) = [] ↔ ∀ p ∈ ps, p.1 ≠ key := by
 unfold kq;rw [List.filter_eq_nil_iff];constructor
 ·intro h p hp e;have := h p hp;simp at this;omega
 ·intro h p hp;have := h p hp;simp;omega
section
variable {n : Nat} {S S' : TS} {firm : Nat -> List UInt8} {X : Sb} {ps0 ps ps' : List Pr} {qs0 qs qs' : List Int} {r r' : Int} {m k : Nat}
theorem BtM.more (h : BtM n S firm X ps0 qs0 r ps qs m) : BtM n S firm X ps0 qs0 r ps qs (m + 1) := ⟨h.ok, h.sup, h.com, h.all, h.rt, h.nodup, h.used, h.only, by have := h.soft; omega⟩
theorem BtM.change (h : BtM n S firm X ps0 qs0 r ps qs m) (hn : ps0.length + ps.length + 29 < n) (hps : ps.length <= 500) {c : Pr} (hc : yv c.1 c.2.size) :
  ∃ r' S' qs', Ye n S r c.1 c.2 = (.ok r', S') /\ BtM n S' firm X ps0 qs0 r' (Yd ps c) qs' (m + 1) := by
 obtain ⟨h1, h2, h3⟩ := hc;unfold Ye Yd;by_cases h0 : c.2.size ≠ 0
 ·rw [if_pos h0, if_pos h0];exact h.put hn hps ⟨h1, h2⟩ (by omega)
 ·rw [if_neg h0, if_neg h0, YK h.ok h.rt hps];by_cases he : kq ps c.1 (c.1 + 1) = []
  ·rw [he];refine ⟨r, S, qs, rfl, ?_⟩;rw [vC (zaP.1 he)];exact h.more
  ·obtain ⟨p, t, e⟩ := List.exists_cons_of_ne_nil he;rw [e];refine h.del (by omega) hps ⟨h1, h2⟩ ?_;have hp : p ∈ kq ps c.1 (c.1 + 1) := by rw [e]; exact List.mem_cons_self
   unfold kq at hp;rw [List.mem_filter] at hp;refine ⟨p, hp.1, ?_⟩;have := hp.2;simp at this;omega
theorem BtM.batch : ∀ (cs : List Pr) {S : TS} {r : Int} {ps : List Pr} {qs : List Int} {m : Nat}, BtM n S firm X ps0 qs0 r ps qs m -> (∀ c ∈ cs, yv c.1 c.2.size) -> ps0.length + ps.length + cs.length + 29 < n -> ps.length + cs.length <= 500 ->
  ∃ r' S' qs', vG n S r cs = (.ok r', S') /\ BtM n S' firm X ps0 qs0 r' (kR ps cs) qs' (m + cs.length)
 | [], S, r, ps, qs, m, h, _, _, _ => ⟨r, S, qs, rfl, h⟩
 | c :: cs, S, r, ps, qs, m, h, hc, hn, h5 => by
  simp only [zdO] at hn h5;obtain ⟨r1, S1, qs1, e1, h1⟩ := h.change (by omega) (by omega) (hc c List.mem_cons_self);have hl := Yz ps c;obtain ⟨r2, S2, qs2, e2, h2⟩ := BtM.batch cs h1 (fun x hx => hc x (List.mem_cons_of_mem _ hx)) (by omega) (by omega);refine ⟨r2, S2, qs2, ?_, ?_⟩
  ·rw [vG, e1];exact e2
  ·have : m + (c :: cs).length = m + 1 + cs.length := by simp only [zdO]; omega
   rw [this];exact h2
end
theorem qd (ps : List Pr) (cs : List Pr) : (kR ps cs).length <= ps.length + cs.length := by
 induction cs generalizing ps with
 | nil => exact zdH _
 | cons c r ih =>
  have h1 := ih (Yd ps c);have h2 := Yz ps c;simp only [kR, List.foldl_cons, zdO] at *;omega
end
end Go.Proofs.YtafclmbecmgbnaaGreatDoor
