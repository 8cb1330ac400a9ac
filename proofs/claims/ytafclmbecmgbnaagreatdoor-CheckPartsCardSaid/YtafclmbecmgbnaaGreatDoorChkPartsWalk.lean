/-
 ChkPartsWalk. Conditions: as each theorem says.
-/
import Derived.Test.YtafclmbecmgbnaaGreatDoorSm
import Derived.Test.YtafclmbecmgbnaaGreatDoorChkWholeWalk
import Derived.Test.YtafclmbecmgbnaaGreatDoorBtMath
import Derived.Test.YtafclmbecmgbnaaGreatDoorTrTopRange
import Derived.Test.YtafclmbecmgbnaaGreatDoorSets
namespace Go.Proofs.YtafclmbecmgbnaaGreatDoor
open Go.RowKit
structure PtS (O : PgOwn) (w : World) (B P D len : Nat) (r i : Value) (wr : World) : Prop where
 ex : ∃ (k : Nat) (S : TS) (rt : Int) (ps : List Pr) (qs : List Int), k ≤ len ∧ i = .int .i64 (k : Int) ∧ r = .int .i64 rt ∧ LawT O w (· < B) wr P D 240 S (fun _ => []) ∧ BtM 240 S (fun _ => []) (Sb.bare 1) [] [] rt ps qs k ∧ ps.length ≤ k
structure PtT (O : PgOwn) (w : World) (B P D len : Nat) (X : Sb) (firm : Nat → List UInt8) (ps0 : List Pr) (qs0 : List Int) (n i : Value) (wr : World) : Prop where
 ex : ∃ (k : Nat) (S : TS) (rt : Int) (ps : List Pr) (qs : List Int), k ≤ len ∧ i = .int .i64 (k : Int) ∧ n = .int .i64 rt ∧ LawT O w (· < B) wr P D 240 S firm ∧ BtM 240 S firm X ps0 qs0 rt ps qs (60 + k) ∧ ps.length ≤ 60 + k
section
variable {O : PgOwn} (H : PgSpec O)
include H
set_option maxRecDepth 100000 in
set_option maxHeartbeats 2000000 in
theorem chkParts_long {A A2 : Option Addr} {c c2 n1 n2 : Nat} (hl : 60 < n1 ∨ (n1 ≤ 60 ∧ 10 < n2)) (w : World) (hg : Laid2 w) :
  Calls Tryz.prog 5 #[.slice A n1 c, .slice A2 n2 c2] w fun e w' => e = .returned (.bool true) ∧ Below w.heap.size w w' := by
 have HG := Hi hg
 clear hg
 rcases hl with hl | ⟨hl, hl2⟩
 ·have hd : decide ((60 : Int) < (n1 : Int)) = true := by simp; omega
  go_enter Tryz.func5, Tryz.ntmps5
  go_wp2_with fail
  refine (awake11_any H _ HG.out).mono ?_
  rintro e w1 ⟨rfl, hb⟩
  have HB := Hi hb
  have HG1 := Hi (HG.out.carry hb)
  clear hb
  try dsimp only
  go_wp2_with fail
  refine (awake11_any H _ HG1.out).mono ?_
  rintro e w2 ⟨rfl, hb⟩
  have HB2 := Hi (HB.out.trans (hb.mono HB.out.size))
  clear hb
  try dsimp only
  go_wp2_with fail
  go_ret
  exact ⟨rfl, HB2.out⟩
 ·have hd : decide ((60 : Int) < (n1 : Int)) = false := by simp; omega
  have hd2 : decide ((10 : Int) < (n2 : Int)) = true := by simp; omega
  go_enter Tryz.func5, Tryz.ntmps5
  go_wp2_with fail
  refine (awake11_any H _ HG.out).mono ?_
  rintro e w1 ⟨rfl, hb⟩
  have HB := Hi hb
  have HG1 := Hi (HG.out.carry hb)
  clear hb
  try dsimp only
  go_wp2_with fail
  refine (awake11_any H _ HG1.out).mono ?_
  rintro e w2 ⟨rfl, hb⟩
  have HB2 := Hi (HB.out.trans (hb.mono HB.out.size))
  clear hb
  try dsimp only
  go_wp2_with fail
  go_ret
  exact ⟨rfl, HB2.out⟩
set_option maxRecDepth 100000 in
set_option maxHeartbeats 8000000 in
theorem chkParts_yes {A A2 : Option Addr} {c c2 : Nat} {l l2 : List Ka} (hl : l.length ≤ 60) (hl2 : l2.length ≤ 10) (hk : ∀ a ∈ l, a.Ok) (hk2 : ∀ a ∈ l2, a.Ok) (w : World) (ha : KasAt w A l) (ha2 : KasAt w A2 l2) (hg : Laid2 w) :
  Calls Tryz.prog 5 #[.slice A l.length c, .slice A2 l2.length c2] w fun e w' => e = .returned (.bool true) ∧ Below w.heap.size w w' := by
 have HG := Hi hg
 have HKL := Hi hk
 have HKL2 := Hi hk2
 have HA := Hi ha
 have HA2 := Hi ha2
 have HLEN := Hi hl
 have HLEN2 := Hi hl2
 have hd : decide ((60 : Int) < (l.length : Int)) = false := by simp; omega
 have hd2 : decide ((10 : Int) < (l2.length : Int)) = false := by simp; omega
 clear hg hk hk2 ha ha2 hl hl2
 go_enter Tryz.func5, Tryz.ntmps5
 go_wp2_with fail
 refine (awake11_any H _ HG.out).mono ?_
 rintro e w1 ⟨rfl, hb⟩
 have HB1 := Hi hb
 clear hb
 try dsimp only
 go_wp2_with fail
 refine (New_yes 240 (by decide) (by decide) w1).mono ?_
 rintro e w2 ⟨D, rfl, hdk, hb⟩
 have HF := Hi (Format_new H (n := 240) (by decide) (by decide) (fun _ => []) HB1.out hdk hb HG.out)
 obtain ⟨B, HBB⟩ : ∃ B, Hid (B = w1.heap.size) := Hy
 rw [← HBB.out] at HF
 have HWB : Hid (w.heap.size ≤ B) := Hi (by rw [HBB.out]; exact HB1.out.size)
 clear hdk hb hd hd2
 try dsimp only
 go_wp2_with fail
 refine HF.out.mono ?_
 rintro e w3 ⟨P, rfl, hl⟩
 have HL : Hid (LawT O w (· < B) w3 P D 240 ⟨switchD (Dk.new 240) (Sb.bare 1), Pst.opened (Sb.bare 1), fun _ => []⟩ (fun _ => [])) := Hi hl
 clear hl HF
 try dsimp only
 go_wp2_with fail
 go_loopw [9, 10] (fun r i wr => PtS O w B P D l.length r i wr) (fun _ i _ => l.length - (intOf i).toNat)
 case atStart => exact ⟨0, _, 0, [], [], Nat.zero_le _, rfl, rfl, HL.out, (WhM.start (by decide) (by decide)).begin, Nat.le_refl _⟩
 case round =>
  obtain ⟨k, S, rt, ps, qs, hk, rfl, rfl, hl, hm, hp⟩ := hrel.ex
  have HL1 := Hi hl
  have HM1 := Hi hm
  have HPL := Hi hp
  clear hrel hl hm hp HL
  by_cases hlt : k < l.length
  ·obtain ⟨cb, co, rfl, hcb, -, hk1, hk2⟩ := (HA.out.below HL1.out.below).at_ hlt
   obtain ⟨ky, HKY⟩ : ∃ ky, Hid (ky = l[k].key) := Hy
   obtain ⟨vl, HVL⟩ : ∃ vl, Hid (vl = l[k].val) := Hy
   rw [← HKY.out] at hk1
   rw [← HVL.out] at hk2
   have HK1 := Hi hk1
   have HK2 := Hi hk2
   have HCB : Hid (cb < B) := Hi (by
    obtain ⟨b9, o9, e9, h9, _⟩ := HA.out.at_ hlt
    cases e9
    have := HWB.out
    omega)
   have HKB : Hid (ky < 256) := Hi (by rw [HKY.out]; exact (HKL.out _ (List.getElem_mem hlt)).key)
   have hkl : (k : Int) < (l.length : Int) := by omega
   have hcv : IntKind.i64.wrap (ky : Int) = (ky : Int) := by rw [IntKind.wrap_i64]; have := HKB.out; omega
   have HWK : Hid (wrap64 ((k : Int) + 1) = ((k + 1 : Nat) : Int)) := Hi (by have := HLEN.out; unfold wrap64; omega)
   have HLT := Hi hlt
   have HKN : Hid (k < 60) := Hi (by have := HLEN.out; omega)
   obtain ⟨r2, S2, qs2, hpt, hm2⟩ := HM1.out.put (by have := HKN.out; have := HPL.out; show 0 + ps.length + 29 < 240; omega) (by have := HKN.out; have := HPL.out; omega) (key := (ky : Int)) (by have := HKB.out; omega) (val := valB vl) (valB_size vl)
   have HPUT := Hi hpt
   have HM2 := Hi hm2
   have HPL2 : Hid ((insP ps (ky : Int) (valB vl)).length ≤ k + 1) := Hi (by have := (insP_length (ps := ps) (key := (ky : Int)) (val := valB vl)).1; have := HPL.out; omega)
   clear hlt hk hk1 hk2 hcb hpt hm2 HKY HVL
   go_upto_region 9 with (fail)
   refine wp_region_held (S := fun w9 => w9.cell? ⟨cb, co + k * 3 + 1, none⟩ = some (.int .u8 (ky : Int)) ∧ w9.cell? ⟨cb, co + k * 3 + 2, none⟩ = some (.int .u32 (vl : Int))) (by kernel_rfl) ?_
   change wpAnyH _ _ _ _ _ _ _ _ wr.drew
   obtain ⟨wa, HWA⟩ : ∃ wa, Hid (wa = wr.drew) := Hy
   rw [← HWA.out]
   have hdr : Below wr.heap.size wr wa := by rw [HWA.out]; exact (Below.refl _ _).drew
   have hS : wa.cell? ⟨cb, co + k * 3 + 1, none⟩ = some (.int .u8 (ky : Int)) ∧ wa.cell? ⟨cb, co + k * 3 + 2, none⟩ = some (.int .u32 (vl : Int)) := ⟨(hdr.cell (p := ⟨cb, co + k * 3 + 1, none⟩) (below_block HK1.out)).trans HK1.out, (hdr.cell (p := ⟨cb, co + k * 3 + 2, none⟩) (below_block HK2.out)).trans HK2.out⟩
   have HLa : Hid (LawT O w (· < B) wa P D 240 S (fun _ => [])) := Hi (HL1.out.carry H hdr)
   clear HWA hdr HL1
   refine takeK (i := 0) 52 (v := ptr P) rfl rfl hS ?_
   simp only [Act.put, pU]
   refine takeK (i := 1) 53 (v := .int .i64 rt) rfl rfl hS ?_
   simp only [Act.put, pU]
   refine takeK (i := 2) 54 (v := .slice (some ⟨cb, co, none⟩) l.length c) rfl rfl hS ?_
   simp only [Act.put, pU]
   refine takeK (i := 3) 55 (v := .int .i64 (k : Int)) rfl rfl hS ?_
   simp only [Act.put, pU]
   refine takeK (i := 4) 56 (v := .pointer (some ⟨cb, co + k * 3, none⟩)) rfl rfl hS ?_
   simp only [Act.put, pU]
   refine takeK (i := 5) 57 (v := .pointer (some ⟨cb, co + k * 3 + 1, none⟩)) rfl rfl hS ?_
   simp only [Act.put, pU]
   refine takeJ (i := 6) 58 (v := .int .u8 (ky : Int)) rfl rfl (.inl ⟨by rfl, fun _ h => by have c0 := h.1; go_simp⟩) hS ?_
   simp only [Act.put, pU]
   refine takeK (i := 7) 59 (v := .int .i64 (ky : Int)) rfl rfl hS ?_
   simp only [Act.put, pU]
   refine takeK (i := 8) 60 (v := .slice (some ⟨cb, co, none⟩) l.length c) rfl rfl hS ?_
   simp only [Act.put, pU]
   refine takeK (i := 9) 61 (v := .int .i64 (k : Int)) rfl rfl hS ?_
   simp only [Act.put, pU]
   refine takeK (i := 10) 62 (v := .pointer (some ⟨cb, co + k * 3, none⟩)) rfl rfl hS ?_
   simp only [Act.put, pU]
   refine takeK (i := 11) 63 (v := .pointer (some ⟨cb, co + k * 3 + 2, none⟩)) rfl rfl hS ?_
   simp only [Act.put, pU]
   refine takeJ (i := 12) 64 (v := .int .u32 (vl : Int)) rfl rfl (.inl ⟨by rfl, fun _ h => by have c0 := h.2; go_simp⟩) hS ?_
   simp only [Act.put, pU]
   refine oneH (i := 13) (oi := ⟨some 65, _, _, _, _, _⟩) rfl (by kernel_rfl) (fun K0 hK => ?_)
   go_simp
   refine (Val_any vl wa).mono ?_
   rintro e wb ⟨rfl, hb⟩
   have HLb : Hid (LawT O w (· < B) wb P D 240 S (fun _ => [])) := Hi (HLa.out.carry H hb)
   have hS2 : wb.cell? ⟨cb, co + k * 3 + 1, none⟩ = some (.int .u8 (ky : Int)) ∧ wb.cell? ⟨cb, co + k * 3 + 2, none⟩ = some (.int .u32 (vl : Int)) := ⟨(hb.cell (p := ⟨cb, co + k * 3 + 1, none⟩) (below_block hS.1)).trans hS.1, (hb.cell (p := ⟨cb, co + k * 3 + 2, none⟩) (below_block hS.2)).trans hS.2⟩
   clear hb hS HLa
   refine hK.out _ _ hS2 ?_
   clear hK K0
   have hS := hS2
   clear hS2
   refine oneH (i := 14) (oi := ⟨some 66, _, _, _, _, _⟩) rfl (by kernel_rfl) (fun K0 hK => ?_)
   go_simp
   refine (Put_any H HLb.out HG.out (by have := HM1.out.soft; have := HKN.out; omega) rt (key := (ky : Int)) (by have := HKB.out; omega) (val := valB vl) (by rw [valB_size]; unfold maxLen; decide)).mono ?_
   rintro e wc ⟨hl, hkp, hm⟩
   rw [HPUT.out] at hl hm
   obtain rfl := hm
   have HLc := Hi hl
   clear hl HLb
   have hS2 : wc.cell? ⟨cb, co + k * 3 + 1, none⟩ = some (.int .u8 (ky : Int)) ∧ wc.cell? ⟨cb, co + k * 3 + 2, none⟩ = some (.int .u32 (vl : Int)) := ⟨(World.cell?_of_block (w := wb) (a := ⟨cb, co + k * 3 + 1, none⟩) (hkp.block cb HCB.out)).trans hS.1, (World.cell?_of_block (w := wb) (a := ⟨cb, co + k * 3 + 2, none⟩) (hkp.block cb HCB.out)).trans hS.2⟩
   clear hkp hS
   refine hK.out _ _ hS2 ?_
   clear hK K0
   have hS := hS2
   clear hS2
   refine takeK (i := 15) 51 (v := .tuple #[.int .i64 r2, .nilIface]) rfl rfl hS ?_
   simp only [Act.put, pU]
   refine takeK (i := 16) 67 (v := .int .i64 r2) rfl rfl hS ?_
   simp only [Act.put, pU]
   refine takeK (i := 17) 68 (v := .nilIface) rfl rfl hS ?_
   simp only [Act.put, pU]
   refine takeK (i := 18) 11 (v := .int .i64 r2) rfl rfl hS ?_
   simp only [Act.put, pU]
   refine takeK (i := 19) 12 (v := .nilIface) rfl rfl hS ?_
   simp only [Act.put, pU]
   refine wpAnyH_done (by kernel_rfl) ?_ _
   clear hS
   try dsimp only
   go_wp2_with fail
   refine (Num_nil _).mono ?_
   rintro e w' ⟨rfl, rfl⟩
   try dsimp only
   go_wp2_with fail
   go_roundw
   case rel => exact ⟨k + 1, S2, r2, _, qs2, HLT.out, by rw [HWK.out], rfl, HLc.out, HM2.out, HPL2.out⟩
   case measure => rw [HWK.out]; have := HLT.out; simp only [intOf, Int.toNat_natCast]; omega
  ·obtain rfl : k = l.length := by omega
   have HPL0 : Hid (ps.length ≤ 60) := Hi (by have := HPL.out; have := HLEN.out; omega)
   obtain ⟨hro, hge, hmc⟩ := HM1.out.commit (k := 60) (by have := HPL0.out; omega) (by decide) (by decide)
   have HRO := Hi hro
   have HGE := Hi hge
   have HMC := Hi hmc
   have hkl : ¬ ((l.length : Nat) : Int) < (l.length : Int) := by omega
   clear hk hlt hro hge hmc
   try dsimp only
   go_wp2_with fail
   refine (Num_nil _).mono ?_
   rintro e w' ⟨rfl, rfl⟩
   try dsimp only
   go_wp2_with fail
   refine (H.commitYes HL1.out.pg HL1.out.inv HL1.out.up (HL1.out.laidK HG.out) rt HRO.out HGE.out).mono ?_
   rintro e w7 ⟨rfl, hp, hkp⟩
   have HL7 : Hid (LawT O w (· < B) w7 P D 240 (S.commit rt) S.data) := Hi (HL1.out.turned hp hkp (HL1.out.inv.committed HGE.out HRO.out) HL1.out.up)
   obtain ⟨X, HX⟩ : ∃ X, Hid (X = (S.commit rt).s.sup) := Hy
   have HXR : Hid (X.root = rt) := Hi (by rw [HX.out]; rfl)
   have HXG : Hid (X.gen ≤ 60) := Hi (by rw [HX.out]; show S.s.sup.gen + 1 ≤ 60; rw [HM1.out.sup]; decide)
   obtain ⟨firm, HFI⟩ : ∃ firm, Hid (firm = S.data) := Hy
   have HB7 : Hid (BtM 240 (S.commit rt) firm X ps qs rt ps qs 60) := Hi (by
    have h := HMC.out.begin
    rw [HX.out, HFI.out]
    have h2 : (S.commit rt).s.sup.root = rt := rfl
    rw [h2] at h
    exact ⟨h.ok, h.sup, h.com, h.all, h.rt, h.nodup, h.used, h.only, Nat.zero_le _⟩)
   rw [← HFI.out] at HL7
   have HRV : Hid (∀ S2 : TS, OkT 240 S2 firm → S2.s.sup = X → rangeTop S2 rt 0 256 = .ok (cutP ps 0 256)) := Hi (fun S2 h1 h2 => by
    have h3 := HB7.out.com
    rw [HXR.out, ← h2] at h3
    exact rangeTop_ok h1 (h3.here h1) (by have := HPL0.out; omega) 0 256)
   have HRA := Hi (Range_any H HG.out HL7.out rt 0 256)
   rw [HRV.out _ HL7.out.inv HX.out.symm] at HRA
   clear hp hkp HL1 HM1 HRO HGE HMC
   try dsimp only
   go_wp2_with fail
   refine (Num_nil _).mono ?_
   rintro e w' ⟨rfl, rfl⟩
   try dsimp only
   go_wp2_with fail
   refine HRA.out.mono ?_
   rintro e w8 ⟨hb, AL, cL, rfl, -⟩
   have HL8 : Hid (LawT O w (· < B) w8 P D 240 (S.commit rt) firm) := Hi (HL7.out.carry H hb)
   clear hb HRA HL7
   try dsimp only
   go_wp2_with fail
   go_loopw [15, 16] (fun n i wr => PtT O w B P D l2.length X firm ps qs n i wr) (fun _ i _ => l2.length - (intOf i).toNat)
   case atStart => exact ⟨0, _, rt, ps, qs, Nat.zero_le _, rfl, rfl, HL8.out, HB7.out, HPL0.out⟩
   case round =>
    obtain ⟨k, S2, rt2, ps2, qs2, hk, rfl, rfl, hl, hm, hp⟩ := hrel.ex
    have HL1 := Hi hl
    have HM1 := Hi hm
    have HPL2 := Hi hp
    clear hrel hl hm hp HL8 HB7
    by_cases hlt : k < l2.length
    ·obtain ⟨cb, co, rfl, hcb, -, hk1, hk2⟩ := (HA2.out.below HL1.out.below).at_ hlt
     obtain ⟨ky, HKY⟩ : ∃ ky, Hid (ky = l2[k].key) := Hy
     obtain ⟨vl, HVL⟩ : ∃ vl, Hid (vl = l2[k].val) := Hy
     rw [← HKY.out] at hk1
     rw [← HVL.out] at hk2
     have HK1 := Hi hk1
     have HK2 := Hi hk2
     have HCB : Hid (cb < B) := Hi (by
      obtain ⟨b9, o9, e9, h9, _⟩ := HA2.out.at_ hlt
      cases e9
      have := HWB.out
      omega)
     have HKB : Hid (ky < 256) := Hi (by rw [HKY.out]; exact (HKL2.out _ (List.getElem_mem hlt)).key)
     have hkl : (k : Int) < (l2.length : Int) := by omega
     have hcv : IntKind.i64.wrap (ky : Int) = (ky : Int) := by rw [IntKind.wrap_i64]; have := HKB.out; omega
     have HWK : Hid (wrap64 ((k : Int) + 1) = ((k + 1 : Nat) : Int)) := Hi (by have := HLEN2.out; unfold wrap64; omega)
     have HLT := Hi hlt
     have HKN : Hid (k < 10) := Hi (by have := HLEN2.out; omega)
     obtain ⟨r2, S3, qs3, hpt, hm2⟩ := HM1.out.put (by have := HKN.out; have := HPL2.out; have := HPL0.out; omega) (by have := HKN.out; have := HPL2.out; omega) (key := (ky : Int)) (by have := HKB.out; omega) (val := valB vl) (valB_size vl)
     have HPUT := Hi hpt
     have HM2 := Hi hm2
     have HPL3 : Hid ((insP ps2 (ky : Int) (valB vl)).length ≤ 60 + (k + 1)) := Hi (by have := (insP_length (ps := ps2) (key := (ky : Int)) (val := valB vl)).1; have := HPL2.out; omega)
     clear hlt hk hk1 hk2 hcb hpt hm2 HKY HVL
     go_upto_region 20 with (fail)
     refine wp_region_held (S := fun w9 => w9.cell? ⟨cb, co + k * 3 + 1, none⟩ = some (.int .u8 (ky : Int)) ∧ w9.cell? ⟨cb, co + k * 3 + 2, none⟩ = some (.int .u32 (vl : Int))) (by kernel_rfl) ?_
     change wpAnyH _ _ _ _ _ _ _ _ wr.drew
     obtain ⟨wa, HWA⟩ : ∃ wa, Hid (wa = wr.drew) := Hy
     rw [← HWA.out]
     have hdr : Below wr.heap.size wr wa := by rw [HWA.out]; exact (Below.refl _ _).drew
     have hS : wa.cell? ⟨cb, co + k * 3 + 1, none⟩ = some (.int .u8 (ky : Int)) ∧ wa.cell? ⟨cb, co + k * 3 + 2, none⟩ = some (.int .u32 (vl : Int)) := ⟨(hdr.cell (p := ⟨cb, co + k * 3 + 1, none⟩) (below_block HK1.out)).trans HK1.out, (hdr.cell (p := ⟨cb, co + k * 3 + 2, none⟩) (below_block HK2.out)).trans HK2.out⟩
     have HLa : Hid (LawT O w (· < B) wa P D 240 S2 firm) := Hi (HL1.out.carry H hdr)
     clear HWA hdr HL1
     refine takeK (i := 0) 97 (v := ptr P) rfl rfl hS ?_
     simp only [Act.put, pU]
     refine takeK (i := 1) 98 (v := .int .i64 rt2) rfl rfl hS ?_
     simp only [Act.put, pU]
     refine takeK (i := 2) 99 (v := .slice (some ⟨cb, co, none⟩) l2.length c2) rfl rfl hS ?_
     simp only [Act.put, pU]
     refine takeK (i := 3) 100 (v := .int .i64 (k : Int)) rfl rfl hS ?_
     simp only [Act.put, pU]
     refine takeK (i := 4) 101 (v := .pointer (some ⟨cb, co + k * 3, none⟩)) rfl rfl hS ?_
     simp only [Act.put, pU]
     refine takeK (i := 5) 102 (v := .pointer (some ⟨cb, co + k * 3 + 1, none⟩)) rfl rfl hS ?_
     simp only [Act.put, pU]
     refine takeJ (i := 6) 103 (v := .int .u8 (ky : Int)) rfl rfl (.inl ⟨by rfl, fun _ h => by have c0 := h.1; go_simp⟩) hS ?_
     simp only [Act.put, pU]
     refine takeK (i := 7) 104 (v := .int .i64 (ky : Int)) rfl rfl hS ?_
     simp only [Act.put, pU]
     refine takeK (i := 8) 105 (v := .slice (some ⟨cb, co, none⟩) l2.length c2) rfl rfl hS ?_
     simp only [Act.put, pU]
     refine takeK (i := 9) 106 (v := .int .i64 (k : Int)) rfl rfl hS ?_
     simp only [Act.put, pU]
     refine takeK (i := 10) 107 (v := .pointer (some ⟨cb, co + k * 3, none⟩)) rfl rfl hS ?_
     simp only [Act.put, pU]
     refine takeK (i := 11) 108 (v := .pointer (some ⟨cb, co + k * 3 + 2, none⟩)) rfl rfl hS ?_
     simp only [Act.put, pU]
     refine takeJ (i := 12) 109 (v := .int .u32 (vl : Int)) rfl rfl (.inl ⟨by rfl, fun _ h => by have c0 := h.2; go_simp⟩) hS ?_
     simp only [Act.put, pU]
     refine oneH (i := 13) (oi := ⟨some 110, _, _, _, _, _⟩) rfl (by kernel_rfl) (fun K0 hK => ?_)
     go_simp
     refine (Val_any vl wa).mono ?_
     rintro e wb ⟨rfl, hb⟩
     have HLb : Hid (LawT O w (· < B) wb P D 240 S2 firm) := Hi (HLa.out.carry H hb)
     have hS2 : wb.cell? ⟨cb, co + k * 3 + 1, none⟩ = some (.int .u8 (ky : Int)) ∧ wb.cell? ⟨cb, co + k * 3 + 2, none⟩ = some (.int .u32 (vl : Int)) := ⟨(hb.cell (p := ⟨cb, co + k * 3 + 1, none⟩) (below_block hS.1)).trans hS.1, (hb.cell (p := ⟨cb, co + k * 3 + 2, none⟩) (below_block hS.2)).trans hS.2⟩
     clear hb hS HLa
     refine hK.out _ _ hS2 ?_
     clear hK K0
     have hS := hS2
     clear hS2
     refine oneH (i := 14) (oi := ⟨some 111, _, _, _, _, _⟩) rfl (by kernel_rfl) (fun K0 hK => ?_)
     go_simp
     refine (Put_any H HLb.out HG.out (by have := HM1.out.soft; have := HKN.out; omega) rt2 (key := (ky : Int)) (by have := HKB.out; omega) (val := valB vl) (by rw [valB_size]; unfold maxLen; decide)).mono ?_
     rintro e wc ⟨hl, hkp, hm⟩
     rw [HPUT.out] at hl hm
     obtain rfl := hm
     have HLc := Hi hl
     clear hl HLb
     have hS2 : wc.cell? ⟨cb, co + k * 3 + 1, none⟩ = some (.int .u8 (ky : Int)) ∧ wc.cell? ⟨cb, co + k * 3 + 2, none⟩ = some (.int .u32 (vl : Int)) := ⟨(World.cell?_of_block (w := wb) (a := ⟨cb, co + k * 3 + 1, none⟩) (hkp.block cb HCB.out)).trans hS.1, (World.cell?_of_block (w := wb) (a := ⟨cb, co + k * 3 + 2, none⟩) (hkp.block cb HCB.out)).trans hS.2⟩
     clear hkp hS
     refine hK.out _ _ hS2 ?_
     clear hK K0
     have hS := hS2
     clear hS2
     refine takeK (i := 15) 96 (v := .tuple #[.int .i64 r2, .nilIface]) rfl rfl hS ?_
     simp only [Act.put, pU]
     refine takeK (i := 16) 112 (v := .int .i64 r2) rfl rfl hS ?_
     simp only [Act.put, pU]
     refine takeK (i := 17) 113 (v := .nilIface) rfl rfl hS ?_
     simp only [Act.put, pU]
     refine takeK (i := 18) 17 (v := .int .i64 r2) rfl rfl hS ?_
     simp only [Act.put, pU]
     refine takeK (i := 19) 18 (v := .nilIface) rfl rfl hS ?_
     simp only [Act.put, pU]
     refine wpAnyH_done (by kernel_rfl) ?_ _
     clear hS
     try dsimp only
     go_wp2_with fail
     refine (Num_nil _).mono ?_
     rintro e w' ⟨rfl, rfl⟩
     try dsimp only
     go_wp2_with fail
     go_roundw
     case rel => exact ⟨k + 1, S3, r2, _, qs3, HLT.out, by rw [HWK.out], rfl, HLc.out, HM2.out, HPL3.out⟩
     case measure => rw [HWK.out]; have := HLT.out; simp only [intOf, Int.toNat_natCast]; omega
    ·obtain rfl : k = l2.length := by omega
     have HPL9 : Hid (ps2.length ≤ 70) := Hi (by have := HPL2.out; have := HLEN2.out; omega)
     obtain ⟨met, dep, hsv, hpm⟩ := svd_rt HM1.out.ok HM1.out.rt HM1.out.used HM1.out.nodup (by have := HPL9.out; omega)
     have HSV := Hi hsv
     have HCN : Hid ((Bits.count S2.s.used : Nat) = met.length) := Hi (by rw [HM1.out.count, hpm.length_eq])
     have HCN2 : Hid (met.length ≤ 240) := Hi (by
      rw [hpm.length_eq]
      exact nodup_few HM1.out.nodup fun q hq => usd_range HM1.out.ok (HM1.out.used q hq))
     obtain ⟨nm, HNM⟩ : ∃ nm, Hid (nm = met.length) := Hy
     obtain ⟨np, HNP⟩ : ∃ np, Hid (np = (cutP ps 0 256).length) := Hy
     have hkl : ¬ ((l2.length : Nat) : Int) < (l2.length : Int) := by omega
     clear hk hlt hsv hpm
     go_wp2_with fail
     refine (chkPages_is H HL1.out HG.out HSV.out).mono ?_
     rintro e w9 ⟨v, u, rfl, he, hp, hb⟩
     obtain rfl : u = .nilIface := ErrFrom.zero (show ErrFrom w9 wr.heap.size 0 u from he)
     obtain ⟨A9, c9, hv9⟩ : ∃ A9 c9, v = .slice A9 met.length c9 := by
      have hrow := hp.1 rfl
      rcases hrow.2 with ⟨h1, h2⟩ | ⟨g, cap, cur, h1, _⟩
      ·exact ⟨none, 0, by rw [h1]; rw [show met.length = 0 from h2]⟩
      ·exact ⟨_, cap, h1⟩
     subst hv9
     rw [← HNM.out]
     have HL9 : Hid (LawT O w (· < B) w9 P D 240 S2 firm) := Hi (HL1.out.carry H hb)
     have HRA := Hi (Range_any H HG.out HL9.out rt 0 256)
     rw [HRV.out _ HL9.out.inv HM1.out.sup] at HRA
     clear he hp hb HL1
     try dsimp only
     go_wp2_with fail
     refine HRA.out.mono ?_
     rintro e w10 ⟨hb, AM, cM, rfl, -⟩
     have HL10 : Hid (LawT O w (· < B) w10 P D 240 S2 firm) := Hi (HL9.out.carry H hb)
     clear hb HRA HL9
     rw [← HNP.out]
     try dsimp only
     go_wp2_with fail
     refine (Num_nil _).mono ?_
     rintro e w' ⟨rfl, rfl⟩
     try dsimp only
     go_wp2_with fail
     refine (Num_nil _).mono ?_
     rintro e w' ⟨rfl, rfl⟩
     try dsimp only
     have hnp : ((np : Int) == (np : Int)) = true := by simp
     have hnp2 : ((np : Int) != (np : Int)) = false := by simp
     go_wp2_with fail
     refine (H.used HL10.out.pg HL10.out.inv).mono ?_
     rintro e w11 ⟨rfl, hb⟩
     have HL11 : Hid (LawT O w (· < B) w11 P D 240 S2 firm) := Hi (HL10.out.carry H hb)
     clear hb HL10
     try dsimp only
     go_wp2_with fail
     refine (Count_any _ HM1.out.ok.usedOk _).mono ?_
     rw [HCN.out, ← HNM.out]
     rintro e w12 ⟨rfl, hb⟩
     have HL12 : Hid (LawT O w (· < B) w12 P D 240 S2 firm) := Hi (HL11.out.carry H hb)
     clear hb HL11
     obtain ⟨hro, hge, hmc⟩ := HM1.out.commit (k := 70) (by have := HPL9.out; omega) (by have := HXG.out; omega) (by decide)
     have HRO := Hi hro
     have HGE := Hi hge
     have HMC := Hi hmc
     clear hro hge hmc
     try dsimp only
     have hnm : ((nm : Int) == (nm : Int)) = true := by simp
     have hnm2 : ((nm : Int) != (nm : Int)) = false := by simp
     go_wp2_with fail
     refine (H.commitYes HL12.out.pg HL12.out.inv HL12.out.up (HL12.out.laidK HG.out) rt2 HRO.out HGE.out).mono ?_
     rintro e w13 ⟨rfl, hp, hkp⟩
     have HL13 : Hid (LawT O w (· < B) w13 P D 240 (S2.commit rt2) S2.data) := Hi (HL12.out.turned hp hkp (HL12.out.inv.committed HGE.out HRO.out) HL12.out.up)
     clear hp hkp HL12
     try dsimp only
     go_wp2_with fail
     refine (Num_nil _).mono ?_
     rintro e w' ⟨rfl, rfl⟩
     try dsimp only
     go_wp2_with fail
     refine (whole_any H HL13.out HG.out HMC.out (by decide)).mono ?_
     rintro e w14 ⟨rfl, hb⟩
     have HFIN : Hid (Below w.heap.size w w14) := Hi (HL13.out.carry H hb).below
     clear hb
     try dsimp only
     go_wp2_with fail
     refine (Num_nil _).mono ?_
     rintro e w' ⟨rfl, rfl⟩
     try dsimp only
     go_wp2_with fail
     go_ret
     exact ⟨rfl, HFIN.out⟩
theorem chkParts_walk {A A2 : Option Addr} {c c2 : Nat} {l l2 : List Ka} (hk : ∀ a ∈ l, a.Ok) (hk2 : ∀ a ∈ l2, a.Ok) (w : World) (ha : KasAt w A l) (ha2 : KasAt w A2 l2) (hg : Laid2 w) :
  Calls Tryz.prog 5 #[.slice A l.length c, .slice A2 l2.length c2] w fun e w' => e = .returned (.bool true) ∧ Below w.heap.size w w' := by
 by_cases hl : l.length ≤ 60
 ·by_cases hl2 : l2.length ≤ 10
  ·exact chkParts_yes H hl hl2 hk hk2 w ha ha2 hg
  ·exact chkParts_long H (.inr ⟨hl, by omega⟩) w hg
 ·exact chkParts_long H (.inl (by omega)) w hg
end
end Go.Proofs.YtafclmbecmgbnaaGreatDoor
