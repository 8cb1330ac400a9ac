/-
 ChkWholeWalk. Conditions: as each theorem says.
-/
import Derived.Test.YtafclmbecmgbnaaGreatDoorChkAwake
import Derived.Test.YtafclmbecmgbnaaGreatDoorTrDelMath
import Derived.Test.YtafclmbecmgbnaaGreatDoorTrKeepLaw
import Derived.Test.YtafclmbecmgbnaaGreatDoorTrTopDel
import Derived.Test.YtafclmbecmgbnaaGreatDoorTrVal
import Derived.Test.YtafclmbecmgbnaaGreatDoorPgOpened
set_option maxRecDepth 100000
set_option maxHeartbeats 8000000
open Int renaming toNat_natCast -> zeh
namespace Go.Proofs.YtafclmbecmgbnaaGreatDoor
open Go.RowKit
def WhR (n : Nat) (S : TS) (firm : Nat -> List UInt8) (qs : List Int) (k : Nat) (R : Except Int Int × TS) : Prop :=
 xG n firm S R.2 27 /\ ∀ r, R.1 = .ok r -> ∃ ps' qs', Xs n firm S R.2 r ps' qs qs' /\ ps'.length <= k + 1
theorem WhM.put {n : Nat} {S : TS} {firm : Nat -> List UInt8} {ps : List Pr} {qs : List Int} {k : Nat} (h : WhM n S firm ps qs k) {key : Int} (hk : 0 <= key /\ key <= 4294967295) {val : ByteArray} (hv : val.size = 12) (hk5 : k <= 400) : WhR n S firm qs k (xa n S S.s.sup.root key val) := by
 refine ⟨YT h.ok _ _ _, fun r hr => ?_⟩;rcases zag h.ok hv hk h.rt h.used.1 h.com.nodup (by have := h.few; omega) with ⟨S', he, _⟩ | ⟨r', S', qs', he, hp⟩
 ·rw [he] at hr; cases hr
 ·rw [he] at hr ⊢;cases hr;exact ⟨_, qs', hp, by have := (YO (ps := ps) (key := key) (val := val)).1; have := h.few; omega⟩
theorem WhM.del {n : Nat} {S : TS} {firm : Nat -> List UInt8} {ps : List Pr} {qs : List Int} {k : Nat} (h : WhM n S firm ps qs k) {key : Int} (hk : 0 <= key /\ key <= 4294967295) (hk5 : k <= 400) : WhR n S firm qs k (xW n S S.s.sup.root key) := by
 refine ⟨(V8 h.ok _ _).more (by decide), fun r hr => ?_⟩;rcases QS h.ok hk h.rt h.used.1 h.com.nodup (by have := h.few; omega) with ⟨_, he⟩ | ⟨_, ⟨S', he, _⟩ | ⟨r', S', qs', he, hp⟩⟩
 ·rw [he] at hr; cases hr
 ·rw [he] at hr; cases hr
 ·rw [he] at hr ⊢;cases hr;refine ⟨_, qs', hp, ?_⟩;have h1 : (qX ps key).length <= ps.length := List.length_filter_le _ _;have := h.few;omega
def zdZ (u1 u2 : Value) (wb wc : World) (R1 : Except Int Int) : Prop := (∃ c, R1 = .error c /\ c ≠ 0 /\ u1 = .int .i64 0 /\ zi wc wb.1.size c u2) \/ ∃ r, R1 = .ok r /\ u1 = .int .i64 r /\ u2 = .nilIface
theorem Vw {R : Except Int Int × TS} {e : Ending} {wb wc : World} (h : match R.1 with
  | .error c => c ≠ 0 /\ ∃ v, e = .returned (.tuple #[.int .i64 0, v]) /\ zi wc wb.1.size c v
  | .ok k => e = .returned (.tuple #[.int .i64 k, .nilIface])) : ∃ u1 u2, e = .returned (.tuple #[u1, u2]) /\ Hid (zdZ u1 u2 wb wc R.1) := by
 cases hR : R.1 with
 | error c =>
  rw [hR] at h;obtain ⟨h1, v, h2, h3⟩ := h;exact ⟨_, _, h2, Hi (.inl ⟨c, rfl, h1, rfl, h3⟩)⟩
 | ok k =>
  rw [hR] at h;exact ⟨_, _, h, Hi (.inr ⟨k, rfl, rfl, rfl⟩)⟩
structure WlS (O : yD) (w : World) (B P D len : Nat) (i : Value) (wr : World) : Prop where
 ex : ∃ (k : Nat) (S : TS) (firm : Nat -> List UInt8) (ps : List Pr) (qs : List Int), k <= len /\ i = .int .i64 (k : Int) /\ yy O w (· < B) wr P D 240 S firm /\ WhM 240 S firm ps qs k
theorem zg.less10 {K L : Nat -> Prop} {w w' : World} (h : zg L w w') (hKL : ∀ k, K k -> L k) : zg K w w' := ⟨h.os, h.tape, h.output, h.size, fun k hk => h.block k (hKL k hk)⟩
section
variable {O : yD} (H : yE O)
include H
theorem vP {w0 : World} {K : Nat -> Prop} {w : World} {P D n : Nat} {S : TS} {firm : Nat -> List UInt8} (hl : yy O w0 K w P D n S firm) (hg : yH w0) {ps : List Pr} {qs : List Int} {k : Nat} (h : WhM n S firm ps qs k) (hk : k <= 400) :
  Calls Tryz.prog 24 #[ptr P] w fun e w' => e = .returned .nilIface /\ Below w.1.size w w' := by
 obtain ⟨s, h1, h2⟩ := zci h.ok h.rt h.used.1 h.com.nodup (by have := h.few; omega) rfl h.used.2;refine (V1 H hl hg h1).mono ?_;rintro e w' ⟨v, rfl, he, hb⟩;rw [h2] at he;rw [he.zero];exact ⟨rfl, hb⟩
theorem Wm {A : Option Addr} {c n1 m : Nat} (x : Int) (hl : 60 < n1) (w : World) (hg : yH w) :
  Calls Tryz.prog 3 #[.slice A n1 c, .int .u32 (m : Int), .int .i64 x] w fun e w' => e = .returned (.bool true) /\ Below w.1.size w w' := by
 have HG := Hi hg;clear hg;have hd : decide ((60 : Int) < (n1 : Int)) = true := by simp; omega
 go_enter Tryz.func3, Tryz.ntmps3
 go_wp2_with fail;refine (qj H _ HG.o).mono ?_;rintro e w1 ⟨rfl, hb⟩;have HB := Hi hb;have HG1 := Hi (HG.o.carry hb);clear hb;dsimp only;go_wp2_with fail;refine (qj H _ HG1.o).mono ?_;rintro e w2 ⟨rfl, hb⟩;have HB2 := Hi (HB.o.trans (hb.mono HB.o.size));clear hb;dsimp only;go_wp2_with fail
 go_ret
 exact ⟨rfl, HB2.o⟩
theorem Vl {A : Option Addr} {c : Nat} {l : List Ka} (m : Nat) (x : Int) (hl : l.length <= 60) (hk : ∀ a ∈ l, a.Ok) (hm : m < 4294967296) (hx : x <= 9223372036854775807) (w : World) (ha : YD w A l) (hg : yH w) :
  Calls Tryz.prog 3 #[.slice A l.length c, .int .u32 (m : Int), .int .i64 x] w fun e w' => e = .returned (.bool true) /\ Below w.1.size w w' := by
 have HG := Hi hg;have HKL := Hi hk;have HA := Hi ha;have HLEN := Hi hl;have HMB := Hi hm;have HXB := Hi hx;have hd : decide ((60 : Int) < (l.length : Int)) = false := by simp; omega
 clear hg hk ha hl hm hx
 go_enter Tryz.func3, Tryz.ntmps3
 go_wp2_with fail;refine (qj H _ HG.o).mono ?_;rintro e w1 ⟨rfl, hb⟩;have HB1 := Hi hb;clear hb;dsimp only;go_wp2_with fail;refine (Qc 240 (by decide) (by decide) w1).mono ?_;rintro e w2 ⟨D, rfl, hdk, hb⟩;have HF := Hi (Xl H (n := 240) (by decide) (by decide) (fun _ => []) HB1.o hdk hb HG.o);obtain ⟨B, HBB⟩ : ∃ B, Hid (B = w1.1.size) := Hy;rw [<- HBB.o] at HF;have HWB : Hid (w.1.size <= B) := Hi (by rw [HBB.o]; exact HB1.o.size);clear hdk hb hd;dsimp only;go_wp2_with fail;refine HF.o.mono ?_;rintro e w3 ⟨P, rfl, hl⟩;have HL : Hid (yy O w (· < B) w3 P D 240 ⟨xz (Dk.new 240) (Sb.bare 1), Pst.opened (Sb.bare 1), fun _ => []⟩ (fun _ => [])) := Hi hl;clear hl HF;dsimp only;go_wp2_with fail;refine (yV _).mono ?_;rintro e w' ⟨rfl, rfl⟩;dsimp only;go_wp2_with fail;refine (yV _).mono ?_;rintro e w' ⟨rfl, rfl⟩;dsimp only;go_wp2_with fail
 go_loopw [11] (fun i wr => WlS O w B P D l.length i wr) (fun i _ => l.length - (intOf i).toNat)
 case atStart => exact ⟨0, _, _, [], [], Nat.zero_le _, rfl, HL.o, WhM.start (by decide) (by decide)⟩
 case round =>
  obtain ⟨k, S, firm, ps, qs, hk, rfl, hl, hm⟩ := hrel.ex;have HL1 := Hi hl;have HM1 := Hi hm;clear hrel hl hm HL;by_cases hlt : k < l.length
  ·obtain ⟨cb, co, rfl, hcb, hk0, hk1, hk2⟩ := (HA.o.below HL1.o.below).at_ hlt;obtain ⟨ky, HKY⟩ : ∃ ky, Hid (ky = l[k].key) := Hy;obtain ⟨vl, HVL⟩ : ∃ vl, Hid (vl = l[k].val) := Hy;obtain ⟨wh, HWH⟩ : ∃ wh, Hid (wh = l[k].what) := Hy;rw [<- HKY.o] at hk1;rw [<- HVL.o] at hk2;rw [<- HWH.o] at hk0;have HK1 := Hi hk1;have HK2 := Hi hk2;have HCB : Hid (cb < B) := Hi (by
    obtain ⟨b9, o9, e9, h9, _⟩ := HA.o.at_ hlt;cases e9;have := HWB.o;omega)
   have HKB : Hid (ky < 256) := Hi (by rw [HKY.o]; exact (HKL.o _ (List.getElem_mem hlt)).key);have hkl : (k : Int) < (l.length : Int) := by omega
   have hcv : IntKind.i64.wrap (ky : Int) = (ky : Int) := by rw [IntKind.wrap_i64]; have := HKB.o; omega
   have HWK : Hid (wrap64 ((k : Int) + 1) = ((k + 1 : Nat) : Int)) := Hi (by have := HLEN.o; unfold wrap64; omega);have HK60 : Hid (k < 60) := Hi (by have := HLEN.o; omega);have HLT := Hi hlt;have HW0 : Hid (∀ w', Below w.1.size w w' -> w'.cell? ⟨cb, co + k * 3, none⟩ = some (.int .u8 (wh : Int))) := Hi (fun w' hb => by
    obtain ⟨cb2, co2, e2, -, h0, -, -⟩ := (HA.o.below hb).at_ hlt;cases e2;rw [HWH.o];exact h0)
   clear hk hk1 hk2 hcb HKY HVL HWH hlt;by_cases h3 : wh % 5 = 3
   ·have hw3 : ((wh : Int) % 5 == 3) = true := by simp; omega
    go_upto_region 12 with (fail)
    refine wp_region_held (S := fun w9 => w9.cell? ⟨cb, co + k * 3 + 1, none⟩ = some (.int .u8 (ky : Int)) /\ w9.cell? ⟨cb, co + k * 3 + 2, none⟩ = some (.int .u32 (vl : Int))) (by kernel_rfl) ?_;change wpAnyH _ _ _ _ _ _ _ _ wr.drew;obtain ⟨wa, HWA⟩ : ∃ wa, Hid (wa = wr.drew) := Hy;rw [<- HWA.o];have hdr : Below wr.1.size wr wa := by rw [HWA.o]; exact (Below.refl _ _).drew
    have hS : wa.cell? ⟨cb, co + k * 3 + 1, none⟩ = some (.int .u8 (ky : Int)) /\ wa.cell? ⟨cb, co + k * 3 + 2, none⟩ = some (.int .u32 (vl : Int)) := ⟨(hdr.cell (p := ⟨cb, co + k * 3 + 1, none⟩) (zo HK1.o)).trans HK1.o, (hdr.cell (p := ⟨cb, co + k * 3 + 2, none⟩) (zo HK2.o)).trans HK2.o⟩
    have HLa : Hid (yy O w (· < B) wa P D 240 S firm) := Hi (HL1.o.carry H hdr);clear HWA hdr;refine za (i := 0) 55 (v := ptr P) rfl rfl hS ?_;simp only [Act.put, pU];refine za (i := 1) 56 (v := ptr P) rfl rfl hS ?_;simp only [Act.put, pU];refine za (i := 3) 58 (v := .slice (some ⟨cb, co, none⟩) l.length c) rfl rfl hS ?_;simp only [Act.put, pU];refine za (i := 4) 59 (v := .int .i64 (k : Int)) rfl rfl hS ?_;simp only [Act.put, pU];refine za (i := 5) 60 (v := .pointer (some ⟨cb, co + k * 3, none⟩)) rfl rfl hS ?_;simp only [Act.put, pU];refine za (i := 6) 61 (v := .pointer (some ⟨cb, co + k * 3 + 1, none⟩)) rfl rfl hS ?_;simp only [Act.put, pU];refine zh (i := 7) 62 (v := .int .u8 (ky : Int)) rfl rfl (.inl ⟨by rfl, fun _ h => by have c0 := h.1; go_simp⟩) hS ?_;simp only [Act.put, pU];refine za (i := 8) 63 (v := .int .i64 (ky : Int)) rfl rfl hS ?_;simp only [Act.put, pU];refine zN (i := 2) (oi := ⟨some 57, _, _, _, _, _⟩) rfl (by kernel_rfl) (fun K0 hK => ?_);go_simp;refine (H.pgRoot HLa.o.pg).mono ?_;rintro e wb ⟨rfl, hb⟩;have HLb : Hid (yy O w (· < B) wb P D 240 S firm) := Hi (HLa.o.carry H hb);have hS2 : wb.cell? ⟨cb, co + k * 3 + 1, none⟩ = some (.int .u8 (ky : Int)) /\ wb.cell? ⟨cb, co + k * 3 + 2, none⟩ = some (.int .u32 (vl : Int)) := ⟨(hb.cell (p := ⟨cb, co + k * 3 + 1, none⟩) (zo hS.1)).trans hS.1, (hb.cell (p := ⟨cb, co + k * 3 + 2, none⟩) (zo hS.2)).trans hS.2⟩
    clear hb hS HLa;refine hK.out _ _ hS2 ?_;clear hK K0;have hS := hS2;clear hS2;refine zN (i := 9) (oi := ⟨some 64, _, _, _, _, _⟩) rfl (by kernel_rfl) (fun K0 hK => ?_);go_simp;refine (KU H HLb.o HG.o (by have := HM1.o.soft; have := HK60.o; omega) S.s.sup.root (ky : Int)).mono ?_;rintro e wc ⟨hl, hkp, hm⟩;obtain ⟨u1, u2, rfl, HOUT⟩ := Vw hm;have HRD := Hi (HM1.o.del (key := (ky : Int)) (by have := HKB.o; omega) (by have := HK60.o; omega));obtain ⟨R, HRR⟩ : ∃ R, Hid (R = xW 240 S S.s.sup.root (ky : Int)) := Hy;rw [<- HRR.o] at hl HOUT HRD;have HLc := Hi hl;clear hl hm HLb HRR;have hS2 : wc.cell? ⟨cb, co + k * 3 + 1, none⟩ = some (.int .u8 (ky : Int)) /\ wc.cell? ⟨cb, co + k * 3 + 2, none⟩ = some (.int .u32 (vl : Int)) := ⟨(World.cell?_of_block (w := wb) (a := ⟨cb, co + k * 3 + 1, none⟩) (hkp.block cb HCB.o)).trans hS.1, (World.cell?_of_block (w := wb) (a := ⟨cb, co + k * 3 + 2, none⟩) (hkp.block cb HCB.o)).trans hS.2⟩
    clear hkp hS;refine hK.out _ _ hS2 ?_;clear hK K0;have hS := hS2;clear hS2;refine za (i := 10) 54 (v := .tuple #[u1, u2]) rfl rfl hS ?_;simp only [Act.put, pU];refine za (i := 11) 65 (v := u1) rfl rfl hS ?_;simp only [Act.put, pU];refine za (i := 12) 66 (v := u2) rfl rfl hS ?_;simp only [Act.put, pU];refine za (i := 13) 12 (v := u1) rfl rfl hS ?_;simp only [Act.put, pU];refine za (i := 14) 13 (v := u2) rfl rfl hS ?_;simp only [Act.put, pU];refine wpAnyH_done (by kernel_rfl) ?_ _
    replace HK1 := Hi hS.1
    replace HK2 := Hi hS.2
    clear hS HL1;have hk0 := HW0.o wc HLc.o.below;rcases HOUT.o with ⟨cd, hR, hcd, rfl, he⟩ | ⟨rr, hR, rfl, rfl⟩
    ·obtain ⟨tt, xx, rfl⟩ := he.some hcd;have HE9 : Hid (Xj wc cd (.iface tt xx)) := Hi he.is;have hcd0 : (cd == 0) = false := by simp [hcd]
     have HX9 := Hi (HLc.o.laid HG.o);clear he hcd hR HOUT hk0;go_wp2_with fail;refine (Qd cd _ wc HE9.o HX9.o.err).mono ?_;rintro e wd ⟨rfl, hb⟩;have HLd := Hi (HLc.o.carry H hb);clear hb;dsimp only;go_wp2_with fail;refine (H.pgAbort HLd.o.pg).mono ?_;rintro e wz ⟨rfl, hp, hkp⟩;have HLz : Hid (yy O w (· < B) wz P D 240 R.2.abort firm) := Hi (HLd.o.turned hp hkp HLd.o.inv.aborted HLd.o.up);have HMz := Hi (HM1.o.abort HRD.o.1 (Nat.le_refl _));clear hp hkp HLd HLc;dsimp only;go_wp2_with fail;refine (vP H HLz.o HG.o HMz.o (by have := HK60.o; omega)).mono ?_;rintro e wy ⟨rfl, hb⟩
     replace HLz := Hi (HLz.o.carry H hb)
     clear hb;dsimp only;go_wp2_with fail;refine (yV _).mono ?_;rintro e w' ⟨rfl, rfl⟩;dsimp only;go_wp2_with fail
     go_roundw
     case rel => exact ⟨k + 1, _, _, _, _, HLT.o, by rw [HWK.o], HLz.o, HMz.o⟩
     case measure => rw [HWK.o]; have := HLT.o; simp only [intOf, zeh]; omega
    ·have HRR9 := Hi hR;clear hR HOUT;go_wp2_with fail;refine (yV _).mono ?_;rintro e w' ⟨rfl, rfl⟩;dsimp only;by_cases h4 : wh % 5 = 4
     ·have hw4 : ((wh : Int) % 5 == 4) = true := by simp; omega
      have hw4' : ((wh : Int) % 5 != 4) = false := by simp; omega
      clear h4;go_wp2_with fail;refine (H.pgAbort HLc.o.pg).mono ?_;rintro e wz ⟨rfl, hp, hkp⟩;have HLz : Hid (yy O w (· < B) wz P D 240 R.2.abort firm) := Hi (HLc.o.turned hp hkp HLc.o.inv.aborted HLc.o.up);have HMz := Hi (HM1.o.abort HRD.o.1 (Nat.le_refl _));clear hp hkp HLc;dsimp only;go_wp2_with fail;refine (vP H HLz.o HG.o HMz.o (by have := HK60.o; omega)).mono ?_;rintro e wy ⟨rfl, hb⟩
      replace HLz := Hi (HLz.o.carry H hb)
      clear hb;dsimp only;go_wp2_with fail;refine (yV _).mono ?_;rintro e w' ⟨rfl, rfl⟩;dsimp only;go_wp2_with fail
      go_roundw
      case rel => exact ⟨k + 1, _, _, _, _, HLT.o, by rw [HWK.o], HLz.o, HMz.o⟩
      case measure => rw [HWK.o]; have := HLT.o; simp only [intOf, zeh]; omega
     ·have hw4 : ((wh : Int) % 5 == 4) = false := by simp; omega
      have hw4' : ((wh : Int) % 5 != 4) = true := by simp; omega
      clear h4;obtain ⟨ps', qs', hpt, hpl⟩ := HRD.o.2 rr HRR9.o;obtain ⟨hro, hge, hmc⟩ := HM1.o.commit HRD.o.1 hpt hpl (by have := HK60.o; omega);have HRO := Hi hro;have HGE := Hi hge;have HMz := Hi hmc;clear hpt hpl hro hge hmc;go_wp2_with fail;refine (H.commitYes HLc.o.pg HLc.o.inv HLc.o.up (HLc.o.laidK HG.o) rr HRO.o HGE.o).mono ?_;rintro e wz ⟨rfl, hp, hkp⟩;have HLz : Hid (yy O w (· < B) wz P D 240 (R.2.commit rr) R.2.data) := Hi (HLc.o.turned hp hkp (HLc.o.inv.committed HGE.o HRO.o) HLc.o.up);clear hp hkp HLc HRO HGE;dsimp only;go_wp2_with fail;refine (yV _).mono ?_;rintro e w' ⟨rfl, rfl⟩;dsimp only;go_wp2_with fail;refine (vP H HLz.o HG.o HMz.o (by have := HK60.o; omega)).mono ?_;rintro e wy ⟨rfl, hb⟩
      replace HLz := Hi (HLz.o.carry H hb)
      clear hb;dsimp only;go_wp2_with fail;refine (yV _).mono ?_;rintro e w' ⟨rfl, rfl⟩;dsimp only;go_wp2_with fail
      go_roundw
      case rel => exact ⟨k + 1, _, _, _, _, HLT.o, by rw [HWK.o], HLz.o, HMz.o⟩
      case measure => rw [HWK.o]; have := HLT.o; simp only [intOf, zeh]; omega
   ·have hw3 : ((wh : Int) % 5 == 3) = false := by simp; omega
    go_upto_region 13 with (fail)
    refine wp_region_held (S := fun w9 => w9.cell? ⟨cb, co + k * 3 + 1, none⟩ = some (.int .u8 (ky : Int)) /\ w9.cell? ⟨cb, co + k * 3 + 2, none⟩ = some (.int .u32 (vl : Int))) (by kernel_rfl) ?_;change wpAnyH _ _ _ _ _ _ _ _ wr.drew;obtain ⟨wa, HWA⟩ : ∃ wa, Hid (wa = wr.drew) := Hy;rw [<- HWA.o];have hdr : Below wr.1.size wr wa := by rw [HWA.o]; exact (Below.refl _ _).drew
    have hS : wa.cell? ⟨cb, co + k * 3 + 1, none⟩ = some (.int .u8 (ky : Int)) /\ wa.cell? ⟨cb, co + k * 3 + 2, none⟩ = some (.int .u32 (vl : Int)) := ⟨(hdr.cell (p := ⟨cb, co + k * 3 + 1, none⟩) (zo HK1.o)).trans HK1.o, (hdr.cell (p := ⟨cb, co + k * 3 + 2, none⟩) (zo HK2.o)).trans HK2.o⟩
    have HLa : Hid (yy O w (· < B) wa P D 240 S firm) := Hi (HL1.o.carry H hdr);clear HWA hdr;refine za (i := 0) 68 (v := ptr P) rfl rfl hS ?_;simp only [Act.put, pU];refine za (i := 1) 69 (v := ptr P) rfl rfl hS ?_;simp only [Act.put, pU];refine za (i := 3) 71 (v := .slice (some ⟨cb, co, none⟩) l.length c) rfl rfl hS ?_;simp only [Act.put, pU];refine za (i := 4) 72 (v := .int .i64 (k : Int)) rfl rfl hS ?_;simp only [Act.put, pU];refine za (i := 5) 73 (v := .pointer (some ⟨cb, co + k * 3, none⟩)) rfl rfl hS ?_;simp only [Act.put, pU];refine za (i := 6) 74 (v := .pointer (some ⟨cb, co + k * 3 + 1, none⟩)) rfl rfl hS ?_;simp only [Act.put, pU];refine zh (i := 7) 75 (v := .int .u8 (ky : Int)) rfl rfl (.inl ⟨by rfl, fun _ h => by have c0 := h.1; go_simp⟩) hS ?_;simp only [Act.put, pU];refine za (i := 8) 76 (v := .int .i64 (ky : Int)) rfl rfl hS ?_;simp only [Act.put, pU];refine za (i := 9) 77 (v := .slice (some ⟨cb, co, none⟩) l.length c) rfl rfl hS ?_;simp only [Act.put, pU];refine za (i := 10) 78 (v := .int .i64 (k : Int)) rfl rfl hS ?_;simp only [Act.put, pU];refine za (i := 11) 79 (v := .pointer (some ⟨cb, co + k * 3, none⟩)) rfl rfl hS ?_;simp only [Act.put, pU];refine za (i := 12) 80 (v := .pointer (some ⟨cb, co + k * 3 + 2, none⟩)) rfl rfl hS ?_;simp only [Act.put, pU];refine zh (i := 13) 81 (v := .int .u32 (vl : Int)) rfl rfl (.inl ⟨by rfl, fun _ h => by have c0 := h.2; go_simp⟩) hS ?_;simp only [Act.put, pU];refine zN (i := 2) (oi := ⟨some 70, _, _, _, _, _⟩) rfl (by kernel_rfl) (fun K0 hK => ?_);go_simp;refine (H.pgRoot HLa.o.pg).mono ?_;rintro e wb ⟨rfl, hb⟩;have HLb : Hid (yy O w (· < B) wb P D 240 S firm) := Hi (HLa.o.carry H hb);have hS2 : wb.cell? ⟨cb, co + k * 3 + 1, none⟩ = some (.int .u8 (ky : Int)) /\ wb.cell? ⟨cb, co + k * 3 + 2, none⟩ = some (.int .u32 (vl : Int)) := ⟨(hb.cell (p := ⟨cb, co + k * 3 + 1, none⟩) (zo hS.1)).trans hS.1, (hb.cell (p := ⟨cb, co + k * 3 + 2, none⟩) (zo hS.2)).trans hS.2⟩
    clear hb hS HLa;refine hK.out _ _ hS2 ?_;clear hK K0;have hS := hS2;clear hS2;refine zN (i := 14) (oi := ⟨some 82, _, _, _, _, _⟩) rfl (by kernel_rfl) (fun K0 hK => ?_);go_simp;refine (zcF vl wb).mono ?_;rintro e we ⟨rfl, hb⟩;have HLe : Hid (yy O w (· < B) we P D 240 S firm) := Hi (HLb.o.carry H hb);have hS2 : we.cell? ⟨cb, co + k * 3 + 1, none⟩ = some (.int .u8 (ky : Int)) /\ we.cell? ⟨cb, co + k * 3 + 2, none⟩ = some (.int .u32 (vl : Int)) := ⟨(hb.cell (p := ⟨cb, co + k * 3 + 1, none⟩) (zo hS.1)).trans hS.1, (hb.cell (p := ⟨cb, co + k * 3 + 2, none⟩) (zo hS.2)).trans hS.2⟩
    clear hb hS HLb;refine hK.out _ _ hS2 ?_;clear hK K0;have hS := hS2;clear hS2;refine zN (i := 15) (oi := ⟨some 83, _, _, _, _, _⟩) rfl (by kernel_rfl) (fun K0 hK => ?_);go_simp;refine (Va H HLe.o HG.o (by have := HM1.o.soft; have := HK60.o; omega) S.s.sup.root (key := (ky : Int)) (by have := HKB.o; omega) (val := zaA vl) (by rw [WZ]; unfold maxLen; decide)).mono ?_;rintro e wc ⟨hl, hkp, hm⟩;obtain ⟨u1, u2, rfl, HOUT⟩ := Vw hm;have HRD := Hi (HM1.o.put (key := (ky : Int)) (by have := HKB.o; omega) (WZ vl) (by have := HK60.o; omega));obtain ⟨R, HRR⟩ : ∃ R, Hid (R = xa 240 S S.s.sup.root (ky : Int) (zaA vl)) := Hy;rw [<- HRR.o] at hl HOUT HRD;have HLc := Hi hl;clear hl hm HLe HRR;have hS2 : wc.cell? ⟨cb, co + k * 3 + 1, none⟩ = some (.int .u8 (ky : Int)) /\ wc.cell? ⟨cb, co + k * 3 + 2, none⟩ = some (.int .u32 (vl : Int)) := ⟨(World.cell?_of_block (w := we) (a := ⟨cb, co + k * 3 + 1, none⟩) (hkp.block cb HCB.o)).trans hS.1, (World.cell?_of_block (w := we) (a := ⟨cb, co + k * 3 + 2, none⟩) (hkp.block cb HCB.o)).trans hS.2⟩
    clear hkp hS;refine hK.out _ _ hS2 ?_;clear hK K0;have hS := hS2;clear hS2;refine za (i := 16) 67 (v := .tuple #[u1, u2]) rfl rfl hS ?_;simp only [Act.put, pU];refine za (i := 17) 84 (v := u1) rfl rfl hS ?_;simp only [Act.put, pU];refine za (i := 18) 85 (v := u2) rfl rfl hS ?_;simp only [Act.put, pU];refine za (i := 19) 12 (v := u1) rfl rfl hS ?_;simp only [Act.put, pU];refine za (i := 20) 13 (v := u2) rfl rfl hS ?_;simp only [Act.put, pU];refine wpAnyH_done (by kernel_rfl) ?_ _
    replace HK1 := Hi hS.1
    replace HK2 := Hi hS.2
    clear hS HL1;have hk0 := HW0.o wc HLc.o.below;rcases HOUT.o with ⟨cd, hR, hcd, rfl, he⟩ | ⟨rr, hR, rfl, rfl⟩
    ·obtain ⟨tt, xx, rfl⟩ := he.some hcd;have HE9 : Hid (Xj wc cd (.iface tt xx)) := Hi he.is;have hcd0 : (cd == 0) = false := by simp [hcd]
     have HX9 := Hi (HLc.o.laid HG.o);clear he hcd hR HOUT hk0;go_wp2_with fail;refine (Qd cd _ wc HE9.o HX9.o.err).mono ?_;rintro e wd ⟨rfl, hb⟩;have HLd := Hi (HLc.o.carry H hb);clear hb;dsimp only;go_wp2_with fail;refine (H.pgAbort HLd.o.pg).mono ?_;rintro e wz ⟨rfl, hp, hkp⟩;have HLz : Hid (yy O w (· < B) wz P D 240 R.2.abort firm) := Hi (HLd.o.turned hp hkp HLd.o.inv.aborted HLd.o.up);have HMz := Hi (HM1.o.abort HRD.o.1 (Nat.le_refl _));clear hp hkp HLd HLc;dsimp only;go_wp2_with fail;refine (vP H HLz.o HG.o HMz.o (by have := HK60.o; omega)).mono ?_;rintro e wy ⟨rfl, hb⟩
     replace HLz := Hi (HLz.o.carry H hb)
     clear hb;dsimp only;go_wp2_with fail;refine (yV _).mono ?_;rintro e w' ⟨rfl, rfl⟩;dsimp only;go_wp2_with fail
     go_roundw
     case rel => exact ⟨k + 1, _, _, _, _, HLT.o, by rw [HWK.o], HLz.o, HMz.o⟩
     case measure => rw [HWK.o]; have := HLT.o; simp only [intOf, zeh]; omega
    ·have HRR9 := Hi hR;clear hR HOUT;go_wp2_with fail;refine (yV _).mono ?_;rintro e w' ⟨rfl, rfl⟩;dsimp only;by_cases h4 : wh % 5 = 4
     ·have hw4 : ((wh : Int) % 5 == 4) = true := by simp; omega
      have hw4' : ((wh : Int) % 5 != 4) = false := by simp; omega
      clear h4;go_wp2_with fail;refine (H.pgAbort HLc.o.pg).mono ?_;rintro e wz ⟨rfl, hp, hkp⟩;have HLz : Hid (yy O w (· < B) wz P D 240 R.2.abort firm) := Hi (HLc.o.turned hp hkp HLc.o.inv.aborted HLc.o.up);have HMz := Hi (HM1.o.abort HRD.o.1 (Nat.le_refl _));clear hp hkp HLc;dsimp only;go_wp2_with fail;refine (vP H HLz.o HG.o HMz.o (by have := HK60.o; omega)).mono ?_;rintro e wy ⟨rfl, hb⟩
      replace HLz := Hi (HLz.o.carry H hb)
      clear hb;dsimp only;go_wp2_with fail;refine (yV _).mono ?_;rintro e w' ⟨rfl, rfl⟩;dsimp only;go_wp2_with fail
      go_roundw
      case rel => exact ⟨k + 1, _, _, _, _, HLT.o, by rw [HWK.o], HLz.o, HMz.o⟩
      case measure => rw [HWK.o]; have := HLT.o; simp only [intOf, zeh]; omega
     ·have hw4 : ((wh : Int) % 5 == 4) = false := by simp; omega
      have hw4' : ((wh : Int) % 5 != 4) = true := by simp; omega
      clear h4;obtain ⟨ps', qs', hpt, hpl⟩ := HRD.o.2 rr HRR9.o;obtain ⟨hro, hge, hmc⟩ := HM1.o.commit HRD.o.1 hpt hpl (by have := HK60.o; omega);have HRO := Hi hro;have HGE := Hi hge;have HMz := Hi hmc;clear hpt hpl hro hge hmc;go_wp2_with fail;refine (H.commitYes HLc.o.pg HLc.o.inv HLc.o.up (HLc.o.laidK HG.o) rr HRO.o HGE.o).mono ?_;rintro e wz ⟨rfl, hp, hkp⟩;have HLz : Hid (yy O w (· < B) wz P D 240 (R.2.commit rr) R.2.data) := Hi (HLc.o.turned hp hkp (HLc.o.inv.committed HGE.o HRO.o) HLc.o.up);clear hp hkp HLc HRO HGE;dsimp only;go_wp2_with fail;refine (yV _).mono ?_;rintro e w' ⟨rfl, rfl⟩;dsimp only;go_wp2_with fail;refine (vP H HLz.o HG.o HMz.o (by have := HK60.o; omega)).mono ?_;rintro e wy ⟨rfl, hb⟩
      replace HLz := Hi (HLz.o.carry H hb)
      clear hb;dsimp only;go_wp2_with fail;refine (yV _).mono ?_;rintro e w' ⟨rfl, rfl⟩;dsimp only;go_wp2_with fail
      go_roundw
      case rel => exact ⟨k + 1, _, _, _, _, HLT.o, by rw [HWK.o], HLz.o, HMz.o⟩
      case measure => rw [HWK.o]; have := HLT.o; simp only [intOf, zeh]; omega
  ·obtain rfl : k = l.length := by omega
   have HK60 : Hid (l.length <= 60) := HLEN;have hkl : ¬ ((l.length : Nat) : Int) < (l.length : Int) := by omega
   obtain ⟨X, HX⟩ : ∃ X, Hid (X = S.s.sup) := Hy;clear hk hlt;go_wp2_with fail;refine (H.pgRoot HL1.o.pg).mono ?_;rintro e wb ⟨rfl, hb⟩;have HLb : Hid (yy O w (· < B) wb P D 240 S firm) := Hi (HL1.o.carry H hb);clear hb HL1;have HPU := Hi (Va H HLb.o HG.o (by have := HM1.o.soft; have := HK60.o; omega) S.s.sup.root (key := 7) (by decide) (val := ⟨#[55, 55, 55, 55, 55, 55, 55, 55, 55, 55, 55, 55]⟩) (by unfold maxLen; decide));dsimp only;go_wp2_with fail;refine HPU.o.mono ?_;rintro e wc ⟨hl, hkp, hm⟩;obtain ⟨u1, u2, rfl, HOUT⟩ := Vw hm;have HST := Hi (HM1.o.put (key := 7) (by decide) (val := ⟨#[55, 55, 55, 55, 55, 55, 55, 55, 55, 55, 55, 55]⟩) (by decide) (by have := HK60.o; omega)).1;obtain ⟨R, HRR⟩ : ∃ R, Hid (R = xa 240 S S.s.sup.root 7 ⟨#[55, 55, 55, 55, 55, 55, 55, 55, 55, 55, 55, 55]⟩) := Hy;rw [<- HRR.o] at hl;have HST2 : Hid (xG 240 firm S R.2 27) := Hi (by rw [HRR.o]; exact YT HM1.o.ok _ _ _);have HLc := Hi hl;clear hl hkp hm HPU HLb HRR HOUT HST;obtain ⟨Bp, hoP, hdP, hthP, hdisP⟩ := HLc.o.pg;have HOP := Hi hoP;have HDP := Hi hdP;have HTP : Hid (yb (fun b => b < B \/ Bp b) wc) := Hi (fun b hb => hb.elim (hthP b) (H.lt hoP b));have HS4 : Hid (R.2.d.soft.length <= 1000000) := Hi (by have := HST2.o.soft; have := HM1.o.soft; have := HK60.o; omega);clear hoP hdP hthP hdisP;dsimp only;go_wp2_with fail;refine (Qv (m := m) (t := x) HMB.o HDP.o HTP.o HS4.o HXB.o).mono ?_;rintro e w9 ⟨rfl, hd9, hk9⟩;have HD9 := Hi hd9;have HK9 := Hi hk9;clear hd9 hk9;dsimp only;go_wp2_with fail;refine (zdv HD9.o).mono ?_;rintro e w10 ⟨rfl, hd10, hk10⟩;have HKA := Hi (HK9.o.trans hk10);have HO10 := Hi (H.carry HOP.o fun b hb => HKA.o.block b (.inr hb));have HOPN := Hi (K3 H HLc.o m x (hd10.more (Below.refl _ _) fun b hb => .inl (.inl hb)) (HKA.o.less10 fun b hb => .inl hb) HG.o);clear hd10 hk10 HD9 HK9 HDP HTP HOP;dsimp only;go_wp2_with fail;refine HOPN.o.mono ?_;rintro e w11 ⟨Q, rfl, hq, hb⟩;have HOP := Hi (H.carry HO10.o fun b hb2 => hb.block b (H.lt HO10.o b hb2));rw [HST2.o.sup] at hq;have HLQ : Hid (yy O w (· < B) w11 Q D 240 ⟨(R.2.d.crash m x).up, Pst.opened S.s.sup, firm⟩ firm) := Hi hq;have HMQ : Hid (WhM 240 ⟨(R.2.d.crash m x).up, Pst.opened S.s.sup, firm⟩ firm ps qs 60) := Hi ⟨HLQ.o.inv, rfl, rfl, HM1.o.com, HM1.o.all, by have := HM1.o.few; have := HK60.o; omega, by have := HM1.o.gen; have := HK60.o; show S.s.sup.gen <= _; omega, Nat.zero_le _⟩;clear hq hb HOPN HO10;dsimp only;go_wp2_with fail;refine (yV _).mono ?_;rintro e w' ⟨rfl, rfl⟩;dsimp only;go_wp2_with fail;refine (vP H HLQ.o HG.o HMQ.o (by decide)).mono ?_;rintro e w12 ⟨rfl, hb⟩
   replace HLQ := Hi (HLQ.o.carry H hb)
   replace HOP := Hi (H.carry HOP.o fun b hb2 => hb.block b (H.lt HOP.o b hb2))
   clear hb;dsimp only;go_wp2_with fail;refine (yV _).mono ?_;rintro e w' ⟨rfl, rfl⟩;dsimp only;go_wp2_with fail;refine (H.pgRoot HLQ.o.pg).mono ?_;rintro e w13 ⟨rfl, hb⟩
   replace HLQ := Hi (HLQ.o.carry H hb)
   replace HOP := Hi (H.carry HOP.o fun b hb2 => hb.block b (H.lt HOP.o b hb2))
   clear hb;dsimp only;go_wp2_with fail;refine (H.root HOP.o).mono ?_;rintro e w14 ⟨rfl, hb⟩;have HFIN : Hid (Below w.1.size w w14) := Hi (HLQ.o.carry H hb).below;have HRT : Hid (R.2.s.sup.root = S.s.sup.root) := Hi (by rw [HST2.o.sup]);rw [HRT.o];clear hb;dsimp only;have hrr : (S.s.sup.root == S.s.sup.root) = true := by simp
   go_wp2_with fail
   go_ret
   exact ⟨by show Ending.returned (.bool ((Pst.opened S.s.sup).sup.root == S.s.sup.root)) = _; rw [show (Pst.opened S.s.sup).sup.root = S.s.sup.root from rfl, hrr], HFIN.o⟩
theorem Wn {A : Option Addr} {c : Nat} {l : List Ka} (m : Nat) (x : Int) (hk : ∀ a ∈ l, a.Ok) (hm : m < 4294967296) (hx : x <= 9223372036854775807) (w : World) (ha : YD w A l) (hg : yH w) :
  Calls Tryz.prog 3 #[.slice A l.length c, .int .u32 (m : Int), .int .i64 x] w fun e w' => e = .returned (.bool true) /\ Below w.1.size w w' := by
 by_cases hl : l.length <= 60
 ·exact Vl H m x hl hk hm hx w ha hg
 ·exact Wm H x (by omega) w hg
end
end Go.Proofs.YtafclmbecmgbnaaGreatDoor
