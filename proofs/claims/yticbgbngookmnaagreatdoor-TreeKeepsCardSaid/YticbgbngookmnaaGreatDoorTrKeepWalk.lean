/-
 TrKeepWalk. Conditions: as each theorem says.
-/
import Derived.Test.YticbgbngookmnaaGreatDoorSm
import Derived.Test.YticbgbngookmnaaGreatDoorTrAwake
import Derived.Test.YticbgbngookmnaaGreatDoorTrKeepLaw
import Derived.Test.YticbgbngookmnaaGreatDoorTrTopDel
import Derived.Test.YticbgbngookmnaaGreatDoorPgOpened
namespace Go.Proofs.YticbgbngookmnaaGreatDoor
open Go.RowKit
abbrev fmK : Nat → List UInt8 := fun _ => []
structure KpS (O : PgOwn) (w : World) (B P D len : Nat) (r v i : Value) (wr : World) : Prop where
 ex : ∃ (k : Nat) (S : TS) (rt : Int) (ps : List Pr) (qs : List Int) (M : Option Addr) (cm : Nat), k ≤ len ∧ i = .int .i64 (k : Int) ∧ r = .int .i64 rt ∧ v = .slice M ps.length cm ∧ LawT O w (fun g => g < B ∨ ∃ a, M = some a ∧ a.block = g) wr P D 240 S fmK ∧ wr.ownsRow B 42 2 (.slice M ps.length cm) ps.length (prsCells ps) ∧ KpM S rt ps qs k
structure KpT (O : PgOwn) (w : World) (B P D len : Nat) (X : Sb) (firm : Nat → List UInt8) (rt : Int) (ps : List Pr) (qs : List Int) (M : Option Addr) (cm : Nat) (n i : Value) (wr : World) : Prop where
 ex : ∃ (k : Nat) (S : TS) (now : Int), k ≤ len ∧ i = .int .i64 (k : Int) ∧ n = .int .i64 now ∧ LawT O w (fun g => g < B ∨ ∃ a, M = some a ∧ a.block = g) wr P D 240 S firm ∧ wr.ownsRow B 42 2 (.slice M ps.length cm) ps.length (prsCells ps) ∧ S.s.sup = X ∧ S.d.soft.length ≤ 27 * k
def PutOut (u1 u2 : Value) (wb wc : World) : Prop := (∃ cd, cd ≠ 0 ∧ u1 = .int .i64 0 ∧ ErrFrom wc wb.heap.size cd u2) ∨ ∃ r, u1 = .int .i64 r ∧ u2 = .nilIface
theorem putOut_of {R : Except Int Int × TS} {e : Ending} {wb wc : World} (h : match R.1 with
  | .error c => c ≠ 0 ∧ ∃ v, e = .returned (.tuple #[.int .i64 0, v]) ∧ ErrFrom wc wb.heap.size c v
  | .ok k => e = .returned (.tuple #[.int .i64 k, .nilIface])) : ∃ u1 u2, e = .returned (.tuple #[u1, u2]) ∧ Hid (PutOut u1 u2 wb wc) := by
 cases hR : R.1 with
 | error c =>
  rw [hR] at h
  obtain ⟨h1, v, h2, h3⟩ := h
  exact ⟨_, _, h2, Hi (.inl ⟨c, h1, rfl, h3⟩)⟩
 | ok k =>
  rw [hR] at h
  exact ⟨_, _, h, Hi (.inr ⟨k, rfl, rfl⟩)⟩
section
variable {O : PgOwn} (H : PgSpec O)
include H
theorem keep_row {w0 w w' : World} {B P D n : Nat} {S : TS} {firm : Nat → List UInt8} {M M2 : Option Addr} (h : LawT O w0 (fun g => g < B ∨ ∃ a, M = some a ∧ a.block = g) w P D n S firm) (hb : Below w.heap.size w w') (h2 : ∀ a, M2 = some a → w.heap.size ≤ a.block ∧ a.block < w'.heap.size) (hlow : w0.heap.size ≤ B) : LawT O w0 (fun g => g < B ∨ ∃ a, M2 = some a ∧ a.block = g) w' P D n S firm := by
 have hth := h.there
 refine h.off H (M := fun _ => False) (Turn.of_below hb) (fun _ h => h.elim) (fun k hk => ?_) (fun k hk => ?_) fun k hk => .inl (by omega)
 ·rcases hk with hk | ⟨a, ha, rfl⟩
  ·exact .inl (.inl hk)
  ·exact .inr (h2 a ha).1
 ·rcases hk with hk | ⟨a, ha, rfl⟩
  ·exact Nat.lt_of_lt_of_le (hth k (.inl hk)) hb.size
  ·exact (h2 a ha).2
omit H in
theorem keep_kept {w w' : World} {B : Nat} {M : Option Addr} {T : TypeId} {c m : Nat} {xs : List Value} (ho : w.ownsRow B T 2 (.slice M m c) m xs) (hk : Kept (fun g => g < B ∨ ∃ a, M = some a ∧ a.block = g) w w') : w'.ownsRow B T 2 (.slice M m c) m xs :=
 ownsRow_block ho fun g hg => hk.block g (.inr (by cases hM : M with | none => (rw [hM] at hg; cases hg) | some a => (rw [hM] at hg; cases hg; exact ⟨a, rfl, rfl⟩)))
set_option maxRecDepth 100000 in
set_option maxHeartbeats 2000000 in
theorem tkeeps_long {A A2 : Option Addr} {c c2 : Nat} {n1 n2 : Nat} (m : Nat) (x : Int) (hl : 150 < n1 ∨ (n1 ≤ 150 ∧ 40 < n2)) (w : World) (hg : Laid2 w) :
  Calls Tryz.prog 3 #[.slice A n1 c, .slice A2 n2 c2, .int .u32 (m : Int), .int .i64 x] w fun e w' => e = .returned (.bool true) ∧ Below w.heap.size w w' := by
 have HG := Hi hg
 clear hg
 rcases hl with hl | ⟨hl, hl2⟩
 ·have hd : decide ((150 : Int) < (n1 : Int)) = true := by simp; omega
  go_enter Tryz.func3, Tryz.ntmps3
  go_wp2_with fail
  refine (awake10_any H _ HG.out).mono ?_
  rintro e w1 ⟨rfl, hb⟩
  have HB := Hi hb
  have HG1 := Hi (HG.out.carry hb)
  clear hb
  go_wp2_with fail
  refine (awake10_any H _ HG1.out).mono ?_
  rintro e w2 ⟨rfl, hb⟩
  have HB2 := Hi (HB.out.trans (hb.mono HB.out.size))
  clear hb
  go_wp2_with fail
  go_ret
  exact ⟨rfl, HB2.out⟩
 ·have hd : decide ((150 : Int) < (n1 : Int)) = false := by simp; omega
  have hd2 : decide ((40 : Int) < (n2 : Int)) = true := by simp; omega
  go_enter Tryz.func3, Tryz.ntmps3
  go_wp2_with fail
  refine (awake10_any H _ HG.out).mono ?_
  rintro e w1 ⟨rfl, hb⟩
  have HB := Hi hb
  have HG1 := Hi (HG.out.carry hb)
  clear hb
  go_wp2_with fail
  refine (awake10_any H _ HG1.out).mono ?_
  rintro e w2 ⟨rfl, hb⟩
  have HB2 := Hi (HB.out.trans (hb.mono HB.out.size))
  clear hb
  go_wp2_with fail
  go_ret
  exact ⟨rfl, HB2.out⟩
set_option maxRecDepth 100000 in
set_option maxHeartbeats 8000000 in
theorem tkeeps_yes {A A2 : Option Addr} {c c2 : Nat} {l l2 : List Ka} (m : Nat) (x : Int) (hl : l.length ≤ 150) (hl2 : l2.length ≤ 40) (hk : ∀ a ∈ l, a.Ok) (hk2 : ∀ a ∈ l2, a.Ok) (hm : m < 4294967296) (hx : x ≤ 9223372036854775807) (w : World) (ha : KasAt w A l) (ha2 : KasAt w A2 l2) (hg : Laid2 w) :
  Calls Tryz.prog 3 #[.slice A l.length c, .slice A2 l2.length c2, .int .u32 (m : Int), .int .i64 x] w fun e w' => e = .returned (.bool true) ∧ Below w.heap.size w w' := by
 have HG := Hi hg
 have HKL := Hi hk
 have HKL2 := Hi hk2
 have HA := Hi ha
 have HA2 := Hi ha2
 have HLEN := Hi hl
 have HLEN2 := Hi hl2
 have HMB := Hi hm
 have HXB := Hi hx
 have hd : decide ((150 : Int) < (l.length : Int)) = false := by simp; omega
 have hd2 : decide ((40 : Int) < (l2.length : Int)) = false := by simp; omega
 clear hg hk hk2 ha ha2 hl hl2 hm hx
 go_enter Tryz.func3, Tryz.ntmps3
 go_wp2_with fail
 refine (awake10_any H _ HG.out).mono ?_
 rintro e w1 ⟨rfl, hb⟩
 have HB1 := Hi hb
 clear hb
 go_wp2_with fail
 refine (New_yes 240 (by decide) (by decide) w1).mono ?_
 rintro e w2 ⟨D, rfl, hdk, hb⟩
 have HF := Hi (Format_new H (n := 240) (by decide) (by decide) (fun _ => []) HB1.out hdk hb HG.out)
 obtain ⟨B, HBB⟩ : ∃ B, Hid (B = w1.heap.size) := Hy
 rw [← HBB.out] at HF
 have HWB : Hid (w.heap.size ≤ B) := Hi (by rw [HBB.out]; exact HB1.out.size)
 clear hdk hb hd hd2
 go_wp2_with fail
 refine HF.out.mono ?_
 rintro e w3 ⟨P, rfl, hl⟩
 have HL : Hid (LawT O w (fun g => g < B ∨ ∃ a, (none : Option Addr) = some a ∧ a.block = g) w3 P D 240 ⟨switchD (Dk.new 240) (Sb.bare 1), Pst.opened (Sb.bare 1), fun _ => []⟩ fmK) := Hi (LawP.less H hl (fun k hk => hk.elim id fun ⟨a, h, _⟩ => by cases h) fun k hk => .inl (by have := HWB.out; omega))
 clear hl HF
 go_wp2_with fail
 refine (Num_nil _).mono ?_
 rintro e w' ⟨rfl, rfl⟩
 go_wp2_with fail
 refine (Num_nil _).mono ?_
 rintro e w' ⟨rfl, rfl⟩
 go_wp2_with fail
 go_loopw [13, 14, 15] (fun r v i wr => KpS O w B P D l.length r v i wr) (fun _ _ i _ => l.length - (intOf i).toNat)
 case atStart => exact ⟨0, _, 0, [], [], none, 0, Nat.zero_le _, rfl, rfl, rfl, HL.out, World.ownsRow_nil _ _ _ _, kpM_start⟩
 case round =>
  obtain ⟨k, S, rt, ps, qs, M, cm, hk, rfl, rfl, rfl, hl, ho, hm⟩ := hrel.ex
  have HL1 := Hi hl
  have HO1 := Hi ho
  have HM1 := Hi hm
  clear hrel hl ho hm HL
  by_cases hlt : k < l.length
  ·obtain ⟨cb, co, rfl, hcb, -, hk1, hk2⟩ := (HA.out.below HL1.out.below).at_ hlt
   obtain ⟨ky, HKY⟩ : ∃ ky, Hid (ky = l[k].key) := Hy
   obtain ⟨vl, HVL⟩ : ∃ vl, Hid (vl = l[k].val) := Hy
   rw [← HKY.out] at hk1
   rw [← HVL.out] at hk2
   have HK1 := Hi hk1
   have HK2 := Hi hk2
   have HCB : Hid (cb < B) := Hi (by
    obtain ⟨b9, o9, e9, h9, _⟩ := HA.out.at_ hlt
    cases e9
    have := HWB.out
    omega)
   have HKB : Hid (ky < 256) := Hi (by rw [HKY.out]; exact (HKL.out _ (List.getElem_mem hlt)).key)
   have hkl : (k : Int) < (l.length : Int) := by omega
   have hcv : IntKind.i64.wrap (ky : Int) = (ky : Int) := by rw [IntKind.wrap_i64]; have := HKB.out; omega
   have HWK : Hid (wrap64 ((k : Int) + 1) = ((k + 1 : Nat) : Int)) := Hi (by have := HLEN.out; unfold wrap64; omega)
   have HK150 : Hid (k < 150) := Hi (by have := HLEN.out; omega)
   obtain ⟨r2, S2, qs2, hpt, hm2⟩ := HM1.out.put (by have := HK150.out; omega) (key := (ky : Int)) (by have := HKB.out; omega) (val := valB vl) (valB_size vl)
   have HPUT := Hi hpt
   have HM2 := Hi hm2
   clear hlt hk hk1 hk2 hcb hpt hm2 HKY HVL
   go_upto_region 12 with (fail)
   refine wp_region_held (S := fun w9 => w9.cell? ⟨cb, co + k * 3 + 1, none⟩ = some (.int .u8 (ky : Int)) ∧ w9.cell? ⟨cb, co + k * 3 + 2, none⟩ = some (.int .u32 (vl : Int))) (by kernel_rfl) ?_
   change wpAnyH _ _ _ _ _ _ _ _ wr.drew
   obtain ⟨wa, HWA⟩ : ∃ wa, Hid (wa = wr.drew) := Hy
   rw [← HWA.out]
   have hdr : Below wr.heap.size wr wa := by rw [HWA.out]; exact (Below.refl _ _).drew
   have hS : wa.cell? ⟨cb, co + k * 3 + 1, none⟩ = some (.int .u8 (ky : Int)) ∧ wa.cell? ⟨cb, co + k * 3 + 2, none⟩ = some (.int .u32 (vl : Int)) := ⟨(hdr.cell (p := ⟨cb, co + k * 3 + 1, none⟩) (below_block HK1.out)).trans HK1.out, (hdr.cell (p := ⟨cb, co + k * 3 + 2, none⟩) (below_block HK2.out)).trans HK2.out⟩
   have HLa := Hi (HL1.out.carry H hdr)
   have HOa := Hi (own_below HO1.out hdr)
   clear HWA hdr
   refine takeK (i := 0) 65 (v := ptr P) rfl rfl hS ?_
   simp only [Act.put, pU]
   refine takeK (i := 1) 66 (v := .int .i64 rt) rfl rfl hS ?_
   simp only [Act.put, pU]
   refine takeK (i := 2) 67 (v := .slice (some ⟨cb, co, none⟩) l.length c) rfl rfl hS ?_
   simp only [Act.put, pU]
   refine takeK (i := 3) 68 (v := .int .i64 (k : Int)) rfl rfl hS ?_
   simp only [Act.put, pU]
   refine takeK (i := 4) 69 (v := .pointer (some ⟨cb, co + k * 3, none⟩)) rfl rfl hS ?_
   simp only [Act.put, pU]
   refine takeK (i := 5) 70 (v := .pointer (some ⟨cb, co + k * 3 + 1, none⟩)) rfl rfl hS ?_
   simp only [Act.put, pU]
   refine takeJ (i := 6) 71 (v := .int .u8 (ky : Int)) rfl rfl (.inl ⟨by rfl, fun _ h => by have c0 := h.1; go_simp⟩) hS ?_
   simp only [Act.put, pU]
   refine takeK (i := 7) 72 (v := .int .i64 (ky : Int)) rfl rfl hS ?_
   simp only [Act.put, pU]
   refine takeK (i := 8) 73 (v := .slice (some ⟨cb, co, none⟩) l.length c) rfl rfl hS ?_
   simp only [Act.put, pU]
   refine takeK (i := 9) 74 (v := .int .i64 (k : Int)) rfl rfl hS ?_
   simp only [Act.put, pU]
   refine takeK (i := 10) 75 (v := .pointer (some ⟨cb, co + k * 3, none⟩)) rfl rfl hS ?_
   simp only [Act.put, pU]
   refine takeK (i := 11) 76 (v := .pointer (some ⟨cb, co + k * 3 + 2, none⟩)) rfl rfl hS ?_
   simp only [Act.put, pU]
   refine takeJ (i := 12) 77 (v := .int .u32 (vl : Int)) rfl rfl (.inl ⟨by rfl, fun _ h => by have c0 := h.2; go_simp⟩) hS ?_
   simp only [Act.put, pU]
   refine oneH (i := 13) (oi := ⟨some 78, _, _, _, _, _⟩) rfl (by kernel_rfl) (fun K0 hK => ?_)
   go_simp
   refine (Val_any vl wa).mono ?_
   rintro e wb ⟨rfl, hb⟩
   have HLb := Hi (HLa.out.carry H hb)
   have HOb := Hi (own_below HOa.out hb)
   have hS2 : wb.cell? ⟨cb, co + k * 3 + 1, none⟩ = some (.int .u8 (ky : Int)) ∧ wb.cell? ⟨cb, co + k * 3 + 2, none⟩ = some (.int .u32 (vl : Int)) := ⟨(hb.cell (p := ⟨cb, co + k * 3 + 1, none⟩) (below_block hS.1)).trans hS.1, (hb.cell (p := ⟨cb, co + k * 3 + 2, none⟩) (below_block hS.2)).trans hS.2⟩
   clear hb hS HLa HOa
   refine hK.out _ _ hS2 ?_
   clear hK K0
   have hS := hS2
   clear hS2
   refine oneH (i := 14) (oi := ⟨some 79, _, _, _, _, _⟩) rfl (by kernel_rfl) (fun K0 hK => ?_)
   go_simp
   refine (Put_any H HLb.out HG.out (by have := HM1.out.soft; have := HK150.out; omega) rt (key := (ky : Int)) (by have := HKB.out; omega) (val := valB vl) (by rw [valB_size]; unfold maxLen; decide)).mono ?_
   rintro e wc ⟨hl, hkp, hm⟩
   rw [HPUT.out] at hl hm
   obtain rfl := hm
   have HLc := Hi hl
   have HOc := Hi (keep_kept HOb.out hkp)
   have hS2 : wc.cell? ⟨cb, co + k * 3 + 1, none⟩ = some (.int .u8 (ky : Int)) ∧ wc.cell? ⟨cb, co + k * 3 + 2, none⟩ = some (.int .u32 (vl : Int)) := ⟨(World.cell?_of_block (w := wb) (a := ⟨cb, co + k * 3 + 1, none⟩) (hkp.block cb (.inl HCB.out))).trans hS.1, (World.cell?_of_block (w := wb) (a := ⟨cb, co + k * 3 + 2, none⟩) (hkp.block cb (.inl HCB.out))).trans hS.2⟩
   clear hl hkp hS HLb HOb
   refine hK.out _ _ hS2 ?_
   clear hK K0
   have hS := hS2
   clear hS2
   refine takeK (i := 15) 64 (v := .tuple #[.int .i64 r2, .nilIface]) rfl rfl hS ?_
   simp only [Act.put, pU]
   refine takeK (i := 16) 80 (v := .int .i64 r2) rfl rfl hS ?_
   simp only [Act.put, pU]
   refine takeK (i := 17) 81 (v := .nilIface) rfl rfl hS ?_
   simp only [Act.put, pU]
   refine takeK (i := 18) 16 (v := .int .i64 r2) rfl rfl hS ?_
   simp only [Act.put, pU]
   refine takeK (i := 19) 17 (v := .nilIface) rfl rfl hS ?_
   simp only [Act.put, pU]
   refine wpAnyH_done (by kernel_rfl) ?_ _
   replace HK1 := Hi hS.1
   replace HK2 := Hi hS.2
   clear hS HO1 HL1
   have HO1 := HOc
   go_wp2_with fail
   refine (Num_nil _).mono ?_
   rintro e w' ⟨rfl, rfl⟩
   go_wp2_with fail
   go_upto_region 16 with (fail)
   refine wp_region_held (S := fun w9 => w9.cell? ⟨cb, co + k * 3 + 1, none⟩ = some (.int .u8 (ky : Int)) ∧ w9.cell? ⟨cb, co + k * 3 + 2, none⟩ = some (.int .u32 (vl : Int))) (by kernel_rfl) ?_
   change wpAnyH _ _ _ _ _ _ _ _ wc.drew
   obtain ⟨wa, HWA⟩ : ∃ wa, Hid (wa = wc.drew) := Hy
   rw [← HWA.out]
   have hdr : Below wc.heap.size wc wa := by rw [HWA.out]; exact (Below.refl _ _).drew
   have hS : wa.cell? ⟨cb, co + k * 3 + 1, none⟩ = some (.int .u8 (ky : Int)) ∧ wa.cell? ⟨cb, co + k * 3 + 2, none⟩ = some (.int .u32 (vl : Int)) := ⟨(hdr.cell (p := ⟨cb, co + k * 3 + 1, none⟩) (below_block HK1.out)).trans HK1.out, (hdr.cell (p := ⟨cb, co + k * 3 + 2, none⟩) (below_block HK2.out)).trans HK2.out⟩
   have HLa := Hi (HLc.out.carry H hdr)
   have HOa := Hi (own_below HO1.out hdr)
   clear HWA hdr
   refine takeK (i := 0) 86 (v := .slice M ps.length cm) rfl rfl hS ?_
   simp only [Act.put, pU]
   refine takeK (i := 1) 87 (v := .slice (some ⟨cb, co, none⟩) l.length c) rfl rfl hS ?_
   simp only [Act.put, pU]
   refine takeK (i := 2) 88 (v := .int .i64 (k : Int)) rfl rfl hS ?_
   simp only [Act.put, pU]
   refine takeK (i := 3) 89 (v := .pointer (some ⟨cb, co + k * 3, none⟩)) rfl rfl hS ?_
   simp only [Act.put, pU]
   refine takeK (i := 4) 90 (v := .pointer (some ⟨cb, co + k * 3 + 1, none⟩)) rfl rfl hS ?_
   simp only [Act.put, pU]
   refine takeJ (i := 5) 91 (v := .int .u8 (ky : Int)) rfl rfl (.inl ⟨by rfl, fun _ h => by have c0 := h.1; go_simp⟩) hS ?_
   simp only [Act.put, pU]
   refine takeK (i := 6) 92 (v := .int .i64 (ky : Int)) rfl rfl hS ?_
   simp only [Act.put, pU]
   refine takeK (i := 7) 93 (v := .slice (some ⟨cb, co, none⟩) l.length c) rfl rfl hS ?_
   simp only [Act.put, pU]
   refine takeK (i := 8) 94 (v := .int .i64 (k : Int)) rfl rfl hS ?_
   simp only [Act.put, pU]
   refine takeK (i := 9) 95 (v := .pointer (some ⟨cb, co + k * 3, none⟩)) rfl rfl hS ?_
   simp only [Act.put, pU]
   refine takeK (i := 10) 96 (v := .pointer (some ⟨cb, co + k * 3 + 2, none⟩)) rfl rfl hS ?_
   simp only [Act.put, pU]
   refine takeJ (i := 11) 97 (v := .int .u32 (vl : Int)) rfl rfl (.inl ⟨by rfl, fun _ h => by have c0 := h.2; go_simp⟩) hS ?_
   simp only [Act.put, pU]
   refine oneH (i := 12) (oi := ⟨some 98, _, _, _, _, _⟩) rfl (by kernel_rfl) (fun K0 hK => ?_)
   go_simp
   refine (Val_any vl wa).mono ?_
   rintro e wb ⟨rfl, hb⟩
   have HLb := Hi (HLa.out.carry H hb)
   have HOb := Hi (own_below HOa.out hb)
   have hS2 : wb.cell? ⟨cb, co + k * 3 + 1, none⟩ = some (.int .u8 (ky : Int)) ∧ wb.cell? ⟨cb, co + k * 3 + 2, none⟩ = some (.int .u32 (vl : Int)) := ⟨(hb.cell (p := ⟨cb, co + k * 3 + 1, none⟩) (below_block hS.1)).trans hS.1, (hb.cell (p := ⟨cb, co + k * 3 + 2, none⟩) (below_block hS.2)).trans hS.2⟩
   clear hb hS HLa HOa
   refine hK.out _ _ hS2 ?_
   clear hK K0
   have hS := hS2
   clear hS2
   refine takeK (i := 13) 99 (v := .agg #[.int .i64 (ky : Int), .string (valB vl)]) rfl rfl hS ?_
   simp only [Act.put, pU]
   refine oneH (i := 14) (oi := ⟨some 100, _, _, _, _, _⟩) rfl (by kernel_rfl) (fun K0 hK => ?_)
   go_simp
   refine (RefPut_any HOb.out HM1.out.rise (by have := HM1.out.few; have := HK150.out; omega) (ky : Int) (valB vl)).mono ?_
   rintro e wc2 ⟨M2, cm2, rfl, ho, hb⟩
   have HO9 : Hid (wc2.ownsRow B 42 2 (.slice M2 (insP ps (ky : Int) (valB vl)).length cm2) (insP ps (ky : Int) (valB vl)).length (prsCells (insP ps (ky : Int) (valB vl)))) := Hi (ownsRow_mono ho (Nat.le_of_not_lt fun h => absurd (HLb.out.there _ (.inl h)) (Nat.lt_irrefl _)))
   have HL9 := Hi (keep_row H (M2 := M2) HLb.out hb (fun a ha => by have := ho.lt a.block (by rw [ha]; rfl); exact this) HWB.out)
   have hS2 : wc2.cell? ⟨cb, co + k * 3 + 1, none⟩ = some (.int .u8 (ky : Int)) ∧ wc2.cell? ⟨cb, co + k * 3 + 2, none⟩ = some (.int .u32 (vl : Int)) := ⟨(hb.cell (p := ⟨cb, co + k * 3 + 1, none⟩) (below_block hS.1)).trans hS.1, (hb.cell (p := ⟨cb, co + k * 3 + 2, none⟩) (below_block hS.2)).trans hS.2⟩
   clear ho hb hS HLb HOb
   refine hK.out _ _ hS2 ?_
   clear hK K0
   have hS := hS2
   clear hS2
   refine takeK (i := 15) 14 (v := .slice M2 (insP ps (ky : Int) (valB vl)).length cm2) rfl rfl hS ?_
   simp only [Act.put, pU]
   refine wpAnyH_done (by kernel_rfl) ?_ _
   clear hS
   go_wp2_with fail
   go_roundw
   case rel => exact ⟨k + 1, S2, r2, _, qs2, M2, cm2, by have := hkl; omega, by rw [HWK.out], rfl, rfl, HL9.out, HO9.out, HM2.out⟩
   case measure => rw [HWK.out]; simp only [intOf, Int.toNat_natCast]; omega
  ·obtain rfl : k = l.length := by omega
   have HS9 : Hid (S.d.soft.length ≤ 4050) := Hi (by have := HM1.out.soft; have := HLEN.out; omega)
   have HRO : Hid (rootOk S.s rt = true) := Hi (HM1.out.two.ra.rootOk HM1.out.two.ua)
   have HGE : Hid (S.s.sup.gen + 1 < 4294967296) := Hi (by rw [HM1.out.gen]; decide)
   have HPL : Hid (ps.length ≤ 150) := Hi (by have := HM1.out.few; have := HLEN.out; omega)
   have HLOW : Hid (∀ p ∈ ps, 0 ≤ p.1 ∧ p.1 < 4294967296) := Hi fun p hp => by have := HM1.out.low p hp; omega
   have HCOM : Hid (ComT (S.commit rt).s.sup S.data rt ps qs) := Hi (comT_commit HM1.out.two.ra HM1.out.two.ua HM1.out.two.na HM1.out.two.ok)
   clear hk hlt
   go_wp2_with fail
   refine (H.commitYes HL1.out.pg HL1.out.inv HL1.out.up (HL1.out.laidK HG.out) rt HRO.out HGE.out).mono ?_
   rintro e w7 ⟨rfl, hp, hkp⟩
   have HL7 : Hid (LawT O w (fun g => g < B ∨ ∃ a, M = some a ∧ a.block = g) w7 P D 240 (S.commit rt) S.data) := Hi (HL1.out.turned hp hkp (HL1.out.inv.committed HGE.out HRO.out) HL1.out.up)
   have HO7 := Hi (keep_kept HO1.out hkp)
   obtain ⟨X, HX⟩ : ∃ X, Hid (X = (S.commit rt).s.sup) := Hy
   obtain ⟨firm, HFI⟩ : ∃ firm, Hid (firm = S.data) := Hy
   have HXR : Hid (X.root = rt) := Hi (by rw [HX.out]; rfl)
   rw [← HX.out, ← HFI.out] at HCOM
   rw [← HFI.out] at HL7
   clear hp hkp HL1 HO1 HM1 HRO HGE
   go_wp2_with fail
   refine (Num_nil _).mono ?_
   rintro e w' ⟨rfl, rfl⟩
   go_wp2_with fail
   go_loopw [18, 19] (fun n i wr => KpT O w B P D l2.length X firm rt ps qs M cm n i wr) (fun _ i _ => l2.length - (intOf i).toNat)
   case atStart => exact ⟨0, _, rt, Nat.zero_le _, rfl, rfl, HL7.out, HO7.out, HX.out.symm, Nat.zero_le _⟩
   case round =>
    obtain ⟨k, S4, now, hk, rfl, rfl, hl, ho, hsup, hsf⟩ := hrel.ex
    have HL1 := Hi hl
    have HO1 := Hi ho
    have HSUP := Hi hsup
    have HSF := Hi hsf
    clear hrel hl ho hsup hsf HL7 HO7
    by_cases hlt : k < l2.length
    ·obtain ⟨cb, co, rfl, hcb, hk0, hk1, hk2⟩ := (HA2.out.below HL1.out.below).at_ hlt
     obtain ⟨ky, HKY⟩ : ∃ ky, Hid (ky = l2[k].key) := Hy
     obtain ⟨vl, HVL⟩ : ∃ vl, Hid (vl = l2[k].val) := Hy
     obtain ⟨dw, HDW⟩ : ∃ dw, Hid (dw = l2[k].what) := Hy
     rw [← HDW.out] at hk0
     rw [← HKY.out] at hk1
     rw [← HVL.out] at hk2
     have HK1 := Hi hk1
     have HK2 := Hi hk2
     have HCB : Hid (cb < B) := Hi (by
      obtain ⟨b9, o9, e9, h9, _⟩ := HA2.out.at_ hlt
      cases e9
      have := HWB.out
      omega)
     have HKB : Hid (ky < 256) := Hi (by rw [HKY.out]; exact (HKL2.out _ (List.getElem_mem hlt)).key)
     have hkl : (k : Int) < (l2.length : Int) := by omega
     have hcv : IntKind.i64.wrap (ky : Int) = (ky : Int) := by rw [IntKind.wrap_i64]; have := HKB.out; omega
     have HWK : Hid (wrap64 ((k : Int) + 1) = ((k + 1 : Nat) : Int)) := Hi (by have := HLEN2.out; unfold wrap64; omega)
     have HK40 : Hid (k < 40) := Hi (by have := HLEN2.out; omega)
     have HNEXT : Hid (∀ (S5 : TS) (wr5 : World), LawT O w (fun g => g < B ∨ ∃ a, M = some a ∧ a.block = g) wr5 P D 240 S5 firm → S5.s.sup = X → rangeTop S5 rt 0 4294967296 = .ok ps) := Hi fun S5 wr5 hl5 hs5 => by
      have h := rangeTop_ok hl5.inv ((show ComT S5.s.sup firm rt ps qs by rw [hs5]; exact HCOM.out).here hl5.inv) (by have := HPL.out; omega) 0 4294967296
      rw [cutP_all HLOW.out] at h
      exact h
     clear hlt hk hcb HKY HVL HDW
     by_cases hdo : dw % 5 = 3
     ·have hd1 : ((dw : Int) % 5 == 3) = true := by simp; omega
      have hd9 : (dw : Int) % 5 = 3 := by omega
      clear hdo
      go_wp2_with fail
      obtain ⟨R9, HR9⟩ : ∃ R9, Hid (R9 = delTop 240 S4 now (ky : Int)) := Hy
      have HST := Hi (delTop_stay HL1.out.inv now (ky : Int))
      refine (Delete_any H HL1.out HG.out (by have := HSF.out; have := HK40.out; omega) now (ky : Int)).mono ?_
      rw [← HR9.out] at HST ⊢
      rintro e wc ⟨hl, hkp, hm⟩
      have HLc := Hi hl
      have HOc := Hi (keep_kept HO1.out hkp)
      have HSUP5 : Hid (R9.2.s.sup = X) := Hi (HST.out.sup.trans HSUP.out)
      have HSF5 : Hid (R9.2.d.soft.length ≤ S4.d.soft.length + 27) := Hi (by have := HST.out.soft; omega)
      clear hl hkp HL1 HO1 HST HR9 hk0 hk1 hk2 hd1 hd9
      cases hR : R9.1 with
      | error cd =>
       rw [hR] at hm
       obtain ⟨hc0, v, rfl, he⟩ := hm
       obtain ⟨tt, xx, rfl⟩ := he.some hc0
       have HE := Hi he.is
       have hcz : (cd == 0) = false := by simpa using hc0
       clear he hR
       go_wp2_with fail
       refine (Num_any cd _ wc HE.out (HLc.out.laid HG.out).err).mono ?_
       rintro e wd ⟨rfl, hb⟩
       replace HLc := Hi (HLc.out.carry H hb)
       replace HOc := Hi (own_below HOc.out hb)
       clear hb HE
       have HRA := Hi (Range_any H HG.out HLc.out rt 0 4294967296)
       rw [HNEXT.out _ _ HLc.out HSUP5.out] at HRA
       go_wp2_with fail
       refine HRA.out.mono ?_
       rintro e wS ⟨hb, AL, cL, rfl, hol⟩
       replace HLc := Hi (HLc.out.carry H hb)
       replace HOc := Hi (own_below HOc.out hb)
       have HSA := Hi (Same_yes hol HOc.out (by have := HPL.out; omega))
       clear hb hol HRA
       go_wp2_with fail
       refine (Num_nil _).mono ?_
       rintro e w' ⟨rfl, rfl⟩
       go_wp2_with fail
       refine HSA.out.mono ?_
       rintro e wT ⟨rfl, hb⟩
       replace HLc := Hi (HLc.out.carry H hb)
       replace HOc := Hi (own_below HOc.out hb)
       clear hb HSA
       go_wp2_with fail
       go_roundw
       case rel => exact ⟨k + 1, _, now, by have := hkl; omega, by rw [HWK.out], rfl, HLc.out, HOc.out, HSUP5.out, by have := HSF5.out; have := HSF.out; omega⟩
       case measure => rw [HWK.out]; simp only [intOf, Int.toNat_natCast]; omega
      | ok r9 =>
       rw [hR] at hm
       obtain rfl := hm
       clear hR
       go_wp2_with fail
       refine (Num_nil _).mono ?_
       rintro e w' ⟨rfl, rfl⟩
       have HRA := Hi (Range_any H HG.out HLc.out rt 0 4294967296)
       rw [HNEXT.out _ _ HLc.out HSUP5.out] at HRA
       go_wp2_with fail
       refine HRA.out.mono ?_
       rintro e wS ⟨hb, AL, cL, rfl, hol⟩
       replace HLc := Hi (HLc.out.carry H hb)
       replace HOc := Hi (own_below HOc.out hb)
       have HSA := Hi (Same_yes hol HOc.out (by have := HPL.out; omega))
       clear hb hol HRA
       go_wp2_with fail
       refine (Num_nil _).mono ?_
       rintro e w' ⟨rfl, rfl⟩
       go_wp2_with fail
       refine HSA.out.mono ?_
       rintro e wT ⟨rfl, hb⟩
       replace HLc := Hi (HLc.out.carry H hb)
       replace HOc := Hi (own_below HOc.out hb)
       clear hb HSA
       go_wp2_with fail
       go_roundw
       case rel => exact ⟨k + 1, _, r9, by have := hkl; omega, by rw [HWK.out], rfl, HLc.out, HOc.out, HSUP5.out, by have := HSF5.out; have := HSF.out; omega⟩
       case measure => rw [HWK.out]; simp only [intOf, Int.toNat_natCast]; omega
     ·have hd1 : ((dw : Int) % 5 == 3) = false := by simp; omega
      have hd9 : ¬ (dw : Int) % 5 = 3 := by omega
      clear hdo
      obtain ⟨R9, HR9⟩ : ∃ R9, Hid (R9 = putTop 240 S4 now (ky : Int) (valB vl)) := Hy
      have HST := Hi (putTop_stay HL1.out.inv now (ky : Int) (valB vl))
      rw [← HR9.out] at HST
      go_upto_region 26 with (fail)
      refine wp_region_held (S := fun w9 => w9.cell? ⟨cb, co + k * 3 + 1, none⟩ = some (.int .u8 (ky : Int)) ∧ w9.cell? ⟨cb, co + k * 3 + 2, none⟩ = some (.int .u32 (vl : Int))) (by kernel_rfl) ?_
      change wpAnyH _ _ _ _ _ _ _ _ wr.drew
      obtain ⟨wa, HWA⟩ : ∃ wa, Hid (wa = wr.drew) := Hy
      rw [← HWA.out]
      have hdr : Below wr.heap.size wr wa := by rw [HWA.out]; exact (Below.refl _ _).drew
      have hS : wa.cell? ⟨cb, co + k * 3 + 1, none⟩ = some (.int .u8 (ky : Int)) ∧ wa.cell? ⟨cb, co + k * 3 + 2, none⟩ = some (.int .u32 (vl : Int)) := ⟨(hdr.cell (p := ⟨cb, co + k * 3 + 1, none⟩) (below_block HK1.out)).trans HK1.out, (hdr.cell (p := ⟨cb, co + k * 3 + 2, none⟩) (below_block HK2.out)).trans HK2.out⟩
      have HLa := Hi (HL1.out.carry H hdr)
      have HOa := Hi (own_below HO1.out hdr)
      clear HWA hdr
      refine takeK (i := 0) 133 (v := ptr P) rfl rfl hS ?_
      simp only [Act.put, pU]
      refine takeK (i := 1) 134 (v := .int .i64 now) rfl rfl hS ?_
      simp only [Act.put, pU]
      refine takeK (i := 2) 135 (v := .slice (some ⟨cb, co, none⟩) l2.length c2) rfl rfl hS ?_
      simp only [Act.put, pU]
      refine takeK (i := 3) 136 (v := .int .i64 (k : Int)) rfl rfl hS ?_
      simp only [Act.put, pU]
      refine takeK (i := 4) 137 (v := .pointer (some ⟨cb, co + k * 3, none⟩)) rfl rfl hS ?_
      simp only [Act.put, pU]
      refine takeK (i := 5) 138 (v := .pointer (some ⟨cb, co + k * 3 + 1, none⟩)) rfl rfl hS ?_
      simp only [Act.put, pU]
      refine takeJ (i := 6) 139 (v := .int .u8 (ky : Int)) rfl rfl (.inl ⟨by rfl, fun _ h => by have c0 := h.1; go_simp⟩) hS ?_
      simp only [Act.put, pU]
      refine takeK (i := 7) 140 (v := .int .i64 (ky : Int)) rfl rfl hS ?_
      simp only [Act.put, pU]
      refine takeK (i := 8) 141 (v := .slice (some ⟨cb, co, none⟩) l2.length c2) rfl rfl hS ?_
      simp only [Act.put, pU]
      refine takeK (i := 9) 142 (v := .int .i64 (k : Int)) rfl rfl hS ?_
      simp only [Act.put, pU]
      refine takeK (i := 10) 143 (v := .pointer (some ⟨cb, co + k * 3, none⟩)) rfl rfl hS ?_
      simp only [Act.put, pU]
      refine takeK (i := 11) 144 (v := .pointer (some ⟨cb, co + k * 3 + 2, none⟩)) rfl rfl hS ?_
      simp only [Act.put, pU]
      refine takeJ (i := 12) 145 (v := .int .u32 (vl : Int)) rfl rfl (.inl ⟨by rfl, fun _ h => by have c0 := h.2; go_simp⟩) hS ?_
      simp only [Act.put, pU]
      refine oneH (i := 13) (oi := ⟨some 146, _, _, _, _, _⟩) rfl (by kernel_rfl) (fun K0 hK => ?_)
      go_simp
      refine (Val_any vl wa).mono ?_
      rintro e wb ⟨rfl, hb⟩
      have HLb := Hi (HLa.out.carry H hb)
      have HOb := Hi (own_below HOa.out hb)
      have hS2 : wb.cell? ⟨cb, co + k * 3 + 1, none⟩ = some (.int .u8 (ky : Int)) ∧ wb.cell? ⟨cb, co + k * 3 + 2, none⟩ = some (.int .u32 (vl : Int)) := ⟨(hb.cell (p := ⟨cb, co + k * 3 + 1, none⟩) (below_block hS.1)).trans hS.1, (hb.cell (p := ⟨cb, co + k * 3 + 2, none⟩) (below_block hS.2)).trans hS.2⟩
      clear hb hS HLa HOa
      refine hK.out _ _ hS2 ?_
      clear hK K0
      have hS := hS2
      clear hS2
      refine oneH (i := 14) (oi := ⟨some 147, _, _, _, _, _⟩) rfl (by kernel_rfl) (fun K0 hK => ?_)
      go_simp
      refine (Put_any H HLb.out HG.out (by have := HSF.out; have := HK40.out; omega) now (key := (ky : Int)) (by have := HKB.out; omega) (val := valB vl) (by rw [valB_size]; unfold maxLen; decide)).mono ?_
      rw [← HR9.out]
      rintro e wc ⟨hl, hkp, hm⟩
      have HLc := Hi hl
      have HOc := Hi (keep_kept HOb.out hkp)
      have hS2 : wc.cell? ⟨cb, co + k * 3 + 1, none⟩ = some (.int .u8 (ky : Int)) ∧ wc.cell? ⟨cb, co + k * 3 + 2, none⟩ = some (.int .u32 (vl : Int)) := ⟨(World.cell?_of_block (w := wb) (a := ⟨cb, co + k * 3 + 1, none⟩) (hkp.block cb (.inl HCB.out))).trans hS.1, (World.cell?_of_block (w := wb) (a := ⟨cb, co + k * 3 + 2, none⟩) (hkp.block cb (.inl HCB.out))).trans hS.2⟩
      obtain ⟨u1, u2, rfl, HU⟩ : ∃ u1 u2, e = .returned (.tuple #[u1, u2]) ∧ Hid (PutOut u1 u2 wb wc) := putOut_of hm
      clear hl hkp hS HLb HOb hm
      refine hK.out _ _ hS2 ?_
      clear hK K0
      have hS := hS2
      clear hS2
      refine takeK (i := 15) 132 (v := .tuple #[u1, u2]) rfl rfl hS ?_
      simp only [Act.put, pU]
      refine takeK (i := 16) 148 (v := u1) rfl rfl hS ?_
      simp only [Act.put, pU]
      refine takeK (i := 17) 149 (v := u2) rfl rfl hS ?_
      simp only [Act.put, pU]
      refine takeK (i := 18) 20 (v := u1) rfl rfl hS ?_
      simp only [Act.put, pU]
      refine takeK (i := 19) 21 (v := u2) rfl rfl hS ?_
      simp only [Act.put, pU]
      refine wpAnyH_done (by kernel_rfl) ?_ _
      have HSUP5 : Hid (R9.2.s.sup = X) := Hi (HST.out.sup.trans HSUP.out)
      have HSF5 : Hid (R9.2.d.soft.length ≤ S4.d.soft.length + 27) := Hi (by have := HST.out.soft; omega)
      clear hS HL1 HO1 HST HR9 hk0 hk1 hk2 hd1 hd9
      rcases HU.out with ⟨cd, hc0, rfl, he⟩ | ⟨r9, rfl, rfl⟩
      ·obtain ⟨tt, xx, rfl⟩ := he.some hc0
       have HE := Hi he.is
       have hcz : (cd == 0) = false := by simpa using hc0
       clear he HU
       go_wp2_with fail
       refine (Num_any cd _ wc HE.out (HLc.out.laid HG.out).err).mono ?_
       rintro e wd ⟨rfl, hb⟩
       replace HLc := Hi (HLc.out.carry H hb)
       replace HOc := Hi (own_below HOc.out hb)
       clear hb HE
       have HRA := Hi (Range_any H HG.out HLc.out rt 0 4294967296)
       rw [HNEXT.out _ _ HLc.out HSUP5.out] at HRA
       go_wp2_with fail
       refine HRA.out.mono ?_
       rintro e wS ⟨hb, AL, cL, rfl, hol⟩
       replace HLc := Hi (HLc.out.carry H hb)
       replace HOc := Hi (own_below HOc.out hb)
       have HSA := Hi (Same_yes hol HOc.out (by have := HPL.out; omega))
       clear hb hol HRA
       go_wp2_with fail
       refine (Num_nil _).mono ?_
       rintro e w' ⟨rfl, rfl⟩
       go_wp2_with fail
       refine HSA.out.mono ?_
       rintro e wT ⟨rfl, hb⟩
       replace HLc := Hi (HLc.out.carry H hb)
       replace HOc := Hi (own_below HOc.out hb)
       clear hb HSA
       go_wp2_with fail
       go_roundw
       case rel => exact ⟨k + 1, _, now, by have := hkl; omega, by rw [HWK.out], rfl, HLc.out, HOc.out, HSUP5.out, by have := HSF5.out; have := HSF.out; omega⟩
       case measure => rw [HWK.out]; simp only [intOf, Int.toNat_natCast]; omega
      ·clear HU
       go_wp2_with fail
       refine (Num_nil _).mono ?_
       rintro e w' ⟨rfl, rfl⟩
       have HRA := Hi (Range_any H HG.out HLc.out rt 0 4294967296)
       rw [HNEXT.out _ _ HLc.out HSUP5.out] at HRA
       go_wp2_with fail
       refine HRA.out.mono ?_
       rintro e wS ⟨hb, AL, cL, rfl, hol⟩
       replace HLc := Hi (HLc.out.carry H hb)
       replace HOc := Hi (own_below HOc.out hb)
       have HSA := Hi (Same_yes hol HOc.out (by have := HPL.out; omega))
       clear hb hol HRA
       go_wp2_with fail
       refine (Num_nil _).mono ?_
       rintro e w' ⟨rfl, rfl⟩
       go_wp2_with fail
       refine HSA.out.mono ?_
       rintro e wT ⟨rfl, hb⟩
       replace HLc := Hi (HLc.out.carry H hb)
       replace HOc := Hi (own_below HOc.out hb)
       clear hb HSA
       go_wp2_with fail
       go_roundw
       case rel => exact ⟨k + 1, _, r9, by have := hkl; omega, by rw [HWK.out], rfl, HLc.out, HOc.out, HSUP5.out, by have := HSF5.out; have := HSF.out; omega⟩
       case measure => rw [HWK.out]; simp only [intOf, Int.toNat_natCast]; omega
    ·obtain rfl : k = l2.length := by omega
     have HLA := Hi (show LawP O w (fun g => g < B ∨ ∃ a, M = some a ∧ a.block = g) wr P D 240 S4.d S4.s S4.data firm from HL1.out)
     have HS4 : Hid (S4.d.soft.length ≤ 1000000) := Hi (by have := HSF.out; have := HLEN2.out; omega)
     clear hk hlt
     go_wp2_with fail
     refine (Crash_yes (m := m) (t := x) HMB.out HLA.out.pg.disk HLA.out.there HS4.out HXB.out).mono ?_
     rintro e w9 ⟨rfl, hd9, hk⟩
     have HD9 := Hi hd9
     have HK9 := Hi hk
     have HO9 := Hi (keep_kept HO1.out hk)
     clear hd9 hk HO1 HL1
     go_wp2_with fail
     refine (Up_any HD9.out).mono ?_
     rintro e w10 ⟨rfl, hd10, hk⟩
     have HOP := Hi (Open_after H HLA.out m x hd10 (HK9.out.trans hk) HG.out)
     have HO10 := Hi (keep_kept HO9.out hk)
     clear hd10 hk HD9 HK9 HO9 HLA
     go_wp2_with fail
     refine HOP.out.mono ?_
     rintro e w11 ⟨Q, rfl, hq, hb⟩
     rw [HSUP.out] at hq
     have HLQ : Hid (LawT O w (fun g => g < B ∨ ∃ a, M = some a ∧ a.block = g) w11 Q D 240 ⟨(S4.d.crash m x).up, Pst.opened X, firm⟩ firm) := Hi hq
     have HOQ := Hi (own_below HO10.out hb)
     clear hq hb HOP HO10
     go_wp2_with fail
     refine (Num_nil _).mono ?_
     rintro e w' ⟨rfl, rfl⟩
     have HROOT := Hi (H.pgRoot HLQ.out.pg)
     rw [show ((Pst.opened X).sup.root) = rt from HXR.out] at HROOT
     go_wp2_with fail
     refine HROOT.out.mono ?_
     rintro e w12 ⟨rfl, hb⟩
     replace HLQ := Hi (HLQ.out.carry H hb)
     replace HOQ := Hi (own_below HOQ.out hb)
     have HRA := Hi (Range_any H HG.out HLQ.out rt 0 4294967296)
     have HRV : Hid (rangeTop ⟨(S4.d.crash m x).up, Pst.opened X, firm⟩ rt 0 4294967296 = .ok ps) := Hi (by
      have h := rangeTop_ok HLQ.out.inv (HCOM.out.opened HLQ.out.inv) (by have := HPL.out; omega) 0 4294967296
      rw [cutP_all HLOW.out] at h
      exact h)
     rw [HRV.out] at HRA
     clear hb HROOT
     go_wp2_with fail
     refine HRA.out.mono ?_
     rintro e wS ⟨hb, AL, cL, rfl, hol⟩
     replace HLQ := Hi (HLQ.out.carry H hb)
     replace HOQ := Hi (own_below HOQ.out hb)
     have HSA := Hi (Same_yes hol HOQ.out (by have := HPL.out; omega))
     clear hb hol HRA
     go_wp2_with fail
     refine (Num_nil _).mono ?_
     rintro e w' ⟨rfl, rfl⟩
     go_wp2_with fail
     refine HSA.out.mono ?_
     rintro e wT ⟨rfl, hb⟩
     have HFIN : Hid (Below w.heap.size w wT) := Hi (HLQ.out.carry H hb).below
     go_wp2_with fail
     go_ret
     exact ⟨rfl, HFIN.out⟩
theorem tkeeps_walk {A A2 : Option Addr} {c c2 : Nat} {l l2 : List Ka} (m : Nat) (x : Int) (hk : ∀ a ∈ l, a.Ok) (hk2 : ∀ a ∈ l2, a.Ok) (hm : m < 4294967296) (hx : x ≤ 9223372036854775807) (w : World) (ha : KasAt w A l) (ha2 : KasAt w A2 l2) (hg : Laid2 w) :
  Calls Tryz.prog 3 #[.slice A l.length c, .slice A2 l2.length c2, .int .u32 (m : Int), .int .i64 x] w fun e w' => e = .returned (.bool true) ∧ Below w.heap.size w w' := by
 by_cases hl : l.length ≤ 150
 ·by_cases hl2 : l2.length ≤ 40
  ·exact tkeeps_yes H m x hl hl2 hk hk2 hm hx w ha ha2 hg
  ·exact tkeeps_long H m x (.inr ⟨hl, by omega⟩) w hg
 ·exact tkeeps_long H m x (.inl (by omega)) w hg
end
end Go.Proofs.YticbgbngookmnaaGreatDoor
