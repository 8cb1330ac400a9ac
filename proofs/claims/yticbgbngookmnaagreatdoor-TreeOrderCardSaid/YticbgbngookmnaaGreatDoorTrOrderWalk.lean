/-
  The walk of the statement TreeOrder: it answers true, and no memory that was there has turned. Conditions: the pager's calls are as PgSpec says; errors.errorType and crc.halved are laid.
-/
import Derived.Test.YticbgbngookmnaaGreatDoorTrAwake
import Derived.Test.YticbgbngookmnaaGreatDoorTd
import Derived.Test.YticbgbngookmnaaGreatDoorTrPairEq
namespace Go.Proofs.YticbgbngookmnaaGreatDoor
open Go.RowKit

abbrev fm0 : Nat → List UInt8 := fun _ => []
abbrev valV (z : Int) : ByteArray := valB z.toNat
/-- before a round of the first loop -/
structure OrS (O : PgOwn) (w : World) (B P D : Nat) (zs : List Int) (a b i : Value) (wr : World) : Prop where
  ex : ∃ (k : Nat) (S : TS) (ra rb : Int) (pa pb : List Pr) (qa qb : List Int), k ≤ zs.length ∧ i = .int .i64 (k : Int) ∧ a = .int .i64 ra ∧ b = .int .i64 rb ∧ LawT O w (· < B) wr P D 240 S fm0 ∧ TwT 240 fm0 S ra rb pa pb qa qb ∧ allP valV (zs.take k) pa ∧ allP valV (zs.reverse.take k) pb ∧ S.d.soft.length ≤ 60 * k
/-- before a round of the second loop -/
structure OrT (O : PgOwn) (w : World) (K : Nat → Prop) (P D N M : Nat) (ps : List Pr) (rb : Int) (qb : List Int) (AL AM : Option Addr) (cL cM : Nat) (a i : Value) (wr : World) : Prop where
  ex : ∃ (k : Nat) (S : TS) (ra : Int) (qa : List Int), k ≤ ps.length ∧ i = .int .i64 (k : Int) ∧ a = .int .i64 ra ∧ LawT O w K wr P D 240 S fm0 ∧ TwT 240 fm0 S ra rb ps ps qa qb ∧ wr.ownsRow N 53 2 (.slice AL ps.length cL) ps.length (prsCells ps) ∧ wr.ownsRow M 53 2 (.slice AM ps.length cM) ps.length (prsCells ps) ∧ S.d.soft.length ≤ 5000 + 30 * k
theorem own_kept {K : Nat → Prop} {w w' : World} {N : Nat} {T : TypeId} {v : Value} {n : Nat} {xs : List Value} (h : w.ownsRow N T 2 v n xs) (hk : Kept K w w') (hK : ∀ g, v.ownBlock = some g → K g) : w'.ownsRow N T 2 v n xs := ownsRow_block h fun g hg => hk.block g (hK g hg)
section
variable {O : PgOwn} (H : PgSpec O)
include H
set_option maxRecDepth 100000 in
set_option maxHeartbeats 2000000 in
theorem torder_long {A : Option Addr} {c : Nat} {zs : List Int} (hl : 80 < zs.length) (w : World) (hg : Laid2 w) :
    Calls Tryz.prog 4 #[.slice A zs.length c] w fun e w' => e = .returned (.bool true) ∧ Below w.heap.size w w' := by
  have HG := Lib.hid hg
  have hd : decide ((80 : Int) < (zs.length : Int)) = true := by simp; omega
  clear hg hl
  go_enter Tryz.func4, Tryz.ntmps4
  go_wp2_with fail
  refine (awake10_any H _ HG.out).mono ?_
  rintro e w1 ⟨rfl, hb⟩
  have HB := Lib.hid hb
  have HG1 := Lib.hid (HG.out.carry hb)
  clear hb
  go_wp2_with fail
  refine (awake10_any H _ HG1.out).mono ?_
  rintro e w2 ⟨rfl, hb⟩
  have HB2 := Lib.hid (HB.out.trans (hb.mono HB.out.size))
  clear hb
  go_wp2_with fail
  go_ret
  exact ⟨rfl, HB2.out⟩
set_option maxRecDepth 100000 in
set_option maxHeartbeats 1000000 in
theorem torder_yes {A : Option Addr} {c : Nat} {zs : List Int} (hl : zs.length ≤ 80) (hk : ∀ u ∈ zs, 0 ≤ u ∧ u < 256) (w : World) (hn : Nums w .u8 A zs) (hg : Laid2 w) :
    Calls Tryz.prog 4 #[.slice A zs.length c] w fun e w' => e = .returned (.bool true) ∧ Below w.heap.size w w' := by
  have HG := Lib.hid hg
  have HKZ := Lib.hid hk
  have HNU := Lib.hid hn
  have HLEN := Lib.hid hl
  have hd : decide ((80 : Int) < (zs.length : Int)) = false := by simp; omega
  clear hg hk hn hl
  go_enter Tryz.func4, Tryz.ntmps4
  go_wp2_with fail
  refine (awake10_any H _ HG.out).mono ?_
  rintro e w1 ⟨rfl, hb⟩
  have HB1 := Lib.hid hb
  clear hb
  go_wp2_with fail
  refine (New_yes 240 (by decide) (by decide) w1).mono ?_
  rintro e w2 ⟨D, rfl, hd2, hb⟩
  have HF := Lib.hid (Format_new H (n := 240) (by decide) (by decide) (fun _ => []) HB1.out hd2 hb HG.out)
  obtain ⟨B, HBB⟩ : ∃ B, Hid (B = w1.heap.size) := ⟨_, Lib.hid rfl⟩
  rw [← HBB.out] at HF
  have HWB : Hid (w.heap.size ≤ B) := Lib.hid (by rw [HBB.out]; exact HB1.out.size)
  clear hd2 hb hd
  go_wp2_with fail
  refine HF.out.mono ?_
  rintro e w3 ⟨P, rfl, hl⟩
  have HL : Hid (LawT O w (· < B) w3 P D 240 (S0 240) fm0) := Lib.hid hl
  clear hl HF
  go_wp2_with fail
  go_loopw [7, 8, 9] (fun a b i wr => OrS O w B P D zs a b i wr) (fun _ _ i _ => zs.length - (intOf i).toNat)
  case atStart => exact ⟨0, _, 0, 0, [], [], [], [], Nat.zero_le _, rfl, rfl, rfl, HL.out, TwT.start (by decide) (by decide), allP.nil _, allP.nil _, Nat.zero_le _⟩
  case round =>
    obtain ⟨k, S, ra, rb, pa, pb, qa, qb, hk, rfl, rfl, rfl, hl, ht, ha, hb, hs⟩ := hrel.ex
    have HL1 := Lib.hid hl
    have HT1 := Lib.hid ht
    have HPA := Lib.hid ha
    have HPB := Lib.hid hb
    have HS1 := Lib.hid hs
    clear hrel hl ht ha hb hs HL
    by_cases hlt : k < zs.length
    · obtain ⟨C, hC0, -, hc0⟩ := (HNU.out.carry HL1.out.below) (by omega)
      have hc := hc0 k zs[k] (List.getElem?_eq_getElem hlt)
      obtain ⟨kn, HKN⟩ : ∃ kn : Nat, Hid (zs[k] = (kn : Int) ∧ kn < 256) := ⟨zs[k].toNat, Lib.hid (by have := HKZ.out _ (List.getElem_mem hlt); omega)⟩
      obtain ⟨j, HJ⟩ : ∃ j : Nat, Hid (j = zs.length - 1 - k) := ⟨_, Lib.hid rfl⟩
      have hjl : j < zs.length := by rw [HJ.out]; omega
      have hcj := hc0 j zs[j] (List.getElem?_eq_getElem hjl)
      obtain ⟨jn, HJN⟩ : ∃ jn : Nat, Hid (zs[j] = (jn : Int) ∧ jn < 256) := ⟨zs[j].toNat, Lib.hid (by have := HKZ.out _ (List.getElem_mem hjl); omega)⟩
      have HTA : Hid (zs.take (k + 1) = zs.take k ++ [(kn : Int)]) := Lib.hid (by rw [← HKN.out.1, List.take_append_getElem])
      have HTB : Hid (zs.reverse.take (k + 1) = zs.reverse.take k ++ [(jn : Int)]) := Lib.hid (by
        have h2 : k < zs.reverse.length := by rw [List.length_reverse]; exact hlt
        have h3 : zs.reverse[k] = (jn : Int) := by
          rw [List.getElem_reverse, ← HJN.out.1]
          congr 1
          exact HJ.out.symm
        rw [← h3, List.take_append_getElem])
      rw [HKN.out.1] at hc
      rw [HJN.out.1] at hcj
      have HCC := Lib.hid hcj
      obtain rfl : A = some C := hC0
      have hkl : (k : Int) < (zs.length : Int) := by omega
      have hjl2 : (j : Int) < (zs.length : Int) := by omega
      have hj : (zs.length : Int) - 1 - (k : Int) = (j : Int) := by rw [HJ.out]; omega
      have HJJ : Hid (wrap64 (wrap64 ((zs.length : Int) - 1) - (k : Int)) = (j : Int)) := Lib.hid (by have := HLEN.out; unfold wrap64; omega)
      have HWK : Hid (wrap64 ((k : Int) + 1) = ((k + 1 : Nat) : Int)) := Lib.hid (by have := HLEN.out; unfold wrap64; omega)
      have HK80 : Hid (k < 80) := Lib.hid (by have := HLEN.out; omega)
      have HLA : Hid (pa.length ≤ 80 ∧ pb.length ≤ 80) := Lib.hid (by have h1 := HPA.out.2.1; have h2 := HPB.out.2.1; rw [List.length_take] at h1 h2; have := HK80.out; omega)
      obtain ⟨ra2, S2, qa2, hpa, ht2, hs2⟩ := HT1.out.put (by have := HLA.out; omega) (by have := HLA.out; omega) (key := (kn : Int)) (by have := HKN.out; omega) (val := valB kn) (valB_size kn)
      have HPUT1 := Lib.hid hpa
      have HT2 := Lib.hid ht2
      have HS2 := Lib.hid hs2
      obtain ⟨rb3, S3, qb3, hpb, ht3, hs3⟩ := HT2.out.swap.put (by have := HLA.out; omega) (by have h := (insP_length (ps := pa) (key := (kn : Int)) (val := valB kn)).1; have := HLA.out; omega) (key := (jn : Int)) (by have := HJN.out; omega) (val := valB jn) (valB_size jn)
      have HPUT2 := Lib.hid hpb
      have HT3 := Lib.hid ht3.swap
      have HS3 := Lib.hid hs3
      have HPA2 : Hid (allP valV (zs.take (k + 1)) (insP pa kn (valB kn))) := Lib.hid (by rw [HTA.out]; exact HPA.out.put kn)
      have HPB2 : Hid (allP valV (zs.reverse.take (k + 1)) (insP pb jn (valB jn))) := Lib.hid (by rw [HTB.out]; exact HPB.out.put jn)
      have HRA : Hid (0 ≤ ra ∧ ra < 240 ∧ 0 ≤ rb ∧ rb < 240) := Lib.hid (by have h1 := HT1.out.ra.bound HT1.out.ok; have h2 := HT1.out.rb.bound HT1.out.ok; omega)
      have hcv1 : IntKind.i64.wrap (kn : Int) = (kn : Int) := by rw [IntKind.wrap_i64]; have := HKN.out; omega
      have hcv2 : IntKind.u32.wrap (kn : Int) = (kn : Int) := by rw [IntKind.wrap_u32]; have := HKN.out.2; omega
      clear hk hpa ht2 hs2 hpb ht3 hs3 hc0 hcj hj
      go_upto_region 9 with (fail)
      refine wp_region_held (S := fun w9 => w9.cell? (C.add k) = some (.int .u8 (kn : Int))) (by kernel_rfl) ?_
      change wpAnyH _ _ _ _ _ _ _ _ wr.drew
      obtain ⟨wa, HWA⟩ : ∃ wa, Hid (wa = wr.drew) := ⟨_, Lib.hid rfl⟩
      rw [← HWA.out]
      have hdr : Below wr.heap.size wr wa := by rw [HWA.out]; exact (Below.refl _ _).drew
      have hS : wa.cell? (C.add k) = some (.int .u8 (kn : Int)) := (hdr.cell (p := C.add k) (below_block hc)).trans hc
      have HLA9 := Lib.hid (HL1.out.carry H hdr)
      have HCLT : Hid (C.block < w.heap.size) := Lib.hid (by
        obtain ⟨a, e, hlt9, _⟩ := HNU.out (by have := hkl; omega)
        cases e
        exact hlt9)
      clear HWA hdr hc HL1
      refine takeH (i := 0) 48 (v := ptr P) rfl (by kernel_rfl) (by kernel_rfl) (by kernel_rfl) rfl (fun _ _ _ h => h) (.inl ⟨by rfl, fun _ _ => by go_simp⟩) hS ?_
      simp only [Act.put, List.setIfInBounds_toArray, List.set_cons_zero, List.set_cons_succ]
      refine takeH (i := 1) 49 (v := .int .i64 ra) rfl (by kernel_rfl) (by kernel_rfl) (by kernel_rfl) rfl (fun _ _ _ h => h) (.inl ⟨by rfl, fun _ _ => by go_simp⟩) hS ?_
      simp only [Act.put, List.setIfInBounds_toArray, List.set_cons_zero, List.set_cons_succ]
      refine takeH (i := 2) 50 (v := .slice (some C) zs.length c) rfl (by kernel_rfl) (by kernel_rfl) (by kernel_rfl) rfl (fun _ _ _ h => h) (.inl ⟨by rfl, fun _ _ => by go_simp⟩) hS ?_
      simp only [Act.put, List.setIfInBounds_toArray, List.set_cons_zero, List.set_cons_succ]
      refine takeH (i := 3) 51 (v := .int .i64 (k : Int)) rfl (by kernel_rfl) (by kernel_rfl) (by kernel_rfl) rfl (fun _ _ _ h => h) (.inl ⟨by rfl, fun _ _ => by go_simp⟩) hS ?_
      simp only [Act.put, List.setIfInBounds_toArray, List.set_cons_zero, List.set_cons_succ]
      refine takeH (i := 4) 52 (v := .pointer (some (C.add k))) rfl (by kernel_rfl) (by kernel_rfl) (by kernel_rfl) rfl (fun _ _ _ h => h) (.inl ⟨by rfl, fun _ _ => by go_simp⟩) hS ?_
      simp only [Act.put, List.setIfInBounds_toArray, List.set_cons_zero, List.set_cons_succ]
      refine takeH (i := 5) 53 (v := .int .u8 (kn : Int)) rfl (by kernel_rfl) (by kernel_rfl) (by kernel_rfl) rfl (fun _ _ _ h => h) (.inl ⟨by rfl, fun _ h => by go_simp⟩) hS ?_
      simp only [Act.put, List.setIfInBounds_toArray, List.set_cons_zero, List.set_cons_succ]
      refine takeH (i := 6) 54 (v := .int .i64 (kn : Int)) rfl (by kernel_rfl) (by kernel_rfl) (by kernel_rfl) rfl (fun _ _ _ h => h) (.inl ⟨by rfl, fun _ _ => by go_simp⟩) hS ?_
      simp only [Act.put, List.setIfInBounds_toArray, List.set_cons_zero, List.set_cons_succ]
      refine takeH (i := 7) 55 (v := .slice (some C) zs.length c) rfl (by kernel_rfl) (by kernel_rfl) (by kernel_rfl) rfl (fun _ _ _ h => h) (.inl ⟨by rfl, fun _ _ => by go_simp⟩) hS ?_
      simp only [Act.put, List.setIfInBounds_toArray, List.set_cons_zero, List.set_cons_succ]
      refine takeH (i := 8) 56 (v := .int .i64 (k : Int)) rfl (by kernel_rfl) (by kernel_rfl) (by kernel_rfl) rfl (fun _ _ _ h => h) (.inl ⟨by rfl, fun _ _ => by go_simp⟩) hS ?_
      simp only [Act.put, List.setIfInBounds_toArray, List.set_cons_zero, List.set_cons_succ]
      refine takeH (i := 9) 57 (v := .pointer (some (C.add k))) rfl (by kernel_rfl) (by kernel_rfl) (by kernel_rfl) rfl (fun _ _ _ h => h) (.inl ⟨by rfl, fun _ _ => by go_simp⟩) hS ?_
      simp only [Act.put, List.setIfInBounds_toArray, List.set_cons_zero, List.set_cons_succ]
      refine takeH (i := 10) 58 (v := .int .u8 (kn : Int)) rfl (by kernel_rfl) (by kernel_rfl) (by kernel_rfl) rfl (fun _ _ _ h => h) (.inl ⟨by rfl, fun _ h => by go_simp⟩) hS ?_
      simp only [Act.put, List.setIfInBounds_toArray, List.set_cons_zero, List.set_cons_succ]
      refine takeH (i := 11) 59 (v := .int .u32 (kn : Int)) rfl (by kernel_rfl) (by kernel_rfl) (by kernel_rfl) rfl (fun _ _ _ h => h) (.inl ⟨by rfl, fun _ _ => by go_simp⟩) hS ?_
      simp only [Act.put, List.setIfInBounds_toArray, List.set_cons_zero, List.set_cons_succ]
      refine oneH (i := 12) (oi := ⟨some 60, _, _, _, _, _⟩) rfl (by kernel_rfl) (fun K hK => ?_)
      go_simp
      refine (Val_any kn wa).mono ?_
      rintro e wb ⟨rfl, hb⟩
      have HLB9 := Lib.hid (HLA9.out.carry H hb)
      have hS2 := (hb.cell (p := C.add k) (below_block hS)).trans hS
      clear hb hS HLA9
      refine hK.out _ _ hS2 ?_
      clear hK K
      have hS := hS2
      clear hS2
      refine oneH (i := 13) (oi := ⟨some 61, _, _, _, _, _⟩) rfl (by kernel_rfl) (fun K hK => ?_)
      go_simp
      refine (Put_any H HLB9.out HG.out (by have := HS1.out; have := HK80.out; omega) ra (by have := HRA.out; omega) (key := (kn : Int)) (by have := HKN.out; omega) (val := valB kn) (by rw [valB_size]; unfold maxLen; decide)).mono ?_
      rintro e wc ⟨hl, hkp, hm⟩
      rw [HPUT1.out] at hl hm
      obtain rfl := hm
      have HLC9 := Lib.hid hl
      have hcb := HCLT.out
      have hS2 := (World.cell?_of_block (w := wb) (a := C.add k) (show wc.heap[(C.add k).block]? = wb.heap[(C.add k).block]? by rw [block_of_add]; exact hkp.block _ (Nat.lt_of_lt_of_le hcb HWB.out))).trans hS
      clear hl hkp hS HLB9 hcb
      refine hK.out _ _ hS2 ?_
      clear hK K
      have hS := hS2
      clear hS2
      refine takeH (i := 14) 47 (v := .tuple #[.int .i64 ra2, .nilIface]) rfl (by kernel_rfl) (by kernel_rfl) (by kernel_rfl) rfl (fun _ _ _ h => h) (.inl ⟨by rfl, fun _ _ => by go_simp⟩) hS ?_
      simp only [Act.put, List.setIfInBounds_toArray, List.set_cons_zero, List.set_cons_succ]
      refine takeH (i := 15) 62 (v := .int .i64 ra2) rfl (by kernel_rfl) (by kernel_rfl) (by kernel_rfl) rfl (fun _ _ _ h => h) (.inl ⟨by rfl, fun _ _ => by go_simp⟩) hS ?_
      simp only [Act.put, List.setIfInBounds_toArray, List.set_cons_zero, List.set_cons_succ]
      refine takeH (i := 16) 63 (v := .nilIface) rfl (by kernel_rfl) (by kernel_rfl) (by kernel_rfl) rfl (fun _ _ _ h => h) (.inl ⟨by rfl, fun _ _ => by go_simp⟩) hS ?_
      simp only [Act.put, List.setIfInBounds_toArray, List.set_cons_zero, List.set_cons_succ]
      refine takeH (i := 17) 10 (v := .int .i64 ra2) rfl (by kernel_rfl) (by kernel_rfl) (by kernel_rfl) rfl (fun _ _ _ h => h) (.inl ⟨by rfl, fun _ _ => by go_simp⟩) hS ?_
      simp only [Act.put, List.setIfInBounds_toArray, List.set_cons_zero, List.set_cons_succ]
      refine takeH (i := 18) 11 (v := .nilIface) rfl (by kernel_rfl) (by kernel_rfl) (by kernel_rfl) rfl (fun _ _ _ h => h) (.inl ⟨by rfl, fun _ _ => by go_simp⟩) hS ?_
      simp only [Act.put, List.setIfInBounds_toArray, List.set_cons_zero, List.set_cons_succ]
      refine wpAnyH_done (by kernel_rfl) ?_ _
      clear hS
      have hcj2 : wc.cell? (C.add j) = some (.int .u8 (jn : Int)) := by
        obtain ⟨C2, e, _, h9⟩ := (HNU.out.carry HLC9.out.below) (by have := hkl; omega)
        cases e
        rw [← HJN.out.1]
        exact h9 j _ (List.getElem?_eq_getElem (by have := hjl2; omega))
      have hj := HJJ.out
      have hju : (jn : Int) % 4294967296 = (jn : Int) := by have := HJN.out.2; omega
      have hju2 : IntKind.u32.wrap (jn : Int) = (jn : Int) := by rw [IntKind.wrap_u32]; have := HJN.out.2; omega
      have hji : IntKind.i64.wrap (jn : Int) = (jn : Int) := by rw [IntKind.wrap_i64]; have := HJN.out; omega
      go_wp2_with fail
      clear hj hcj2
      refine (Val_any jn wc).mono ?_
      rintro e wd ⟨rfl, hb⟩
      have HLD9 := Lib.hid (HLC9.out.carry H hb)
      clear hb HLC9
      go_wp2_with fail
      refine (Put_any H HLD9.out HG.out (by have := HS1.out; have := HS2.out; have := HK80.out; omega) rb (by have := HRA.out; omega) (key := (jn : Int)) (by have := HJN.out; omega) (val := valB jn) (by rw [valB_size]; unfold maxLen; decide)).mono ?_
      rintro e we ⟨hl, hkp, hm⟩
      rw [HPUT2.out] at hl hm
      obtain rfl := hm
      have HLE := Lib.hid hl
      clear hl hkp HLD9
      go_wp2_with fail
      refine (Num_nil _).mono ?_
      rintro e w' ⟨rfl, rfl⟩
      go_wp2_with fail
      refine (Num_nil _).mono ?_
      rintro e w' ⟨rfl, rfl⟩
      go_wp2_with fail
      go_roundw
      case rel => exact ⟨k + 1, S3, ra2, rb3, _, _, _, _, by have := hkl; omega, by rw [HWK.out], rfl, rfl, HLE.out, HT3.out, HPA2.out, HPB2.out, by have := HS1.out; have := HS2.out; have := HS3.out; omega⟩
      case measure => rw [HWK.out]; simp only [intOf, Int.toNat_natCast]; omega
    · obtain rfl : k = zs.length := by omega
      have HPP : Hid (pa = pb) := Lib.hid (HPA.out.same HPB.out fun u => by rw [List.take_of_length_le (Nat.le_refl _), List.take_of_length_le (by rw [List.length_reverse]; exact Nat.le_refl _), List.mem_reverse])
      have HLOW : Hid (∀ p ∈ pa, 0 ≤ p.1 ∧ p.1 < 256) := Lib.hid (HPA.out.low fun u hu => HKZ.out u (List.mem_of_mem_take hu))
      have HPL : Hid (pa.length ≤ 80) := Lib.hid (by have h := HPA.out.2.1; rw [List.length_take] at h; have := HLEN.out; omega)
      have HRISE : Hid (Rise pa) := Lib.hid HPA.out.1
      have HVS : Hid (∀ p ∈ pa, p.2.size = 12) := Lib.hid fun p hp => by
        obtain ⟨u, _, rfl⟩ := (HPA.out.2.2 p).1 hp
        exact valB_size _
      have HS9 : Hid (S.d.soft.length ≤ 4800) := Lib.hid (by have := HS1.out; have := HLEN.out; omega)
      have HT9 : Hid (TwT 240 fm0 S ra rb pa pa qa qb) := Lib.hid (by have h := HT1.out; rw [← HPP.out] at h; exact h)
      have HRV : Hid (rangeTop S ra 0 256 = .ok pa ∧ rangeTop S rb 0 256 = .ok pa) := Lib.hid (by
        have h1 := rangeTop_ok HT9.out.ok HT9.out.ra (by have := HPL.out; omega) 0 256
        have h2 := rangeTop_ok HT9.out.ok HT9.out.rb (by have := HPL.out; omega) 0 256
        rw [cutP_low HLOW.out] at h1 h2
        exact ⟨h1, h2⟩)
      clear hk hlt HPA HPB HT1 HPP
      have HR1 := Lib.hid (Range_any H HG.out HL1.out ra 0 256)
      rw [HRV.out.1] at HR1
      go_wp2_with fail
      refine HR1.out.mono ?_
      rintro e w4 ⟨hb4, AL, cL, rfl, hol⟩
      have HL4 := Lib.hid (HL1.out.carry H hb4)
      have HOL4 := Lib.hid hol
      have HB4 := Lib.hid hb4
      have HR2 := Lib.hid (Range_any H HG.out HL4.out rb 0 256)
      rw [HRV.out.2] at HR2
      clear hb4 hol HR1
      go_wp2_with fail
      refine HR2.out.mono ?_
      rintro e w5 ⟨hb5, AM, cM, rfl, hom⟩
      obtain ⟨K, HKK⟩ : ∃ K : Nat → Prop, Hid (K = fun g => g < B ∨ (wr.heap.size ≤ g ∧ g < w5.heap.size)) := ⟨_, Lib.hid rfl⟩
      have HL5 : Hid (LawT O w K w5 P D 240 S fm0) := Lib.hid (by rw [HKK.out]; exact HL1.out.grow H (HB4.out.trans (hb5.mono HB4.out.size)))
      have HOL5 := Lib.hid (own_below HOL4.out hb5)
      have HOM5 := Lib.hid hom
      have HKL : Hid (∀ g, (Value.slice AL pa.length cL).ownBlock = some g → K g) := Lib.hid fun g hg => by
        rw [HKK.out]
        have h1 := HOL4.out.lt g hg
        have h2 := hb5.size
        exact .inr ⟨h1.1, by omega⟩
      have HKM : Hid (∀ g, (Value.slice AM pa.length cM).ownBlock = some g → K g) := Lib.hid fun g hg => by
        rw [HKK.out]
        have h1 := hom.lt g hg
        have h2 := HB4.out.size
        exact .inr ⟨by omega, h1.2⟩
      clear hb5 hom HR2 HL1 HL4 HOL4 HRV
      go_wp2_with fail
      go_loopw [7, 19] (fun a i wr2 => OrT O w K P D wr.heap.size w4.heap.size pa rb qb AL AM cL cM a i wr2) (fun _ i _ => pa.length - (intOf i).toNat)
      case atStart => exact ⟨0, S, ra, qa, Nat.zero_le _, rfl, rfl, HL5.out, HT9.out, HOL5.out, HOM5.out, by have := HS9.out; omega⟩
      case round =>
        obtain ⟨k, S2, ra2, qa2, hk, rfl, rfl, hl, ht, hol, hom, hs⟩ := hrel.ex
        rename World => wr2
        have HL6 := Lib.hid hl
        have HT6 := Lib.hid ht
        have HOL6 := Lib.hid hol
        have HOM6 := Lib.hid hom
        have HS6 := Lib.hid hs
        clear hrel hl ht hol hom hs HL5 HT9 HOL5 HOM5 HS9
        by_cases hlt : k < pa.length
        · obtain ⟨pq, HPQ⟩ : ∃ pq, Hid (pq = pa[k]) := ⟨_, Lib.hid rfl⟩
          obtain ⟨g1, hg1, a0, a1⟩ := own_pair HOL6.out hlt
          obtain ⟨g2, hg2, b0, b1⟩ := own_pair HOM6.out hlt
          rw [← HPQ.out] at a0 a1 b0 b1
          have HMEM : Hid (pq ∈ pa) := Lib.hid (by rw [HPQ.out]; exact List.getElem_mem hlt)
          have HNEXT : Hid (∀ j (h : j + 1 = k), (pa[j]'(by omega)).1 < pq.1) := Lib.hid fun j h => by
            rw [HPQ.out]
            exact (List.pairwise_iff_getElem.1 HRISE.out) j k (by omega) hlt (by omega)
          obtain ⟨kz, vz⟩ := pq
          have HSAME : Hid (insP pa kz vz = pa) := Lib.hid (insP_same HRISE.out HMEM.out)
          have HKB : Hid (0 ≤ kz ∧ kz < 256) := Lib.hid (HLOW.out _ HMEM.out)
          have hvz : vz.size = 12 := HVS.out _ HMEM.out
          have HVZ := Lib.hid hvz
          obtain ⟨ra3, S3, qa3, hpa3, ht3, hs3⟩ := HT6.out.put (by have := HPL.out; omega) (by have := HPL.out; omega) (key := kz) HKB.out (val := vz) hvz
          rw [HSAME.out] at ht3
          have HPUT3 := Lib.hid hpa3
          have HT7 := Lib.hid ht3
          have HS7 := Lib.hid hs3
          have HRB2 : Hid (0 ≤ ra2 ∧ ra2 < 240) := Lib.hid (HT6.out.ra.bound HT6.out.ok)
          obtain rfl : AL = some ⟨g1, 0, none⟩ := hg1
          obtain rfl : AM = some ⟨g2, 0, none⟩ := hg2
          have hkl : (k : Int) < (pa.length : Int) := by omega
          have HWK2 : Hid (wrap64 ((k : Int) + 1) = ((k + 1 : Nat) : Int)) := Lib.hid (by have := HPL.out; unfold wrap64; omega)
          have hne := fun w => neq_pr kz vz w
          have hgd := guardPr
          have HA0 := Lib.hid a0
          have HA1 := Lib.hid a1
          clear hpa3 ht3 hs3 hvz
          have hcase : (decide ((0 : Int) < (k : Int)) = false ∧ decide (0 < k) = false) ∨ ∃ (j : Nat) (pz : Int), decide ((0 : Int) < (k : Int)) = true ∧ decide (0 < k) = true ∧ IntKind.i64.wrap ((k : Int) - 1) = (j : Int) ∧ wrap64 ((k : Int) - 1) = (j : Int) ∧ (k : Int) - 1 = (j : Int) ∧ (0 : Int) ≤ (j : Int) ∧ (j : Int) < (pa.length : Int) ∧ wr2.cell? ⟨g1, j * 2, none⟩ = some (.int .i64 pz) ∧ decide (kz ≤ pz) = false := by
            rcases Nat.eq_zero_or_pos k with h0 | h0
            · exact .inl ⟨decide_eq_false (by omega), decide_eq_false (by omega)⟩
            · right
              obtain ⟨g3, hg3, e0, -⟩ := own_pair HOL6.out (k := k - 1) (by omega)
              cases hg3
              exact ⟨k - 1, _, decide_eq_true (by omega), decide_eq_true h0, by rw [IntKind.wrap_i64]; have := HPL.out; omega, by have := HPL.out; unfold wrap64; omega, by omega, by omega, by omega, e0, decide_eq_false (by have := HNEXT.out (k - 1) (by omega); omega)⟩
          have hkw : IntKind.i64.wrap (k : Int) = (k : Int) := by rw [IntKind.wrap_i64]; have := HPL.out; omega
          rcases hcase with ⟨hk0, hk9⟩ | ⟨j, pz, hk0, hk9, hjw, hjw2, hjw3, hj0, hjl, e0, hle⟩
          case' inl =>
            go_upto_region 20 with (fail)
            go_quiet (fail)
            clear hk0 hk9
          case' inr =>
            clear hjw3
            go_upto_region 20 with (fail)
            go_quiet (fail)
            clear hk0 hk9 hjw hjw2 hj0 hjl e0 hle
          all_goals
            generalize hwd : World.drewN _ _ = wd
            have hbd : Below wr2.heap.size wr2 wd := by rw [← hwd]; exact below_drewN _ _
            have HLD := Lib.hid (HL6.out.carry H hbd)
            have HOLD := Lib.hid (own_below HOL6.out hbd)
            have HOMD := Lib.hid (own_below HOM6.out hbd)
            have HD0 : Hid (wd.cell? ⟨g1, k * 2, none⟩ = some (.int .i64 kz) ∧ wd.cell? ⟨g1, k * 2 + 1, none⟩ = some (.string vz)) := Lib.hid ⟨(hbd.cell (p := ⟨g1, k * 2, none⟩) (below_block HA0.out)).trans HA0.out, (hbd.cell (p := ⟨g1, k * 2 + 1, none⟩) (below_block HA1.out)).trans HA1.out⟩
            clear hwd hbd a0 a1 b0 b1 hne hgd HA0 HA1
            go_upto_region 22 with (fail)
            refine wp_region_held (S := fun w9 => w9.cell? ⟨g1, k * 2, none⟩ = some (.int .i64 kz) ∧ w9.cell? ⟨g1, k * 2 + 1, none⟩ = some (.string vz)) (by kernel_rfl) ?_
            change wpAnyH _ _ _ _ _ _ _ _ wd.drew
            obtain ⟨wa, HWA⟩ : ∃ wa, Hid (wa = wd.drew) := ⟨_, Lib.hid rfl⟩
            rw [← HWA.out]
            have hdr : Below wd.heap.size wd wa := by rw [HWA.out]; exact (Below.refl _ _).drew
            have hS : wa.cell? ⟨g1, k * 2, none⟩ = some (.int .i64 kz) ∧ wa.cell? ⟨g1, k * 2 + 1, none⟩ = some (.string vz) := ⟨(hdr.cell (p := ⟨g1, k * 2, none⟩) (below_block HD0.out.1)).trans HD0.out.1, (hdr.cell (p := ⟨g1, k * 2 + 1, none⟩) (below_block HD0.out.2)).trans HD0.out.2⟩
            have HLA2 := Lib.hid (HLD.out.carry H hdr)
            have HOLA := Lib.hid (own_below HOLD.out hdr)
            have HOMA := Lib.hid (own_below HOMD.out hdr)
            have HG1K : Hid (K g1) := Lib.hid (HKL.out g1 rfl)
            clear HWA hdr HLD HOLD HOMD HD0
            refine takeH (i := 0) 146 (v := ptr P) rfl (by kernel_rfl) (by kernel_rfl) (by kernel_rfl) rfl (fun _ _ _ h => h) (.inl ⟨by rfl, fun _ _ => by go_simp⟩) hS ?_
            simp only [Act.put, List.setIfInBounds_toArray, List.set_cons_zero, List.set_cons_succ]
            refine takeH (i := 1) 147 (v := .int .i64 ra2) rfl (by kernel_rfl) (by kernel_rfl) (by kernel_rfl) rfl (fun _ _ _ h => h) (.inl ⟨by rfl, fun _ _ => by go_simp⟩) hS ?_
            simp only [Act.put, List.setIfInBounds_toArray, List.set_cons_zero, List.set_cons_succ]
            refine takeH (i := 2) 148 (v := .slice (some ⟨g1, 0, none⟩) pa.length cL) rfl (by kernel_rfl) (by kernel_rfl) (by kernel_rfl) rfl (fun _ _ _ h => h) (.inl ⟨by rfl, fun _ _ => by go_simp⟩) hS ?_
            simp only [Act.put, List.setIfInBounds_toArray, List.set_cons_zero, List.set_cons_succ]
            refine takeH (i := 3) 149 (v := .int .i64 (k : Int)) rfl (by kernel_rfl) (by kernel_rfl) (by kernel_rfl) rfl (fun _ _ _ h => h) (.inl ⟨by rfl, fun _ _ => by go_simp⟩) hS ?_
            simp only [Act.put, List.setIfInBounds_toArray, List.set_cons_zero, List.set_cons_succ]
            refine takeH (i := 4) 150 (v := .pointer (some ⟨g1, k * 2, none⟩)) rfl (by kernel_rfl) (by kernel_rfl) (by kernel_rfl) rfl (fun _ _ _ h => h) (.inl ⟨by rfl, fun _ _ => by go_simp⟩) hS ?_
            simp only [Act.put, List.setIfInBounds_toArray, List.set_cons_zero, List.set_cons_succ]
            refine takeH (i := 5) 151 (v := .pointer (some ⟨g1, k * 2, none⟩)) rfl (by kernel_rfl) (by kernel_rfl) (by kernel_rfl) rfl (fun _ _ _ h => h) (.inl ⟨by rfl, fun _ _ => by go_simp⟩) hS ?_
            simp only [Act.put, List.setIfInBounds_toArray, List.set_cons_zero, List.set_cons_succ]
            refine takeH (i := 6) 152 (v := .int .i64 kz) rfl (by kernel_rfl) (by kernel_rfl) (by kernel_rfl) rfl (fun _ _ _ h => h) (.inl ⟨by rfl, fun _ h => by have c0 := h.1; go_simp⟩) hS ?_
            simp only [Act.put, List.setIfInBounds_toArray, List.set_cons_zero, List.set_cons_succ]
            refine takeH (i := 7) 153 (v := .slice (some ⟨g1, 0, none⟩) pa.length cL) rfl (by kernel_rfl) (by kernel_rfl) (by kernel_rfl) rfl (fun _ _ _ h => h) (.inl ⟨by rfl, fun _ _ => by go_simp⟩) hS ?_
            simp only [Act.put, List.setIfInBounds_toArray, List.set_cons_zero, List.set_cons_succ]
            refine takeH (i := 8) 154 (v := .int .i64 (k : Int)) rfl (by kernel_rfl) (by kernel_rfl) (by kernel_rfl) rfl (fun _ _ _ h => h) (.inl ⟨by rfl, fun _ _ => by go_simp⟩) hS ?_
            simp only [Act.put, List.setIfInBounds_toArray, List.set_cons_zero, List.set_cons_succ]
            refine takeH (i := 9) 155 (v := .pointer (some ⟨g1, k * 2, none⟩)) rfl (by kernel_rfl) (by kernel_rfl) (by kernel_rfl) rfl (fun _ _ _ h => h) (.inl ⟨by rfl, fun _ _ => by go_simp⟩) hS ?_
            simp only [Act.put, List.setIfInBounds_toArray, List.set_cons_zero, List.set_cons_succ]
            refine takeH (i := 10) 156 (v := .pointer (some ⟨g1, k * 2 + 1, none⟩)) rfl (by kernel_rfl) (by kernel_rfl) (by kernel_rfl) rfl (fun _ _ _ h => h) (.inl ⟨by rfl, fun _ _ => by go_simp⟩) hS ?_
            simp only [Act.put, List.setIfInBounds_toArray, List.set_cons_zero, List.set_cons_succ]
            refine takeH (i := 11) 157 (v := .string vz) rfl (by kernel_rfl) (by kernel_rfl) (by kernel_rfl) rfl (fun _ _ _ h => h) (.inl ⟨by rfl, fun _ h => by have c0 := h.2; go_simp⟩) hS ?_
            simp only [Act.put, List.setIfInBounds_toArray, List.set_cons_zero, List.set_cons_succ]
            refine oneH (i := 12) (oi := ⟨some 158, _, _, _, _, _⟩) rfl (by kernel_rfl) (fun K0 hK => ?_)
            go_simp
            refine (Put_any H HLA2.out HG.out (by have := HS6.out; have := HPL.out; omega) ra2 (by have := HRB2.out; omega) (key := kz) (by have := HKB.out; omega) (val := vz) (by rw [HVZ.out]; unfold maxLen; decide)).mono ?_
            rintro e wc ⟨hl, hkp, hm⟩
            rw [HPUT3.out] at hl hm
            obtain rfl := hm
            have HLC2 := Lib.hid hl
            have HOLC := Lib.hid (own_kept HOLA.out hkp HKL.out)
            have HOMC := Lib.hid (own_kept HOMA.out hkp HKM.out)
            have hgb := hkp.block g1 HG1K.out
            have hS2 : wc.cell? ⟨g1, k * 2, none⟩ = some (.int .i64 kz) ∧ wc.cell? ⟨g1, k * 2 + 1, none⟩ = some (.string vz) := ⟨(World.cell?_of_block (w := wa) (a := ⟨g1, k * 2, none⟩) hgb).trans hS.1, (World.cell?_of_block (w := wa) (a := ⟨g1, k * 2 + 1, none⟩) hgb).trans hS.2⟩
            clear hl hkp hS hgb HLA2 HOLA HOMA
            refine hK.out _ _ hS2 ?_
            clear hK K0
            have hS := hS2
            clear hS2
            refine takeH (i := 13) 145 (v := .tuple #[.int .i64 ra3, .nilIface]) rfl (by kernel_rfl) (by kernel_rfl) (by kernel_rfl) rfl (fun _ _ _ h => h) (.inl ⟨by rfl, fun _ _ => by go_simp⟩) hS ?_
            simp only [Act.put, List.setIfInBounds_toArray, List.set_cons_zero, List.set_cons_succ]
            refine takeH (i := 14) 159 (v := .int .i64 ra3) rfl (by kernel_rfl) (by kernel_rfl) (by kernel_rfl) rfl (fun _ _ _ h => h) (.inl ⟨by rfl, fun _ _ => by go_simp⟩) hS ?_
            simp only [Act.put, List.setIfInBounds_toArray, List.set_cons_zero, List.set_cons_succ]
            refine takeH (i := 15) 160 (v := .nilIface) rfl (by kernel_rfl) (by kernel_rfl) (by kernel_rfl) rfl (fun _ _ _ h => h) (.inl ⟨by rfl, fun _ _ => by go_simp⟩) hS ?_
            simp only [Act.put, List.setIfInBounds_toArray, List.set_cons_zero, List.set_cons_succ]
            refine takeH (i := 16) 20 (v := .int .i64 ra3) rfl (by kernel_rfl) (by kernel_rfl) (by kernel_rfl) rfl (fun _ _ _ h => h) (.inl ⟨by rfl, fun _ _ => by go_simp⟩) hS ?_
            simp only [Act.put, List.setIfInBounds_toArray, List.set_cons_zero, List.set_cons_succ]
            refine takeH (i := 17) 21 (v := .nilIface) rfl (by kernel_rfl) (by kernel_rfl) (by kernel_rfl) rfl (fun _ _ _ h => h) (.inl ⟨by rfl, fun _ _ => by go_simp⟩) hS ?_
            simp only [Act.put, List.setIfInBounds_toArray, List.set_cons_zero, List.set_cons_succ]
            refine wpAnyH_done (by kernel_rfl) ?_ _
            clear hS
            go_wp2_with fail
            refine (Num_nil _).mono ?_
            rintro e w' ⟨rfl, rfl⟩
            go_wp2_with fail
            go_roundw
            case rel => exact ⟨k + 1, S3, ra3, qa3, by have := hkl; omega, by rw [HWK2.out], rfl, HLC2.out, HT7.out, HOLC.out, HOMC.out, by have := HS6.out; have := HS7.out; omega⟩
            case measure => rw [HWK2.out]; simp only [intOf, Int.toNat_natCast]; omega
        · have HR3 := Lib.hid (Range_any H HG.out HL6.out ra2 0 256)
          have HRV3 : Hid (rangeTop S2 ra2 0 256 = .ok pa) := Lib.hid (by
            have h1 := rangeTop_ok HT6.out.ok HT6.out.ra (by have := HPL.out; omega) 0 256
            rw [cutP_low HLOW.out] at h1
            exact h1)
          rw [HRV3.out] at HR3
          clear hk
          go_wp2_with fail
          refine HR3.out.mono ?_
          rintro e w8 ⟨hb8, AN, cN, rfl, -⟩
          have HF8 : Hid (Below w.heap.size w w8) := Lib.hid (HL6.out.below.trans (hb8.mono HL6.out.below.size))
          clear hb8 HR3
          go_wp2_with fail
          refine (Num_nil _).mono ?_
          rintro e w' ⟨rfl, rfl⟩
          go_wp2_with fail
          refine (Num_nil _).mono ?_
          rintro e w' ⟨rfl, rfl⟩
          go_wp2_with fail
          refine (Num_nil _).mono ?_
          rintro e w' ⟨rfl, rfl⟩
          go_wp2_with fail
          refine (Num_nil _).mono ?_
          rintro e w' ⟨rfl, rfl⟩
          go_wp2_with fail
          go_ret
          exact ⟨rfl, HF8.out⟩
theorem torder_walk {A : Option Addr} {c : Nat} {zs : List Int} (hk : ∀ u ∈ zs, 0 ≤ u ∧ u < 256) (w : World) (hn : Nums w .u8 A zs) (hg : Laid2 w) :
    Calls Tryz.prog 4 #[.slice A zs.length c] w fun e w' => e = .returned (.bool true) ∧ Below w.heap.size w w' := by
  by_cases hl : zs.length ≤ 80
  · exact torder_yes H hl hk w hn hg
  · exact torder_long H (by omega) w hg
end
end Go.Proofs.YticbgbngookmnaaGreatDoor
