/-
  The walk of the statement TreeFull: it answers true, and no memory that was there has turned. Conditions: the pager's calls are as PgSpec says; errors.errorType and crc.halved are laid.
-/
import Derived.Test.YticbgbngookmnaaGreatDoorTrAwake
namespace Go.Proofs.YticbgbngookmnaaGreatDoor
open Go.RowKit

/-- before a round: v the pairs that are held beside, i the place -/
structure FuS (O : PgOwn) (w : World) (B P D n len : Nat) (v i : Value) (wr : World) : Prop where
  ex : ∃ k S firm ps qs M cm, k ≤ len ∧ i = .int .i64 ((k : Nat) : Int) ∧ v = .slice M (ps : List Pr).length cm ∧ LawT O w (fun g => g < B ∨ ∃ a, M = some a ∧ a.block = g) wr P D n S firm ∧ wr.ownsRow B 42 2 (.slice M ps.length cm) ps.length (prsCells ps) ∧ FuM n S firm ps qs k
section
variable {O : PgOwn} (H : PgSpec O)
include H
/-- a row that was made is kept from now on, another one no longer -/
theorem law_row {w0 w w' : World} {B P D n : Nat} {S : TS} {firm : Nat → List UInt8} {M M2 : Option Addr} (h : LawT O w0 (fun g => g < B ∨ ∃ a, M = some a ∧ a.block = g) w P D n S firm) (hb : Below w.heap.size w w') (h2 : ∀ a, M2 = some a → w.heap.size ≤ a.block ∧ a.block < w'.heap.size) (hlow : w0.heap.size ≤ B) : LawT O w0 (fun g => g < B ∨ ∃ a, M2 = some a ∧ a.block = g) w' P D n S firm := by
  have hth := h.there
  refine h.off H (M := fun _ => False) (Turn.of_below hb) (fun _ h => h.elim) (fun k hk => ?_) (fun k hk => ?_) fun k hk => .inl (by omega)
  · rcases hk with hk | ⟨a, ha, rfl⟩
    · exact .inl (.inl hk)
    · exact .inr (h2 a ha).1
  · rcases hk with hk | ⟨a, ha, rfl⟩
    · exact Nat.lt_of_lt_of_le (hth k (.inl hk)) hb.size
    · exact (h2 a ha).2
omit H in
theorem this_lt {w0 w : World} {B P D n : Nat} {S : TS} {firm : Nat → List UInt8} {M : Option Addr} (h : LawT O w0 (fun g => g < B ∨ ∃ a, M = some a ∧ a.block = g) w P D n S firm) (hB : w.heap.size < B) : w.heap.size < w.heap.size := h.there _ (.inl hB)
omit H in
theorem row_kept {w0 w w' : World} {B P D n : Nat} {S : TS} {firm : Nat → List UInt8} {M : Option Addr} {T : TypeId} {c m : Nat} {xs : List Value} (ho : w.ownsRow B T 2 (.slice M m c) m xs) (hk : Kept (fun g => g < B ∨ ∃ a, M = some a ∧ a.block = g) w w') (_ : LawT O w0 (fun g => g < B ∨ ∃ a, M = some a ∧ a.block = g) w P D n S firm) : w'.ownsRow B T 2 (.slice M m c) m xs :=
  ownsRow_block ho fun g hg => hk.block g (.inr (by cases hM : M with | none => (rw [hM] at hg; cases hg) | some a => (rw [hM] at hg; cases hg; exact ⟨a, rfl, rfl⟩)))
set_option maxRecDepth 100000 in
set_option maxHeartbeats 2000000 in
theorem tfull_long (z : Nat) {A : Option Addr} {c : Nat} {zs : List Int} (hl : 100 < zs.length) (w : World) (hg : Laid2 w) :
    Calls Tryz.prog 5 #[.int .u8 (z : Int), .slice A zs.length c] w fun e w' => e = .returned (.bool true) ∧ Below w.heap.size w w' := by
  have HG := Lib.hid hg
  have hd : decide ((100 : Int) < (zs.length : Int)) = true := by simp; omega
  clear hg hl
  go_enter Tryz.func5, Tryz.ntmps5
  go_wp2_with fail
  refine (awake10_any H _ HG.out).mono ?_
  rintro e w1 ⟨rfl, hb⟩
  have HB := Lib.hid hb
  have HG1 := Lib.hid (HG.out.carry hb)
  clear hb
  go_wp2_with fail
  refine (awake10_any H _ HG1.out).mono ?_
  rintro e w2 ⟨rfl, hb⟩
  have HB2 := Lib.hid (HB.out.trans (hb.mono HB.out.size))
  clear hb
  go_wp2_with fail
  go_ret
  exact ⟨rfl, HB2.out⟩
set_option maxRecDepth 100000 in
set_option maxHeartbeats 4000000 in
theorem tfull_yes (z : Nat) (hz : z < 256) {A : Option Addr} {c : Nat} {zs : List Int} (hl : zs.length ≤ 100) (hk : ∀ u ∈ zs, 0 ≤ u ∧ u < 256) (w : World) (hn : Nums w .u8 A zs) (hg : Laid2 w) :
    Calls Tryz.prog 5 #[.int .u8 (z : Int), .slice A zs.length c] w fun e w' => e = .returned (.bool true) ∧ Below w.heap.size w w' := by
  have HG := Lib.hid hg
  have HKZ := Lib.hid hk
  have HNU := Lib.hid hn
  have HLEN := Lib.hid hl
  have hd : decide ((100 : Int) < (zs.length : Int)) = false := by simp; omega
  obtain ⟨n, HN⟩ : ∃ n, Hid (n = 4 + z % 30) := ⟨_, Lib.hid rfl⟩
  have hn3 : 3 ≤ n := by rw [HN.out]; omega
  have hn33 : n ≤ 33 := by rw [HN.out]; omega
  clear hg hk hn hl
  go_enter Tryz.func5, Tryz.ntmps5
  go_wp2_with fail
  refine (awake10_any H _ HG.out).mono ?_
  rintro e w1 ⟨rfl, hb⟩
  have HB1 := Lib.hid hb
  clear hb
  go_wp2_with fail
  rw [show (4 + (z : Int) % 30) = (n : Int) by rw [HN.out]; omega]
  refine (New_yes n (by omega) (by omega) w1).mono ?_
  rintro e w2 ⟨D, rfl, hd2, hb⟩
  have HF := Lib.hid (Format_new H hn3 (by omega) (fun _ => []) HB1.out hd2 hb HG.out)
  obtain ⟨B, HBB⟩ : ∃ B, Hid (B = w1.heap.size) := ⟨_, Lib.hid rfl⟩
  rw [← HBB.out] at HF
  have HWB : Hid (w.heap.size ≤ B) := Lib.hid (by rw [HBB.out]; exact HB1.out.size)
  have HN40 : Hid (n ≤ 240) := Lib.hid (by omega)
  clear hd2 hb hn33 hn3 hd
  go_wp2_with fail
  refine HF.out.mono ?_
  rintro e w3 ⟨P, rfl, hl⟩
  have HL : Hid (LawT O w (fun g => g < B ∨ ∃ a, (none : Option Addr) = some a ∧ a.block = g) w3 P D n (S0 n) (fun _ => [])) := Lib.hid (LawP.less H hl (fun k hk => hk.elim id fun ⟨a, h, _⟩ => by cases h) fun k hk => .inl (by have := HWB.out; omega))
  clear hl HF
  go_wp2_with fail
  go_loopw [9, 10] (fun v i wr => FuS O w B P D n zs.length v i wr) (fun _ i _ => zs.length - (intOf i).toNat)
  case atStart => exact ⟨0, _, _, [], [], none, 0, Nat.zero_le _, rfl, rfl, HL.out, World.ownsRow_nil _ _ _ _, full_start⟩
  case round =>
    obtain ⟨k, S, firm, ps, qs, M, cm, hk, rfl, rfl, hl, ho, hm⟩ := hrel.ex
    have HL1 := Lib.hid hl
    have HO1 := Lib.hid ho
    have HM1 := Lib.hid hm
    clear hrel hl ho hm HL
    by_cases hlt : k < zs.length
    · obtain ⟨C, hC0, -, hc0⟩ := (HNU.out.carry HL1.out.below) (by omega)
      have hc := hc0 k zs[k] (List.getElem?_eq_getElem hlt)
      clear hc0
      obtain ⟨kz, HKK⟩ : ∃ kz, Hid (kz = zs[k]) := ⟨_, Lib.hid rfl⟩
      rw [← HKK.out] at hc
      have HKB : Hid (0 ≤ kz ∧ kz < 256) := Lib.hid (by rw [HKK.out]; exact HKZ.out _ (List.getElem_mem _))
      obtain rfl : A = some C := hC0
      have hkl : (k : Int) < (zs.length : Int) := by omega
      have hcv : IntKind.i64.wrap kz = kz := by rw [IntKind.wrap_i64]; have := HKB.out; omega
      have hku : (k : Int) % 4294967296 = (k : Int) := by have := HLEN.out; omega
      obtain ⟨rt, HRT⟩ : ∃ rt, Hid (rt = S.s.sup.root) := ⟨_, Lib.hid rfl⟩
      have HRB : Hid (0 ≤ rt ∧ rt < 240) := Lib.hid (by rw [HRT.out]; exact (HM1.out.rt HL1.out.inv).bound HL1.out.inv)
      have HROOT := Lib.hid (H.pgRoot HL1.out.pg)
      rw [← HRT.out] at HROOT
      have HK100 : Hid (k < 100) := Lib.hid (by have := HLEN.out; omega)
      have HFP := Lib.hid (full_put HL1.out.inv HM1.out (by have := HK100.out; omega) HKB.out (val := valB k) (valB_size k))
      rw [← HRT.out] at HFP
      clear hlt hk HKK
      go_wp2_with fail
      refine HROOT.out.mono ?_
      rintro e w4 ⟨rfl, hb⟩
      have HL4 := Lib.hid (HL1.out.carry H hb)
      have HO4 := Lib.hid (own_below HO1.out hb)
      clear hb hc HROOT
      go_wp2_with fail
      refine (Val_any k w4).mono ?_
      rintro e w5 ⟨rfl, hb⟩
      have HL5 := Lib.hid (HL4.out.carry H hb)
      have HO5 := Lib.hid (own_below HO4.out hb)
      have HPU := Lib.hid (Put_any H HL5.out HG.out (by have := HM1.out.soft; have := HK100.out; omega) rt (by have := HRB.out; omega) (key := kz) (by have := HKB.out; omega) (val := valB k) (by rw [valB_size]; unfold maxLen; decide))
      clear hb HL4 HO4
      go_wp2_with fail
      refine HPU.out.mono ?_
      rintro e w6 ⟨hl, hkp, hm⟩
      have HO6 := Lib.hid (row_kept HO5.out hkp HL5.out)
      have HLW := Lib.hid hl
      have HKP := Lib.hid (HL5.out.there)
      clear hkp hl HPU
      rcases HFP.out with ⟨S2, hpt, hfm⟩ | ⟨r, S2, qs2, hpt, hro, hgen, hfm⟩
      · rw [hpt] at hm HLW
        obtain ⟨-, v, rfl, he⟩ := hm
        obtain ⟨tt, xx, rfl⟩ := he.some (by decide)
        have HE := Lib.hid he.is
        have HM2 := Lib.hid hfm
        clear he hpt hfm HFP HM1
        go_wp2_with fail
        refine (Num_any 6 _ w6 HE.out (HLW.out.laid HG.out).err).mono ?_
        rintro e w7 ⟨rfl, hb⟩
        have HL7 := Lib.hid (HLW.out.carry H hb)
        have HO7 := Lib.hid (own_below HO6.out hb)
        have HE7 := Lib.hid (HE.out.carry hb)
        clear hb HE HLW HO6
        go_wp2_with fail
        refine (Num_any 6 _ w7 HE7.out (HL7.out.laid HG.out).err).mono ?_
        rintro e w8 ⟨rfl, hb⟩
        have HL8 := Lib.hid (HL7.out.carry H hb)
        have HO8 := Lib.hid (own_below HO7.out hb)
        clear hb HE7 HL7 HO7
        go_wp2_with fail
        refine (H.pgAbort HL8.out.pg).mono ?_
        rintro e w9 ⟨rfl, hp, hkp⟩
        have HL9 : Hid (LawT O w (fun g => g < B ∨ ∃ a, M = some a ∧ a.block = g) w9 P D n S2.abort firm) := Lib.hid (HL8.out.turned hp hkp HL8.out.inv.aborted HL8.out.up)
        have HO9 := Lib.hid (row_kept HO8.out hkp HL8.out)
        clear hp hkp HL8 HO8
        obtain ⟨rt2, HRT2⟩ : ∃ rt2, Hid (rt2 = (S2.abort).s.sup.root) := ⟨_, Lib.hid rfl⟩
        have HROOT2 := Lib.hid (H.pgRoot HL9.out.pg)
        rw [show ((S2.abort).s.sup.root) = rt2 from HRT2.out.symm] at HROOT2
        go_wp2_with fail
        refine HROOT2.out.mono ?_
        rintro e wR ⟨rfl, hb⟩
        have HLR := Lib.hid (HL9.out.carry H hb)
        have HOR := Lib.hid (own_below HO9.out hb)
        have HRA := Lib.hid (Range_any H HG.out HLR.out rt2 0 256)
        have HRV : Hid (rangeTop (S2.abort) rt2 0 256 = .ok (ps)) := Lib.hid (by
          have h := rangeTop_ok HLR.out.inv (HM2.out.rt HLR.out.inv) (by have := HM2.out.few; have := HK100.out; omega) 0 256
          rw [HRT2.out, h, cutP_low HM2.out.low])
        rw [HRV.out] at HRA
        clear hb HROOT2
        go_wp2_with fail
        refine HRA.out.mono ?_
        rintro e wS ⟨hb, AL, cL, rfl, hol⟩
        have HLS := Lib.hid (HLR.out.carry H hb)
        have HOS := Lib.hid (own_below HOR.out hb)
        have HSA := Lib.hid (Same_yes hol HOS.out (by have := HM2.out.few; have := HK100.out; omega))
        clear hb hol HRA HLR HOR
        go_wp2_with fail
        refine (Num_nil _).mono ?_
        rintro e w' ⟨rfl, rfl⟩
        go_wp2_with fail
        refine HSA.out.mono ?_
        rintro e wT ⟨rfl, hb⟩
        have HLT := Lib.hid (HLS.out.carry H hb)
        have HOT := Lib.hid (own_below HOS.out hb)
        clear hb HSA HLS HOS
        go_wp2_with fail
        go_roundw
        case rel => exact ⟨k + 1, _, _, ps, qs, M, cm, by have := hkl; omega, by go_num, rfl, HLT.out, HOT.out, HM2.out⟩
        case measure => simp [intOf]; omega
      · rw [hpt] at hm HLW
        obtain rfl := hm
        have HM2 := Lib.hid hfm
        have HRO := Lib.hid hro
        have HGE := Lib.hid hgen
        clear hpt hfm HFP hro hgen
        go_wp2_with fail
        refine (Num_nil _).mono ?_
        rintro e w' ⟨rfl, rfl⟩
        go_wp2_with fail
        refine (H.commitYes HLW.out.pg HLW.out.inv HLW.out.up (HLW.out.laidK HG.out) r HRO.out HGE.out).mono ?_
        rintro e w7 ⟨rfl, hp, hkp⟩
        have HL7 : Hid (LawT O w (fun g => g < B ∨ ∃ a, M = some a ∧ a.block = g) w7 P D n (S2.commit r) S2.data) := Lib.hid (HLW.out.turned hp hkp (HLW.out.inv.committed HGE.out HRO.out) HLW.out.up)
        have HO7 := Lib.hid (row_kept HO6.out hkp HLW.out)
        clear hp hkp HLW HO6
        go_wp2_with fail
        refine (Num_nil _).mono ?_
        rintro e w' ⟨rfl, rfl⟩
        go_wp2_with fail
        refine (Val_any k w7).mono ?_
        rintro e w8 ⟨rfl, hb⟩
        have HL8 := Lib.hid (HL7.out.carry H hb)
        have HO8 := Lib.hid (own_below HO7.out hb)
        have HRP := Lib.hid (RefPut_any HO8.out HM1.out.rise (by have := HM1.out.few; have := HK100.out; omega) kz (valB k))
        clear hb HL7 HO7
        go_wp2_with fail
        refine HRP.out.mono ?_
        rintro e w9 ⟨M2, cm2, rfl, ho, hb⟩
        obtain ⟨ps2, HPS⟩ : ∃ ps2, Hid (ps2 = insP ps kz (valB k)) := ⟨_, Lib.hid rfl⟩
        rw [← HPS.out] at ho HM2 ⊢
        have HO9 : Hid (w9.ownsRow B 42 2 (.slice M2 ps2.length cm2) ps2.length (prsCells ps2)) := Lib.hid (ownsRow_mono ho (by have := HL8.out.there; have := HL8.out.pg; exact Nat.le_of_not_lt fun h => absurd (this_lt HL8.out h) (Nat.lt_irrefl _)))
        have HL9 := Lib.hid (law_row H (M2 := M2) HL8.out hb (fun a ha => by have := ho.lt a.block (by rw [ha]; rfl); exact this) HWB.out)
        clear ho hb HRP HL8 HO8 HM1
        obtain ⟨rt2, HRT2⟩ : ∃ rt2, Hid (rt2 = (S2.commit r).s.sup.root) := ⟨_, Lib.hid rfl⟩
        have HROOT2 := Lib.hid (H.pgRoot HL9.out.pg)
        rw [show ((S2.commit r).s.sup.root) = rt2 from HRT2.out.symm] at HROOT2
        go_wp2_with fail
        refine HROOT2.out.mono ?_
        rintro e wR ⟨rfl, hb⟩
        have HLR := Lib.hid (HL9.out.carry H hb)
        have HOR := Lib.hid (own_below HO9.out hb)
        have HRA := Lib.hid (Range_any H HG.out HLR.out rt2 0 256)
        have HRV : Hid (rangeTop (S2.commit r) rt2 0 256 = .ok (ps2)) := Lib.hid (by
          have h := rangeTop_ok HLR.out.inv (HM2.out.rt HLR.out.inv) (by have := HM2.out.few; have := HK100.out; omega) 0 256
          rw [HRT2.out, h, cutP_low HM2.out.low])
        rw [HRV.out] at HRA
        clear hb HROOT2
        go_wp2_with fail
        refine HRA.out.mono ?_
        rintro e wS ⟨hb, AL, cL, rfl, hol⟩
        have HLS := Lib.hid (HLR.out.carry H hb)
        have HOS := Lib.hid (own_below HOR.out hb)
        have HSA := Lib.hid (Same_yes hol HOS.out (by have := HM2.out.few; have := HK100.out; omega))
        clear hb hol HRA HLR HOR
        go_wp2_with fail
        refine (Num_nil _).mono ?_
        rintro e w' ⟨rfl, rfl⟩
        go_wp2_with fail
        refine HSA.out.mono ?_
        rintro e wT ⟨rfl, hb⟩
        have HLT := Lib.hid (HLS.out.carry H hb)
        have HOT := Lib.hid (own_below HOS.out hb)
        clear hb HSA HLS HOS
        go_wp2_with fail
        go_roundw
        case rel => exact ⟨k + 1, _, _, ps2, qs2, M2, cm2, by have := hkl; omega, by go_num, rfl, HLT.out, HOT.out, HM2.out⟩
        case measure => simp [intOf]; omega
    · have HF8 : Hid (Below w.heap.size w wr) := Lib.hid HL1.out.below
      clear hk
      go_wp2_with fail
      refine (Num_nil _).mono ?_
      rintro e w' ⟨rfl, rfl⟩
      go_wp2_with fail
      go_ret
      exact ⟨rfl, HF8.out⟩
theorem tfull_walk (z : Nat) (hz : z < 256) {A : Option Addr} {c : Nat} {zs : List Int} (hk : ∀ u ∈ zs, 0 ≤ u ∧ u < 256) (w : World) (hn : Nums w .u8 A zs) (hg : Laid2 w) :
    Calls Tryz.prog 5 #[.int .u8 (z : Int), .slice A zs.length c] w fun e w' => e = .returned (.bool true) ∧ Below w.heap.size w w' := by
  by_cases hl : zs.length ≤ 100
  · exact tfull_yes H z hz hl hk w hn hg
  · exact tfull_long H z (by omega) w hg
end
end Go.Proofs.YticbgbngookmnaaGreatDoor
