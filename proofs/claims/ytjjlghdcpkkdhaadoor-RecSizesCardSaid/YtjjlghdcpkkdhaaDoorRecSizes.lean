/-
  The walk of the statement RecSizes: it answers true, and no memory that was there has turned. Conditions: errors.errorType is laid.
-/
import Derived.Test.YtjjlghdcpkkdhaaDoorRecAwake
namespace Go.Proofs.YtjjlghdcpkkdhaaDoor
open Go.RowKit

set_option maxRecDepth 100000 in
set_option maxHeartbeats 1000000 in
theorem recSizes_walk (s : ByteArray) (w : World) (hg : Laid w) : Calls Tryd.prog 7 #[.string s] w fun e w' => e = .returned (.bool true) ∧ Below w.heap.size w w' := by
  have HGK : Hid (∀ w', Below w.heap.size w w' → Laid w') := Lib.hid fun w' h => hg.carry h
  have HG := Lib.hid hg
  clear hg
  obtain ⟨yR, HYR⟩ : ∃ y, Hid (y = (readR s.data.toList).getD Rob.zero) := ⟨_, Lib.hid rfl⟩
  obtain ⟨kR, HKR⟩ : ∃ k : Int, Hid (k = if (readR s.data.toList).isSome then 0 else 2) := ⟨_, Lib.hid rfl⟩
  obtain ⟨yT, HYT⟩ : ∃ y, Hid (y = (readT s.data.toList).getD Tas.zero) := ⟨_, Lib.hid rfl⟩
  obtain ⟨kT, HKT⟩ : ∃ k : Int, Hid (k = if (readT s.data.toList).isSome then 0 else 2) := ⟨_, Lib.hid rfl⟩
  obtain ⟨yA, HYA⟩ : ∃ y, Hid (y = (readA s.data.toList).getD Als.zero) := ⟨_, Lib.hid rfl⟩
  obtain ⟨kA, HKA⟩ : ∃ k : Int, Hid (k = if (readA s.data.toList).isSome then 0 else 2) := ⟨_, Lib.hid rfl⟩
  have HLR : Hid ((robCells yR).length = 7) := Lib.hid rfl
  have HLT : Hid ((tasCells yT).length = 3) := Lib.hid rfl
  have HLA : Hid ((alsCells yA).length = 9) := Lib.hid (by rw [HYA.out]; exact alsCells_len (readA_ok _))
  by_cases hs : 100 < s.size ∨ s.size = 12
  · by_cases h1 : 100 < s.size
    · have hl : decide ((s.size : Int) > 100) = true := by simp; omega
      clear hs h1
      go_enter Tryd.func7, Tryd.ntmps7
      go_wp2_with fail
      refine (awake_any _ HG.out).mono ?_
      rintro e w1 ⟨rfl, hb⟩
      have HB1 := Lib.hid hb
      clear hb
      go_wp2_with fail
      refine (awake_any _ (HGK.out _ HB1.out)).mono ?_
      rintro e w2 ⟨rfl, hb⟩
      have HB2 := Lib.hid (HB1.out.trans (hb.mono HB1.out.size))
      clear hb
      go_wp2_with fail
      go_ret
      exact ⟨rfl, HB2.out⟩
    · have hl : decide ((s.size : Int) > 100) = false := by simp; omega
      have hl2 : ((s.size : Int) == 12) = true := by simp; omega
      clear hs h1
      go_enter Tryd.func7, Tryd.ntmps7
      go_wp2_with fail
      refine (awake_any _ HG.out).mono ?_
      rintro e w1 ⟨rfl, hb⟩
      have HB1 := Lib.hid hb
      clear hb
      go_wp2_with fail
      refine (awake_any _ (HGK.out _ HB1.out)).mono ?_
      rintro e w2 ⟨rfl, hb⟩
      have HB2 := Lib.hid (HB1.out.trans (hb.mono HB1.out.size))
      clear hb
      go_wp2_with fail
      go_ret
      exact ⟨rfl, HB2.out⟩
  · have hl : decide ((s.size : Int) > 100) = false := by simp; omega
    have hl2 : ((s.size : Int) == 12) = false := by simp; omega
    have hn : s.data.toList.length ≠ 12 := by rw [Array.length_toList]; exact fun h => hs (.inr h)
    obtain rfl : kR = 2 := by rw [HKR.out, readR_len hn]; rfl
    obtain rfl : kT = 2 := by rw [HKT.out, readT_len hn]; rfl
    obtain rfl : kA = 2 := by rw [HKA.out, readA_len hn]; rfl
    clear hs hn
    go_enter Tryd.func7, Tryd.ntmps7
    go_wp2_with fail
    refine (awake_any _ HG.out).mono ?_
    rintro e w1 ⟨rfl, hb⟩
    have HB1 := Lib.hid hb
    clear hb
    go_wp2_with fail
    refine (ReadRobot_at s _ _ _ HYR.out HKR.out).mono ?_
    rintro e waR ⟨vR, rfl, he, hb⟩
    have HER := Lib.hid he
    have HBa := Lib.hid (HB1.out.trans (hb.mono HB1.out.size))
    clear he hb
    go_wp2_with (with_reducible refine stop_at (o := ⟨none, _, _, _, _, _⟩) ?_)
    obtain ⟨bR, HBKR⟩ : ∃ b, Hid (b = waR.heap.size) := ⟨_, Lib.hid rfl⟩
    obtain ⟨wbR, HWB⟩ : ∃ wb, Hid (wb = waR.alloc (.cells #[.int .i64 0, .int .i64 0, .int .i64 0, .int .i64 0, .int .i64 0, .int .i64 0, .int .i64 0] 29)) := ⟨_, Lib.hid rfl⟩
    rw [← HWB.out, ← HBKR.out]
    have hbb : Below waR.heap.size waR wbR := by rw [HWB.out]; exact (Below.refl _ _).alloc (Nat.le_refl _) _
    have HCB : Hid (COwn wbR bR (robCells Rob.zero)) := Lib.hid (by rw [HWB.out, HBKR.out]; exact COwn.new (robCells Rob.zero) _)
    clear HWB
    refine wpList_store_c Tryd.robTy rfl _ _ rfl bR (robCells Rob.zero) (robCells yR) HLR.out rfl (robCells_one _) rfl rfl HCB.out ?_
    intro wcR HWC HCR
    have hbc : Below waR.heap.size waR wcR := below_cells9 hbb HWC.out (by rw [HBKR.out]; exact Nat.le_refl _)
    replace HER := Lib.hid (HER.out.carry hbc)
    have HB2 : Hid (Below w.heap.size w wcR) := Lib.hid (HBa.out.trans (hbc.mono HBa.out.size))
    clear hbb hbc HWC HCB HBKR HBa
    go_wp2_with fail
    refine (ReadTask_at s _ _ _ HYT.out HKT.out).mono ?_
    rintro e waT ⟨vT, rfl, he, hb⟩
    have HET := Lib.hid he
    have HBa := Lib.hid (HB2.out.trans (hb.mono HB2.out.size))
    replace HER := Lib.hid (HER.out.carry hb)
    replace HCR := Lib.hid (HCR.out.carry hb (by rw [HLR.out]; decide))
    clear he hb
    go_wp2_with (with_reducible refine stop_at (o := ⟨none, _, _, _, _, _⟩) ?_)
    obtain ⟨bT, HBKT⟩ : ∃ b, Hid (b = waT.heap.size) := ⟨_, Lib.hid rfl⟩
    obtain ⟨wbT, HWB⟩ : ∃ wb, Hid (wb = waT.alloc (.cells #[.int .i64 0, .int .i64 0, .int .i64 0] 42)) := ⟨_, Lib.hid rfl⟩
    rw [← HWB.out, ← HBKT.out]
    have hbb : Below waT.heap.size waT wbT := by rw [HWB.out]; exact (Below.refl _ _).alloc (Nat.le_refl _) _
    have HCB : Hid (COwn wbT bT (tasCells Tas.zero)) := Lib.hid (by rw [HWB.out, HBKT.out]; exact COwn.new (tasCells Tas.zero) _)
    clear HWB
    refine wpList_store_c Tryd.tasTy rfl _ _ rfl bT (tasCells Tas.zero) (tasCells yT) HLT.out rfl (tasCells_one _) rfl rfl HCB.out ?_
    intro wcT HWC HCT
    have hbc : Below waT.heap.size waT wcT := below_cells9 hbb HWC.out (by rw [HBKT.out]; exact Nat.le_refl _)
    replace HET := Lib.hid (HET.out.carry hbc)
    have HB3 : Hid (Below w.heap.size w wcT) := Lib.hid (HBa.out.trans (hbc.mono HBa.out.size))
    replace HER := Lib.hid (HER.out.carry hbc)
    replace HCR := Lib.hid (HCR.out.carry hbc (by rw [HLR.out]; decide))
    clear hbb hbc HWC HCB HBKT HBa
    go_wp2_with fail
    refine (ReadAll_at s _ _ _ HYA.out HKA.out).mono ?_
    rintro e waA ⟨vA, rfl, he, hb⟩
    have HEA := Lib.hid he
    have HBa := Lib.hid (HB3.out.trans (hb.mono HB3.out.size))
    replace HER := Lib.hid (HER.out.carry hb)
    replace HET := Lib.hid (HET.out.carry hb)
    replace HCR := Lib.hid (HCR.out.carry hb (by rw [HLR.out]; decide))
    replace HCT := Lib.hid (HCT.out.carry hb (by rw [HLT.out]; decide))
    clear he hb
    go_wp2_with (with_reducible refine stop_at (o := ⟨none, _, _, _, _, _⟩) ?_)
    obtain ⟨bA, HBKA⟩ : ∃ b, Hid (b = waA.heap.size) := ⟨_, Lib.hid rfl⟩
    obtain ⟨wbA, HWB⟩ : ∃ wb, Hid (wb = waA.alloc (.cells #[.int .i64 0, .int .u8 0, .int .u8 0, .int .u8 0, .int .u8 0, .int .u8 0, .int .u8 0, .int .u8 0, .int .u8 0] 44)) := ⟨_, Lib.hid rfl⟩
    rw [← HWB.out, ← HBKA.out]
    have hbb : Below waA.heap.size waA wbA := by rw [HWB.out]; exact (Below.refl _ _).alloc (Nat.le_refl _) _
    have HCB : Hid (COwn wbA bA (alsCells Als.zero)) := Lib.hid (by rw [HWB.out, HBKA.out]; exact COwn.new (alsCells Als.zero) _)
    clear HWB
    refine wpList_store_c Tryd.alsTy rfl _ _ rfl bA (alsCells Als.zero) (alsCells yA) HLA.out rfl (alsCells_one _) rfl rfl HCB.out ?_
    intro wcA HWC HCA
    have hbc : Below waA.heap.size waA wcA := below_cells9 hbb HWC.out (by rw [HBKA.out]; exact Nat.le_refl _)
    replace HEA := Lib.hid (HEA.out.carry hbc)
    have HB4 : Hid (Below w.heap.size w wcA) := Lib.hid (HBa.out.trans (hbc.mono HBa.out.size))
    replace HER := Lib.hid (HER.out.carry hbc)
    replace HET := Lib.hid (HET.out.carry hbc)
    replace HCR := Lib.hid (HCR.out.carry hbc (by rw [HLR.out]; decide))
    replace HCT := Lib.hid (HCT.out.carry hbc (by rw [HLT.out]; decide))
    clear hbb hbc HWC HCB HBKA HBa
    go_wp2_with fail
    refine (Num_any 2 vR wcA HER.out (HGK.out _ HB4.out)).mono ?_
    rintro e w5 ⟨rfl, hb⟩
    replace HET := Lib.hid (HET.out.carry hb)
    replace HEA := Lib.hid (HEA.out.carry hb)
    have HB5 := Lib.hid (HB4.out.trans (hb.mono HB4.out.size))
    clear hb
    go_wp2_with fail
    refine (Num_any 2 vT w5 HET.out (HGK.out _ HB5.out)).mono ?_
    rintro e w6 ⟨rfl, hb⟩
    replace HEA := Lib.hid (HEA.out.carry hb)
    have HB6 := Lib.hid (HB5.out.trans (hb.mono HB5.out.size))
    clear hb
    go_wp2_with fail
    refine (Num_any 2 vA w6 HEA.out (HGK.out _ HB6.out)).mono ?_
    rintro e w7 ⟨rfl, hb⟩
    have HB7 := Lib.hid (HB6.out.trans (hb.mono HB6.out.size))
    clear hb
    go_wp2_with fail
    go_ret
    exact ⟨rfl, HB7.out⟩
end Go.Proofs.YtjjlghdcpkkdhaaDoor
