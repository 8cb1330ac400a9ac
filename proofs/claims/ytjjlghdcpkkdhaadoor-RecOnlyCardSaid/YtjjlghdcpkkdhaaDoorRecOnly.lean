/-
  The walk of the statement RecOnly: it answers true, and no memory that was there has turned. Conditions: errors.errorType is laid.
-/
import Derived.Test.YtjjlghdcpkkdhaaDoorRecAwake
namespace Go.Proofs.YtjjlghdcpkkdhaaDoor
open Go.RowKit

theorem rightR_zero : rightR Rob.zero = true := by decide
theorem rightT_zero : rightT Tas.zero = true := by decide
theorem rightA_zero : rightA Als.zero = true := by decide
theorem readR_two {s : List UInt8} {y : Rob} {k : Int} (hy : y = (readR s).getD Rob.zero) (hk : k = if (readR s).isSome then 0 else 2) : rightR y = true ∧ ((k = 2 ∧ y = Rob.zero) ∨ (k = 0 ∧ layR y = s)) := by
  cases h : readR s with
  | none => rw [h] at hy hk; subst hy hk; exact ⟨rightR_zero, .inl ⟨rfl, rfl⟩⟩
  | some a => rw [h] at hy hk; subst hy hk; exact ⟨(of_readR h).1, .inr ⟨rfl, (of_readR h).2⟩⟩
theorem readT_two {s : List UInt8} {y : Tas} {k : Int} (hy : y = (readT s).getD Tas.zero) (hk : k = if (readT s).isSome then 0 else 2) : rightT y = true ∧ ((k = 2 ∧ y = Tas.zero) ∨ (k = 0 ∧ layT y = s)) := by
  cases h : readT s with
  | none => rw [h] at hy hk; subst hy hk; exact ⟨rightT_zero, .inl ⟨rfl, rfl⟩⟩
  | some a => rw [h] at hy hk; subst hy hk; exact ⟨(of_readT h).1, .inr ⟨rfl, (of_readT h).2⟩⟩
theorem readA_two {s : List UInt8} {y : Als} {k : Int} (hy : y = (readA s).getD Als.zero) (hk : k = if (readA s).isSome then 0 else 2) : rightA y = true ∧ ((k = 2 ∧ y = Als.zero) ∨ (k = 0 ∧ layA y = s)) := by
  cases h : readA s with
  | none => rw [h] at hy hk; subst hy hk; exact ⟨rightA_zero, .inl ⟨rfl, rfl⟩⟩
  | some a => rw [h] at hy hk; subst hy hk; exact ⟨(of_readA h).1, .inr ⟨rfl, (of_readA h).2.1⟩⟩
theorem same_text {u s : ByteArray} {l : List UInt8} (hu : u = ⟨l.toArray⟩) (h : l = s.data.toList) : (u.toList == s.toList) = true := by
  have e : u = s := by rw [hu, h]
  rw [e]
  simp
set_option maxRecDepth 100000 in
set_option maxHeartbeats 4000000 in
theorem recOnly_walk (s : ByteArray) (w : World) (hg : Laid w) : Calls Tryd.prog 5 #[.string s] w fun e w' => e = .returned (.bool true) ∧ Below w.heap.size w w' := by
  have HGK : Hid (∀ w', Below w.heap.size w w' → Laid w') := Lib.hid fun w' h => hg.carry h
  have HG := Lib.hid hg
  clear hg
  obtain ⟨yR, HYR⟩ : ∃ y, Hid (y = (readR s.data.toList).getD Rob.zero) := ⟨_, Lib.hid rfl⟩
  obtain ⟨kR, HKR⟩ : ∃ k : Int, Hid (k = if (readR s.data.toList).isSome then 0 else 2) := ⟨_, Lib.hid rfl⟩
  obtain ⟨yT, HYT⟩ : ∃ y, Hid (y = (readT s.data.toList).getD Tas.zero) := ⟨_, Lib.hid rfl⟩
  obtain ⟨kT, HKT⟩ : ∃ k : Int, Hid (k = if (readT s.data.toList).isSome then 0 else 2) := ⟨_, Lib.hid rfl⟩
  obtain ⟨yA, HYA⟩ : ∃ y, Hid (y = (readA s.data.toList).getD Als.zero) := ⟨_, Lib.hid rfl⟩
  obtain ⟨kA, HKA⟩ : ∃ k : Int, Hid (k = if (readA s.data.toList).isSome then 0 else 2) := ⟨_, Lib.hid rfl⟩
  have HLR : Hid ((robCells yR).length = 7) := Lib.hid rfl
  have HLT : Hid ((tasCells yT).length = 3) := Lib.hid rfl
  have HLA : Hid ((alsCells yA).length = 9) := Lib.hid (by rw [HYA.out]; exact alsCells_len (readA_ok _))
  by_cases h1 : 100 < s.size
  · have hl : decide ((s.size : Int) > 100) = true := by simp; omega
    clear h1
    go_enter Tryd.func5, Tryd.ntmps5
    go_wp2_with fail
    refine (awake_any _ HG.out).mono ?_
    rintro e w1 ⟨rfl, hb⟩
    have HB1 := Lib.hid hb
    clear hb
    go_wp2_with fail
    refine (awake_any _ (HGK.out _ HB1.out)).mono ?_
    rintro e w2 ⟨rfl, hb⟩
    have HB2 := Lib.hid (HB1.out.trans (hb.mono HB1.out.size))
    clear hb
    go_wp2_with fail
    go_ret
    exact ⟨rfl, HB2.out⟩
  · have hl : decide ((s.size : Int) > 100) = false := by simp; omega
    clear h1
    have HAO : Hid yA.Ok := Lib.hid (by rw [HYA.out]; exact readA_ok _)
    have hR := readR_two HYR.out HKR.out
    have hT := readT_two HYT.out HKT.out
    have hA := readA_two HYA.out HKA.out
    have HRTR := Lib.hid hR.1
    have HRTT := Lib.hid hT.1
    have HRTA := Lib.hid hA.1
    have HTWOR := Lib.hid hR.2
    have HTWOT := Lib.hid hT.2
    have HTWOA := Lib.hid hA.2
    clear hR hT hA
    obtain ⟨uR, HUR⟩ : ∃ u : ByteArray, Hid (u = ⟨(layR yR).toArray⟩) := ⟨_, Lib.hid rfl⟩
    obtain ⟨uT, HUT⟩ : ∃ u : ByteArray, Hid (u = ⟨(layT yT).toArray⟩) := ⟨_, Lib.hid rfl⟩
    obtain ⟨uA, HUA⟩ : ∃ u : ByteArray, Hid (u = ⟨(layA yA).toArray⟩) := ⟨_, Lib.hid rfl⟩
    go_enter Tryd.func5, Tryd.ntmps5
    go_wp2_with fail
    refine (awake_any _ HG.out).mono ?_
    rintro e w1 ⟨rfl, hb⟩
    have HB1 := Lib.hid hb
    clear hb
    go_wp2_with fail
    refine (ReadRobot_at s _ _ _ HYR.out HKR.out).mono ?_
    rintro e waR ⟨vR, rfl, he, hb⟩
    have HER := Lib.hid he
    have HBa := Lib.hid (HB1.out.trans (hb.mono HB1.out.size))
    clear he hb
    go_wp2_with (with_reducible refine stop_at (o := ⟨none, _, _, _, _, _⟩) ?_)
    obtain ⟨bR, HBKR⟩ : ∃ b, Hid (b = waR.heap.size) := ⟨_, Lib.hid rfl⟩
    obtain ⟨wbR, HWB⟩ : ∃ wb, Hid (wb = waR.alloc (.cells #[.int .i64 0, .int .i64 0, .int .i64 0, .int .i64 0, .int .i64 0, .int .i64 0, .int .i64 0] 29)) := ⟨_, Lib.hid rfl⟩
    rw [← HWB.out, ← HBKR.out]
    have hbb : Below waR.heap.size waR wbR := by rw [HWB.out]; exact (Below.refl _ _).alloc (Nat.le_refl _) _
    have HCB : Hid (COwn wbR bR (robCells Rob.zero)) := Lib.hid (by rw [HWB.out, HBKR.out]; exact COwn.new (robCells Rob.zero) _)
    clear HWB
    refine wpList_store_c Tryd.robTy rfl _ _ rfl bR (robCells Rob.zero) (robCells yR) HLR.out rfl (robCells_one _) rfl rfl HCB.out ?_
    intro wcR HWC HCR
    have hbc : Below waR.heap.size waR wcR := below_cells9 hbb HWC.out (by rw [HBKR.out]; exact Nat.le_refl _)
    replace HER := Lib.hid (HER.out.carry hbc)
    have HB2 : Hid (Below w.heap.size w wcR) := Lib.hid (HBa.out.trans (hbc.mono HBa.out.size))
    clear hbb hbc HWC HCB HBKR HBa
    go_wp2_with fail
    refine (ReadTask_at s _ _ _ HYT.out HKT.out).mono ?_
    rintro e waT ⟨vT, rfl, he, hb⟩
    have HET := Lib.hid he
    have HBa := Lib.hid (HB2.out.trans (hb.mono HB2.out.size))
    replace HER := Lib.hid (HER.out.carry hb)
    replace HCR := Lib.hid (HCR.out.carry hb (by rw [HLR.out]; decide))
    clear he hb
    go_wp2_with (with_reducible refine stop_at (o := ⟨none, _, _, _, _, _⟩) ?_)
    obtain ⟨bT, HBKT⟩ : ∃ b, Hid (b = waT.heap.size) := ⟨_, Lib.hid rfl⟩
    obtain ⟨wbT, HWB⟩ : ∃ wb, Hid (wb = waT.alloc (.cells #[.int .i64 0, .int .i64 0, .int .i64 0] 42)) := ⟨_, Lib.hid rfl⟩
    rw [← HWB.out, ← HBKT.out]
    have hbb : Below waT.heap.size waT wbT := by rw [HWB.out]; exact (Below.refl _ _).alloc (Nat.le_refl _) _
    have HCB : Hid (COwn wbT bT (tasCells Tas.zero)) := Lib.hid (by rw [HWB.out, HBKT.out]; exact COwn.new (tasCells Tas.zero) _)
    clear HWB
    refine wpList_store_c Tryd.tasTy rfl _ _ rfl bT (tasCells Tas.zero) (tasCells yT) HLT.out rfl (tasCells_one _) rfl rfl HCB.out ?_
    intro wcT HWC HCT
    have hbc : Below waT.heap.size waT wcT := below_cells9 hbb HWC.out (by rw [HBKT.out]; exact Nat.le_refl _)
    replace HET := Lib.hid (HET.out.carry hbc)
    have HB3 : Hid (Below w.heap.size w wcT) := Lib.hid (HBa.out.trans (hbc.mono HBa.out.size))
    replace HER := Lib.hid (HER.out.carry hbc)
    replace HCR := Lib.hid (HCR.out.carry hbc (by rw [HLR.out]; decide))
    clear hbb hbc HWC HCB HBKT HBa
    go_wp2_with fail
    refine (ReadAll_at s _ _ _ HYA.out HKA.out).mono ?_
    rintro e waA ⟨vA, rfl, he, hb⟩
    have HEA := Lib.hid he
    have HBa := Lib.hid (HB3.out.trans (hb.mono HB3.out.size))
    replace HER := Lib.hid (HER.out.carry hb)
    replace HET := Lib.hid (HET.out.carry hb)
    replace HCR := Lib.hid (HCR.out.carry hb (by rw [HLR.out]; decide))
    replace HCT := Lib.hid (HCT.out.carry hb (by rw [HLT.out]; decide))
    clear he hb
    go_wp2_with (with_reducible refine stop_at (o := ⟨none, _, _, _, _, _⟩) ?_)
    obtain ⟨bA, HBKA⟩ : ∃ b, Hid (b = waA.heap.size) := ⟨_, Lib.hid rfl⟩
    obtain ⟨wbA, HWB⟩ : ∃ wb, Hid (wb = waA.alloc (.cells #[.int .i64 0, .int .u8 0, .int .u8 0, .int .u8 0, .int .u8 0, .int .u8 0, .int .u8 0, .int .u8 0, .int .u8 0] 44)) := ⟨_, Lib.hid rfl⟩
    rw [← HWB.out, ← HBKA.out]
    have hbb : Below waA.heap.size waA wbA := by rw [HWB.out]; exact (Below.refl _ _).alloc (Nat.le_refl _) _
    have HCB : Hid (COwn wbA bA (alsCells Als.zero)) := Lib.hid (by rw [HWB.out, HBKA.out]; exact COwn.new (alsCells Als.zero) _)
    clear HWB
    refine wpList_store_c Tryd.alsTy rfl _ _ rfl bA (alsCells Als.zero) (alsCells yA) HLA.out rfl (alsCells_one _) rfl rfl HCB.out ?_
    intro wcA HWC HCA
    have hbc : Below waA.heap.size waA wcA := below_cells9 hbb HWC.out (by rw [HBKA.out]; exact Nat.le_refl _)
    replace HEA := Lib.hid (HEA.out.carry hbc)
    have HB4 : Hid (Below w.heap.size w wcA) := Lib.hid (HBa.out.trans (hbc.mono HBa.out.size))
    replace HER := Lib.hid (HER.out.carry hbc)
    replace HET := Lib.hid (HET.out.carry hbc)
    replace HCR := Lib.hid (HCR.out.carry hbc (by rw [HLR.out]; decide))
    replace HCT := Lib.hid (HCT.out.carry hbc (by rw [HLT.out]; decide))
    clear hbb hbc HWC HCB HBKA HBa
    have HB := HB4
    clear HB1 HB2 HB3 HB4 HYR HYT HYA HKR HKT HKA HG
    go_wp2_with (with_reducible refine stop_at (o := ⟨some 39, _, _, _, _, _⟩) ?_)
    refine wpList_load_c Tryd.robTy rfl _ rfl bR 0 rfl (robCells yR) HLR.out HCR.out.at_ ?_
    go_wp2_with fail
    refine (LayRobot_any yR _).mono ?_
    rintro e wn ⟨z, rfl, he, hb⟩
    rw [HRTR.out] at he
    obtain rfl := ErrFrom.zero he
    rw [HRTR.out, if_pos rfl, ← HUR.out]
    replace HER := Lib.hid (HER.out.carry hb)
    replace HET := Lib.hid (HET.out.carry hb)
    replace HEA := Lib.hid (HEA.out.carry hb)
    replace HCR := Lib.hid (HCR.out.carry hb (by rw [HLR.out]; decide))
    replace HCT := Lib.hid (HCT.out.carry hb (by rw [HLT.out]; decide))
    replace HCA := Lib.hid (HCA.out.carry hb (by rw [HLA.out]; decide))
    replace HB := Lib.hid (HB.out.trans (hb.mono HB.out.size))
    clear he hb
    go_wp2_with (with_reducible refine stop_at (o := ⟨some 44, _, _, _, _, _⟩) ?_)
    refine wpList_load_c Tryd.tasTy rfl _ rfl bT 0 rfl (tasCells yT) HLT.out HCT.out.at_ ?_
    go_wp2_with fail
    refine (LayTask_any yT _).mono ?_
    rintro e wn ⟨z, rfl, he, hb⟩
    rw [HRTT.out] at he
    obtain rfl := ErrFrom.zero he
    rw [HRTT.out, if_pos rfl, ← HUT.out]
    replace HER := Lib.hid (HER.out.carry hb)
    replace HET := Lib.hid (HET.out.carry hb)
    replace HEA := Lib.hid (HEA.out.carry hb)
    replace HCR := Lib.hid (HCR.out.carry hb (by rw [HLR.out]; decide))
    replace HCT := Lib.hid (HCT.out.carry hb (by rw [HLT.out]; decide))
    replace HCA := Lib.hid (HCA.out.carry hb (by rw [HLA.out]; decide))
    replace HB := Lib.hid (HB.out.trans (hb.mono HB.out.size))
    clear he hb
    go_wp2_with (with_reducible refine stop_at (o := ⟨some 49, _, _, _, _, _⟩) ?_)
    refine wpList_load_c Tryd.alsTy rfl _ rfl bA 0 rfl (alsCells yA) HLA.out HCA.out.at_ ?_
    go_wp2_with fail
    refine (LayAll_any yA HAO.out _).mono ?_
    rintro e wn ⟨z, rfl, he, hb⟩
    rw [HRTA.out] at he
    obtain rfl := ErrFrom.zero he
    rw [HRTA.out, if_pos rfl, ← HUA.out]
    replace HER := Lib.hid (HER.out.carry hb)
    replace HET := Lib.hid (HET.out.carry hb)
    replace HEA := Lib.hid (HEA.out.carry hb)
    replace HCR := Lib.hid (HCR.out.carry hb (by rw [HLR.out]; decide))
    replace HCT := Lib.hid (HCT.out.carry hb (by rw [HLT.out]; decide))
    replace HCA := Lib.hid (HCA.out.carry hb (by rw [HLA.out]; decide))
    replace HB := Lib.hid (HB.out.trans (hb.mono HB.out.size))
    clear he hb
    go_upto_region 9 with (fail)
    dsimp only [List.append]
    have guR := guardRob
    have guT := guardTas
    have guA := guardAls
    rcases HTWOR.out with ⟨rfl, rfl⟩ | ⟨rfl, hsR⟩
    · have heqR : ∀ w, (binOp .eql 29 (.agg #[.int .i64 0, .int .i64 0, .int .i64 0, .int .i64 0, .int .i64 0, .int .i64 0, .int .i64 0]) (.agg #[.int .i64 0, .int .i64 0, .int .i64 0, .int .i64 0, .int .i64 0, .int .i64 0, .int .i64 0])).run Tryd.prog w = .ok (.bool true) w := fun w => by have h := eql_rob Rob.zero Rob.zero w; rw [decide_eq_true rfl] at h; exact h
      rcases HTWOT.out with ⟨rfl, rfl⟩ | ⟨rfl, hsT⟩
      · have heqT : ∀ w, (binOp .eql 42 (.agg #[.int .i64 0, .int .i64 0, .int .i64 0]) (.agg #[.int .i64 0, .int .i64 0, .int .i64 0])).run Tryd.prog w = .ok (.bool true) w := fun w => by have h := eql_tas Tas.zero Tas.zero w; rw [decide_eq_true rfl] at h; exact h
        rcases HTWOA.out with ⟨rfl, rfl⟩ | ⟨rfl, hsA⟩
        · have heqA : ∀ w, (binOp .eql 44 (.agg #[.int .i64 0, .int .u8 0, .int .u8 0, .int .u8 0, .int .u8 0, .int .u8 0, .int .u8 0, .int .u8 0, .int .u8 0]) (.agg #[.int .i64 0, .int .u8 0, .int .u8 0, .int .u8 0, .int .u8 0, .int .u8 0, .int .u8 0, .int .u8 0, .int .u8 0])).run Tryd.prog w = .ok (.bool true) w := fun w => by have h := eql_als Als.Ok.zero Als.Ok.zero w; rw [decide_eq_true rfl] at h; exact h
          clear HTWOR HTWOT HTWOA
          go_wp2_with fail
          refine (Num_any 2 vR _ HER.out (HGK.out _ HB.out)).mono ?_
          rintro e wn ⟨rfl, hb⟩
          dsimp only
          replace HER := Lib.hid (HER.out.carry hb)
          replace HET := Lib.hid (HET.out.carry hb)
          replace HEA := Lib.hid (HEA.out.carry hb)
          replace HCR := Lib.hid (HCR.out.carry hb (by rw [HLR.out]; decide))
          replace HCT := Lib.hid (HCT.out.carry hb (by rw [HLT.out]; decide))
          replace HCA := Lib.hid (HCA.out.carry hb (by rw [HLA.out]; decide))
          replace HB := Lib.hid (HB.out.trans (hb.mono HB.out.size))
          clear hb
          have cR0 := HCR.out.cell (j := 0) (v := .int .i64 0) rfl
          have cR1 := HCR.out.cell (j := 1) (v := .int .i64 0) rfl
          have cR2 := HCR.out.cell (j := 2) (v := .int .i64 0) rfl
          have cR3 := HCR.out.cell (j := 3) (v := .int .i64 0) rfl
          have cR4 := HCR.out.cell (j := 4) (v := .int .i64 0) rfl
          have cR5 := HCR.out.cell (j := 5) (v := .int .i64 0) rfl
          have cR6 := HCR.out.cell (j := 6) (v := .int .i64 0) rfl
          go_wp2_with fail
          clear cR0 cR1 cR2 cR3 cR4 cR5 cR6
          refine (Num_any 2 vT _ HET.out (HGK.out _ HB.out)).mono ?_
          rintro e wn ⟨rfl, hb⟩
          dsimp only
          replace HER := Lib.hid (HER.out.carry hb)
          replace HET := Lib.hid (HET.out.carry hb)
          replace HEA := Lib.hid (HEA.out.carry hb)
          replace HCR := Lib.hid (HCR.out.carry hb (by rw [HLR.out]; decide))
          replace HCT := Lib.hid (HCT.out.carry hb (by rw [HLT.out]; decide))
          replace HCA := Lib.hid (HCA.out.carry hb (by rw [HLA.out]; decide))
          replace HB := Lib.hid (HB.out.trans (hb.mono HB.out.size))
          clear hb
          have cT0 := HCT.out.cell (j := 0) (v := .int .i64 0) rfl
          have cT1 := HCT.out.cell (j := 1) (v := .int .i64 0) rfl
          have cT2 := HCT.out.cell (j := 2) (v := .int .i64 0) rfl
          go_wp2_with fail
          clear cT0 cT1 cT2
          refine (Num_any 2 vA _ HEA.out (HGK.out _ HB.out)).mono ?_
          rintro e wn ⟨rfl, hb⟩
          dsimp only
          replace HER := Lib.hid (HER.out.carry hb)
          replace HET := Lib.hid (HET.out.carry hb)
          replace HEA := Lib.hid (HEA.out.carry hb)
          replace HCR := Lib.hid (HCR.out.carry hb (by rw [HLR.out]; decide))
          replace HCT := Lib.hid (HCT.out.carry hb (by rw [HLT.out]; decide))
          replace HCA := Lib.hid (HCA.out.carry hb (by rw [HLA.out]; decide))
          replace HB := Lib.hid (HB.out.trans (hb.mono HB.out.size))
          clear hb
          have cA0 := HCA.out.cell (j := 0) (v := .int .i64 0) rfl
          have cA1 := HCA.out.cell (j := 1) (v := .int .u8 0) rfl
          have cA2 := HCA.out.cell (j := 2) (v := .int .u8 0) rfl
          have cA3 := HCA.out.cell (j := 3) (v := .int .u8 0) rfl
          have cA4 := HCA.out.cell (j := 4) (v := .int .u8 0) rfl
          have cA5 := HCA.out.cell (j := 5) (v := .int .u8 0) rfl
          have cA6 := HCA.out.cell (j := 6) (v := .int .u8 0) rfl
          have cA7 := HCA.out.cell (j := 7) (v := .int .u8 0) rfl
          have cA8 := HCA.out.cell (j := 8) (v := .int .u8 0) rfl
          go_wp2_with fail
          go_ret
          exact ⟨rfl, HB.out⟩
        · have heqA := same_text HUA.out hsA
          clear HTWOR HTWOT HTWOA
          go_wp2_with fail
          refine (Num_any 2 vR _ HER.out (HGK.out _ HB.out)).mono ?_
          rintro e wn ⟨rfl, hb⟩
          dsimp only
          replace HER := Lib.hid (HER.out.carry hb)
          replace HET := Lib.hid (HET.out.carry hb)
          replace HEA := Lib.hid (HEA.out.carry hb)
          replace HCR := Lib.hid (HCR.out.carry hb (by rw [HLR.out]; decide))
          replace HCT := Lib.hid (HCT.out.carry hb (by rw [HLT.out]; decide))
          replace HCA := Lib.hid (HCA.out.carry hb (by rw [HLA.out]; decide))
          replace HB := Lib.hid (HB.out.trans (hb.mono HB.out.size))
          clear hb
          have cR0 := HCR.out.cell (j := 0) (v := .int .i64 0) rfl
          have cR1 := HCR.out.cell (j := 1) (v := .int .i64 0) rfl
          have cR2 := HCR.out.cell (j := 2) (v := .int .i64 0) rfl
          have cR3 := HCR.out.cell (j := 3) (v := .int .i64 0) rfl
          have cR4 := HCR.out.cell (j := 4) (v := .int .i64 0) rfl
          have cR5 := HCR.out.cell (j := 5) (v := .int .i64 0) rfl
          have cR6 := HCR.out.cell (j := 6) (v := .int .i64 0) rfl
          go_wp2_with fail
          clear cR0 cR1 cR2 cR3 cR4 cR5 cR6
          refine (Num_any 2 vT _ HET.out (HGK.out _ HB.out)).mono ?_
          rintro e wn ⟨rfl, hb⟩
          dsimp only
          replace HER := Lib.hid (HER.out.carry hb)
          replace HET := Lib.hid (HET.out.carry hb)
          replace HEA := Lib.hid (HEA.out.carry hb)
          replace HCR := Lib.hid (HCR.out.carry hb (by rw [HLR.out]; decide))
          replace HCT := Lib.hid (HCT.out.carry hb (by rw [HLT.out]; decide))
          replace HCA := Lib.hid (HCA.out.carry hb (by rw [HLA.out]; decide))
          replace HB := Lib.hid (HB.out.trans (hb.mono HB.out.size))
          clear hb
          have cT0 := HCT.out.cell (j := 0) (v := .int .i64 0) rfl
          have cT1 := HCT.out.cell (j := 1) (v := .int .i64 0) rfl
          have cT2 := HCT.out.cell (j := 2) (v := .int .i64 0) rfl
          go_wp2_with fail
          clear cT0 cT1 cT2
          refine (Num_any 0 vA _ HEA.out (HGK.out _ HB.out)).mono ?_
          rintro e wn ⟨rfl, hb⟩
          dsimp only
          replace HER := Lib.hid (HER.out.carry hb)
          replace HET := Lib.hid (HET.out.carry hb)
          replace HEA := Lib.hid (HEA.out.carry hb)
          replace HCR := Lib.hid (HCR.out.carry hb (by rw [HLR.out]; decide))
          replace HCT := Lib.hid (HCT.out.carry hb (by rw [HLT.out]; decide))
          replace HCA := Lib.hid (HCA.out.carry hb (by rw [HLA.out]; decide))
          replace HB := Lib.hid (HB.out.trans (hb.mono HB.out.size))
          clear hb
          go_wp2_with fail
          refine (Num_any 0 vA _ HEA.out (HGK.out _ HB.out)).mono ?_
          rintro e wn ⟨rfl, hb⟩
          dsimp only
          replace HER := Lib.hid (HER.out.carry hb)
          replace HET := Lib.hid (HET.out.carry hb)
          replace HEA := Lib.hid (HEA.out.carry hb)
          replace HCR := Lib.hid (HCR.out.carry hb (by rw [HLR.out]; decide))
          replace HCT := Lib.hid (HCT.out.carry hb (by rw [HLT.out]; decide))
          replace HCA := Lib.hid (HCA.out.carry hb (by rw [HLA.out]; decide))
          replace HB := Lib.hid (HB.out.trans (hb.mono HB.out.size))
          clear hb
          go_wp2_with fail
          refine (Num_any 0 .nilIface _ (.nil _) (HGK.out _ HB.out)).mono ?_
          rintro e wn ⟨rfl, hb⟩
          dsimp only
          replace HER := Lib.hid (HER.out.carry hb)
          replace HET := Lib.hid (HET.out.carry hb)
          replace HEA := Lib.hid (HEA.out.carry hb)
          replace HCR := Lib.hid (HCR.out.carry hb (by rw [HLR.out]; decide))
          replace HCT := Lib.hid (HCT.out.carry hb (by rw [HLT.out]; decide))
          replace HCA := Lib.hid (HCA.out.carry hb (by rw [HLA.out]; decide))
          replace HB := Lib.hid (HB.out.trans (hb.mono HB.out.size))
          clear hb
          go_wp2_with fail
          go_ret
          exact ⟨rfl, HB.out⟩
      · have heqT := same_text HUT.out hsT
        rcases HTWOA.out with ⟨rfl, rfl⟩ | ⟨rfl, hsA⟩
        · have heqA : ∀ w, (binOp .eql 44 (.agg #[.int .i64 0, .int .u8 0, .int .u8 0, .int .u8 0, .int .u8 0, .int .u8 0, .int .u8 0, .int .u8 0, .int .u8 0]) (.agg #[.int .i64 0, .int .u8 0, .int .u8 0, .int .u8 0, .int .u8 0, .int .u8 0, .int .u8 0, .int .u8 0, .int .u8 0])).run Tryd.prog w = .ok (.bool true) w := fun w => by have h := eql_als Als.Ok.zero Als.Ok.zero w; rw [decide_eq_true rfl] at h; exact h
          clear HTWOR HTWOT HTWOA
          go_wp2_with fail
          refine (Num_any 2 vR _ HER.out (HGK.out _ HB.out)).mono ?_
          rintro e wn ⟨rfl, hb⟩
          dsimp only
          replace HER := Lib.hid (HER.out.carry hb)
          replace HET := Lib.hid (HET.out.carry hb)
          replace HEA := Lib.hid (HEA.out.carry hb)
          replace HCR := Lib.hid (HCR.out.carry hb (by rw [HLR.out]; decide))
          replace HCT := Lib.hid (HCT.out.carry hb (by rw [HLT.out]; decide))
          replace HCA := Lib.hid (HCA.out.carry hb (by rw [HLA.out]; decide))
          replace HB := Lib.hid (HB.out.trans (hb.mono HB.out.size))
          clear hb
          have cR0 := HCR.out.cell (j := 0) (v := .int .i64 0) rfl
          have cR1 := HCR.out.cell (j := 1) (v := .int .i64 0) rfl
          have cR2 := HCR.out.cell (j := 2) (v := .int .i64 0) rfl
          have cR3 := HCR.out.cell (j := 3) (v := .int .i64 0) rfl
          have cR4 := HCR.out.cell (j := 4) (v := .int .i64 0) rfl
          have cR5 := HCR.out.cell (j := 5) (v := .int .i64 0) rfl
          have cR6 := HCR.out.cell (j := 6) (v := .int .i64 0) rfl
          go_wp2_with fail
          clear cR0 cR1 cR2 cR3 cR4 cR5 cR6
          refine (Num_any 0 vT _ HET.out (HGK.out _ HB.out)).mono ?_
          rintro e wn ⟨rfl, hb⟩
          dsimp only
          replace HER := Lib.hid (HER.out.carry hb)
          replace HET := Lib.hid (HET.out.carry hb)
          replace HEA := Lib.hid (HEA.out.carry hb)
          replace HCR := Lib.hid (HCR.out.carry hb (by rw [HLR.out]; decide))
          replace HCT := Lib.hid (HCT.out.carry hb (by rw [HLT.out]; decide))
          replace HCA := Lib.hid (HCA.out.carry hb (by rw [HLA.out]; decide))
          replace HB := Lib.hid (HB.out.trans (hb.mono HB.out.size))
          clear hb
          go_wp2_with fail
          refine (Num_any 0 vT _ HET.out (HGK.out _ HB.out)).mono ?_
          rintro e wn ⟨rfl, hb⟩
          dsimp only
          replace HER := Lib.hid (HER.out.carry hb)
          replace HET := Lib.hid (HET.out.carry hb)
          replace HEA := Lib.hid (HEA.out.carry hb)
          replace HCR := Lib.hid (HCR.out.carry hb (by rw [HLR.out]; decide))
          replace HCT := Lib.hid (HCT.out.carry hb (by rw [HLT.out]; decide))
          replace HCA := Lib.hid (HCA.out.carry hb (by rw [HLA.out]; decide))
          replace HB := Lib.hid (HB.out.trans (hb.mono HB.out.size))
          clear hb
          go_wp2_with fail
          refine (Num_any 0 .nilIface _ (.nil _) (HGK.out _ HB.out)).mono ?_
          rintro e wn ⟨rfl, hb⟩
          dsimp only
          replace HER := Lib.hid (HER.out.carry hb)
          replace HET := Lib.hid (HET.out.carry hb)
          replace HEA := Lib.hid (HEA.out.carry hb)
          replace HCR := Lib.hid (HCR.out.carry hb (by rw [HLR.out]; decide))
          replace HCT := Lib.hid (HCT.out.carry hb (by rw [HLT.out]; decide))
          replace HCA := Lib.hid (HCA.out.carry hb (by rw [HLA.out]; decide))
          replace HB := Lib.hid (HB.out.trans (hb.mono HB.out.size))
          clear hb
          go_wp2_with fail
          refine (Num_any 2 vA _ HEA.out (HGK.out _ HB.out)).mono ?_
          rintro e wn ⟨rfl, hb⟩
          dsimp only
          replace HER := Lib.hid (HER.out.carry hb)
          replace HET := Lib.hid (HET.out.carry hb)
          replace HEA := Lib.hid (HEA.out.carry hb)
          replace HCR := Lib.hid (HCR.out.carry hb (by rw [HLR.out]; decide))
          replace HCT := Lib.hid (HCT.out.carry hb (by rw [HLT.out]; decide))
          replace HCA := Lib.hid (HCA.out.carry hb (by rw [HLA.out]; decide))
          replace HB := Lib.hid (HB.out.trans (hb.mono HB.out.size))
          clear hb
          have cA0 := HCA.out.cell (j := 0) (v := .int .i64 0) rfl
          have cA1 := HCA.out.cell (j := 1) (v := .int .u8 0) rfl
          have cA2 := HCA.out.cell (j := 2) (v := .int .u8 0) rfl
          have cA3 := HCA.out.cell (j := 3) (v := .int .u8 0) rfl
          have cA4 := HCA.out.cell (j := 4) (v := .int .u8 0) rfl
          have cA5 := HCA.out.cell (j := 5) (v := .int .u8 0) rfl
          have cA6 := HCA.out.cell (j := 6) (v := .int .u8 0) rfl
          have cA7 := HCA.out.cell (j := 7) (v := .int .u8 0) rfl
          have cA8 := HCA.out.cell (j := 8) (v := .int .u8 0) rfl
          go_wp2_with fail
          go_ret
          exact ⟨rfl, HB.out⟩
        · have heqA := same_text HUA.out hsA
          clear HTWOR HTWOT HTWOA
          go_wp2_with fail
          refine (Num_any 2 vR _ HER.out (HGK.out _ HB.out)).mono ?_
          rintro e wn ⟨rfl, hb⟩
          dsimp only
          replace HER := Lib.hid (HER.out.carry hb)
          replace HET := Lib.hid (HET.out.carry hb)
          replace HEA := Lib.hid (HEA.out.carry hb)
          replace HCR := Lib.hid (HCR.out.carry hb (by rw [HLR.out]; decide))
          replace HCT := Lib.hid (HCT.out.carry hb (by rw [HLT.out]; decide))
          replace HCA := Lib.hid (HCA.out.carry hb (by rw [HLA.out]; decide))
          replace HB := Lib.hid (HB.out.trans (hb.mono HB.out.size))
          clear hb
          have cR0 := HCR.out.cell (j := 0) (v := .int .i64 0) rfl
          have cR1 := HCR.out.cell (j := 1) (v := .int .i64 0) rfl
          have cR2 := HCR.out.cell (j := 2) (v := .int .i64 0) rfl
          have cR3 := HCR.out.cell (j := 3) (v := .int .i64 0) rfl
          have cR4 := HCR.out.cell (j := 4) (v := .int .i64 0) rfl
          have cR5 := HCR.out.cell (j := 5) (v := .int .i64 0) rfl
          have cR6 := HCR.out.cell (j := 6) (v := .int .i64 0) rfl
          go_wp2_with fail
          clear cR0 cR1 cR2 cR3 cR4 cR5 cR6
          refine (Num_any 0 vT _ HET.out (HGK.out _ HB.out)).mono ?_
          rintro e wn ⟨rfl, hb⟩
          dsimp only
          replace HER := Lib.hid (HER.out.carry hb)
          replace HET := Lib.hid (HET.out.carry hb)
          replace HEA := Lib.hid (HEA.out.carry hb)
          replace HCR := Lib.hid (HCR.out.carry hb (by rw [HLR.out]; decide))
          replace HCT := Lib.hid (HCT.out.carry hb (by rw [HLT.out]; decide))
          replace HCA := Lib.hid (HCA.out.carry hb (by rw [HLA.out]; decide))
          replace HB := Lib.hid (HB.out.trans (hb.mono HB.out.size))
          clear hb
          go_wp2_with fail
          refine (Num_any 0 vT _ HET.out (HGK.out _ HB.out)).mono ?_
          rintro e wn ⟨rfl, hb⟩
          dsimp only
          replace HER := Lib.hid (HER.out.carry hb)
          replace HET := Lib.hid (HET.out.carry hb)
          replace HEA := Lib.hid (HEA.out.carry hb)
          replace HCR := Lib.hid (HCR.out.carry hb (by rw [HLR.out]; decide))
          replace HCT := Lib.hid (HCT.out.carry hb (by rw [HLT.out]; decide))
          replace HCA := Lib.hid (HCA.out.carry hb (by rw [HLA.out]; decide))
          replace HB := Lib.hid (HB.out.trans (hb.mono HB.out.size))
          clear hb
          go_wp2_with fail
          refine (Num_any 0 .nilIface _ (.nil _) (HGK.out _ HB.out)).mono ?_
          rintro e wn ⟨rfl, hb⟩
          dsimp only
          replace HER := Lib.hid (HER.out.carry hb)
          replace HET := Lib.hid (HET.out.carry hb)
          replace HEA := Lib.hid (HEA.out.carry hb)
          replace HCR := Lib.hid (HCR.out.carry hb (by rw [HLR.out]; decide))
          replace HCT := Lib.hid (HCT.out.carry hb (by rw [HLT.out]; decide))
          replace HCA := Lib.hid (HCA.out.carry hb (by rw [HLA.out]; decide))
          replace HB := Lib.hid (HB.out.trans (hb.mono HB.out.size))
          clear hb
          go_wp2_with fail
          refine (Num_any 0 vA _ HEA.out (HGK.out _ HB.out)).mono ?_
          rintro e wn ⟨rfl, hb⟩
          dsimp only
          replace HER := Lib.hid (HER.out.carry hb)
          replace HET := Lib.hid (HET.out.carry hb)
          replace HEA := Lib.hid (HEA.out.carry hb)
          replace HCR := Lib.hid (HCR.out.carry hb (by rw [HLR.out]; decide))
          replace HCT := Lib.hid (HCT.out.carry hb (by rw [HLT.out]; decide))
          replace HCA := Lib.hid (HCA.out.carry hb (by rw [HLA.out]; decide))
          replace HB := Lib.hid (HB.out.trans (hb.mono HB.out.size))
          clear hb
          go_wp2_with fail
          refine (Num_any 0 vA _ HEA.out (HGK.out _ HB.out)).mono ?_
          rintro e wn ⟨rfl, hb⟩
          dsimp only
          replace HER := Lib.hid (HER.out.carry hb)
          replace HET := Lib.hid (HET.out.carry hb)
          replace HEA := Lib.hid (HEA.out.carry hb)
          replace HCR := Lib.hid (HCR.out.carry hb (by rw [HLR.out]; decide))
          replace HCT := Lib.hid (HCT.out.carry hb (by rw [HLT.out]; decide))
          replace HCA := Lib.hid (HCA.out.carry hb (by rw [HLA.out]; decide))
          replace HB := Lib.hid (HB.out.trans (hb.mono HB.out.size))
          clear hb
          go_wp2_with fail
          refine (Num_any 0 .nilIface _ (.nil _) (HGK.out _ HB.out)).mono ?_
          rintro e wn ⟨rfl, hb⟩
          dsimp only
          replace HER := Lib.hid (HER.out.carry hb)
          replace HET := Lib.hid (HET.out.carry hb)
          replace HEA := Lib.hid (HEA.out.carry hb)
          replace HCR := Lib.hid (HCR.out.carry hb (by rw [HLR.out]; decide))
          replace HCT := Lib.hid (HCT.out.carry hb (by rw [HLT.out]; decide))
          replace HCA := Lib.hid (HCA.out.carry hb (by rw [HLA.out]; decide))
          replace HB := Lib.hid (HB.out.trans (hb.mono HB.out.size))
          clear hb
          go_wp2_with fail
          go_ret
          exact ⟨rfl, HB.out⟩
    · have heqR := same_text HUR.out hsR
      rcases HTWOT.out with ⟨rfl, rfl⟩ | ⟨rfl, hsT⟩
      · have heqT : ∀ w, (binOp .eql 42 (.agg #[.int .i64 0, .int .i64 0, .int .i64 0]) (.agg #[.int .i64 0, .int .i64 0, .int .i64 0])).run Tryd.prog w = .ok (.bool true) w := fun w => by have h := eql_tas Tas.zero Tas.zero w; rw [decide_eq_true rfl] at h; exact h
        rcases HTWOA.out with ⟨rfl, rfl⟩ | ⟨rfl, hsA⟩
        · have heqA : ∀ w, (binOp .eql 44 (.agg #[.int .i64 0, .int .u8 0, .int .u8 0, .int .u8 0, .int .u8 0, .int .u8 0, .int .u8 0, .int .u8 0, .int .u8 0]) (.agg #[.int .i64 0, .int .u8 0, .int .u8 0, .int .u8 0, .int .u8 0, .int .u8 0, .int .u8 0, .int .u8 0, .int .u8 0])).run Tryd.prog w = .ok (.bool true) w := fun w => by have h := eql_als Als.Ok.zero Als.Ok.zero w; rw [decide_eq_true rfl] at h; exact h
          clear HTWOR HTWOT HTWOA
          go_wp2_with fail
          refine (Num_any 0 vR _ HER.out (HGK.out _ HB.out)).mono ?_
          rintro e wn ⟨rfl, hb⟩
          dsimp only
          replace HER := Lib.hid (HER.out.carry hb)
          replace HET := Lib.hid (HET.out.carry hb)
          replace HEA := Lib.hid (HEA.out.carry hb)
          replace HCR := Lib.hid (HCR.out.carry hb (by rw [HLR.out]; decide))
          replace HCT := Lib.hid (HCT.out.carry hb (by rw [HLT.out]; decide))
          replace HCA := Lib.hid (HCA.out.carry hb (by rw [HLA.out]; decide))
          replace HB := Lib.hid (HB.out.trans (hb.mono HB.out.size))
          clear hb
          go_wp2_with fail
          refine (Num_any 0 vR _ HER.out (HGK.out _ HB.out)).mono ?_
          rintro e wn ⟨rfl, hb⟩
          dsimp only
          replace HER := Lib.hid (HER.out.carry hb)
          replace HET := Lib.hid (HET.out.carry hb)
          replace HEA := Lib.hid (HEA.out.carry hb)
          replace HCR := Lib.hid (HCR.out.carry hb (by rw [HLR.out]; decide))
          replace HCT := Lib.hid (HCT.out.carry hb (by rw [HLT.out]; decide))
          replace HCA := Lib.hid (HCA.out.carry hb (by rw [HLA.out]; decide))
          replace HB := Lib.hid (HB.out.trans (hb.mono HB.out.size))
          clear hb
          go_wp2_with fail
          refine (Num_any 0 .nilIface _ (.nil _) (HGK.out _ HB.out)).mono ?_
          rintro e wn ⟨rfl, hb⟩
          dsimp only
          replace HER := Lib.hid (HER.out.carry hb)
          replace HET := Lib.hid (HET.out.carry hb)
          replace HEA := Lib.hid (HEA.out.carry hb)
          replace HCR := Lib.hid (HCR.out.carry hb (by rw [HLR.out]; decide))
          replace HCT := Lib.hid (HCT.out.carry hb (by rw [HLT.out]; decide))
          replace HCA := Lib.hid (HCA.out.carry hb (by rw [HLA.out]; decide))
          replace HB := Lib.hid (HB.out.trans (hb.mono HB.out.size))
          clear hb
          go_wp2_with fail
          refine (Num_any 2 vT _ HET.out (HGK.out _ HB.out)).mono ?_
          rintro e wn ⟨rfl, hb⟩
          dsimp only
          replace HER := Lib.hid (HER.out.carry hb)
          replace HET := Lib.hid (HET.out.carry hb)
          replace HEA := Lib.hid (HEA.out.carry hb)
          replace HCR := Lib.hid (HCR.out.carry hb (by rw [HLR.out]; decide))
          replace HCT := Lib.hid (HCT.out.carry hb (by rw [HLT.out]; decide))
          replace HCA := Lib.hid (HCA.out.carry hb (by rw [HLA.out]; decide))
          replace HB := Lib.hid (HB.out.trans (hb.mono HB.out.size))
          clear hb
          have cT0 := HCT.out.cell (j := 0) (v := .int .i64 0) rfl
          have cT1 := HCT.out.cell (j := 1) (v := .int .i64 0) rfl
          have cT2 := HCT.out.cell (j := 2) (v := .int .i64 0) rfl
          go_wp2_with fail
          clear cT0 cT1 cT2
          refine (Num_any 2 vA _ HEA.out (HGK.out _ HB.out)).mono ?_
          rintro e wn ⟨rfl, hb⟩
          dsimp only
          replace HER := Lib.hid (HER.out.carry hb)
          replace HET := Lib.hid (HET.out.carry hb)
          replace HEA := Lib.hid (HEA.out.carry hb)
          replace HCR := Lib.hid (HCR.out.carry hb (by rw [HLR.out]; decide))
          replace HCT := Lib.hid (HCT.out.carry hb (by rw [HLT.out]; decide))
          replace HCA := Lib.hid (HCA.out.carry hb (by rw [HLA.out]; decide))
          replace HB := Lib.hid (HB.out.trans (hb.mono HB.out.size))
          clear hb
          have cA0 := HCA.out.cell (j := 0) (v := .int .i64 0) rfl
          have cA1 := HCA.out.cell (j := 1) (v := .int .u8 0) rfl
          have cA2 := HCA.out.cell (j := 2) (v := .int .u8 0) rfl
          have cA3 := HCA.out.cell (j := 3) (v := .int .u8 0) rfl
          have cA4 := HCA.out.cell (j := 4) (v := .int .u8 0) rfl
          have cA5 := HCA.out.cell (j := 5) (v := .int .u8 0) rfl
          have cA6 := HCA.out.cell (j := 6) (v := .int .u8 0) rfl
          have cA7 := HCA.out.cell (j := 7) (v := .int .u8 0) rfl
          have cA8 := HCA.out.cell (j := 8) (v := .int .u8 0) rfl
          go_wp2_with fail
          go_ret
          exact ⟨rfl, HB.out⟩
        · have heqA := same_text HUA.out hsA
          clear HTWOR HTWOT HTWOA
          go_wp2_with fail
          refine (Num_any 0 vR _ HER.out (HGK.out _ HB.out)).mono ?_
          rintro e wn ⟨rfl, hb⟩
          dsimp only
          replace HER := Lib.hid (HER.out.carry hb)
          replace HET := Lib.hid (HET.out.carry hb)
          replace HEA := Lib.hid (HEA.out.carry hb)
          replace HCR := Lib.hid (HCR.out.carry hb (by rw [HLR.out]; decide))
          replace HCT := Lib.hid (HCT.out.carry hb (by rw [HLT.out]; decide))
          replace HCA := Lib.hid (HCA.out.carry hb (by rw [HLA.out]; decide))
          replace HB := Lib.hid (HB.out.trans (hb.mono HB.out.size))
          clear hb
          go_wp2_with fail
          refine (Num_any 0 vR _ HER.out (HGK.out _ HB.out)).mono ?_
          rintro e wn ⟨rfl, hb⟩
          dsimp only
          replace HER := Lib.hid (HER.out.carry hb)
          replace HET := Lib.hid (HET.out.carry hb)
          replace HEA := Lib.hid (HEA.out.carry hb)
          replace HCR := Lib.hid (HCR.out.carry hb (by rw [HLR.out]; decide))
          replace HCT := Lib.hid (HCT.out.carry hb (by rw [HLT.out]; decide))
          replace HCA := Lib.hid (HCA.out.carry hb (by rw [HLA.out]; decide))
          replace HB := Lib.hid (HB.out.trans (hb.mono HB.out.size))
          clear hb
          go_wp2_with fail
          refine (Num_any 0 .nilIface _ (.nil _) (HGK.out _ HB.out)).mono ?_
          rintro e wn ⟨rfl, hb⟩
          dsimp only
          replace HER := Lib.hid (HER.out.carry hb)
          replace HET := Lib.hid (HET.out.carry hb)
          replace HEA := Lib.hid (HEA.out.carry hb)
          replace HCR := Lib.hid (HCR.out.carry hb (by rw [HLR.out]; decide))
          replace HCT := Lib.hid (HCT.out.carry hb (by rw [HLT.out]; decide))
          replace HCA := Lib.hid (HCA.out.carry hb (by rw [HLA.out]; decide))
          replace HB := Lib.hid (HB.out.trans (hb.mono HB.out.size))
          clear hb
          go_wp2_with fail
          refine (Num_any 2 vT _ HET.out (HGK.out _ HB.out)).mono ?_
          rintro e wn ⟨rfl, hb⟩
          dsimp only
          replace HER := Lib.hid (HER.out.carry hb)
          replace HET := Lib.hid (HET.out.carry hb)
          replace HEA := Lib.hid (HEA.out.carry hb)
          replace HCR := Lib.hid (HCR.out.carry hb (by rw [HLR.out]; decide))
          replace HCT := Lib.hid (HCT.out.carry hb (by rw [HLT.out]; decide))
          replace HCA := Lib.hid (HCA.out.carry hb (by rw [HLA.out]; decide))
          replace HB := Lib.hid (HB.out.trans (hb.mono HB.out.size))
          clear hb
          have cT0 := HCT.out.cell (j := 0) (v := .int .i64 0) rfl
          have cT1 := HCT.out.cell (j := 1) (v := .int .i64 0) rfl
          have cT2 := HCT.out.cell (j := 2) (v := .int .i64 0) rfl
          go_wp2_with fail
          clear cT0 cT1 cT2
          refine (Num_any 0 vA _ HEA.out (HGK.out _ HB.out)).mono ?_
          rintro e wn ⟨rfl, hb⟩
          dsimp only
          replace HER := Lib.hid (HER.out.carry hb)
          replace HET := Lib.hid (HET.out.carry hb)
          replace HEA := Lib.hid (HEA.out.carry hb)
          replace HCR := Lib.hid (HCR.out.carry hb (by rw [HLR.out]; decide))
          replace HCT := Lib.hid (HCT.out.carry hb (by rw [HLT.out]; decide))
          replace HCA := Lib.hid (HCA.out.carry hb (by rw [HLA.out]; decide))
          replace HB := Lib.hid (HB.out.trans (hb.mono HB.out.size))
          clear hb
          go_wp2_with fail
          refine (Num_any 0 vA _ HEA.out (HGK.out _ HB.out)).mono ?_
          rintro e wn ⟨rfl, hb⟩
          dsimp only
          replace HER := Lib.hid (HER.out.carry hb)
          replace HET := Lib.hid (HET.out.carry hb)
          replace HEA := Lib.hid (HEA.out.carry hb)
          replace HCR := Lib.hid (HCR.out.carry hb (by rw [HLR.out]; decide))
          replace HCT := Lib.hid (HCT.out.carry hb (by rw [HLT.out]; decide))
          replace HCA := Lib.hid (HCA.out.carry hb (by rw [HLA.out]; decide))
          replace HB := Lib.hid (HB.out.trans (hb.mono HB.out.size))
          clear hb
          go_wp2_with fail
          refine (Num_any 0 .nilIface _ (.nil _) (HGK.out _ HB.out)).mono ?_
          rintro e wn ⟨rfl, hb⟩
          dsimp only
          replace HER := Lib.hid (HER.out.carry hb)
          replace HET := Lib.hid (HET.out.carry hb)
          replace HEA := Lib.hid (HEA.out.carry hb)
          replace HCR := Lib.hid (HCR.out.carry hb (by rw [HLR.out]; decide))
          replace HCT := Lib.hid (HCT.out.carry hb (by rw [HLT.out]; decide))
          replace HCA := Lib.hid (HCA.out.carry hb (by rw [HLA.out]; decide))
          replace HB := Lib.hid (HB.out.trans (hb.mono HB.out.size))
          clear hb
          go_wp2_with fail
          go_ret
          exact ⟨rfl, HB.out⟩
      · have heqT := same_text HUT.out hsT
        rcases HTWOA.out with ⟨rfl, rfl⟩ | ⟨rfl, hsA⟩
        · have heqA : ∀ w, (binOp .eql 44 (.agg #[.int .i64 0, .int .u8 0, .int .u8 0, .int .u8 0, .int .u8 0, .int .u8 0, .int .u8 0, .int .u8 0, .int .u8 0]) (.agg #[.int .i64 0, .int .u8 0, .int .u8 0, .int .u8 0, .int .u8 0, .int .u8 0, .int .u8 0, .int .u8 0, .int .u8 0])).run Tryd.prog w = .ok (.bool true) w := fun w => by have h := eql_als Als.Ok.zero Als.Ok.zero w; rw [decide_eq_true rfl] at h; exact h
          clear HTWOR HTWOT HTWOA
          go_wp2_with fail
          refine (Num_any 0 vR _ HER.out (HGK.out _ HB.out)).mono ?_
          rintro e wn ⟨rfl, hb⟩
          dsimp only
          replace HER := Lib.hid (HER.out.carry hb)
          replace HET := Lib.hid (HET.out.carry hb)
          replace HEA := Lib.hid (HEA.out.carry hb)
          replace HCR := Lib.hid (HCR.out.carry hb (by rw [HLR.out]; decide))
          replace HCT := Lib.hid (HCT.out.carry hb (by rw [HLT.out]; decide))
          replace HCA := Lib.hid (HCA.out.carry hb (by rw [HLA.out]; decide))
          replace HB := Lib.hid (HB.out.trans (hb.mono HB.out.size))
          clear hb
          go_wp2_with fail
          refine (Num_any 0 vR _ HER.out (HGK.out _ HB.out)).mono ?_
          rintro e wn ⟨rfl, hb⟩
          dsimp only
          replace HER := Lib.hid (HER.out.carry hb)
          replace HET := Lib.hid (HET.out.carry hb)
          replace HEA := Lib.hid (HEA.out.carry hb)
          replace HCR := Lib.hid (HCR.out.carry hb (by rw [HLR.out]; decide))
          replace HCT := Lib.hid (HCT.out.carry hb (by rw [HLT.out]; decide))
          replace HCA := Lib.hid (HCA.out.carry hb (by rw [HLA.out]; decide))
          replace HB := Lib.hid (HB.out.trans (hb.mono HB.out.size))
          clear hb
          go_wp2_with fail
          refine (Num_any 0 .nilIface _ (.nil _) (HGK.out _ HB.out)).mono ?_
          rintro e wn ⟨rfl, hb⟩
          dsimp only
          replace HER := Lib.hid (HER.out.carry hb)
          replace HET := Lib.hid (HET.out.carry hb)
          replace HEA := Lib.hid (HEA.out.carry hb)
          replace HCR := Lib.hid (HCR.out.carry hb (by rw [HLR.out]; decide))
          replace HCT := Lib.hid (HCT.out.carry hb (by rw [HLT.out]; decide))
          replace HCA := Lib.hid (HCA.out.carry hb (by rw [HLA.out]; decide))
          replace HB := Lib.hid (HB.out.trans (hb.mono HB.out.size))
          clear hb
          go_wp2_with fail
          refine (Num_any 0 vT _ HET.out (HGK.out _ HB.out)).mono ?_
          rintro e wn ⟨rfl, hb⟩
          dsimp only
          replace HER := Lib.hid (HER.out.carry hb)
          replace HET := Lib.hid (HET.out.carry hb)
          replace HEA := Lib.hid (HEA.out.carry hb)
          replace HCR := Lib.hid (HCR.out.carry hb (by rw [HLR.out]; decide))
          replace HCT := Lib.hid (HCT.out.carry hb (by rw [HLT.out]; decide))
          replace HCA := Lib.hid (HCA.out.carry hb (by rw [HLA.out]; decide))
          replace HB := Lib.hid (HB.out.trans (hb.mono HB.out.size))
          clear hb
          go_wp2_with fail
          refine (Num_any 0 vT _ HET.out (HGK.out _ HB.out)).mono ?_
          rintro e wn ⟨rfl, hb⟩
          dsimp only
          replace HER := Lib.hid (HER.out.carry hb)
          replace HET := Lib.hid (HET.out.carry hb)
          replace HEA := Lib.hid (HEA.out.carry hb)
          replace HCR := Lib.hid (HCR.out.carry hb (by rw [HLR.out]; decide))
          replace HCT := Lib.hid (HCT.out.carry hb (by rw [HLT.out]; decide))
          replace HCA := Lib.hid (HCA.out.carry hb (by rw [HLA.out]; decide))
          replace HB := Lib.hid (HB.out.trans (hb.mono HB.out.size))
          clear hb
          go_wp2_with fail
          refine (Num_any 0 .nilIface _ (.nil _) (HGK.out _ HB.out)).mono ?_
          rintro e wn ⟨rfl, hb⟩
          dsimp only
          replace HER := Lib.hid (HER.out.carry hb)
          replace HET := Lib.hid (HET.out.carry hb)
          replace HEA := Lib.hid (HEA.out.carry hb)
          replace HCR := Lib.hid (HCR.out.carry hb (by rw [HLR.out]; decide))
          replace HCT := Lib.hid (HCT.out.carry hb (by rw [HLT.out]; decide))
          replace HCA := Lib.hid (HCA.out.carry hb (by rw [HLA.out]; decide))
          replace HB := Lib.hid (HB.out.trans (hb.mono HB.out.size))
          clear hb
          go_wp2_with fail
          refine (Num_any 2 vA _ HEA.out (HGK.out _ HB.out)).mono ?_
          rintro e wn ⟨rfl, hb⟩
          dsimp only
          replace HER := Lib.hid (HER.out.carry hb)
          replace HET := Lib.hid (HET.out.carry hb)
          replace HEA := Lib.hid (HEA.out.carry hb)
          replace HCR := Lib.hid (HCR.out.carry hb (by rw [HLR.out]; decide))
          replace HCT := Lib.hid (HCT.out.carry hb (by rw [HLT.out]; decide))
          replace HCA := Lib.hid (HCA.out.carry hb (by rw [HLA.out]; decide))
          replace HB := Lib.hid (HB.out.trans (hb.mono HB.out.size))
          clear hb
          have cA0 := HCA.out.cell (j := 0) (v := .int .i64 0) rfl
          have cA1 := HCA.out.cell (j := 1) (v := .int .u8 0) rfl
          have cA2 := HCA.out.cell (j := 2) (v := .int .u8 0) rfl
          have cA3 := HCA.out.cell (j := 3) (v := .int .u8 0) rfl
          have cA4 := HCA.out.cell (j := 4) (v := .int .u8 0) rfl
          have cA5 := HCA.out.cell (j := 5) (v := .int .u8 0) rfl
          have cA6 := HCA.out.cell (j := 6) (v := .int .u8 0) rfl
          have cA7 := HCA.out.cell (j := 7) (v := .int .u8 0) rfl
          have cA8 := HCA.out.cell (j := 8) (v := .int .u8 0) rfl
          go_wp2_with fail
          go_ret
          exact ⟨rfl, HB.out⟩
        · have heqA := same_text HUA.out hsA
          clear HTWOR HTWOT HTWOA
          go_wp2_with fail
          refine (Num_any 0 vR _ HER.out (HGK.out _ HB.out)).mono ?_
          rintro e wn ⟨rfl, hb⟩
          dsimp only
          replace HER := Lib.hid (HER.out.carry hb)
          replace HET := Lib.hid (HET.out.carry hb)
          replace HEA := Lib.hid (HEA.out.carry hb)
          replace HCR := Lib.hid (HCR.out.carry hb (by rw [HLR.out]; decide))
          replace HCT := Lib.hid (HCT.out.carry hb (by rw [HLT.out]; decide))
          replace HCA := Lib.hid (HCA.out.carry hb (by rw [HLA.out]; decide))
          replace HB := Lib.hid (HB.out.trans (hb.mono HB.out.size))
          clear hb
          go_wp2_with fail
          refine (Num_any 0 vR _ HER.out (HGK.out _ HB.out)).mono ?_
          rintro e wn ⟨rfl, hb⟩
          dsimp only
          replace HER := Lib.hid (HER.out.carry hb)
          replace HET := Lib.hid (HET.out.carry hb)
          replace HEA := Lib.hid (HEA.out.carry hb)
          replace HCR := Lib.hid (HCR.out.carry hb (by rw [HLR.out]; decide))
          replace HCT := Lib.hid (HCT.out.carry hb (by rw [HLT.out]; decide))
          replace HCA := Lib.hid (HCA.out.carry hb (by rw [HLA.out]; decide))
          replace HB := Lib.hid (HB.out.trans (hb.mono HB.out.size))
          clear hb
          go_wp2_with fail
          refine (Num_any 0 .nilIface _ (.nil _) (HGK.out _ HB.out)).mono ?_
          rintro e wn ⟨rfl, hb⟩
          dsimp only
          replace HER := Lib.hid (HER.out.carry hb)
          replace HET := Lib.hid (HET.out.carry hb)
          replace HEA := Lib.hid (HEA.out.carry hb)
          replace HCR := Lib.hid (HCR.out.carry hb (by rw [HLR.out]; decide))
          replace HCT := Lib.hid (HCT.out.carry hb (by rw [HLT.out]; decide))
          replace HCA := Lib.hid (HCA.out.carry hb (by rw [HLA.out]; decide))
          replace HB := Lib.hid (HB.out.trans (hb.mono HB.out.size))
          clear hb
          go_wp2_with fail
          refine (Num_any 0 vT _ HET.out (HGK.out _ HB.out)).mono ?_
          rintro e wn ⟨rfl, hb⟩
          dsimp only
          replace HER := Lib.hid (HER.out.carry hb)
          replace HET := Lib.hid (HET.out.carry hb)
          replace HEA := Lib.hid (HEA.out.carry hb)
          replace HCR := Lib.hid (HCR.out.carry hb (by rw [HLR.out]; decide))
          replace HCT := Lib.hid (HCT.out.carry hb (by rw [HLT.out]; decide))
          replace HCA := Lib.hid (HCA.out.carry hb (by rw [HLA.out]; decide))
          replace HB := Lib.hid (HB.out.trans (hb.mono HB.out.size))
          clear hb
          go_wp2_with fail
          refine (Num_any 0 vT _ HET.out (HGK.out _ HB.out)).mono ?_
          rintro e wn ⟨rfl, hb⟩
          dsimp only
          replace HER := Lib.hid (HER.out.carry hb)
          replace HET := Lib.hid (HET.out.carry hb)
          replace HEA := Lib.hid (HEA.out.carry hb)
          replace HCR := Lib.hid (HCR.out.carry hb (by rw [HLR.out]; decide))
          replace HCT := Lib.hid (HCT.out.carry hb (by rw [HLT.out]; decide))
          replace HCA := Lib.hid (HCA.out.carry hb (by rw [HLA.out]; decide))
          replace HB := Lib.hid (HB.out.trans (hb.mono HB.out.size))
          clear hb
          go_wp2_with fail
          refine (Num_any 0 .nilIface _ (.nil _) (HGK.out _ HB.out)).mono ?_
          rintro e wn ⟨rfl, hb⟩
          dsimp only
          replace HER := Lib.hid (HER.out.carry hb)
          replace HET := Lib.hid (HET.out.carry hb)
          replace HEA := Lib.hid (HEA.out.carry hb)
          replace HCR := Lib.hid (HCR.out.carry hb (by rw [HLR.out]; decide))
          replace HCT := Lib.hid (HCT.out.carry hb (by rw [HLT.out]; decide))
          replace HCA := Lib.hid (HCA.out.carry hb (by rw [HLA.out]; decide))
          replace HB := Lib.hid (HB.out.trans (hb.mono HB.out.size))
          clear hb
          go_wp2_with fail
          refine (Num_any 0 vA _ HEA.out (HGK.out _ HB.out)).mono ?_
          rintro e wn ⟨rfl, hb⟩
          dsimp only
          replace HER := Lib.hid (HER.out.carry hb)
          replace HET := Lib.hid (HET.out.carry hb)
          replace HEA := Lib.hid (HEA.out.carry hb)
          replace HCR := Lib.hid (HCR.out.carry hb (by rw [HLR.out]; decide))
          replace HCT := Lib.hid (HCT.out.carry hb (by rw [HLT.out]; decide))
          replace HCA := Lib.hid (HCA.out.carry hb (by rw [HLA.out]; decide))
          replace HB := Lib.hid (HB.out.trans (hb.mono HB.out.size))
          clear hb
          go_wp2_with fail
          refine (Num_any 0 vA _ HEA.out (HGK.out _ HB.out)).mono ?_
          rintro e wn ⟨rfl, hb⟩
          dsimp only
          replace HER := Lib.hid (HER.out.carry hb)
          replace HET := Lib.hid (HET.out.carry hb)
          replace HEA := Lib.hid (HEA.out.carry hb)
          replace HCR := Lib.hid (HCR.out.carry hb (by rw [HLR.out]; decide))
          replace HCT := Lib.hid (HCT.out.carry hb (by rw [HLT.out]; decide))
          replace HCA := Lib.hid (HCA.out.carry hb (by rw [HLA.out]; decide))
          replace HB := Lib.hid (HB.out.trans (hb.mono HB.out.size))
          clear hb
          go_wp2_with fail
          refine (Num_any 0 .nilIface _ (.nil _) (HGK.out _ HB.out)).mono ?_
          rintro e wn ⟨rfl, hb⟩
          dsimp only
          replace HER := Lib.hid (HER.out.carry hb)
          replace HET := Lib.hid (HET.out.carry hb)
          replace HEA := Lib.hid (HEA.out.carry hb)
          replace HCR := Lib.hid (HCR.out.carry hb (by rw [HLR.out]; decide))
          replace HCT := Lib.hid (HCT.out.carry hb (by rw [HLT.out]; decide))
          replace HCA := Lib.hid (HCA.out.carry hb (by rw [HLA.out]; decide))
          replace HB := Lib.hid (HB.out.trans (hb.mono HB.out.size))
          clear hb
          go_wp2_with fail
          go_ret
          exact ⟨rfl, HB.out⟩
end Go.Proofs.YtjjlghdcpkkdhaaDoor
