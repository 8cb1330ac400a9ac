/-
  The walk of the statement FramePlays: it answers true, and no memory that was there has turned. Conditions: errors.errorType and crc.halved are laid.
-/
import Derived.Test.YtcpekkajcjgoiaaDoorFrPlaysEnd
namespace Go.Proofs.YtcpekkajcjgoiaaDoor
open Go.RowKit

set_option maxRecDepth 100000 in
set_option maxHeartbeats 4000000 in
theorem plays_long (a : Int) (s : ByteArray) (l : List UInt8) (m : Bool) (w : World) (hs : 500 < s.size) (hg : Laid2 w) :
    Calls Tryd.prog 4 #[.int .i64 a, .string s, pgV (pgB l), .bool m] w fun e w' => e = .returned (.bool true) ∧ Below w.heap.size w w' := by
  have HG := Lib.hid hg
  clear hg
  have hd : decide ((500 : Int) < (s.size : Int)) = true := by simp; omega
  go_enter Tryd.func4, Tryd.ntmps4
  go_wp2_with fail
  have hb0 : Below w.heap.size w (w.alloc (.cells (pgArr (pgB l)) 23)) := (Below.refl _ _).alloc (Nat.le_refl _) _
  have HB0 := Lib.hid hb0
  refine (awake_any _ (HG.out.carry hb0)).mono ?_
  rintro e w1 ⟨rfl, hb⟩
  have HB := Lib.hid (HB0.out.trans (hb.mono HB0.out.size))
  clear hb hb0
  go_wp2_with fail
  refine (awake_any _ (HG.out.carry HB.out)).mono ?_
  rintro e w2 ⟨rfl, hb⟩
  have HB2 := Lib.hid (HB.out.trans (hb.mono HB.out.size))
  clear hb
  go_wp2_with fail
  go_ret
  exact ⟨rfl, HB2.out⟩
/-- a literal without parts, in a region that draws its order -/
theorem yieldsIf_build_none {P : Program} {ops : Array Oper} {S : World → Prop} {op : Oper} {a : Act} (hw : Region.wanted op (yielded ops a.tmps) = true) (t : TypeId) (ho : op.op = .build t #[]) (c : Array Value) (hb : P.built t [] = some c) :
    YieldsIf P ops S op (.agg c) a :=
  .inl ⟨hw, fun w _ => by
    unfold execOp
    simp only [ho, List.map_toArray, List.map_nil, Sem.run_bind, run_build w t #[] c hb, Result.andThen_ok]
    rfl⟩
set_option maxRecDepth 100000 in
set_option maxHeartbeats 8000000 in
theorem plays_yes (k : Nat) (s : ByteArray) (l : List UInt8) (m : Bool) (w : World) (h1 : 1 ≤ k) (h2 : k ≤ 255) (hs : s.size ≤ 120) (hl : l.length = 128) (hg : Laid2 w) :
    Calls Tryd.prog 4 #[.int .i64 k, .string s, pgV (pgB l), .bool m] w fun e w' => e = .returned (.bool true) ∧ Below w.heap.size w w' := by
  have HC0 := Lib.hid (codeL_yes h1 h2 hs)
  have HPG : Hid (pageL k s = pgB (layB (UInt8.ofNat k) s.data.toList)) := Lib.hid (by unfold pageL; rw [if_pos HC0.out]; rfl)
  have d1 : decide ((k : Int) < 1) = false := by simp; omega
  have d2 : decide (255 < (k : Int)) = false := by simp; omega
  have d3 : decide ((120 : Int) < (s.size : Int)) = false := by simp; omega
  have HG := Lib.hid hg
  have HL := Lib.hid hl
  clear hg hl
  have hz := Tryd.zeroPage
  have hd : decide ((500 : Int) < (s.size : Int)) = false := by simp; omega
  go_enter Tryd.func4, Tryd.ntmps4
  go_wp2_with fail
  obtain ⟨w0, HW0⟩ : ∃ w0, Hid (w0 = w.alloc (.cells (pgArr (pgB l)) 23)) := ⟨_, Lib.hid rfl⟩
  obtain ⟨b6, HB6⟩ : ∃ b6, Hid (b6 = w.heap.size) := ⟨_, Lib.hid rfl⟩
  rw [← HW0.out, ← HB6.out]
  have HB0 : Hid (Below w.heap.size w w0) := Lib.hid (by rw [HW0.out]; exact (Below.refl _ _).alloc (Nat.le_refl _) _)
  have HO0 : Hid (Own w0 b6 l) := Lib.hid (by rw [HW0.out, HB6.out]; exact Own.new _)
  clear HW0
  have HWB : Hid (w.heap.size ≤ b6) := Lib.hid (by rw [HB6.out]; exact Nat.le_refl _)
  refine (awake_any _ (HG.out.carry HB0.out)).mono ?_
  rintro e w1 ⟨rfl, hb⟩
  have HB1 := Lib.hid (HB0.out.trans (hb.mono HB0.out.size))
  have HO1 : Hid (Own w1 b6 l) := Lib.hid (HO0.out.below hb (HO0.out.lt HL.out))
  clear hb HB0 HO0
  go_wp2_with fail
  refine (FrLay_any k s w1 (HG.out.carry HB1.out).crc).mono ?_
  obtain ⟨p, HP⟩ : ∃ p, Hid (p = pageL k s) := ⟨_, Lib.hid rfl⟩
  have HPL : Hid (p.length = 128) := Lib.hid (by rw [HP.out]; exact pageL_length _ _)
  obtain ⟨c, HC⟩ : ∃ c, Hid (c = codeL k s) := ⟨_, Lib.hid rfl⟩
  rw [← HP.out, ← HC.out]
  rintro e w2 ⟨v, rfl, he, hb⟩
  have HB2 : Hid (Below w.heap.size w w2) := Lib.hid (HB1.out.trans (hb.mono HB1.out.size))
  have HO2 : Hid (Own w2 b6 l) := Lib.hid (HO1.out.below hb (HO1.out.lt HL.out))
  have HE2 := Lib.hid he
  clear he hb HB1 HO1
  go_wp2_with (with_reducible refine stop_at (o := ⟨none, _, _, _, _, _⟩) ?_)
  refine wpList_store_last rfl _ _ _ rfl (pgArr zeroPg) (pgArr p) _ rfl rfl rfl (by rw [pgArr_size, HPL.out]; exact Tryd.pageSize) (by rw [pgArr_size, pgArr_size, HPL.out]; rfl) (pgArr_all _) ?_
  obtain ⟨w3, HW⟩ : ∃ w3, Hid (w3 = w2.alloc (.cells (pgArr p) 24)) := ⟨_, Lib.hid rfl⟩
  obtain ⟨b, HBB⟩ : ∃ b, Hid (b = w2.heap.size) := ⟨_, Lib.hid rfl⟩
  rw [← HW.out, ← HBB.out]
  have hb3 : Below w2.heap.size w2 w3 := by rw [HW.out]; exact (Below.refl _ _).alloc (Nat.le_refl _) _
  have HB3 : Hid (Below w.heap.size w w3) := Lib.hid (HB2.out.trans (hb3.mono HB2.out.size))
  have HO3 : Hid (Own w3 b6 l) := Lib.hid (HO2.out.below hb3 (HO2.out.lt HL.out))
  have HR3 : Hid (w3.rangeAt b 0 (pgCells p)) := Lib.hid (by rw [HW.out, HBB.out]; exact page_new _ _ _)
  have HE3 := Lib.hid (HE2.out.below hb3)
  clear HW HBB hb3 HE2 HB2 HO2
  have hc0 : c = 0 := HC.out.trans HC0.out
  subst hc0
  obtain rfl := HE3.out.zero
  have HPY : Hid (p = pgB (layB (UInt8.ofNat k) s.data.toList)) := Lib.hid (by rw [HP.out, HPG.out])
  have heq := equalIn_two p p HPL.out HPL.out
  rw [show decide (p = p) = true by simp] at heq
  have hgp := guardPage1
  go_wp2_with fail
  refine wp_region_held (S := fun w' => w'.rangeAt b 0 (pgCells p) ∧ Below w3.heap.size w3 w') (by kernel_rfl) ?_
  change wpAnyH _ _ _ _ _ _ _ _ w3.drew
  obtain ⟨w4, HW⟩ : ∃ w1, Hid (w1 = w3.drew) := ⟨_, Lib.hid rfl⟩
  rw [← HW.out]
  have hS : w4.rangeAt b 0 (pgCells p) ∧ Below w3.heap.size w3 w4 := by rw [HW.out]; exact ⟨HR3.out, (Below.refl _ _).drew⟩
  clear HW
  refine takeH (i := 0) 43 (v := .nilIface) rfl (by kernel_rfl) (by kernel_rfl) (by kernel_rfl) rfl (fun _ _ _ h => h) (.inl ⟨by rfl, fun _ _ => by go_simp⟩) hS ?_
  simp only [Act.put, List.setIfInBounds_toArray, List.set_cons_zero, List.set_cons_succ]
  refine takeH (i := 2) 45 (v := .int .i64 0) rfl (by kernel_rfl) (by kernel_rfl) (by kernel_rfl) rfl (fun _ _ _ h => h) (.inl ⟨by rfl, fun _ _ => by go_simp⟩) hS ?_
  simp only [Act.put, List.setIfInBounds_toArray, List.set_cons_zero, List.set_cons_succ]
  refine oneH (i := 1) (oi := ⟨some 44, _, _, _, _, _⟩) rfl (by kernel_rfl) (fun K hK => ?_)
  go_simp
  refine (Num_nil _).mono ?_
  rintro e w' ⟨rfl, rfl⟩
  refine hK.out _ _ hS ?_
  clear hK K
  refine takeH (i := 3) 46 (v := .bool false) rfl (by kernel_rfl) (by kernel_rfl) (by kernel_rfl) rfl (fun _ _ _ h => h) (.inl ⟨by rfl, fun _ _ => by go_simp⟩) hS ?_
  simp only [Act.put, List.setIfInBounds_toArray, List.set_cons_zero, List.set_cons_succ]
  refine takeH (i := 4) 47 (v := .bool false) rfl (by kernel_rfl) (by kernel_rfl) (by kernel_rfl) rfl (fun _ _ _ h => h) (.inl ⟨by rfl, fun _ _ => by go_simp⟩) hS ?_
  simp only [Act.put, List.setIfInBounds_toArray, List.set_cons_zero, List.set_cons_succ]
  refine takeH (i := 5) 48 (v := .int .i64 0) rfl (by kernel_rfl) (by kernel_rfl) (by kernel_rfl) rfl (fun _ _ _ h => h) (.inl ⟨by rfl, fun _ _ => by go_simp⟩) hS ?_
  simp only [Act.put, List.setIfInBounds_toArray, List.set_cons_zero, List.set_cons_succ]
  refine takeH (i := 6) 49 (v := .bool true) rfl (by kernel_rfl) (by kernel_rfl) (by kernel_rfl) rfl (fun _ _ _ h => h) (.inl ⟨by rfl, fun _ _ => by go_simp⟩) hS ?_
  simp only [Act.put, List.setIfInBounds_toArray, List.set_cons_zero, List.set_cons_succ]
  refine takeH (i := 7) 50 (v := .bool true) rfl (by kernel_rfl) (by kernel_rfl) (by kernel_rfl) rfl (fun _ _ _ h => h) (.inl ⟨by rfl, fun _ _ => by go_simp⟩) hS ?_
  simp only [Act.put, List.setIfInBounds_toArray, List.set_cons_zero, List.set_cons_succ]
  refine takeH (i := 8) 51 (v := pgV p) rfl (by kernel_rfl) (by kernel_rfl) (by kernel_rfl) rfl (fun _ _ _ h => h) (yieldsIf_load_mid (by rfl) _ _ rfl b 0 rfl (pgCells p) _ (fun _ hw => hw.1) Tryd.underlying24 rfl (by rw [pgCells_length, HPL.out]; exact Tryd.pageSize)) hS ?_
  simp only [Act.put, List.setIfInBounds_toArray, List.set_cons_zero, List.set_cons_succ]
  refine takeH (i := 9) 52 (v := .int .i64 (k : Int)) rfl (by kernel_rfl) (by kernel_rfl) (by kernel_rfl) rfl (fun _ _ _ h => h) (.inl ⟨by rfl, fun _ _ => by go_simp⟩) hS ?_
  simp only [Act.put, List.setIfInBounds_toArray, List.set_cons_zero, List.set_cons_succ]
  refine takeH (i := 10) 53 (v := .string s) rfl (by kernel_rfl) (by kernel_rfl) (by kernel_rfl) rfl (fun _ _ _ h => h) (.inl ⟨by rfl, fun _ _ => by go_simp⟩) hS ?_
  simp only [Act.put, List.setIfInBounds_toArray, List.set_cons_zero, List.set_cons_succ]
  refine oneH (i := 11) (oi := ⟨some 54, _, _, _, _, _⟩) rfl (by kernel_rfl) (fun K hK => ?_)
  rw [if_pos (by rfl)]
  go_simp
  refine (RefLay_yes k s w4 h1 h2 hs).mono ?_
  rw [← HPY.out]
  rintro e w5 ⟨rfl, hb⟩
  have hS5 : w5.rangeAt b 0 (pgCells p) ∧ Below w3.heap.size w3 w5 := ⟨range_below hS.1 hb, hS.2.trans (hb.mono hS.2.size)⟩
  clear hS hb
  have hS := hS5
  clear hS5
  refine hK.out _ _ hS ?_
  clear hK K
  refine takeH (i := 12) 55 (v := .bool false) rfl (by kernel_rfl) (by kernel_rfl) (by kernel_rfl) rfl (fun _ _ _ h => h) (.inl ⟨by rfl, fun _ _ => by go_simp⟩) hS ?_
  simp only [Act.put, List.setIfInBounds_toArray, List.set_cons_zero, List.set_cons_succ]
  refine takeH (i := 13) 56 (v := .bool false) rfl (by kernel_rfl) (by kernel_rfl) (by kernel_rfl) rfl (fun _ _ _ h => h) (.inl ⟨by rfl, fun _ _ => by go_simp⟩) hS ?_
  simp only [Act.put, List.setIfInBounds_toArray, List.set_cons_zero, List.set_cons_succ]
  refine takeH (i := 14) 57 (v := .bool false) rfl (by kernel_rfl) (by kernel_rfl) (by kernel_rfl) rfl (fun _ _ _ h => h) (.inl ⟨by rfl, fun _ _ => by go_simp⟩) hS ?_
  simp only [Act.put, List.setIfInBounds_toArray, List.set_cons_zero, List.set_cons_succ]
  refine takeH (i := 15) 58 (v := .bool false) rfl (by kernel_rfl) (by kernel_rfl) (by kernel_rfl) rfl (fun _ _ _ h => h) (.inl ⟨by rfl, fun _ _ => by go_simp⟩) hS ?_
  simp only [Act.put, List.setIfInBounds_toArray, List.set_cons_zero, List.set_cons_succ]
  refine takeH (i := 16) 59 (v := .int .i64 0) rfl (by kernel_rfl) (by kernel_rfl) (by kernel_rfl) rfl (fun _ _ _ h => h) (.inl ⟨by rfl, fun _ _ => by go_simp⟩) hS ?_
  simp only [Act.put, List.setIfInBounds_toArray, List.set_cons_zero, List.set_cons_succ]
  refine takeH (i := 17) 60 (v := .bool false) rfl (by kernel_rfl) (by kernel_rfl) (by kernel_rfl) rfl (fun _ _ _ h => h) (.inl ⟨by rfl, fun _ _ => by go_simp⟩) hS ?_
  simp only [Act.put, List.setIfInBounds_toArray, List.set_cons_zero, List.set_cons_succ]
  refine takeH (i := 18) 61 (v := .bool false) rfl (by kernel_rfl) (by kernel_rfl) (by kernel_rfl) rfl (fun _ _ _ h => h) (.inl ⟨by rfl, fun _ _ => by go_simp⟩) hS ?_
  simp only [Act.put, List.setIfInBounds_toArray, List.set_cons_zero, List.set_cons_succ]
  refine takeH (i := 19) 62 (v := undef) rfl (by kernel_rfl) (by kernel_rfl) (by kernel_rfl) rfl (fun _ _ _ h => h) (.inr ⟨by rfl, rfl⟩) hS ?_
  simp only [Act.put, List.setIfInBounds_toArray, List.set_cons_zero, List.set_cons_succ]
  refine takeH (i := 20) 63 (v := undef) rfl (by kernel_rfl) (by kernel_rfl) (by kernel_rfl) rfl (fun _ _ _ h => h) (.inr ⟨by rfl, rfl⟩) hS ?_
  simp only [Act.put, List.setIfInBounds_toArray, List.set_cons_zero, List.set_cons_succ]
  refine takeH (i := 21) 64 (v := undef) rfl (by kernel_rfl) (by kernel_rfl) (by kernel_rfl) rfl (fun _ _ _ h => h) (.inr ⟨by rfl, rfl⟩) hS ?_
  simp only [Act.put, List.setIfInBounds_toArray, List.set_cons_zero, List.set_cons_succ]
  refine takeH (i := 22) 65 (v := .bool false) rfl (by kernel_rfl) (by kernel_rfl) (by kernel_rfl) rfl (fun _ _ _ h => h) (.inl ⟨by rfl, fun _ _ => by go_simp⟩) hS ?_
  simp only [Act.put, List.setIfInBounds_toArray, List.set_cons_zero, List.set_cons_succ]
  refine takeH (i := 23) 66 (v := .bool false) rfl (by kernel_rfl) (by kernel_rfl) (by kernel_rfl) rfl (fun _ _ _ h => h) (.inl ⟨by rfl, fun _ _ => by go_simp⟩) hS ?_
  simp only [Act.put, List.setIfInBounds_toArray, List.set_cons_zero, List.set_cons_succ]
  refine wpAnyH_done (by kernel_rfl) ?_ _
  have HB4 : Hid (Below w.heap.size w w5) := Lib.hid (HB3.out.trans (hS.2.mono HB3.out.size))
  have HO4 : Hid (Own w5 b6 l) := Lib.hid (HO3.out.below hS.2 (HO3.out.lt HL.out))
  clear hS HB3 HO3 HE3 HR3
  clear heq
  go_upto_if 66 with (fail)
  go_cut [] (fun wx => w5 = wx)
  case first =>
    go_wp2_with fail
    go_meet
    rfl
  case rest =>
    subst hcut
    refine go_on (P := Tryd.prog) (by assumption) ?_
    exact plays_mid HL HO4 HG HB4 HWB
set_option maxRecDepth 100000 in
set_option maxHeartbeats 8000000 in
theorem plays_low (a : Int) (s : ByteArray) (l : List UInt8) (m : Bool) (w : World) (hs : s.size ≤ 500) (hl : l.length = 128) (hg : Laid2 w) (d1 : decide (a < 1) = true) :
    Calls Tryd.prog 4 #[.int .i64 a, .string s, pgV (pgB l), .bool m] w fun e w' => e = .returned (.bool true) ∧ Below w.heap.size w w' := by
  have hc0 : codeL a s = 1 := by unfold codeL; rw [if_pos (.inl (by simpa using d1))]
  have HCC := Lib.hid hc0
  have HZP : Hid (pageL a s = zeroPg) := Lib.hid (by unfold pageL; rw [if_neg (by rw [hc0]; decide)])
  clear hc0
  have HG := Lib.hid hg
  have HL := Lib.hid hl
  clear hg hl
  have hz := Tryd.zeroPage
  have hd : decide ((500 : Int) < (s.size : Int)) = false := by simp; omega
  go_enter Tryd.func4, Tryd.ntmps4
  go_wp2_with fail
  obtain ⟨w0, HW0⟩ : ∃ w0, Hid (w0 = w.alloc (.cells (pgArr (pgB l)) 23)) := ⟨_, Lib.hid rfl⟩
  obtain ⟨b6, HB6⟩ : ∃ b6, Hid (b6 = w.heap.size) := ⟨_, Lib.hid rfl⟩
  rw [← HW0.out, ← HB6.out]
  have HB0 : Hid (Below w.heap.size w w0) := Lib.hid (by rw [HW0.out]; exact (Below.refl _ _).alloc (Nat.le_refl _) _)
  have HO0 : Hid (Own w0 b6 l) := Lib.hid (by rw [HW0.out, HB6.out]; exact Own.new _)
  clear HW0
  have HWB : Hid (w.heap.size ≤ b6) := Lib.hid (by rw [HB6.out]; exact Nat.le_refl _)
  refine (awake_any _ (HG.out.carry HB0.out)).mono ?_
  rintro e w1 ⟨rfl, hb⟩
  have HB1 := Lib.hid (HB0.out.trans (hb.mono HB0.out.size))
  have HO1 : Hid (Own w1 b6 l) := Lib.hid (HO0.out.below hb (HO0.out.lt HL.out))
  clear hb HB0 HO0
  go_wp2_with fail
  refine (FrLay_any a s w1 (HG.out.carry HB1.out).crc).mono ?_
  obtain ⟨p, HP⟩ : ∃ p, Hid (p = pageL a s) := ⟨_, Lib.hid rfl⟩
  have HPL : Hid (p.length = 128) := Lib.hid (by rw [HP.out]; exact pageL_length _ _)
  obtain ⟨c, HC⟩ : ∃ c, Hid (c = codeL a s) := ⟨_, Lib.hid rfl⟩
  rw [← HP.out, ← HC.out]
  rintro e w2 ⟨v, rfl, he, hb⟩
  have HB2 : Hid (Below w.heap.size w w2) := Lib.hid (HB1.out.trans (hb.mono HB1.out.size))
  have HO2 : Hid (Own w2 b6 l) := Lib.hid (HO1.out.below hb (HO1.out.lt HL.out))
  have HE2 := Lib.hid he
  clear he hb HB1 HO1
  go_wp2_with (with_reducible refine stop_at (o := ⟨none, _, _, _, _, _⟩) ?_)
  refine wpList_store_last rfl _ _ _ rfl (pgArr zeroPg) (pgArr p) _ rfl rfl rfl (by rw [pgArr_size, HPL.out]; exact Tryd.pageSize) (by rw [pgArr_size, pgArr_size, HPL.out]; rfl) (pgArr_all _) ?_
  obtain ⟨w3, HW⟩ : ∃ w3, Hid (w3 = w2.alloc (.cells (pgArr p) 24)) := ⟨_, Lib.hid rfl⟩
  obtain ⟨b, HBB⟩ : ∃ b, Hid (b = w2.heap.size) := ⟨_, Lib.hid rfl⟩
  rw [← HW.out, ← HBB.out]
  have hb3 : Below w2.heap.size w2 w3 := by rw [HW.out]; exact (Below.refl _ _).alloc (Nat.le_refl _) _
  have HB3 : Hid (Below w.heap.size w w3) := Lib.hid (HB2.out.trans (hb3.mono HB2.out.size))
  have HO3 : Hid (Own w3 b6 l) := Lib.hid (HO2.out.below hb3 (HO2.out.lt HL.out))
  have HR3 : Hid (w3.rangeAt b 0 (pgCells p)) := Lib.hid (by rw [HW.out, HBB.out]; exact page_new _ _ _)
  have HE3 := Lib.hid (HE2.out.below hb3)
  clear HW HBB hb3 HE2 HB2 HO2
  have hc0 : c = 1 := HC.out.trans HCC.out
  subst hc0
  have heq := equalIn_two p zeroPg HPL.out zeroPg_length
  rw [show decide (p = zeroPg) = true by rw [HP.out, HZP.out]; simp, show pgV zeroPg = .agg (pgArr zeroPg) from rfl] at heq
  have hgp := guardPage1
  go_wp2_with fail
  refine wp_region_held (S := fun w' => w'.rangeAt b 0 (pgCells p) ∧ Below w3.heap.size w3 w') (by kernel_rfl) ?_
  change wpAnyH _ _ _ _ _ _ _ _ w3.drew
  obtain ⟨w4, HW⟩ : ∃ w1, Hid (w1 = w3.drew) := ⟨_, Lib.hid rfl⟩
  rw [← HW.out]
  have hS : w4.rangeAt b 0 (pgCells p) ∧ Below w3.heap.size w3 w4 := by rw [HW.out]; exact ⟨HR3.out, (Below.refl _ _).drew⟩
  clear HW
  refine takeH (i := 0) 43 (v := v) rfl (by kernel_rfl) (by kernel_rfl) (by kernel_rfl) rfl (fun _ _ _ h => h) (.inl ⟨by rfl, fun _ _ => by go_simp⟩) hS ?_
  simp only [Act.put, List.setIfInBounds_toArray, List.set_cons_zero, List.set_cons_succ]
  refine takeH (i := 2) 45 (v := .int .i64 1) rfl (by kernel_rfl) (by kernel_rfl) (by kernel_rfl) rfl (fun _ _ _ h => h) (.inl ⟨by rfl, fun _ _ => by go_simp⟩) hS ?_
  simp only [Act.put, List.setIfInBounds_toArray, List.set_cons_zero, List.set_cons_succ]
  refine oneH (i := 1) (oi := ⟨some 44, _, _, _, _, _⟩) rfl (by kernel_rfl) (fun K hK => ?_)
  go_simp
  refine (Num_any 1 v w4 (HE3.out.is.carry hS.2) ((HG.out.carry HB3.out).err.carry hS.2)).mono ?_
  rintro e w5 ⟨rfl, hb⟩
  have hS5 : w5.rangeAt b 0 (pgCells p) ∧ Below w3.heap.size w3 w5 := ⟨range_below hS.1 hb, hS.2.trans (hb.mono hS.2.size)⟩
  clear hS hb
  have hS := hS5
  clear hS5
  refine hK.out _ _ hS ?_
  clear hK K
  refine takeH (i := 3) 46 (v := .bool false) rfl (by kernel_rfl) (by kernel_rfl) (by kernel_rfl) rfl (fun _ _ _ h => h) (.inl ⟨by rfl, fun _ _ => by go_simp⟩) hS ?_
  simp only [Act.put, List.setIfInBounds_toArray, List.set_cons_zero, List.set_cons_succ]
  refine takeH (i := 4) 47 (v := .bool false) rfl (by kernel_rfl) (by kernel_rfl) (by kernel_rfl) rfl (fun _ _ _ h => h) (.inl ⟨by rfl, fun _ _ => by go_simp⟩) hS ?_
  simp only [Act.put, List.setIfInBounds_toArray, List.set_cons_zero, List.set_cons_succ]
  refine takeH (i := 5) 48 (v := .int .i64 1) rfl (by kernel_rfl) (by kernel_rfl) (by kernel_rfl) rfl (fun _ _ _ h => h) (.inl ⟨by rfl, fun _ _ => by go_simp⟩) hS ?_
  simp only [Act.put, List.setIfInBounds_toArray, List.set_cons_zero, List.set_cons_succ]
  refine takeH (i := 6) 49 (v := .bool false) rfl (by kernel_rfl) (by kernel_rfl) (by kernel_rfl) rfl (fun _ _ _ h => h) (.inl ⟨by rfl, fun _ _ => by go_simp⟩) hS ?_
  simp only [Act.put, List.setIfInBounds_toArray, List.set_cons_zero, List.set_cons_succ]
  refine takeH (i := 7) 50 (v := .bool false) rfl (by kernel_rfl) (by kernel_rfl) (by kernel_rfl) rfl (fun _ _ _ h => h) (.inl ⟨by rfl, fun _ _ => by go_simp⟩) hS ?_
  simp only [Act.put, List.setIfInBounds_toArray, List.set_cons_zero, List.set_cons_succ]
  refine takeH (i := 8) 51 (v := undef) rfl (by kernel_rfl) (by kernel_rfl) (by kernel_rfl) rfl (fun _ _ _ h => h) (.inr ⟨by rfl, rfl⟩) hS ?_
  simp only [Act.put, List.setIfInBounds_toArray, List.set_cons_zero, List.set_cons_succ]
  refine takeH (i := 9) 52 (v := undef) rfl (by kernel_rfl) (by kernel_rfl) (by kernel_rfl) rfl (fun _ _ _ h => h) (.inr ⟨by rfl, rfl⟩) hS ?_
  simp only [Act.put, List.setIfInBounds_toArray, List.set_cons_zero, List.set_cons_succ]
  refine takeH (i := 10) 53 (v := undef) rfl (by kernel_rfl) (by kernel_rfl) (by kernel_rfl) rfl (fun _ _ _ h => h) (.inr ⟨by rfl, rfl⟩) hS ?_
  simp only [Act.put, List.setIfInBounds_toArray, List.set_cons_zero, List.set_cons_succ]
  refine takeH (i := 11) 54 (v := undef) rfl (by kernel_rfl) (by kernel_rfl) (by kernel_rfl) rfl (fun _ _ _ h => h) (.inr ⟨by rfl, rfl⟩) hS ?_
  simp only [Act.put, List.setIfInBounds_toArray, List.set_cons_zero, List.set_cons_succ]
  refine takeH (i := 12) 55 (v := undef) rfl (by kernel_rfl) (by kernel_rfl) (by kernel_rfl) rfl (fun _ _ _ h => h) (.inr ⟨by rfl, rfl⟩) hS ?_
  simp only [Act.put, List.setIfInBounds_toArray, List.set_cons_zero, List.set_cons_succ]
  refine takeH (i := 13) 56 (v := .bool false) rfl (by kernel_rfl) (by kernel_rfl) (by kernel_rfl) rfl (fun _ _ _ h => h) (.inl ⟨by rfl, fun _ _ => by go_simp⟩) hS ?_
  simp only [Act.put, List.setIfInBounds_toArray, List.set_cons_zero, List.set_cons_succ]
  refine takeH (i := 14) 57 (v := .bool false) rfl (by kernel_rfl) (by kernel_rfl) (by kernel_rfl) rfl (fun _ _ _ h => h) (.inl ⟨by rfl, fun _ _ => by go_simp⟩) hS ?_
  simp only [Act.put, List.setIfInBounds_toArray, List.set_cons_zero, List.set_cons_succ]
  refine takeH (i := 15) 58 (v := .bool false) rfl (by kernel_rfl) (by kernel_rfl) (by kernel_rfl) rfl (fun _ _ _ h => h) (.inl ⟨by rfl, fun _ _ => by go_simp⟩) hS ?_
  simp only [Act.put, List.setIfInBounds_toArray, List.set_cons_zero, List.set_cons_succ]
  refine takeH (i := 16) 59 (v := .int .i64 1) rfl (by kernel_rfl) (by kernel_rfl) (by kernel_rfl) rfl (fun _ _ _ h => h) (.inl ⟨by rfl, fun _ _ => by go_simp⟩) hS ?_
  simp only [Act.put, List.setIfInBounds_toArray, List.set_cons_zero, List.set_cons_succ]
  refine takeH (i := 17) 60 (v := .bool true) rfl (by kernel_rfl) (by kernel_rfl) (by kernel_rfl) rfl (fun _ _ _ h => h) (.inl ⟨by rfl, fun _ _ => by go_simp⟩) hS ?_
  simp only [Act.put, List.setIfInBounds_toArray, List.set_cons_zero, List.set_cons_succ]
  refine takeH (i := 18) 61 (v := .bool true) rfl (by kernel_rfl) (by kernel_rfl) (by kernel_rfl) rfl (fun _ _ _ h => h) (.inl ⟨by rfl, fun _ _ => by go_simp⟩) hS ?_
  simp only [Act.put, List.setIfInBounds_toArray, List.set_cons_zero, List.set_cons_succ]
  refine takeH (i := 19) 62 (v := pgV p) rfl (by kernel_rfl) (by kernel_rfl) (by kernel_rfl) rfl (fun _ _ _ h => h) (yieldsIf_load_mid (by rfl) _ _ rfl b 0 rfl (pgCells p) _ (fun _ hw => hw.1) Tryd.underlying24 rfl (by rw [pgCells_length, HPL.out]; exact Tryd.pageSize)) hS ?_
  simp only [Act.put, List.setIfInBounds_toArray, List.set_cons_zero, List.set_cons_succ]
  refine takeH (i := 20) 63 (v := .agg (pgArr zeroPg)) rfl (by kernel_rfl) (by kernel_rfl) (by kernel_rfl) rfl (fun _ _ _ h => h) (yieldsIf_build_none (by rfl) _ rfl _ built_zero) hS ?_
  simp only [Act.put, List.setIfInBounds_toArray, List.set_cons_zero, List.set_cons_succ]
  refine takeH (i := 21) 64 (v := .bool false) rfl (by kernel_rfl) (by kernel_rfl) (by kernel_rfl) rfl (fun _ _ _ h => h) (.inl ⟨by rfl, fun _ _ => by go_simp⟩) hS ?_
  simp only [Act.put, List.setIfInBounds_toArray, List.set_cons_zero, List.set_cons_succ]
  refine takeH (i := 22) 65 (v := .bool false) rfl (by kernel_rfl) (by kernel_rfl) (by kernel_rfl) rfl (fun _ _ _ h => h) (.inl ⟨by rfl, fun _ _ => by go_simp⟩) hS ?_
  simp only [Act.put, List.setIfInBounds_toArray, List.set_cons_zero, List.set_cons_succ]
  refine takeH (i := 23) 66 (v := .bool false) rfl (by kernel_rfl) (by kernel_rfl) (by kernel_rfl) rfl (fun _ _ _ h => h) (.inl ⟨by rfl, fun _ _ => by go_simp⟩) hS ?_
  simp only [Act.put, List.setIfInBounds_toArray, List.set_cons_zero, List.set_cons_succ]
  refine wpAnyH_done (by kernel_rfl) ?_ _
  have HB4 : Hid (Below w.heap.size w w5) := Lib.hid (HB3.out.trans (hS.2.mono HB3.out.size))
  have HO4 : Hid (Own w5 b6 l) := Lib.hid (HO3.out.below hS.2 (HO3.out.lt HL.out))
  clear hS HB3 HO3 HE3 HR3
  clear heq
  go_upto_if 66 with (fail)
  go_cut [] (fun wx => w5 = wx)
  case first =>
    go_wp2_with fail
    go_meet
    rfl
  case rest =>
    subst hcut
    refine go_on (P := Tryd.prog) (by assumption) ?_
    exact plays_mid HL HO4 HG HB4 HWB
set_option maxRecDepth 100000 in
set_option maxHeartbeats 8000000 in
theorem plays_high (a : Int) (s : ByteArray) (l : List UInt8) (m : Bool) (w : World) (hs : s.size ≤ 500) (hl : l.length = 128) (hg : Laid2 w) (d1 : decide (a < 1) = false) (d2 : decide (255 < a) = true) :
    Calls Tryd.prog 4 #[.int .i64 a, .string s, pgV (pgB l), .bool m] w fun e w' => e = .returned (.bool true) ∧ Below w.heap.size w w' := by
  have hc0 : codeL a s = 1 := by unfold codeL; rw [if_pos (.inr (by simpa using d2))]
  have HCC := Lib.hid hc0
  have HZP : Hid (pageL a s = zeroPg) := Lib.hid (by unfold pageL; rw [if_neg (by rw [hc0]; decide)])
  clear hc0
  have HG := Lib.hid hg
  have HL := Lib.hid hl
  clear hg hl
  have hz := Tryd.zeroPage
  have hd : decide ((500 : Int) < (s.size : Int)) = false := by simp; omega
  go_enter Tryd.func4, Tryd.ntmps4
  go_wp2_with fail
  obtain ⟨w0, HW0⟩ : ∃ w0, Hid (w0 = w.alloc (.cells (pgArr (pgB l)) 23)) := ⟨_, Lib.hid rfl⟩
  obtain ⟨b6, HB6⟩ : ∃ b6, Hid (b6 = w.heap.size) := ⟨_, Lib.hid rfl⟩
  rw [← HW0.out, ← HB6.out]
  have HB0 : Hid (Below w.heap.size w w0) := Lib.hid (by rw [HW0.out]; exact (Below.refl _ _).alloc (Nat.le_refl _) _)
  have HO0 : Hid (Own w0 b6 l) := Lib.hid (by rw [HW0.out, HB6.out]; exact Own.new _)
  clear HW0
  have HWB : Hid (w.heap.size ≤ b6) := Lib.hid (by rw [HB6.out]; exact Nat.le_refl _)
  refine (awake_any _ (HG.out.carry HB0.out)).mono ?_
  rintro e w1 ⟨rfl, hb⟩
  have HB1 := Lib.hid (HB0.out.trans (hb.mono HB0.out.size))
  have HO1 : Hid (Own w1 b6 l) := Lib.hid (HO0.out.below hb (HO0.out.lt HL.out))
  clear hb HB0 HO0
  go_wp2_with fail
  refine (FrLay_any a s w1 (HG.out.carry HB1.out).crc).mono ?_
  obtain ⟨p, HP⟩ : ∃ p, Hid (p = pageL a s) := ⟨_, Lib.hid rfl⟩
  have HPL : Hid (p.length = 128) := Lib.hid (by rw [HP.out]; exact pageL_length _ _)
  obtain ⟨c, HC⟩ : ∃ c, Hid (c = codeL a s) := ⟨_, Lib.hid rfl⟩
  rw [← HP.out, ← HC.out]
  rintro e w2 ⟨v, rfl, he, hb⟩
  have HB2 : Hid (Below w.heap.size w w2) := Lib.hid (HB1.out.trans (hb.mono HB1.out.size))
  have HO2 : Hid (Own w2 b6 l) := Lib.hid (HO1.out.below hb (HO1.out.lt HL.out))
  have HE2 := Lib.hid he
  clear he hb HB1 HO1
  go_wp2_with (with_reducible refine stop_at (o := ⟨none, _, _, _, _, _⟩) ?_)
  refine wpList_store_last rfl _ _ _ rfl (pgArr zeroPg) (pgArr p) _ rfl rfl rfl (by rw [pgArr_size, HPL.out]; exact Tryd.pageSize) (by rw [pgArr_size, pgArr_size, HPL.out]; rfl) (pgArr_all _) ?_
  obtain ⟨w3, HW⟩ : ∃ w3, Hid (w3 = w2.alloc (.cells (pgArr p) 24)) := ⟨_, Lib.hid rfl⟩
  obtain ⟨b, HBB⟩ : ∃ b, Hid (b = w2.heap.size) := ⟨_, Lib.hid rfl⟩
  rw [← HW.out, ← HBB.out]
  have hb3 : Below w2.heap.size w2 w3 := by rw [HW.out]; exact (Below.refl _ _).alloc (Nat.le_refl _) _
  have HB3 : Hid (Below w.heap.size w w3) := Lib.hid (HB2.out.trans (hb3.mono HB2.out.size))
  have HO3 : Hid (Own w3 b6 l) := Lib.hid (HO2.out.below hb3 (HO2.out.lt HL.out))
  have HR3 : Hid (w3.rangeAt b 0 (pgCells p)) := Lib.hid (by rw [HW.out, HBB.out]; exact page_new _ _ _)
  have HE3 := Lib.hid (HE2.out.below hb3)
  clear HW HBB hb3 HE2 HB2 HO2
  have hc0 : c = 1 := HC.out.trans HCC.out
  subst hc0
  have heq := equalIn_two p zeroPg HPL.out zeroPg_length
  rw [show decide (p = zeroPg) = true by rw [HP.out, HZP.out]; simp, show pgV zeroPg = .agg (pgArr zeroPg) from rfl] at heq
  have hgp := guardPage1
  go_wp2_with fail
  refine wp_region_held (S := fun w' => w'.rangeAt b 0 (pgCells p) ∧ Below w3.heap.size w3 w') (by kernel_rfl) ?_
  change wpAnyH _ _ _ _ _ _ _ _ w3.drew
  obtain ⟨w4, HW⟩ : ∃ w1, Hid (w1 = w3.drew) := ⟨_, Lib.hid rfl⟩
  rw [← HW.out]
  have hS : w4.rangeAt b 0 (pgCells p) ∧ Below w3.heap.size w3 w4 := by rw [HW.out]; exact ⟨HR3.out, (Below.refl _ _).drew⟩
  clear HW
  refine takeH (i := 0) 43 (v := v) rfl (by kernel_rfl) (by kernel_rfl) (by kernel_rfl) rfl (fun _ _ _ h => h) (.inl ⟨by rfl, fun _ _ => by go_simp⟩) hS ?_
  simp only [Act.put, List.setIfInBounds_toArray, List.set_cons_zero, List.set_cons_succ]
  refine takeH (i := 2) 45 (v := .int .i64 1) rfl (by kernel_rfl) (by kernel_rfl) (by kernel_rfl) rfl (fun _ _ _ h => h) (.inl ⟨by rfl, fun _ _ => by go_simp⟩) hS ?_
  simp only [Act.put, List.setIfInBounds_toArray, List.set_cons_zero, List.set_cons_succ]
  refine oneH (i := 1) (oi := ⟨some 44, _, _, _, _, _⟩) rfl (by kernel_rfl) (fun K hK => ?_)
  go_simp
  refine (Num_any 1 v w4 (HE3.out.is.carry hS.2) ((HG.out.carry HB3.out).err.carry hS.2)).mono ?_
  rintro e w5 ⟨rfl, hb⟩
  have hS5 : w5.rangeAt b 0 (pgCells p) ∧ Below w3.heap.size w3 w5 := ⟨range_below hS.1 hb, hS.2.trans (hb.mono hS.2.size)⟩
  clear hS hb
  have hS := hS5
  clear hS5
  refine hK.out _ _ hS ?_
  clear hK K
  refine takeH (i := 3) 46 (v := .bool false) rfl (by kernel_rfl) (by kernel_rfl) (by kernel_rfl) rfl (fun _ _ _ h => h) (.inl ⟨by rfl, fun _ _ => by go_simp⟩) hS ?_
  simp only [Act.put, List.setIfInBounds_toArray, List.set_cons_zero, List.set_cons_succ]
  refine takeH (i := 4) 47 (v := .bool false) rfl (by kernel_rfl) (by kernel_rfl) (by kernel_rfl) rfl (fun _ _ _ h => h) (.inl ⟨by rfl, fun _ _ => by go_simp⟩) hS ?_
  simp only [Act.put, List.setIfInBounds_toArray, List.set_cons_zero, List.set_cons_succ]
  refine takeH (i := 5) 48 (v := .int .i64 1) rfl (by kernel_rfl) (by kernel_rfl) (by kernel_rfl) rfl (fun _ _ _ h => h) (.inl ⟨by rfl, fun _ _ => by go_simp⟩) hS ?_
  simp only [Act.put, List.setIfInBounds_toArray, List.set_cons_zero, List.set_cons_succ]
  refine takeH (i := 6) 49 (v := .bool false) rfl (by kernel_rfl) (by kernel_rfl) (by kernel_rfl) rfl (fun _ _ _ h => h) (.inl ⟨by rfl, fun _ _ => by go_simp⟩) hS ?_
  simp only [Act.put, List.setIfInBounds_toArray, List.set_cons_zero, List.set_cons_succ]
  refine takeH (i := 7) 50 (v := .bool false) rfl (by kernel_rfl) (by kernel_rfl) (by kernel_rfl) rfl (fun _ _ _ h => h) (.inl ⟨by rfl, fun _ _ => by go_simp⟩) hS ?_
  simp only [Act.put, List.setIfInBounds_toArray, List.set_cons_zero, List.set_cons_succ]
  refine takeH (i := 8) 51 (v := undef) rfl (by kernel_rfl) (by kernel_rfl) (by kernel_rfl) rfl (fun _ _ _ h => h) (.inr ⟨by rfl, rfl⟩) hS ?_
  simp only [Act.put, List.setIfInBounds_toArray, List.set_cons_zero, List.set_cons_succ]
  refine takeH (i := 9) 52 (v := undef) rfl (by kernel_rfl) (by kernel_rfl) (by kernel_rfl) rfl (fun _ _ _ h => h) (.inr ⟨by rfl, rfl⟩) hS ?_
  simp only [Act.put, List.setIfInBounds_toArray, List.set_cons_zero, List.set_cons_succ]
  refine takeH (i := 10) 53 (v := undef) rfl (by kernel_rfl) (by kernel_rfl) (by kernel_rfl) rfl (fun _ _ _ h => h) (.inr ⟨by rfl, rfl⟩) hS ?_
  simp only [Act.put, List.setIfInBounds_toArray, List.set_cons_zero, List.set_cons_succ]
  refine takeH (i := 11) 54 (v := undef) rfl (by kernel_rfl) (by kernel_rfl) (by kernel_rfl) rfl (fun _ _ _ h => h) (.inr ⟨by rfl, rfl⟩) hS ?_
  simp only [Act.put, List.setIfInBounds_toArray, List.set_cons_zero, List.set_cons_succ]
  refine takeH (i := 12) 55 (v := undef) rfl (by kernel_rfl) (by kernel_rfl) (by kernel_rfl) rfl (fun _ _ _ h => h) (.inr ⟨by rfl, rfl⟩) hS ?_
  simp only [Act.put, List.setIfInBounds_toArray, List.set_cons_zero, List.set_cons_succ]
  refine takeH (i := 13) 56 (v := .bool false) rfl (by kernel_rfl) (by kernel_rfl) (by kernel_rfl) rfl (fun _ _ _ h => h) (.inl ⟨by rfl, fun _ _ => by go_simp⟩) hS ?_
  simp only [Act.put, List.setIfInBounds_toArray, List.set_cons_zero, List.set_cons_succ]
  refine takeH (i := 14) 57 (v := .bool false) rfl (by kernel_rfl) (by kernel_rfl) (by kernel_rfl) rfl (fun _ _ _ h => h) (.inl ⟨by rfl, fun _ _ => by go_simp⟩) hS ?_
  simp only [Act.put, List.setIfInBounds_toArray, List.set_cons_zero, List.set_cons_succ]
  refine takeH (i := 15) 58 (v := .bool false) rfl (by kernel_rfl) (by kernel_rfl) (by kernel_rfl) rfl (fun _ _ _ h => h) (.inl ⟨by rfl, fun _ _ => by go_simp⟩) hS ?_
  simp only [Act.put, List.setIfInBounds_toArray, List.set_cons_zero, List.set_cons_succ]
  refine takeH (i := 16) 59 (v := .int .i64 1) rfl (by kernel_rfl) (by kernel_rfl) (by kernel_rfl) rfl (fun _ _ _ h => h) (.inl ⟨by rfl, fun _ _ => by go_simp⟩) hS ?_
  simp only [Act.put, List.setIfInBounds_toArray, List.set_cons_zero, List.set_cons_succ]
  refine takeH (i := 17) 60 (v := .bool true) rfl (by kernel_rfl) (by kernel_rfl) (by kernel_rfl) rfl (fun _ _ _ h => h) (.inl ⟨by rfl, fun _ _ => by go_simp⟩) hS ?_
  simp only [Act.put, List.setIfInBounds_toArray, List.set_cons_zero, List.set_cons_succ]
  refine takeH (i := 18) 61 (v := .bool true) rfl (by kernel_rfl) (by kernel_rfl) (by kernel_rfl) rfl (fun _ _ _ h => h) (.inl ⟨by rfl, fun _ _ => by go_simp⟩) hS ?_
  simp only [Act.put, List.setIfInBounds_toArray, List.set_cons_zero, List.set_cons_succ]
  refine takeH (i := 19) 62 (v := pgV p) rfl (by kernel_rfl) (by kernel_rfl) (by kernel_rfl) rfl (fun _ _ _ h => h) (yieldsIf_load_mid (by rfl) _ _ rfl b 0 rfl (pgCells p) _ (fun _ hw => hw.1) Tryd.underlying24 rfl (by rw [pgCells_length, HPL.out]; exact Tryd.pageSize)) hS ?_
  simp only [Act.put, List.setIfInBounds_toArray, List.set_cons_zero, List.set_cons_succ]
  refine takeH (i := 20) 63 (v := .agg (pgArr zeroPg)) rfl (by kernel_rfl) (by kernel_rfl) (by kernel_rfl) rfl (fun _ _ _ h => h) (yieldsIf_build_none (by rfl) _ rfl _ built_zero) hS ?_
  simp only [Act.put, List.setIfInBounds_toArray, List.set_cons_zero, List.set_cons_succ]
  refine takeH (i := 21) 64 (v := .bool false) rfl (by kernel_rfl) (by kernel_rfl) (by kernel_rfl) rfl (fun _ _ _ h => h) (.inl ⟨by rfl, fun _ _ => by go_simp⟩) hS ?_
  simp only [Act.put, List.setIfInBounds_toArray, List.set_cons_zero, List.set_cons_succ]
  refine takeH (i := 22) 65 (v := .bool false) rfl (by kernel_rfl) (by kernel_rfl) (by kernel_rfl) rfl (fun _ _ _ h => h) (.inl ⟨by rfl, fun _ _ => by go_simp⟩) hS ?_
  simp only [Act.put, List.setIfInBounds_toArray, List.set_cons_zero, List.set_cons_succ]
  refine takeH (i := 23) 66 (v := .bool false) rfl (by kernel_rfl) (by kernel_rfl) (by kernel_rfl) rfl (fun _ _ _ h => h) (.inl ⟨by rfl, fun _ _ => by go_simp⟩) hS ?_
  simp only [Act.put, List.setIfInBounds_toArray, List.set_cons_zero, List.set_cons_succ]
  refine wpAnyH_done (by kernel_rfl) ?_ _
  have HB4 : Hid (Below w.heap.size w w5) := Lib.hid (HB3.out.trans (hS.2.mono HB3.out.size))
  have HO4 : Hid (Own w5 b6 l) := Lib.hid (HO3.out.below hS.2 (HO3.out.lt HL.out))
  clear hS HB3 HO3 HE3 HR3
  clear heq
  go_upto_if 66 with (fail)
  go_cut [] (fun wx => w5 = wx)
  case first =>
    go_wp2_with fail
    go_meet
    rfl
  case rest =>
    subst hcut
    refine go_on (P := Tryd.prog) (by assumption) ?_
    exact plays_mid HL HO4 HG HB4 HWB
set_option maxRecDepth 100000 in
set_option maxHeartbeats 8000000 in
theorem plays_big (a : Int) (s : ByteArray) (l : List UInt8) (m : Bool) (w : World) (hs : s.size ≤ 500) (hl : l.length = 128) (hg : Laid2 w) (d1 : decide (a < 1) = false) (d2 : decide (255 < a) = false) (d3 : decide ((120 : Int) < (s.size : Int)) = true) :
    Calls Tryd.prog 4 #[.int .i64 a, .string s, pgV (pgB l), .bool m] w fun e w' => e = .returned (.bool true) ∧ Below w.heap.size w w' := by
  have hc0 : codeL a s = 8 := by unfold codeL; rw [if_neg (by simp at d1 d2; omega), if_pos (by simp at d3; omega)]
  have HCC := Lib.hid hc0
  have HZP : Hid (pageL a s = zeroPg) := Lib.hid (by unfold pageL; rw [if_neg (by rw [hc0]; decide)])
  clear hc0
  have HG := Lib.hid hg
  have HL := Lib.hid hl
  clear hg hl
  have hz := Tryd.zeroPage
  have hd : decide ((500 : Int) < (s.size : Int)) = false := by simp; omega
  go_enter Tryd.func4, Tryd.ntmps4
  go_wp2_with fail
  obtain ⟨w0, HW0⟩ : ∃ w0, Hid (w0 = w.alloc (.cells (pgArr (pgB l)) 23)) := ⟨_, Lib.hid rfl⟩
  obtain ⟨b6, HB6⟩ : ∃ b6, Hid (b6 = w.heap.size) := ⟨_, Lib.hid rfl⟩
  rw [← HW0.out, ← HB6.out]
  have HB0 : Hid (Below w.heap.size w w0) := Lib.hid (by rw [HW0.out]; exact (Below.refl _ _).alloc (Nat.le_refl _) _)
  have HO0 : Hid (Own w0 b6 l) := Lib.hid (by rw [HW0.out, HB6.out]; exact Own.new _)
  clear HW0
  have HWB : Hid (w.heap.size ≤ b6) := Lib.hid (by rw [HB6.out]; exact Nat.le_refl _)
  refine (awake_any _ (HG.out.carry HB0.out)).mono ?_
  rintro e w1 ⟨rfl, hb⟩
  have HB1 := Lib.hid (HB0.out.trans (hb.mono HB0.out.size))
  have HO1 : Hid (Own w1 b6 l) := Lib.hid (HO0.out.below hb (HO0.out.lt HL.out))
  clear hb HB0 HO0
  go_wp2_with fail
  refine (FrLay_any a s w1 (HG.out.carry HB1.out).crc).mono ?_
  obtain ⟨p, HP⟩ : ∃ p, Hid (p = pageL a s) := ⟨_, Lib.hid rfl⟩
  have HPL : Hid (p.length = 128) := Lib.hid (by rw [HP.out]; exact pageL_length _ _)
  obtain ⟨c, HC⟩ : ∃ c, Hid (c = codeL a s) := ⟨_, Lib.hid rfl⟩
  rw [← HP.out, ← HC.out]
  rintro e w2 ⟨v, rfl, he, hb⟩
  have HB2 : Hid (Below w.heap.size w w2) := Lib.hid (HB1.out.trans (hb.mono HB1.out.size))
  have HO2 : Hid (Own w2 b6 l) := Lib.hid (HO1.out.below hb (HO1.out.lt HL.out))
  have HE2 := Lib.hid he
  clear he hb HB1 HO1
  go_wp2_with (with_reducible refine stop_at (o := ⟨none, _, _, _, _, _⟩) ?_)
  refine wpList_store_last rfl _ _ _ rfl (pgArr zeroPg) (pgArr p) _ rfl rfl rfl (by rw [pgArr_size, HPL.out]; exact Tryd.pageSize) (by rw [pgArr_size, pgArr_size, HPL.out]; rfl) (pgArr_all _) ?_
  obtain ⟨w3, HW⟩ : ∃ w3, Hid (w3 = w2.alloc (.cells (pgArr p) 24)) := ⟨_, Lib.hid rfl⟩
  obtain ⟨b, HBB⟩ : ∃ b, Hid (b = w2.heap.size) := ⟨_, Lib.hid rfl⟩
  rw [← HW.out, ← HBB.out]
  have hb3 : Below w2.heap.size w2 w3 := by rw [HW.out]; exact (Below.refl _ _).alloc (Nat.le_refl _) _
  have HB3 : Hid (Below w.heap.size w w3) := Lib.hid (HB2.out.trans (hb3.mono HB2.out.size))
  have HO3 : Hid (Own w3 b6 l) := Lib.hid (HO2.out.below hb3 (HO2.out.lt HL.out))
  have HR3 : Hid (w3.rangeAt b 0 (pgCells p)) := Lib.hid (by rw [HW.out, HBB.out]; exact page_new _ _ _)
  have HE3 := Lib.hid (HE2.out.below hb3)
  clear HW HBB hb3 HE2 HB2 HO2
  have hc0 : c = 8 := HC.out.trans HCC.out
  subst hc0
  have heq := equalIn_two p zeroPg HPL.out zeroPg_length
  rw [show decide (p = zeroPg) = true by rw [HP.out, HZP.out]; simp, show pgV zeroPg = .agg (pgArr zeroPg) from rfl] at heq
  have hgp := guardPage1
  go_wp2_with fail
  refine wp_region_held (S := fun w' => w'.rangeAt b 0 (pgCells p) ∧ Below w3.heap.size w3 w') (by kernel_rfl) ?_
  change wpAnyH _ _ _ _ _ _ _ _ w3.drew
  obtain ⟨w4, HW⟩ : ∃ w1, Hid (w1 = w3.drew) := ⟨_, Lib.hid rfl⟩
  rw [← HW.out]
  have hS : w4.rangeAt b 0 (pgCells p) ∧ Below w3.heap.size w3 w4 := by rw [HW.out]; exact ⟨HR3.out, (Below.refl _ _).drew⟩
  clear HW
  refine takeH (i := 0) 43 (v := v) rfl (by kernel_rfl) (by kernel_rfl) (by kernel_rfl) rfl (fun _ _ _ h => h) (.inl ⟨by rfl, fun _ _ => by go_simp⟩) hS ?_
  simp only [Act.put, List.setIfInBounds_toArray, List.set_cons_zero, List.set_cons_succ]
  refine takeH (i := 2) 45 (v := .int .i64 8) rfl (by kernel_rfl) (by kernel_rfl) (by kernel_rfl) rfl (fun _ _ _ h => h) (.inl ⟨by rfl, fun _ _ => by go_simp⟩) hS ?_
  simp only [Act.put, List.setIfInBounds_toArray, List.set_cons_zero, List.set_cons_succ]
  refine oneH (i := 1) (oi := ⟨some 44, _, _, _, _, _⟩) rfl (by kernel_rfl) (fun K hK => ?_)
  go_simp
  refine (Num_any 8 v w4 (HE3.out.is.carry hS.2) ((HG.out.carry HB3.out).err.carry hS.2)).mono ?_
  rintro e w5 ⟨rfl, hb⟩
  have hS5 : w5.rangeAt b 0 (pgCells p) ∧ Below w3.heap.size w3 w5 := ⟨range_below hS.1 hb, hS.2.trans (hb.mono hS.2.size)⟩
  clear hS hb
  have hS := hS5
  clear hS5
  refine hK.out _ _ hS ?_
  clear hK K
  refine takeH (i := 3) 46 (v := .bool false) rfl (by kernel_rfl) (by kernel_rfl) (by kernel_rfl) rfl (fun _ _ _ h => h) (.inl ⟨by rfl, fun _ _ => by go_simp⟩) hS ?_
  simp only [Act.put, List.setIfInBounds_toArray, List.set_cons_zero, List.set_cons_succ]
  refine takeH (i := 4) 47 (v := .bool false) rfl (by kernel_rfl) (by kernel_rfl) (by kernel_rfl) rfl (fun _ _ _ h => h) (.inl ⟨by rfl, fun _ _ => by go_simp⟩) hS ?_
  simp only [Act.put, List.setIfInBounds_toArray, List.set_cons_zero, List.set_cons_succ]
  refine takeH (i := 5) 48 (v := .int .i64 8) rfl (by kernel_rfl) (by kernel_rfl) (by kernel_rfl) rfl (fun _ _ _ h => h) (.inl ⟨by rfl, fun _ _ => by go_simp⟩) hS ?_
  simp only [Act.put, List.setIfInBounds_toArray, List.set_cons_zero, List.set_cons_succ]
  refine takeH (i := 6) 49 (v := .bool false) rfl (by kernel_rfl) (by kernel_rfl) (by kernel_rfl) rfl (fun _ _ _ h => h) (.inl ⟨by rfl, fun _ _ => by go_simp⟩) hS ?_
  simp only [Act.put, List.setIfInBounds_toArray, List.set_cons_zero, List.set_cons_succ]
  refine takeH (i := 7) 50 (v := .bool false) rfl (by kernel_rfl) (by kernel_rfl) (by kernel_rfl) rfl (fun _ _ _ h => h) (.inl ⟨by rfl, fun _ _ => by go_simp⟩) hS ?_
  simp only [Act.put, List.setIfInBounds_toArray, List.set_cons_zero, List.set_cons_succ]
  refine takeH (i := 8) 51 (v := undef) rfl (by kernel_rfl) (by kernel_rfl) (by kernel_rfl) rfl (fun _ _ _ h => h) (.inr ⟨by rfl, rfl⟩) hS ?_
  simp only [Act.put, List.setIfInBounds_toArray, List.set_cons_zero, List.set_cons_succ]
  refine takeH (i := 9) 52 (v := undef) rfl (by kernel_rfl) (by kernel_rfl) (by kernel_rfl) rfl (fun _ _ _ h => h) (.inr ⟨by rfl, rfl⟩) hS ?_
  simp only [Act.put, List.setIfInBounds_toArray, List.set_cons_zero, List.set_cons_succ]
  refine takeH (i := 10) 53 (v := undef) rfl (by kernel_rfl) (by kernel_rfl) (by kernel_rfl) rfl (fun _ _ _ h => h) (.inr ⟨by rfl, rfl⟩) hS ?_
  simp only [Act.put, List.setIfInBounds_toArray, List.set_cons_zero, List.set_cons_succ]
  refine takeH (i := 11) 54 (v := undef) rfl (by kernel_rfl) (by kernel_rfl) (by kernel_rfl) rfl (fun _ _ _ h => h) (.inr ⟨by rfl, rfl⟩) hS ?_
  simp only [Act.put, List.setIfInBounds_toArray, List.set_cons_zero, List.set_cons_succ]
  refine takeH (i := 12) 55 (v := undef) rfl (by kernel_rfl) (by kernel_rfl) (by kernel_rfl) rfl (fun _ _ _ h => h) (.inr ⟨by rfl, rfl⟩) hS ?_
  simp only [Act.put, List.setIfInBounds_toArray, List.set_cons_zero, List.set_cons_succ]
  refine takeH (i := 13) 56 (v := .bool false) rfl (by kernel_rfl) (by kernel_rfl) (by kernel_rfl) rfl (fun _ _ _ h => h) (.inl ⟨by rfl, fun _ _ => by go_simp⟩) hS ?_
  simp only [Act.put, List.setIfInBounds_toArray, List.set_cons_zero, List.set_cons_succ]
  refine takeH (i := 14) 57 (v := .bool false) rfl (by kernel_rfl) (by kernel_rfl) (by kernel_rfl) rfl (fun _ _ _ h => h) (.inl ⟨by rfl, fun _ _ => by go_simp⟩) hS ?_
  simp only [Act.put, List.setIfInBounds_toArray, List.set_cons_zero, List.set_cons_succ]
  refine takeH (i := 15) 58 (v := .bool false) rfl (by kernel_rfl) (by kernel_rfl) (by kernel_rfl) rfl (fun _ _ _ h => h) (.inl ⟨by rfl, fun _ _ => by go_simp⟩) hS ?_
  simp only [Act.put, List.setIfInBounds_toArray, List.set_cons_zero, List.set_cons_succ]
  refine takeH (i := 16) 59 (v := .int .i64 8) rfl (by kernel_rfl) (by kernel_rfl) (by kernel_rfl) rfl (fun _ _ _ h => h) (.inl ⟨by rfl, fun _ _ => by go_simp⟩) hS ?_
  simp only [Act.put, List.setIfInBounds_toArray, List.set_cons_zero, List.set_cons_succ]
  refine takeH (i := 17) 60 (v := .bool true) rfl (by kernel_rfl) (by kernel_rfl) (by kernel_rfl) rfl (fun _ _ _ h => h) (.inl ⟨by rfl, fun _ _ => by go_simp⟩) hS ?_
  simp only [Act.put, List.setIfInBounds_toArray, List.set_cons_zero, List.set_cons_succ]
  refine takeH (i := 18) 61 (v := .bool true) rfl (by kernel_rfl) (by kernel_rfl) (by kernel_rfl) rfl (fun _ _ _ h => h) (.inl ⟨by rfl, fun _ _ => by go_simp⟩) hS ?_
  simp only [Act.put, List.setIfInBounds_toArray, List.set_cons_zero, List.set_cons_succ]
  refine takeH (i := 19) 62 (v := pgV p) rfl (by kernel_rfl) (by kernel_rfl) (by kernel_rfl) rfl (fun _ _ _ h => h) (yieldsIf_load_mid (by rfl) _ _ rfl b 0 rfl (pgCells p) _ (fun _ hw => hw.1) Tryd.underlying24 rfl (by rw [pgCells_length, HPL.out]; exact Tryd.pageSize)) hS ?_
  simp only [Act.put, List.setIfInBounds_toArray, List.set_cons_zero, List.set_cons_succ]
  refine takeH (i := 20) 63 (v := .agg (pgArr zeroPg)) rfl (by kernel_rfl) (by kernel_rfl) (by kernel_rfl) rfl (fun _ _ _ h => h) (yieldsIf_build_none (by rfl) _ rfl _ built_zero) hS ?_
  simp only [Act.put, List.setIfInBounds_toArray, List.set_cons_zero, List.set_cons_succ]
  refine takeH (i := 21) 64 (v := .bool false) rfl (by kernel_rfl) (by kernel_rfl) (by kernel_rfl) rfl (fun _ _ _ h => h) (.inl ⟨by rfl, fun _ _ => by go_simp⟩) hS ?_
  simp only [Act.put, List.setIfInBounds_toArray, List.set_cons_zero, List.set_cons_succ]
  refine takeH (i := 22) 65 (v := .bool false) rfl (by kernel_rfl) (by kernel_rfl) (by kernel_rfl) rfl (fun _ _ _ h => h) (.inl ⟨by rfl, fun _ _ => by go_simp⟩) hS ?_
  simp only [Act.put, List.setIfInBounds_toArray, List.set_cons_zero, List.set_cons_succ]
  refine takeH (i := 23) 66 (v := .bool false) rfl (by kernel_rfl) (by kernel_rfl) (by kernel_rfl) rfl (fun _ _ _ h => h) (.inl ⟨by rfl, fun _ _ => by go_simp⟩) hS ?_
  simp only [Act.put, List.setIfInBounds_toArray, List.set_cons_zero, List.set_cons_succ]
  refine wpAnyH_done (by kernel_rfl) ?_ _
  have HB4 : Hid (Below w.heap.size w w5) := Lib.hid (HB3.out.trans (hS.2.mono HB3.out.size))
  have HO4 : Hid (Own w5 b6 l) := Lib.hid (HO3.out.below hS.2 (HO3.out.lt HL.out))
  clear hS HB3 HO3 HE3 HR3
  clear heq
  go_upto_if 66 with (fail)
  go_cut [] (fun wx => w5 = wx)
  case first =>
    go_wp2_with fail
    go_meet
    rfl
  case rest =>
    subst hcut
    refine go_on (P := Tryd.prog) (by assumption) ?_
    exact plays_mid HL HO4 HG HB4 HWB
theorem plays_walk (a : Int) (s : ByteArray) (l : List UInt8) (m : Bool) (w : World) (hl : l.length = 128) (hg : Laid2 w) :
    Calls Tryd.prog 4 #[.int .i64 a, .string s, pgV (pgB l), .bool m] w fun e w' => e = .returned (.bool true) ∧ Below w.heap.size w w' := by
  by_cases hs : s.size ≤ 500
  · by_cases h1 : a < 1
    · exact plays_low a s l m w hs hl hg (by simpa using h1)
    · by_cases h2 : 255 < a
      · exact plays_high a s l m w hs hl hg (by simpa using h1) (by simpa using h2)
      · by_cases h3 : 120 < s.size
        · exact plays_big a s l m w hs hl hg (by simpa using h1) (by simpa using h2) (by simp; omega)
        · obtain ⟨k, rfl⟩ : ∃ k : Nat, a = k := ⟨a.toNat, by omega⟩
          exact plays_yes k s l m w (by omega) (by omega) (by omega) hl hg
  · exact plays_long a s l m w (by omega) hg
end Go.Proofs.YtcpekkajcjgoiaaDoor
