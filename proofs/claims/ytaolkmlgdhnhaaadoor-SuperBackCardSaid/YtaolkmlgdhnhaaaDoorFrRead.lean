/-
  The contract of frame.Read. Conditions: none beyond the premises of each theorem.
-/
import Derived.Test.YtaolkmlgdhnhaaaDoorFrLay
import Derived.Test.YtaolkmlgdhnhaaaDoorPageEq
namespace Go.Proofs.YtaolkmlgdhnhaaaDoor
open Go.RowKit

/-- what Read answers -/
def ReadAns (l : List UInt8) (w : World) (e : Ending) (w' : World) : Prop :=
  ∃ v, e = .returned (.tuple #[.int .i64 (if codeB l = 0 then ((kB l).toNat : Int) else 0), .string (if codeB l = 0 then ⟨(dB l).toArray⟩ else ⟨#[]⟩), v]) ∧ ErrFrom w' w.heap.size (codeB l) v ∧ Below w.heap.size w w'
theorem ReadAns.fault {l : List UInt8} {w w1 w' : World} {c : Int} {v : Value} (hc : codeB l = c) (h0 : c ≠ 0) (hb : Below w.heap.size w w1) (he : ErrFrom w' w1.heap.size c v) (hb' : Below w1.heap.size w1 w') :
    ReadAns l w (.returned (.tuple #[.int .i64 0, .string ⟨#[]⟩, v])) w' := by
  refine ⟨v, ?_, by rw [hc]; exact he.mono hb.size, hb.trans (hb'.mono hb.size)⟩
  rw [if_neg (by rw [hc]; exact h0), if_neg (by rw [hc]; exact h0)]
theorem sums_beq (l : List UInt8) : (l.take 4 == sumB (l.drop 4)) = sumOk l := by
  unfold sumOk
  rw [Bool.eq_iff_iff]
  simp
set_option maxRecDepth 100000 in
set_option maxHeartbeats 4000000 in
theorem FrRead_sum (l : List UInt8) (hl : l.length = 128) (hc : sumOk l = false) (w : World) (hg : LaidCrc w) : Calls Tryd.prog 60 #[pgV (pgB l)] w (ReadAns l w) := by
  have HL := Lib.hid hl
  have HC := Lib.hid hc
  have HG := Lib.hid hg
  clear hl hc hg
  obtain ⟨b, HB⟩ : ∃ b, Hid (b = w.heap.size) := ⟨_, Lib.hid rfl⟩
  go_enter Tryd.func60, Tryd.ntmps60
  go_wp2_with fail
  obtain ⟨w0, HW0⟩ : ∃ w0, Hid (w0 = w.alloc (.cells (pgArr (pgB l)) 55)) := ⟨_, Lib.hid rfl⟩
  rw [← HW0.out, ← HB.out]
  have H0 : Hid (w0.rangeAt b 0 (pgCells (pgB l))) := Lib.hid (by rw [HW0.out, HB.out]; exact (Own.new (w := w) 55).at_)
  have HB0 : Hid (Below w.heap.size w w0) := Lib.hid (by rw [HW0.out]; exact (Below.refl _ _).alloc (Nat.le_refl _) _)
  refine wp_region_held (S := fun w' => w'.rangeAt b 0 (pgCells (pgB l))) (by kernel_rfl) ?_
  change wpAnyH _ _ _ _ _ _ _ _ w0.drew
  obtain ⟨w1, HW⟩ : ∃ w1, Hid (w1 = w0.drew) := ⟨_, Lib.hid rfl⟩
  rw [← HW.out]
  have H1 : Hid (w1.rangeAt b 0 (pgCells (pgB l))) := Lib.hid (by rw [HW.out]; exact H0.out)
  have HB1 : Hid (Below w.heap.size w w1) := Lib.hid (by rw [HW.out]; exact HB0.out.drew)
  clear HW H0 HB0 HW0
  refine takeH (i := 0) 10 (v := Value.slice (some ⟨b, 0, none⟩) 4 128) rfl (by kernel_rfl) (by kernel_rfl) (by kernel_rfl) rfl (fun _ _ _ h => h) (.inl ⟨by rfl, fun _ _ => by go_simp⟩) H1.out ?_
  simp only [Act.put, List.setIfInBounds_toArray, List.set_cons_zero, List.set_cons_succ]
  refine takeH (i := 1) 11 (v := .string ⟨(l.take 4).toArray⟩) rfl (by kernel_rfl) (by kernel_rfl) (by kernel_rfl) rfl (fun _ _ _ h => h) (.inl ⟨by rfl, fun _ hw => by have hcv := range_text (n := 4) (cap := 128) (range_take hw 4) (by rw [List.length_take, HL.out]; rfl); go_simp⟩) H1.out ?_
  simp only [Act.put, List.setIfInBounds_toArray, List.set_cons_zero, List.set_cons_succ]
  refine takeH (i := 2) 12 (v := pgV (pgB l)) rfl (by kernel_rfl) (by kernel_rfl) (by kernel_rfl) rfl (fun _ _ _ h => h) (yieldsIf_load_mid (by rfl) _ _ rfl b 0 rfl (pgCells (pgB l)) _ (fun _ hw => hw) Tryd.underlying55 rfl (by rw [pgCells_len, HL.out]; exact Tryd.pageSize)) H1.out ?_
  simp only [Act.put, List.setIfInBounds_toArray, List.set_cons_zero, List.set_cons_succ]
  refine oneH (i := 3) (oi := ⟨some 13, _, _, _, _, _⟩) rfl (by kernel_rfl) (fun K hK => ?_)
  go_simp
  refine (FrSum_any l HL.out w1 (HG.out.carry HB1.out)).mono ?_
  rintro e w2 ⟨rfl, hb⟩
  have HB2 : Hid (Below w.heap.size w w2) := Lib.hid (HB1.out.trans (hb.mono HB1.out.size))
  have H2 : Hid (w2.rangeAt b 0 (pgCells (pgB l))) := Lib.hid (fun j v hv => (hb.cell (p := ⟨b, 0 + j, none⟩) (lt_of_cell (H1.out j v hv))).trans (H1.out j v hv))
  clear hb H1 HB1
  refine hK.out _ _ H2.out ?_
  clear hK K
  refine oneH (i := 4) (oi := ⟨some 14, _, _, _, _, _⟩) rfl (by kernel_rfl) (fun K hK => ?_)
  go_simp
  rw [sums_beq, HC.out]
  refine hK.out _ _ H2.out ?_
  clear hK K
  refine wpAnyH_done (by kernel_rfl) ?_ _

  go_wp2_with fail
  refine (FrFault_any 3 (by decide) _).mono ?_
  rintro e w3 ⟨v, rfl, h1, h4⟩
  have H1 := Lib.hid h1
  have H4 := Lib.hid h4
  clear h1 h4
  go_wp2_with fail
  go_ret3
  have hc3 : codeB l = 3 := by unfold codeB; rw [HC.out]; rfl
  exact ReadAns.fault hc3 (by decide) HB2.out H1.out H4.out
theorem slice_mid (w : World) (b : Nat) {n : Nat} (hn : n ≤ 120) : (Instr.sliceAt 55 (.pointer (some ⟨b, 0, none⟩)) (some (.int .i64 6)) (some (.int .i64 (6 + (n : Int)))) none).run Tryd.prog w = .ok (.slice (some ⟨b, 6, none⟩) n 122) w := by
  have hal : Tryd.prog.arrayLen 55 = 128 := by kernel_rfl
  have h1 : (6 + (n : Int) ≤ Tryd.prog.arrayLen 55) := by rw [hal]; omega
  have hs : (sizeOf (Tryd.prog.elem 55)).run Tryd.prog w = .ok 1 w := by kernel_rfl
  rw [run_sliceAt_array_lh w 55 ⟨b, 0, none⟩ (by kernel_rfl) _ _ _ _ (by decide) (by omega) h1, hs, hal]
  have e : (6 + (n : Int)).toNat = 6 + n := by omega
  simp [slicedAt, Result.andThen, Addr.add, e]
theorem kB_lt (l : List UInt8) : (kB l).toNat < 256 := UInt8.toNat_lt _
/-- a region that only reads: the world behind the draw is a letter -/
theorem wp_region_reads {P : Program} {id : Nat} {Q : Exit → Act → World → Prop} {a : Act} {w : World} {l : List Oper} (hm : P.follows .mixedOrders = true) (hB : Region.lexB .any l.toArray = true)
    (h : ∀ w1, Hid (w1 = w.drew) → wpStill P l.toArray w1 (fun a' => Q .normal a' w1) l a) : (Code.region id l.toArray true).wp P Q a w := wp_region_still_lit hm hB (h _ rfl)
set_option maxRecDepth 100000 in
set_option maxHeartbeats 4000000 in
theorem FrRead_long (l : List UInt8) (hl : l.length = 128) (hc : sumOk l = true) (hlong : 120 < nB l) (w : World) (hg : LaidCrc w) : Calls Tryd.prog 60 #[pgV (pgB l)] w (ReadAns l w) := by
  have hc2 : codeB l = 2 := by unfold codeB; rw [if_pos hc, if_pos hlong]
  have HC2 := Lib.hid hc2
  have HLO := Lib.hid hlong
  clear hc2 hlong
  have HL := Lib.hid hl
  have HC := Lib.hid hc
  have HG := Lib.hid hg
  clear hl hc hg
  obtain ⟨b, HB⟩ : ∃ b, Hid (b = w.heap.size) := ⟨_, Lib.hid rfl⟩
  go_enter Tryd.func60, Tryd.ntmps60
  go_wp2_with fail
  obtain ⟨w0, HW0⟩ : ∃ w0, Hid (w0 = w.alloc (.cells (pgArr (pgB l)) 55)) := ⟨_, Lib.hid rfl⟩
  rw [← HW0.out, ← HB.out]
  have H0 : Hid (w0.rangeAt b 0 (pgCells (pgB l))) := Lib.hid (by rw [HW0.out, HB.out]; exact (Own.new (w := w) 55).at_)
  have HB0 : Hid (Below w.heap.size w w0) := Lib.hid (by rw [HW0.out]; exact (Below.refl _ _).alloc (Nat.le_refl _) _)
  refine wp_region_held (S := fun w' => w'.rangeAt b 0 (pgCells (pgB l))) (by kernel_rfl) ?_
  change wpAnyH _ _ _ _ _ _ _ _ w0.drew
  obtain ⟨w1, HW⟩ : ∃ w1, Hid (w1 = w0.drew) := ⟨_, Lib.hid rfl⟩
  rw [← HW.out]
  have H1 : Hid (w1.rangeAt b 0 (pgCells (pgB l))) := Lib.hid (by rw [HW.out]; exact H0.out)
  have HB1 : Hid (Below w.heap.size w w1) := Lib.hid (by rw [HW.out]; exact HB0.out.drew)
  clear HW H0 HB0 HW0
  refine takeH (i := 0) 10 (v := Value.slice (some ⟨b, 0, none⟩) 4 128) rfl (by kernel_rfl) (by kernel_rfl) (by kernel_rfl) rfl (fun _ _ _ h => h) (.inl ⟨by rfl, fun _ _ => by go_simp⟩) H1.out ?_
  simp only [Act.put, List.setIfInBounds_toArray, List.set_cons_zero, List.set_cons_succ]
  refine takeH (i := 1) 11 (v := .string ⟨(l.take 4).toArray⟩) rfl (by kernel_rfl) (by kernel_rfl) (by kernel_rfl) rfl (fun _ _ _ h => h) (.inl ⟨by rfl, fun _ hw => by have hcv := range_text (n := 4) (cap := 128) (range_take hw 4) (by rw [List.length_take, HL.out]; rfl); go_simp⟩) H1.out ?_
  simp only [Act.put, List.setIfInBounds_toArray, List.set_cons_zero, List.set_cons_succ]
  refine takeH (i := 2) 12 (v := pgV (pgB l)) rfl (by kernel_rfl) (by kernel_rfl) (by kernel_rfl) rfl (fun _ _ _ h => h) (yieldsIf_load_mid (by rfl) _ _ rfl b 0 rfl (pgCells (pgB l)) _ (fun _ hw => hw) Tryd.underlying55 rfl (by rw [pgCells_len, HL.out]; exact Tryd.pageSize)) H1.out ?_
  simp only [Act.put, List.setIfInBounds_toArray, List.set_cons_zero, List.set_cons_succ]
  refine oneH (i := 3) (oi := ⟨some 13, _, _, _, _, _⟩) rfl (by kernel_rfl) (fun K hK => ?_)
  go_simp
  refine (FrSum_any l HL.out w1 (HG.out.carry HB1.out)).mono ?_
  rintro e w2 ⟨rfl, hb⟩
  have HB2 : Hid (Below w.heap.size w w2) := Lib.hid (HB1.out.trans (hb.mono HB1.out.size))
  have H2 : Hid (w2.rangeAt b 0 (pgCells (pgB l))) := Lib.hid (fun j v hv => (hb.cell (p := ⟨b, 0 + j, none⟩) (lt_of_cell (H1.out j v hv))).trans (H1.out j v hv))
  clear hb H1 HB1
  refine hK.out _ _ H2.out ?_
  clear hK K
  refine oneH (i := 4) (oi := ⟨some 14, _, _, _, _, _⟩) rfl (by kernel_rfl) (fun K hK => ?_)
  go_simp
  rw [sums_beq, HC.out]
  refine hK.out _ _ H2.out ?_
  clear hK K
  refine wpAnyH_done (by kernel_rfl) ?_ _
  have hk := kB_lt l
  have hn := nB_lt l
  obtain ⟨k, HK⟩ : ∃ k, Hid (k = (kB l).toNat) := ⟨_, Lib.hid rfl⟩
  obtain ⟨n, HN⟩ : ∃ n, Hid (n = nB l) := ⟨_, Lib.hid rfl⟩
  have c4 : w2.cell? ⟨b, 4, none⟩ = some (.int .u8 (k : Int)) := by
    have := H2.out 4 (.int .u8 ((kB l).toNat : Int)) (by simp [pgCells, pgB, kB, HL.out])
    rw [HK.out]; simpa using this
  have c5 : w2.cell? ⟨b, 5, none⟩ = some (.int .u8 (n : Int)) := by
    have := H2.out 5 (.int .u8 (nB l : Int)) (by simp [pgCells, pgB, nB, HL.out])
    rw [HN.out]; simpa using this
  rw [← HK.out] at hk
  rw [← HN.out] at hn
  have HC4 := Lib.hid c4
  have HC5 := Lib.hid c5
  clear c4 c5
  go_wp2_with fail
  refine wp_region_reads (by kernel_rfl) (by kernel_rfl) (fun w3 HW => ?_)
  have c4 : w3.cell? ⟨b, 4, none⟩ = some (.int .u8 (k : Int)) := by rw [HW.out]; exact HC4.out
  have c5 : w3.cell? ⟨b, 5, none⟩ = some (.int .u8 (n : Int)) := by rw [HW.out]; exact HC5.out
  have H3 : Hid (w3.rangeAt b 0 (pgCells (pgB l))) := Lib.hid (by rw [HW.out]; exact H2.out)
  have HB3 : Hid (Below w.heap.size w w3) := Lib.hid (by rw [HW.out]; exact HB2.out.drew)
  clear HW H2 HB2 HC4 HC5
  have ek : IntKind.i64.wrap (k : Int) = (k : Int) := IntWalk.i64_in _ (by omega)
  have en : IntKind.i64.wrap (n : Int) = (n : Int) := IntWalk.i64_in _ (by omega)
  iterate 8 still_step
  refine wpStill_nil ?_
  clear c4 c5 ek en
  have hd : decide ((120 : Int) < (n : Int)) = true := by have := HLO.out; rw [← HN.out] at this; simp; omega
  go_wp2_with fail
  refine (FrFault_any 2 (by decide) _).mono ?_
  rintro e w4 ⟨v, rfl, h1, h4⟩
  have H1 := Lib.hid h1
  have H4 := Lib.hid h4
  clear h1 h4
  go_wp2_with fail
  go_ret3
  exact ReadAns.fault HC2.out (by decide) HB3.out H1.out H4.out
set_option maxRecDepth 100000 in
set_option maxHeartbeats 4000000 in
theorem FrRead_short (l : List UInt8) (hl : l.length = 128) (hc : sumOk l = true) (hshort : nB l ≤ 120) (w : World) (hg : LaidCrc w) : Calls Tryd.prog 60 #[pgV (pgB l)] w (ReadAns l w) := by
  have HSO := Lib.hid hc
  have HLO := Lib.hid hshort
  clear hshort
  have HL := Lib.hid hl
  have HC := Lib.hid hc
  have HG := Lib.hid hg
  clear hl hc hg
  obtain ⟨b, HB⟩ : ∃ b, Hid (b = w.heap.size) := ⟨_, Lib.hid rfl⟩
  go_enter Tryd.func60, Tryd.ntmps60
  go_wp2_with fail
  obtain ⟨w0, HW0⟩ : ∃ w0, Hid (w0 = w.alloc (.cells (pgArr (pgB l)) 55)) := ⟨_, Lib.hid rfl⟩
  rw [← HW0.out, ← HB.out]
  have H0 : Hid (w0.rangeAt b 0 (pgCells (pgB l))) := Lib.hid (by rw [HW0.out, HB.out]; exact (Own.new (w := w) 55).at_)
  have HB0 : Hid (Below w.heap.size w w0) := Lib.hid (by rw [HW0.out]; exact (Below.refl _ _).alloc (Nat.le_refl _) _)
  refine wp_region_held (S := fun w' => w'.rangeAt b 0 (pgCells (pgB l))) (by kernel_rfl) ?_
  change wpAnyH _ _ _ _ _ _ _ _ w0.drew
  obtain ⟨w1, HW⟩ : ∃ w1, Hid (w1 = w0.drew) := ⟨_, Lib.hid rfl⟩
  rw [← HW.out]
  have H1 : Hid (w1.rangeAt b 0 (pgCells (pgB l))) := Lib.hid (by rw [HW.out]; exact H0.out)
  have HB1 : Hid (Below w.heap.size w w1) := Lib.hid (by rw [HW.out]; exact HB0.out.drew)
  clear HW H0 HB0 HW0
  refine takeH (i := 0) 10 (v := Value.slice (some ⟨b, 0, none⟩) 4 128) rfl (by kernel_rfl) (by kernel_rfl) (by kernel_rfl) rfl (fun _ _ _ h => h) (.inl ⟨by rfl, fun _ _ => by go_simp⟩) H1.out ?_
  simp only [Act.put, List.setIfInBounds_toArray, List.set_cons_zero, List.set_cons_succ]
  refine takeH (i := 1) 11 (v := .string ⟨(l.take 4).toArray⟩) rfl (by kernel_rfl) (by kernel_rfl) (by kernel_rfl) rfl (fun _ _ _ h => h) (.inl ⟨by rfl, fun _ hw => by have hcv := range_text (n := 4) (cap := 128) (range_take hw 4) (by rw [List.length_take, HL.out]; rfl); go_simp⟩) H1.out ?_
  simp only [Act.put, List.setIfInBounds_toArray, List.set_cons_zero, List.set_cons_succ]
  refine takeH (i := 2) 12 (v := pgV (pgB l)) rfl (by kernel_rfl) (by kernel_rfl) (by kernel_rfl) rfl (fun _ _ _ h => h) (yieldsIf_load_mid (by rfl) _ _ rfl b 0 rfl (pgCells (pgB l)) _ (fun _ hw => hw) Tryd.underlying55 rfl (by rw [pgCells_len, HL.out]; exact Tryd.pageSize)) H1.out ?_
  simp only [Act.put, List.setIfInBounds_toArray, List.set_cons_zero, List.set_cons_succ]
  refine oneH (i := 3) (oi := ⟨some 13, _, _, _, _, _⟩) rfl (by kernel_rfl) (fun K hK => ?_)
  go_simp
  refine (FrSum_any l HL.out w1 (HG.out.carry HB1.out)).mono ?_
  rintro e w2 ⟨rfl, hb⟩
  have HB2 : Hid (Below w.heap.size w w2) := Lib.hid (HB1.out.trans (hb.mono HB1.out.size))
  have H2 : Hid (w2.rangeAt b 0 (pgCells (pgB l))) := Lib.hid (fun j v hv => (hb.cell (p := ⟨b, 0 + j, none⟩) (lt_of_cell (H1.out j v hv))).trans (H1.out j v hv))
  clear hb H1 HB1
  refine hK.out _ _ H2.out ?_
  clear hK K
  refine oneH (i := 4) (oi := ⟨some 14, _, _, _, _, _⟩) rfl (by kernel_rfl) (fun K hK => ?_)
  go_simp
  rw [sums_beq, HC.out]
  refine hK.out _ _ H2.out ?_
  clear hK K
  refine wpAnyH_done (by kernel_rfl) ?_ _
  have hk := kB_lt l
  have hn := nB_lt l
  obtain ⟨k, HK⟩ : ∃ k, Hid (k = (kB l).toNat) := ⟨_, Lib.hid rfl⟩
  obtain ⟨n, HN⟩ : ∃ n, Hid (n = nB l) := ⟨_, Lib.hid rfl⟩
  have c4 : w2.cell? ⟨b, 4, none⟩ = some (.int .u8 (k : Int)) := by
    have := H2.out 4 (.int .u8 ((kB l).toNat : Int)) (by simp [pgCells, pgB, kB, HL.out])
    rw [HK.out]; simpa using this
  have c5 : w2.cell? ⟨b, 5, none⟩ = some (.int .u8 (n : Int)) := by
    have := H2.out 5 (.int .u8 (nB l : Int)) (by simp [pgCells, pgB, nB, HL.out])
    rw [HN.out]; simpa using this
  rw [← HK.out] at hk
  rw [← HN.out] at hn
  have HC4 := Lib.hid c4
  have HC5 := Lib.hid c5
  clear c4 c5
  go_wp2_with fail
  refine wp_region_reads (by kernel_rfl) (by kernel_rfl) (fun w3 HW => ?_)
  have c4 : w3.cell? ⟨b, 4, none⟩ = some (.int .u8 (k : Int)) := by rw [HW.out]; exact HC4.out
  have c5 : w3.cell? ⟨b, 5, none⟩ = some (.int .u8 (n : Int)) := by rw [HW.out]; exact HC5.out
  have H3 : Hid (w3.rangeAt b 0 (pgCells (pgB l))) := Lib.hid (by rw [HW.out]; exact H2.out)
  have HB3 : Hid (Below w.heap.size w w3) := Lib.hid (by rw [HW.out]; exact HB2.out.drew)
  clear HW H2 HB2 HC4 HC5
  have ek : IntKind.i64.wrap (k : Int) = (k : Int) := IntWalk.i64_in _ (by omega)
  have en : IntKind.i64.wrap (n : Int) = (n : Int) := IntWalk.i64_in _ (by omega)
  iterate 8 still_step
  refine wpStill_nil ?_
  clear c4 c5 ek en
  have hn0 := HLO.out
  rw [← HN.out] at hn0
  have hd : decide ((120 : Int) < (n : Int)) = false := by simp; omega
  have hcv := range_text (w := w3) (b := b) (o := 6) (n := n) (cap := 122) (l := dB l) (by
    have := range_take (range_drop H3.out 6) (nB l)
    rw [Nat.zero_add] at this
    exact this) (by rw [dB_length HL.out HLO.out, HN.out])
  have hsl := fun w => slice_mid w b hn0
  have hz := Tryd.zeroPage
  obtain ⟨d, HD⟩ : ∃ d : ByteArray, Hid (d = ⟨(dB l).toArray⟩) := ⟨_, Lib.hid rfl⟩
  rw [← HD.out] at hcv
  have HDT : Hid (d.data.toList = dB l) := Lib.hid (by rw [HD.out])
  have HDZ : Hid (d.size ≤ 120) := Lib.hid (by rw [HD.out, toArr_size, dB_length HL.out HLO.out]; exact HLO.out)
  by_cases hk0 : k = 0
  · have hc2 : codeB l = 2 := by
      unfold codeB
      have : kB l = 0 := UInt8.toNat_inj.1 (by rw [← HK.out, hk0]; rfl)
      rw [if_pos HSO.out, if_neg (by have := HLO.out; omega), if_pos this]
    have HC2 := Lib.hid hc2
    subst hk0
    clear hc2
    go_wp2_with fail
    refine (FrLay_low _ _ _ (by decide)).mono ?_
    rintro e w4 ⟨v, rfl, he, hb⟩
    obtain ⟨t, x, rfl⟩ := he.some (by decide)
    have HB4 : Hid (Below w.heap.size w w4) := Lib.hid (HB3.out.trans (hb.mono HB3.out.size))
    clear hb hcv hsl he
    go_wp2_with (with_reducible refine stop_at (o := ⟨none, _, _, _, _, _⟩) ?_)
    refine wpList_store_last rfl _ _ _ rfl (pgArr zeroPg) (pgArr zeroPg) _ rfl rfl rfl (by rw [pgArr_size, zeroPg_length]; exact Tryd.pageSize) rfl (pgArr_all _) ?_
    obtain ⟨w5, HW⟩ : ∃ w5, Hid (w5 = w4.alloc (.cells (pgArr zeroPg) 55)) := ⟨_, Lib.hid rfl⟩
    rw [← HW.out]
    have HB5 : Hid (Below w.heap.size w w5) := Lib.hid (by rw [HW.out]; exact HB4.out.alloc HB4.out.size _)
    clear HW
    go_wp2_with fail
    refine (FrFault_any 2 (by decide) _).mono ?_
    rintro e w6 ⟨v, rfl, h1, h4⟩
    have H1 := Lib.hid h1
    have H4 := Lib.hid h4
    clear h1 h4
    go_wp2_with fail
    go_ret3
    exact ReadAns.fault HC2.out (by decide) HB5.out H1.out H4.out
  · have hc0 : codeB l = if layB (kB l) (dB l) = l then 0 else 2 := by
      unfold codeB
      have : kB l ≠ 0 := fun e => hk0 (by rw [HK.out, e]; rfl)
      rw [if_pos HSO.out, if_neg (by have := HLO.out; omega), if_neg this]
    have HC0 := Lib.hid hc0
    obtain ⟨y, HY⟩ : ∃ y, Hid (y = layB (kB l) (dB l)) := ⟨_, Lib.hid rfl⟩
    have HYL : Hid (y.length = 128) := Lib.hid (by rw [HY.out]; exact layB_length (by rw [dB_length HL.out HLO.out]; exact HLO.out))
    have HKB : Hid (UInt8.ofNat k = kB l) := Lib.hid (by rw [HK.out]; exact UInt8.ofNat_toNat)
    clear hc0
    go_wp2_with fail
    refine (FrLay_yes k _ _ (by omega) (by omega) HDZ.out (HG.out.carry HB3.out)).mono ?_
    rw [HDT.out, HKB.out, ← HY.out]
    rintro e w4 ⟨rfl, hb⟩
    have HB4 : Hid (Below w.heap.size w w4) := Lib.hid (HB3.out.trans (hb.mono HB3.out.size))
    have H4r : Hid (w4.rangeAt b 0 (pgCells (pgB l))) := Lib.hid (fun j v hv => (hb.cell (p := ⟨b, 0 + j, none⟩) (lt_of_cell (H3.out j v hv))).trans (H3.out j v hv))
    clear hb hcv hsl
    go_wp2_with (with_reducible refine stop_at (o := ⟨none, _, _, _, _, _⟩) ?_)
    refine wpList_store_last rfl _ _ _ rfl (pgArr zeroPg) (pgArr (pgB y)) _ rfl rfl rfl (by rw [pgArr_size, pgB_length, HYL.out]; exact Tryd.pageSize) (by rw [pgArr_size, pgArr_size, pgB_length, HYL.out]; rfl) (pgArr_all _) ?_
    obtain ⟨w5, HW⟩ : ∃ w5, Hid (w5 = w4.alloc (.cells (pgArr (pgB y)) 55)) := ⟨_, Lib.hid rfl⟩
    obtain ⟨c, HCB⟩ : ∃ c, Hid (c = w4.heap.size) := ⟨_, Lib.hid rfl⟩
    rw [← HW.out, ← HCB.out]
    have HB5 : Hid (Below w.heap.size w w5) := Lib.hid (by rw [HW.out]; exact HB4.out.alloc HB4.out.size _)
    have H5 : Hid (w5.rangeAt b 0 (pgCells (pgB l))) := Lib.hid (by rw [HW.out]; exact World.rangeAt_alloc H4r.out _)
    have H5c : Hid (w5.rangeAt c 0 (pgCells (pgB y))) := Lib.hid (by rw [HW.out, HCB.out]; exact (Own.new _).at_)
    clear HW
    have heq := equalIn_two (pgB y) (pgB l) (by rw [pgB_length]; exact HYL.out) (by rw [pgB_length]; exact HL.out)
    have hgp := guardPage1
    have hde : decide (pgB y = pgB l) = decide (codeB l = 0) := by
      rw [HC0.out, ← HY.out]
      by_cases e : y = l
      · rw [if_pos e, e]; simp
      · rw [if_neg e]
        have : pgB y ≠ pgB l := fun h => e (pgB_inj h)
        simp [this]
    rw [hde] at heq
    clear hde
    by_cases h0 : codeB l = 0
    · have hd0 : decide (codeB l = 0) = true := by simp [h0]
      rw [hd0] at heq
      have HZ := Lib.hid h0
      clear hd0 h0
      go_wp2_with (with_reducible refine stop_at (o := ⟨some 38, _, _, _, _, _⟩) ?_)
      refine BigFrame.wpList_want (by rfl) (fun K hK => ?_)
      refine wp_load_mid _ _ rfl c 0 rfl (pgCells (pgB y)) _ H5c.out Tryd.underlying55 rfl (by rw [pgCells_len, HYL.out]; exact Tryd.pageSize) (hK _ _ ?_)
      rw [show Value.agg (pgCells (pgB y)).toArray = pgV (pgB y) from rfl]
      clear hK K
      refine BigFrame.wpList_want (by rfl) (fun K hK => ?_)
      refine wp_load_mid _ _ rfl b 0 rfl (pgCells (pgB l)) _ H5.out Tryd.underlying55 rfl (by rw [pgCells_len, HL.out]; exact Tryd.pageSize) (hK _ _ ?_)
      rw [show Value.agg (pgCells (pgB l)).toArray = pgV (pgB l) from rfl]
      clear hK K
      go_wp2_with fail
      go_ret3
      refine ⟨.nilIface, ?_, by rw [HZ.out]; exact .nil _ _, HB5.out⟩
      rw [if_pos HZ.out, if_pos HZ.out, ← HD.out, HK.out]
      rfl
    · have hd0 : decide (codeB l = 0) = false := by simp [h0]
      rw [hd0] at heq
      have HZ : Hid (codeB l = 2) := Lib.hid (by
        have := HC0.out
        rw [this] at h0 ⊢
        by_cases e : layB (kB l) (dB l) = l
        · rw [if_pos e] at h0; exact absurd rfl h0
        · rw [if_neg e])
      clear hd0 h0
      go_wp2_with (with_reducible refine stop_at (o := ⟨some 38, _, _, _, _, _⟩) ?_)
      refine BigFrame.wpList_want (by rfl) (fun K hK => ?_)
      refine wp_load_mid _ _ rfl c 0 rfl (pgCells (pgB y)) _ H5c.out Tryd.underlying55 rfl (by rw [pgCells_len, HYL.out]; exact Tryd.pageSize) (hK _ _ ?_)
      rw [show Value.agg (pgCells (pgB y)).toArray = pgV (pgB y) from rfl]
      clear hK K
      refine BigFrame.wpList_want (by rfl) (fun K hK => ?_)
      refine wp_load_mid _ _ rfl b 0 rfl (pgCells (pgB l)) _ H5.out Tryd.underlying55 rfl (by rw [pgCells_len, HL.out]; exact Tryd.pageSize) (hK _ _ ?_)
      rw [show Value.agg (pgCells (pgB l)).toArray = pgV (pgB l) from rfl]
      clear hK K
      go_wp2_with fail
      refine (FrFault_any 2 (by decide) _).mono ?_
      rintro e w6 ⟨v, rfl, h1, h4⟩
      have H1 := Lib.hid h1
      have H4 := Lib.hid h4
      clear h1 h4
      go_wp2_with fail
      go_ret3
      exact ReadAns.fault HZ.out (by decide) HB5.out H1.out H4.out
theorem FrRead_any (l : List UInt8) (hl : l.length = 128) (w : World) (hg : LaidCrc w) : Calls Tryd.prog 60 #[pgV (pgB l)] w (ReadAns l w) := by
  cases hs : sumOk l
  · exact FrRead_sum l hl hs w hg
  · by_cases hn : nB l ≤ 120
    · exact FrRead_short l hl hs hn w hg
    · exact FrRead_long l hl hs (by omega) w hg
end Go.Proofs.YtaolkmlgdhnhaaaDoor
