/-
  The contract of frame.Lay. Conditions: none beyond the premises of each theorem.
-/
import Derived.Test.YtaolkmlgdhnhaaaDoorFrPage
namespace Go.Proofs.YtaolkmlgdhnhaaaDoor
open Go.RowKit

/-- which error Lay answers -/
def codeL (k : Int) (s : ByteArray) : Int := if k < 1 ∨ 255 < k then 1 else if 120 < s.size then 8 else 0
/-- what Lay answers -/
def LayAns (c : Int) (p : Pg) (w : World) (e : Ending) (w' : World) : Prop := ∃ v, e = .returned (.tuple #[pgV p, v]) ∧ ErrFrom w' w.heap.size c v ∧ Below w.heap.size w w'
theorem there_of {w : World} {b : Nat} {x : List UInt8} (h : w.rangeAt b 0 (pgCells (pgB x))) (hf : ∀ j, w.frozen? ⟨b, j, none⟩ = false) {off n : Nat} (ho : off + n ≤ x.length) : w.there b off n := fun j hj => by
  refine ⟨?_, hf _⟩
  have := h.isSome (off + j) (by rw [pgCells_len]; omega)
  simpa using this
/-- a sector of the call's own -/
structure Own (w : World) (b : Nat) (x : List UInt8) : Prop where
  at_ : w.rangeAt b 0 (pgCells (pgB x))
  free : ∀ j, w.frozen? ⟨b, j, none⟩ = false
theorem Own.lt {w : World} {b : Nat} {x : List UInt8} (h : Own w b x) (hx : x.length = 128) : b < w.heap.size := by
  have := h.at_ 0 (.int .u8 ((x[0]'(by omega)).toNat : Int)) (by simp [pgCells, pgB, hx])
  exact lt_of_cell this
theorem Own.below {w w' : World} {b B : Nat} {x : List UInt8} (h : Own w b x) (hb : Below B w w') (hB : b < B) : Own w' b x :=
  ⟨fun j v hv => (hb.cell (p := ⟨b, 0 + j, none⟩) hB).trans (h.at_ j v hv), fun j => (hb.frozen (p := ⟨b, j, none⟩) hB).trans (h.free j)⟩
theorem Own.splice {w w2 : World} {b off : Nat} {x t y : List UInt8} (h : Own w b x) (hw : w2 = w.setCells b off (pgCells (pgB t))) (ho : off + t.length ≤ x.length) (hy : x.take off ++ t ++ x.drop (off + t.length) = y) : Own w2 b y := by
  subst hw
  subst hy
  exact ⟨range_splice h.at_ ho, frozen_setCells h.free _ _ _⟩
theorem Own.new {w : World} {x : List UInt8} (t : TypeId) : Own (w.alloc (.cells (pgArr (pgB x)) t)) w.heap.size x := by
  have hh : (w.alloc (.cells (pgArr (pgB x)) t)).heap[w.heap.size]? = some (.cells (pgArr (pgB x)) t (0, 0)) := heap_alloc_last w _
  refine ⟨fun j u hu => ?_, fun j => frozen_of_row _ _ j _ _ hh⟩
  rw [cell_of_row _ w.heap.size (0 + j) _ _ _ hh, Nat.zero_add]
  simpa [pgArr] using hu
theorem below_cells {B b : Nat} {w w2 w0 : World} {vs : List Value} {o : Nat} (h : Below B w0 w) (hw : w2 = w.setCells b o vs) (hb : B ≤ b) : Below B w0 w2 := by
  subst hw
  exact below_setCells hb vs o w h
theorem splice1 (k : UInt8) : (List.replicate 128 (0 : UInt8)).take 4 ++ [k] ++ (List.replicate 128 0).drop (4 + [k].length) = List.replicate 4 0 ++ k :: List.replicate 123 0 := by simp
theorem splice2 (k n : UInt8) : (List.replicate 4 (0 : UInt8) ++ k :: List.replicate 123 0).take 5 ++ [n] ++ (List.replicate 4 (0 : UInt8) ++ k :: List.replicate 123 0).drop (5 + [n].length) = List.replicate 4 0 ++ k :: n :: List.replicate 122 0 := by rfl
theorem splice3 (k n : UInt8) (d : List UInt8) : (List.replicate 4 (0 : UInt8) ++ k :: n :: List.replicate 122 0).take 6 ++ d ++ (List.replicate 4 (0 : UInt8) ++ k :: n :: List.replicate 122 0).drop (6 + d.length) = List.replicate 4 0 ++ k :: n :: (d ++ List.replicate (122 - d.length) 0) := by
  have e1 : List.replicate 4 (0 : UInt8) ++ k :: n :: List.replicate 122 0 = (List.replicate 4 0 ++ [k, n]) ++ List.replicate 122 0 := by simp
  rw [e1, List.take_left' (by simp), show 6 + d.length = (List.replicate 4 (0 : UInt8) ++ [k, n]).length + d.length by simp, ← List.drop_drop, List.drop_left' rfl, List.drop_replicate]
  simp
theorem splice4 (t x : List UInt8) (ht : t.length = 4) : (List.replicate 4 (0 : UInt8) ++ x).take 0 ++ t ++ (List.replicate 4 (0 : UInt8) ++ x).drop (0 + t.length) = t ++ x := by
  rw [ht]
  simp
/-- how far Lay has come: its sector, its result's place -/
structure LaySt (w wi : World) (r b : Nat) (x : List UInt8) : Prop where
  own : Own wi b x
  res : Own wi r (List.replicate 128 0)
  below : Below r w wi
  size : r + 2 ≤ wi.heap.size
  rb : b = r + 1
theorem LaySt.drew {w wi : World} {r b : Nat} {x : List UInt8} (h : LaySt w wi r b x) : LaySt w wi.drew r b x := ⟨⟨h.own.at_, h.own.free⟩, ⟨h.res.at_, h.res.free⟩, h.below.drew, h.size, h.rb⟩
theorem LaySt.call {w wi wj : World} {r b : Nat} {x : List UInt8} (h : LaySt w wi r b x) (hb : Below wi.heap.size wi wj) : LaySt w wj r b x :=
  ⟨h.own.below hb (by have := h.size; have := h.rb; omega), h.res.below hb (by have := h.size; omega), h.below.trans (hb.mono (by have := h.size; omega)), Nat.le_trans h.size hb.size, h.rb⟩
theorem LaySt.copy {w wi wj : World} {r b off : Nat} {x t y : List UInt8} (h : LaySt w wi r b x) (hw : wj = wi.setCells b off (pgCells (pgB t))) (ho : off + t.length ≤ x.length) (hy : x.take off ++ t ++ x.drop (off + t.length) = y) : LaySt w wj r b y := by
  refine ⟨h.own.splice hw ho hy, ?_, below_cells h.below hw (by have := h.rb; omega), by rw [hw, setCells_size]; exact h.size, h.rb⟩
  subst hw
  exact ⟨World.rangeAt_setCells_apart h.res.at_ _ _ _ (.inl (by have := h.rb; omega)), frozen_setCells h.res.free _ _ _⟩
theorem LaySt.crc {w wi : World} {r b : Nat} {x : List UInt8} (h : LaySt w wi r b x) (hr : r = w.heap.size) (hg : LaidCrc w) : LaidCrc wi := hg.carry (by rw [← hr]; exact h.below)
theorem be_one (k : Nat) : be 1 k = [UInt8.ofNat k] := rfl
set_option maxRecDepth 100000 in
set_option maxHeartbeats 4000000 in
theorem FrLay_yes (k : Nat) (s : ByteArray) (w : World) (h1 : 1 ≤ k) (h2 : k ≤ 255) (hs : s.size ≤ 120) (hg : LaidCrc w) :
    Calls Tryd.prog 54 #[.int .i64 k, .string s] w fun e w' => e = .returned (.tuple #[pgV (pgB (layB (UInt8.ofNat k) s.data.toList)), .nilIface]) ∧ Below w.heap.size w w' := by
  have HG := Lib.hid hg
  clear hg
  have hz := Tryd.zeroPage
  have hd1 : decide ((120 : Int) < (s.size : Int)) = false := by simp; omega
  have hd2 : decide ((255 : Int) < (k : Int)) = false := by simp; omega
  have hd3 : decide ((k : Int) < 1) = false := by simp; omega
  obtain ⟨y, HY⟩ : ∃ y, Hid (y = layB (UInt8.ofNat k) s.data.toList) := ⟨_, Lib.hid rfl⟩
  rw [← HY.out]
  go_enter Tryd.func54, Tryd.ntmps54
  go_wp2_with fail
  obtain ⟨w0, HW0⟩ : ∃ w0, Hid (w0 = (w.alloc (.cells (pgArr zeroPg) 55)).alloc (.cells (pgArr zeroPg) 55)) := ⟨_, Lib.hid rfl⟩
  obtain ⟨r, HR⟩ : ∃ r, Hid (r = w.heap.size) := ⟨_, Lib.hid rfl⟩
  obtain ⟨b, HB⟩ : ∃ b, Hid (b = w.heap.size + 1) := ⟨_, Lib.hid rfl⟩
  rw [← HW0.out, ← HB.out, ← HR.out]
  have H0 : Hid (LaySt w w0 r b (List.replicate 128 0)) := Lib.hid (by
    refine ⟨?_, ?_, ?_, by rw [HW0.out, HR.out]; simp, by rw [HR.out, HB.out]⟩
    · rw [HW0.out, HB.out, ← pgB_zero]
      have := Own.new (w := w.alloc (.cells (pgArr (pgB (List.replicate 128 0))) 55)) (x := List.replicate 128 0) 55
      simpa using this
    · rw [HW0.out, HR.out, ← pgB_zero]
      exact (Own.new (w := w) 55).below ((Below.refl _ _).alloc (Nat.le_refl _) _) (by simp)
    · rw [HW0.out, HR.out]; exact ((Below.refl _ _).alloc (Nat.le_refl _) _).alloc (by simp) _)
  refine wp_region_held (S := fun _ => True) (by kernel_rfl) ?_
  change wpAnyH _ _ _ _ _ _ _ _ w0.drew
  obtain ⟨w1, HW⟩ : ∃ w1, Hid (w1 = w0.drew) := ⟨_, Lib.hid rfl⟩
  rw [← HW.out]
  have H1 := Lib.hid (H0.out.drew)
  rw [← HW.out] at H1
  clear HW H0
  refine takeH (i := 0) 20 (v := Value.slice (some ⟨b, 4, none⟩) 124 124) rfl (by kernel_rfl) (by kernel_rfl) (by kernel_rfl) rfl (fun _ _ _ h => h) (.inl ⟨by rfl, fun _ _ => by go_simp⟩) trivial ?_
  simp only [Act.put, List.setIfInBounds_toArray, List.set_cons_zero, List.set_cons_succ]
  refine takeH (i := 1) 21 (v := .int .i64 (k : Int)) rfl (by kernel_rfl) (by kernel_rfl) (by kernel_rfl) rfl (fun _ _ _ h => h) (.inl ⟨by rfl, fun _ _ => by go_simp⟩) trivial ?_
  simp only [Act.put, List.setIfInBounds_toArray, List.set_cons_zero, List.set_cons_succ]
  refine oneH (i := 2) rfl (by kernel_rfl) (fun K hK => ?_)
  go_simp
  refine (Put_yes 1 k _ (by decide) (by decide) (by omega)).mono ?_
  rw [be_one]
  rintro e w2 ⟨rfl, hb⟩
  have H2 := Lib.hid (H1.out.call hb)
  clear hb H1
  refine hK.out _ _ trivial ?_
  clear hK K
  refine oneH (i := 3) (oi := ⟨some 23, _, _, _, _, _⟩) rfl (by kernel_rfl) (fun K hK => ?_)
  refine step_copy_text (by rfl) _ _ _ _ rfl 5 Tryd.underlying65 sizeOne b 4 124 124 rfl ([UInt8.ofNat k]) _ (by simp) rfl (by simp) (there_of H2.out.own.at_ H2.out.own.free (by simp)) (fun w3 HW => ?_)
  refine hK.out _ _ trivial ?_
  clear hK K
  simp only [Act.put, List.setIfInBounds_toArray, List.set_cons_zero, List.set_cons_succ]
  have H3 := Lib.hid (H2.out.copy (t := [UInt8.ofNat k]) HW.out (by simp) (splice1 _))
  clear HW H2
  refine wpAnyH_done (by kernel_rfl) ?_ _
  go_wp2_with fail
  refine wp_region_held (S := fun _ => True) (by kernel_rfl) ?_
  change wpAnyH _ _ _ _ _ _ _ _ w3.drew
  obtain ⟨w4, HW⟩ : ∃ w1, Hid (w1 = w3.drew) := ⟨_, Lib.hid rfl⟩
  rw [← HW.out]
  have H4 := Lib.hid (H3.out.drew)
  rw [← HW.out] at H4
  clear HW H3
  refine takeH (i := 0) 24 (v := Value.slice (some ⟨b, 5, none⟩) 123 123) rfl (by kernel_rfl) (by kernel_rfl) (by kernel_rfl) rfl (fun _ _ _ h => h) (.inl ⟨by rfl, fun _ _ => by go_simp⟩) trivial ?_
  simp only [Act.put, List.setIfInBounds_toArray, List.set_cons_zero, List.set_cons_succ]
  refine takeH (i := 1) 25 (v := .string s) rfl (by kernel_rfl) (by kernel_rfl) (by kernel_rfl) rfl (fun _ _ _ h => h) (.inl ⟨by rfl, fun _ _ => by go_simp⟩) trivial ?_
  simp only [Act.put, List.setIfInBounds_toArray, List.set_cons_zero, List.set_cons_succ]
  refine takeH (i := 2) 26 (v := .int .i64 (s.size : Int)) rfl (by kernel_rfl) (by kernel_rfl) (by kernel_rfl) rfl (fun _ _ _ h => h) (.inl ⟨by rfl, fun _ _ => by go_simp⟩) trivial ?_
  simp only [Act.put, List.setIfInBounds_toArray, List.set_cons_zero, List.set_cons_succ]
  refine oneH (i := 3) rfl (by kernel_rfl) (fun K hK => ?_)
  go_simp
  refine (Put_yes 1 s.size _ (by decide) (by decide) (by omega)).mono ?_
  rw [be_one]
  rintro e w5 ⟨rfl, hb⟩
  have H5 := Lib.hid (H4.out.call hb)
  clear hb H4
  refine hK.out _ _ trivial ?_
  clear hK K
  refine oneH (i := 4) (oi := ⟨some 28, _, _, _, _, _⟩) rfl (by kernel_rfl) (fun K hK => ?_)
  refine step_copy_text (by rfl) _ _ _ _ rfl 5 Tryd.underlying65 sizeOne b 5 123 123 rfl ([UInt8.ofNat s.size]) _ (by simp) rfl (by simp) (there_of H5.out.own.at_ H5.out.own.free (by simp)) (fun w6 HW => ?_)
  refine hK.out _ _ trivial ?_
  clear hK K
  simp only [Act.put, List.setIfInBounds_toArray, List.set_cons_zero, List.set_cons_succ]
  have H6 := Lib.hid (H5.out.copy (t := [UInt8.ofNat s.size]) HW.out (by simp) (splice2 _ _))
  clear HW H5
  refine wpAnyH_done (by kernel_rfl) ?_ _
  have hsz : s.data.toList.length = s.size := lenS s
  go_wp2_with (with_reducible refine stop_at (o := ⟨some 31, _, _, _, _, _⟩) ?_)
  refine wpList_copy_text rfl _ _ _ _ rfl 5 Tryd.underlying65 sizeOne b 6 122 122 rfl s.data.toList s rfl rfl (by omega) (there_of H6.out.own.at_ H6.out.own.free (by simp; omega)) (fun w7 HW => ?_)
  have H7 := Lib.hid (H6.out.copy (t := s.data.toList) HW.out (by simp; omega) (splice3 _ _ _))
  rw [← hsz] at H7
  clear HW H6
  obtain ⟨x, HX⟩ : ∃ x, Hid (x = bodyB (UInt8.ofNat k) s.data.toList) := ⟨_, Lib.hid rfl⟩
  have H7x : Hid (LaySt w w7 r b (List.replicate 4 0 ++ x)) := Lib.hid (by rw [HX.out]; exact H7.out)
  have hxl : x.length = 124 := by rw [HX.out]; exact bodyB_length (by omega)
  have hl7 : (List.replicate 4 0 ++ x).length = 128 := by rw [List.length_append, hxl]; rfl
  have hdr : (List.replicate 4 0 ++ x).drop 4 = x := List.drop_left' (by simp)
  have HLN : Hid ((List.replicate 4 0 ++ x).length = 128 ∧ (List.replicate 4 0 ++ x).drop 4 = x) := Lib.hid ⟨hl7, hdr⟩
  clear H7 hl7 hdr hsz
  go_wp2_with fail
  refine wp_region_held (S := fun _ => True) (by kernel_rfl) ?_
  change wpAnyH _ _ _ _ _ _ _ _ w7.drew
  obtain ⟨w8, HW⟩ : ∃ w1, Hid (w1 = w7.drew) := ⟨_, Lib.hid rfl⟩
  rw [← HW.out]
  have H8 := Lib.hid (H7x.out.drew)
  rw [← HW.out] at H8
  clear HW H7x
  refine takeH (i := 0) 32 (v := Value.slice (some ⟨b, 0, none⟩) 128 128) rfl (by kernel_rfl) (by kernel_rfl) (by kernel_rfl) rfl (fun _ _ _ h => h) (.inl ⟨by rfl, fun _ _ => by go_simp⟩) trivial ?_
  simp only [Act.put, List.setIfInBounds_toArray, List.set_cons_zero, List.set_cons_succ]
  refine oneH (i := 1) (oi := ⟨some 33, _, _, _, _, _⟩) rfl (by kernel_rfl) (fun K hK => ?_)
  rw [if_pos (by rfl)]
  refine wp_load_mid _ _ rfl b 0 rfl (pgCells (pgB (List.replicate 4 0 ++ x))) _ H8.out.own.at_ Tryd.underlying55 rfl (by rw [pgCells_len, HLN.out.1]; exact Tryd.pageSize) ?_
  refine hK.out _ _ trivial ?_
  clear hK K
  rw [show Value.agg (pgCells (pgB (List.replicate 4 0 ++ x))).toArray = pgV (pgB (List.replicate 4 0 ++ x)) from rfl]
  simp only [Act.put, List.setIfInBounds_toArray, List.set_cons_zero, List.set_cons_succ]
  refine oneH (i := 2) rfl (by kernel_rfl) (fun K hK => ?_)
  go_simp
  refine (FrSum_any _ HLN.out.1 _ (H8.out.crc HR.out HG.out)).mono ?_
  rw [HLN.out.2]
  rintro e w9 ⟨rfl, hb⟩
  have H9 := Lib.hid (H8.out.call hb)
  clear hb H8
  refine hK.out _ _ trivial ?_
  clear hK K
  refine oneH (i := 3) (oi := ⟨some 35, _, _, _, _, _⟩) rfl (by kernel_rfl) (fun K hK => ?_)
  refine step_copy_text (by rfl) _ _ _ _ rfl 5 Tryd.underlying65 sizeOne b 0 128 128 rfl (sumB x) _ (toArr_list _) rfl (by rw [sumB_length]; decide) (there_of H9.out.own.at_ H9.out.own.free (by rw [sumB_length, HLN.out.1]; decide)) (fun wa HW => ?_)
  have HA := Lib.hid (H9.out.copy (t := sumB x) HW.out (by rw [sumB_length, HLN.out.1]; decide) (splice4 _ _ (sumB_length _)))
  rw [show sumB x ++ x = y by rw [HY.out, HX.out]; rfl] at HA
  have HYL : Hid (y.length = 128) := Lib.hid (by rw [HY.out]; exact layB_length (by rw [lenS]; exact hs))
  clear HW H9
  refine hK.out _ _ trivial ?_
  clear hK K
  simp only [Act.put, List.setIfInBounds_toArray, List.set_cons_zero, List.set_cons_succ]
  refine wpAnyH_done (by kernel_rfl) ?_ _
  go_wp2_with (with_reducible refine stop_at (o := ⟨some 36, _, _, _, _, _⟩) ?_)
  refine wpList_load_page rfl _ _ rfl b 0 rfl (pgB y) (by rw [pgB_length]; exact HYL.out) HA.out.own.at_ _ Tryd.underlying55 rfl Tryd.pageSize ?_
  refine wpList_store_page rfl _ _ _ rfl r 0 (pgB y) (by rw [pgB_length]; exact HYL.out) rfl rfl (there_of HA.out.res.at_ HA.out.res.free (by simp)) Tryd.pageSize (fun wb HW => ?_)
  have hrb : wb.rangeAt r 0 (pgCells (pgB y)) := by
    rw [HW.out]
    exact World.rangeAt_setCells_same _ _ _ _ (by rw [pgCells_len, HYL.out]; exact there_of HA.out.res.at_ HA.out.res.free (by simp))
  have HBB : Hid (Below r w wb) := Lib.hid (below_cells HA.out.below HW.out (Nat.le_refl _))
  have HRB := Lib.hid hrb
  clear HW hrb
  go_wp2_with fail
  refine bodyPost_ret (v := .tuple #[pgV (pgB y), .nilIface]) ?_ rfl ⟨rfl, by rw [← HR.out]; exact HBB.out⟩
  rw [results_cell_tmp rfl]
  simp [asAddr, Result.andThen, run_loadVar_mid wb r 0 55 (pgCells (pgB y)) _ HRB.out Tryd.underlying55 rfl (by rw [pgCells_len, HYL.out]; exact Tryd.pageSize)]
  rfl
set_option maxRecDepth 100000 in
theorem FrLay_low (k : Int) (s : ByteArray) (w : World) (h : k < 1) : Calls Tryd.prog 54 #[.int .i64 k, .string s] w (LayAns 1 zeroPg w) := by
  have hz := Tryd.zeroPage
  have hd1 : decide (k < 1) = true := by simpa using h
  go_enter Tryd.func54, Tryd.ntmps54
  go_wp2_with (with_reducible refine stop_at (o := ⟨some 13, _, _, _, _, _⟩) ?_)
  refine wpList_build_none rfl _ rfl _ built_zero ?_
  go_wp2_with fail
  refine (FrFault_any 1 (by decide) _).mono ?_
  rintro e w' ⟨v, rfl, h1, h4⟩
  have H1 := Lib.hid h1
  have H4 := Lib.hid h4
  obtain ⟨t, x, rfl⟩ := H1.out.some (by decide)
  clear h1 h4
  have hh : w'.heap[w.heap.size]? = some (.cells (pgArr zeroPg) 55 (0, 0)) := by
    rw [H4.out.block w.heap.size (by simp)]
    exact heap_alloc_last w _
  have HH := Lib.hid hh
  clear hh
  go_wp2_with (with_reducible refine stop_at (o := ⟨none, _, _, _, _, _⟩) ?_)
  refine wpList_store_same rfl _ _ _ rfl w.heap.size (pgArr zeroPg) HH.out rfl rfl (by rw [pgArr_size, zeroPg_length]; exact Tryd.pageSize) (pgArr_all _) ?_
  go_wp2_with fail
  refine bodyPost_ret (v := .tuple #[pgV zeroPg, .iface t x]) ?_ rfl ⟨_, rfl, H1.out.mono (by simp), ((Below.refl _ _).alloc (Nat.le_refl _) _).trans (H4.out.mono (by simp))⟩
  rw [results_cell_tmp rfl]
  simp [asAddr, Result.andThen, run_loadVar_row w' w.heap.size 55 55 (pgArr zeroPg) (0, 0) _ HH.out Tryd.underlying55 rfl (by rw [pgArr_size, zeroPg_length]; exact Tryd.pageSize)]
set_option maxRecDepth 100000 in
theorem FrLay_high (k : Int) (s : ByteArray) (w : World) (h : 255 < k) : Calls Tryd.prog 54 #[.int .i64 k, .string s] w (LayAns 1 zeroPg w) := by
  have hz := Tryd.zeroPage
  have hd1 : decide (k < 1) = false := by simp; omega
  have hd2 : decide (255 < k) = true := by simpa using h
  go_enter Tryd.func54, Tryd.ntmps54
  go_wp2_with (with_reducible refine stop_at (o := ⟨some 13, _, _, _, _, _⟩) ?_)
  refine wpList_build_none rfl _ rfl _ built_zero ?_
  go_wp2_with fail
  refine (FrFault_any 1 (by decide) _).mono ?_
  rintro e w' ⟨v, rfl, h1, h4⟩
  have H1 := Lib.hid h1
  have H4 := Lib.hid h4
  obtain ⟨t, x, rfl⟩ := H1.out.some (by decide)
  clear h1 h4
  have hh : w'.heap[w.heap.size]? = some (.cells (pgArr zeroPg) 55 (0, 0)) := by
    rw [H4.out.block w.heap.size (by simp)]
    exact heap_alloc_last w _
  have HH := Lib.hid hh
  clear hh
  go_wp2_with (with_reducible refine stop_at (o := ⟨none, _, _, _, _, _⟩) ?_)
  refine wpList_store_same rfl _ _ _ rfl w.heap.size (pgArr zeroPg) HH.out rfl rfl (by rw [pgArr_size, zeroPg_length]; exact Tryd.pageSize) (pgArr_all _) ?_
  go_wp2_with fail
  refine bodyPost_ret (v := .tuple #[pgV zeroPg, .iface t x]) ?_ rfl ⟨_, rfl, H1.out.mono (by simp), ((Below.refl _ _).alloc (Nat.le_refl _) _).trans (H4.out.mono (by simp))⟩
  rw [results_cell_tmp rfl]
  simp [asAddr, Result.andThen, run_loadVar_row w' w.heap.size 55 55 (pgArr zeroPg) (0, 0) _ HH.out Tryd.underlying55 rfl (by rw [pgArr_size, zeroPg_length]; exact Tryd.pageSize)]
set_option maxRecDepth 100000 in
theorem FrLay_long (k : Int) (s : ByteArray) (w : World) (h1 : 1 ≤ k) (h2 : k ≤ 255) (h : 120 < s.size) : Calls Tryd.prog 54 #[.int .i64 k, .string s] w (LayAns 8 zeroPg w) := by
  have hz := Tryd.zeroPage
  have hd1 : decide (k < 1) = false := by simp; omega
  have hd2 : decide (255 < k) = false := by simp; omega
  have hd3 : decide ((120 : Int) < (s.size : Int)) = true := by simp; omega
  go_enter Tryd.func54, Tryd.ntmps54
  go_wp2_with (with_reducible refine stop_at (o := ⟨some 18, _, _, _, _, _⟩) ?_)
  refine wpList_build_none rfl _ rfl _ built_zero ?_
  go_wp2_with fail
  refine (FrFault_any 8 (by decide) _).mono ?_
  rintro e w' ⟨v, rfl, h1, h4⟩
  have H1 := Lib.hid h1
  have H4 := Lib.hid h4
  obtain ⟨t, x, rfl⟩ := H1.out.some (by decide)
  clear h1 h4
  have hh : w'.heap[w.heap.size]? = some (.cells (pgArr zeroPg) 55 (0, 0)) := by
    rw [H4.out.block w.heap.size (by simp)]
    exact heap_alloc_last w _
  have HH := Lib.hid hh
  clear hh
  go_wp2_with (with_reducible refine stop_at (o := ⟨none, _, _, _, _, _⟩) ?_)
  refine wpList_store_same rfl _ _ _ rfl w.heap.size (pgArr zeroPg) HH.out rfl rfl (by rw [pgArr_size, zeroPg_length]; exact Tryd.pageSize) (pgArr_all _) ?_
  go_wp2_with fail
  refine bodyPost_ret (v := .tuple #[pgV zeroPg, .iface t x]) ?_ rfl ⟨_, rfl, H1.out.mono (by simp), ((Below.refl _ _).alloc (Nat.le_refl _) _).trans (H4.out.mono (by simp))⟩
  rw [results_cell_tmp rfl]
  simp [asAddr, Result.andThen, run_loadVar_row w' w.heap.size 55 55 (pgArr zeroPg) (0, 0) _ HH.out Tryd.underlying55 rfl (by rw [pgArr_size, zeroPg_length]; exact Tryd.pageSize)]
/-- the sector that Lay answers -/
def pageL (k : Int) (s : ByteArray) : Pg := if codeL k s = 0 then pgB (layB (UInt8.ofNat k.toNat) s.data.toList) else zeroPg
theorem codeL_zero {k : Int} {s : ByteArray} (h : codeL k s = 0) : ∃ n : Nat, k = n ∧ 1 ≤ n ∧ n ≤ 255 ∧ s.size ≤ 120 := by
  unfold codeL at h
  split at h
  · cases h
  · split at h
    · cases h
    · exact ⟨k.toNat, by omega, by omega, by omega, by omega⟩
theorem codeL_yes {n : Nat} {s : ByteArray} (h1 : 1 ≤ n) (h2 : n ≤ 255) (hs : s.size ≤ 120) : codeL n s = 0 := by
  unfold codeL
  rw [if_neg (by omega), if_neg (by omega)]
theorem FrLay_any (k : Int) (s : ByteArray) (w : World) (hg : LaidCrc w) : Calls Tryd.prog 54 #[.int .i64 k, .string s] w (LayAns (codeL k s) (pageL k s) w) := by
  by_cases h0 : codeL k s = 0
  · obtain ⟨n, rfl, h1, h2, hs⟩ := codeL_zero h0
    rw [pageL, if_pos h0, h0]
    exact (FrLay_yes n s w h1 h2 hs hg).mono fun e w' ⟨he, hb⟩ => ⟨_, he, .nil _ _, hb⟩
  · rw [pageL, if_neg h0]
    unfold codeL at h0 ⊢
    by_cases h1 : k < 1
    · rw [if_pos (.inl h1)]; exact FrLay_low k s w h1
    · by_cases h2 : 255 < k
      · rw [if_pos (.inr h2)]; exact FrLay_high k s w h2
      · rw [if_neg (by omega)] at h0 ⊢
        by_cases h3 : 120 < s.size
        · rw [if_pos h3]; exact FrLay_long k s w (by omega) (by omega) h3
        · rw [if_neg h3] at h0; exact absurd rfl h0
theorem pageL_length (k : Int) (s : ByteArray) : (pageL k s).length = 128 := by
  unfold pageL
  split
  · rename_i h
    obtain ⟨n, rfl, h1, h2, hs⟩ := codeL_zero h
    rw [pgB_length, layB_length (by rw [lenS]; exact hs)]
  · exact zeroPg_length
end Go.Proofs.YtaolkmlgdhnhaaaDoor
