/-
  The document's example for layer 5: the laws' 'awake' answers true. Conditions: errors.errorType and crc.halved are laid.
-/
import Derived.Test.YtcpekkajcjgoiaaDoorFrDisk
namespace Go.Proofs.YtcpekkajcjgoiaaDoor
open Go.RowKit

theorem range_below {w w' : World} {b o : Nat} {cs : List Value} (h : w.rangeAt b o cs) (hb : Below w.heap.size w w') : w'.rangeAt b o cs := fun j v hv => (hb.cell (p := ⟨b, o + j, none⟩) (lt_of_cell (h j v hv))).trans (h j v hv)
theorem page_new (w : World) (p : Pg) (t : TypeId) : (w.alloc (.cells (pgArr p) t)).rangeAt w.heap.size 0 (pgCells p) := fun j u hu => by
  rw [cell_of_row _ w.heap.size (0 + j) _ _ _ (heap_alloc_last w _), Nat.zero_add]
  simpa [pgArr] using hu
/-- both listed variables are laid -/
structure Laid2 (w : World) : Prop where
  err : Laid w
  crc : LaidCrc w
theorem Laid2.carry {w w' : World} (h : Laid2 w) (hb : Below w.heap.size w w') : Laid2 w' := ⟨h.err.carry hb, h.crc.carry hb⟩
set_option maxRecDepth 100000 in
set_option maxHeartbeats 4000000 in
theorem awake_any (w : World) (hg : Laid2 w) : Calls Tryd.prog 8 #[] w fun e w' => e = .returned (.bool true) ∧ Below w.heap.size w w' := by
  have HG := Lib.hid hg
  clear hg
  have hz := Tryd.zeroPage
  go_enter Tryd.func8, Tryd.ntmps8
  go_wp2_with (with_reducible refine stop_at (o := ⟨some 7, _, _, _, _, _⟩) ?_)
  refine wpList_build_none rfl _ rfl _ built_zero ?_
  have hr := FrRead_any (List.replicate 128 0) (by simp) w HG.out.crc
  rw [pgB_zero] at hr
  have HR := Lib.hid hr
  clear hr
  go_wp2_with fail
  refine HR.out.mono ?_
  rintro e w1 ⟨v, rfl, he, hb⟩
  rw [codeB_zeros] at he ⊢
  rw [if_neg (by decide), if_neg (by decide)]
  have HE := Lib.hid he
  have HB := Lib.hid hb
  clear he hb HR
  go_wp2_with fail
  refine (FrLay_yes 7 ⟨#[120]⟩ w1 (by decide) (by decide) (by decide) (HG.out.crc.carry HB.out)).mono ?_
  obtain ⟨p, HP⟩ : ∃ p, Hid (p = layB (UInt8.ofNat 7) [120]) := ⟨_, Lib.hid rfl⟩
  rw [show layB (UInt8.ofNat 7) (⟨#[120]⟩ : ByteArray).data.toList = p by rw [HP.out]]
  have HPL : Hid (p.length = 128) := Lib.hid (by rw [HP.out]; exact layB_length (by decide))
  rintro e w2 ⟨rfl, hb⟩
  have HB2 := Lib.hid hb
  clear hb
  go_wp2_with (with_reducible refine stop_at (o := ⟨none, _, _, _, _, _⟩) ?_)
  refine wpList_store_last rfl _ _ _ rfl (pgArr zeroPg) (pgArr (pgB p)) _ rfl rfl rfl (by rw [pgArr_size, pgB_length, HPL.out]; exact Tryd.pageSize) (by rw [pgArr_size, pgArr_size, pgB_length, HPL.out]; rfl) (pgArr_all _) ?_
  obtain ⟨w3, HW⟩ : ∃ w3, Hid (w3 = w2.alloc (.cells (pgArr (pgB p)) 24)) := ⟨_, Lib.hid rfl⟩
  obtain ⟨b, HBB⟩ : ∃ b, Hid (b = w2.heap.size) := ⟨_, Lib.hid rfl⟩
  rw [← HW.out, ← HBB.out]
  have HB3 : Hid (Below w1.heap.size w1 w3) := Lib.hid (by rw [HW.out]; exact HB2.out.alloc HB2.out.size _)
  have HR3 : Hid (w3.rangeAt b 0 (pgCells (pgB p))) := Lib.hid (by rw [HW.out, HBB.out]; exact (Own.new _).at_)
  have HBW : Hid (Below w.heap.size w w3) := Lib.hid (HB.out.trans (HB3.out.mono HB.out.size))
  have HE3 := Lib.hid ((HE.out.below HB3.out).is)
  have HG3 := Lib.hid (HG.out.carry HBW.out)
  clear HW HBB HB2 hz
  go_wp2_with fail
  refine (Num_any 3 v w3 HE3.out HG3.out.err).mono ?_
  rintro e w4 ⟨rfl, hb⟩
  have HB4 : Hid (Below w.heap.size w w4) := Lib.hid (HBW.out.trans (hb.mono HBW.out.size))
  have HR4 : Hid (w4.rangeAt b 0 (pgCells (pgB p))) := Lib.hid (range_below HR3.out hb)
  clear hb
  go_wp2_with fail
  refine (Num_nil _).mono ?_
  rintro e w' ⟨rfl, rfl⟩
  have c4 : w4.cell? ⟨b, 4, none⟩ = some (.int .u8 7) := by
    have hk : kB p = 7 := by rw [HP.out, kB_lay]; rfl
    have h := HR4.out 4 (.int .u8 ((kB p).toNat : Int)) (by simp [pgCells, pgB, kB, HPL.out])
    rw [hk, Nat.zero_add] at h
    exact h
  go_wp2_with fail
  go_ret
  exact ⟨rfl, HB4.out⟩
end Go.Proofs.YtcpekkajcjgoiaaDoor
