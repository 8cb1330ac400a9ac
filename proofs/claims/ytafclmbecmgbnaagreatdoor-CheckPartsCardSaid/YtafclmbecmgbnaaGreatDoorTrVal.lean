/-
 TrVal. Conditions: as each theorem says.
-/
import Derived.Test.YtafclmbecmgbnaaGreatDoorSm
import Derived.Test.YtafclmbecmgbnaaGreatDoorPacks
import Derived.Test.YtafclmbecmgbnaaGreatDoorDisks
import Derived.Lib.SlBytesConst
namespace Go.Proofs.YtafclmbecmgbnaaGreatDoor
open Go.RowKit
def valL (n k : Nat) : List UInt8 := (List.range k).map (fun d => UInt8.ofNat (n / 256 ^ d)) ++ List.replicate (12 - k) 46
def valB (n : Nat) : ByteArray := ⟨(valL n 4).toArray⟩
theorem valL_length {n k : Nat} (hk : k ≤ 12) : (valL n k).length = 12 := by simp [valL]; omega
theorem valB_size (n : Nat) : (valB n).size = 12 := by
 have := valL_length (n := n) (k := 4) (by decide)
 unfold valB
 show (valL n 4).toArray.size = 12
 simpa using this
theorem valL_set {n k : Nat} (hk : k < 12) : (valL n k).set k (UInt8.ofNat (n / 256 ^ k)) = valL n (k + 1) := by
 unfold valL
 rw [List.range_succ, List.map_append, List.map_singleton, List.set_append_right _ _ (by simp), List.append_assoc]
 congr 1
 rw [List.length_map, List.length_range, Nat.sub_self, show 12 - k = (12 - (k + 1)) + 1 by omega, List.replicate_succ]
 rfl
theorem row_newM (w : World) (l : List UInt8) : Row (w.alloc (.cells (l.map fun c => Value.int .u8 (c.toNat : Int)).toArray 5 (l.length, l.length + 1))) w.heap.size l := fun i hi => by
 refine ⟨?_, ?_⟩
 ·rw [cell_of_row _ w.heap.size i _ _ _ (heap_alloc_last w _)]
  simp [hi]
 ·unfold World.frozen? World.alloc
  simp
  omega
set_option maxRecDepth 100000 in
set_option maxHeartbeats 1000000 in
theorem Val_any (n : Nat) (w : World) : Calls Tryz.prog 21 #[.int .u32 (n : Int)] w fun e w' => e = .returned (.string (valB n)) ∧ Below w.heap.size w w' := by
 obtain ⟨i0, hi, hz0, hz1, hz2⟩ := info_parts Tryz.infoByte
 obtain ⟨B, HB⟩ : ∃ B, Hid (B = w.heap.size) := Hy
 obtain ⟨w1, HW1⟩ : ∃ w1, Hid (w1 = w.alloc (.cells #[.int .u8 46, .int .u8 46, .int .u8 46, .int .u8 46, .int .u8 46, .int .u8 46, .int .u8 46, .int .u8 46, .int .u8 46, .int .u8 46, .int .u8 46, .int .u8 46] 5 (12, 13))) := Hy
 have HR1 : Hid (Row w1 B (valL n 0) ∧ Below w.heap.size w w1 ∧ B < w1.heap.size) := Hi (by
  refine ⟨by rw [HW1.out, HB.out]; exact row_newM w (valL n 0), by rw [HW1.out]; exact (Below.refl _ _).alloc (Nat.le_refl _) _, by rw [HW1.out, HB.out]; simp⟩)
 go_enter Tryz.func21, Tryz.ntmps21
 go_wp2_with (with_reducible refine stop_at (o := ⟨some 5, _, _, _, _, _⟩) ?_)
 refine wpList_buildSlice rfl 75 5 12 _ rfl #[.int .u8 46, .int .u8 46, .int .u8 46, .int .u8 46, .int .u8 46, .int .u8 46, .int .u8 46, .int .u8 46, .int .u8 46, .int .u8 46, .int .u8 46, .int .u8 46] i0 (.int .u8 0) Tryz.underlying75 hi hz0 (by rw [hz1]; decide) (by rw [hz1]; decide) ?_ ?_
 ·rw [hz1]
  simp only [List.map_toArray, List.map_cons, List.map_nil]
  exact Great.fill_flat [.int .u8 46, .int .u8 46, .int .u8 46, .int .u8 46, .int .u8 46, .int .u8 46, .int .u8 46, .int .u8 46, .int .u8 46, .int .u8 46, .int .u8 46, .int .u8 46] ((Array.range (12 * 1)).map fun x => (Value.int IntKind.u8 0).cells[x % (Value.int IntKind.u8 0).cells.size]!) (fun v hv => by
   have : v = .int .u8 46 := by simpa using hv
   rw [this]; rfl) (by simp)
 have HBW : Hid (w.heap.size ≤ B) := Hi (by rw [HB.out]; exact Nat.le_refl _)
 have hcv := Lib.run_convert_bytes_const (P := Tryz.prog) w 75 5 #[.int .u8 46, .int .u8 46, .int .u8 46, .int .u8 46, .int .u8 46, .int .u8 46, .int .u8 46, .int .u8 46, .int .u8 46, .int .u8 46, .int .u8 46, .int .u8 46] 12 12 Tryz.underlying75 Tryz.underlying5
 go_wp2_with fail
 clear hcv
 rw [← HW1.out, ← HB.out]
 clear hi hz0 hz1 hz2 HW1 HB
 go_loopw [4] (fun i wr => ∃ k : Nat, k ≤ 4 ∧ i = .int .i64 (k : Int) ∧ Hid (Row wr B (valL n k) ∧ Below w.heap.size w wr)) (fun i _ => 4 - (intOf i).toNat)
 case atStart => exact ⟨0, Nat.zero_le _, rfl, Hi ⟨HR1.out.1, HR1.out.2.1⟩⟩
 case round =>
  obtain ⟨k, hk, rfl, HS⟩ := hrel
  clear HR1
  by_cases hlt : k < 4
  ·obtain ⟨hc, hf⟩ := HS.out.1 k (by rw [valL_length (by omega)]; omega)
   obtain ⟨c, HC⟩ : ∃ c, Hid (c = UInt8.ofNat (n / 256 ^ k)) := Hy
   have hbs := byte_shift n k
   rw [← HC.out] at hbs
   have HBS := Hi hbs
   obtain ⟨w2, HW2⟩ : ∃ w2, Hid (w2 = wr.setCell ⟨B, k, none⟩ (.int .u8 (c.toNat : Int))) := Hy
   have HS2 : Hid (Row w2 B (valL n (k + 1)) ∧ Below w.heap.size w w2) := Hi (by
    rw [HW2.out, ← valL_set (n := n) (k := k) (by omega), ← HC.out]
    exact ⟨HS.out.1.store k c, HS.out.2.setCell HBW.out _⟩)
   have hk12 : (k : Int) < 12 := by omega
   clear hbs HC HS
   go_wp2_with fail
   rw [HBS.out, ← HW2.out]
   go_roundw
   case rel => exact ⟨k + 1, by omega, by go_num, HS2⟩
   case measure => simp [intOf]; omega
  ·obtain rfl : k = 4 := by omega
   have ht := HS.out.1.text (w := wr) 12 12 (valL_length (by decide))
   have HB2 := Hi HS.out.2
   have hv : Hid ((⟨(valL n 4).toArray⟩ : ByteArray) = valB n) := Hi rfl
   rw [hv.out] at ht
   go_wp2_with fail
   go_ret
   exact ⟨rfl, HB2.out⟩
end Go.Proofs.YtafclmbecmgbnaaGreatDoor
