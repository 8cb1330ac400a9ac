/-
  The document's own Lay (layer 14), of a right map. Conditions: none beyond the premises of each theorem.
-/
import Derived.Test.YtoempilmofbhdaaDoorGridLayMath
import Derived.Test.YtoempilmofbhdaaDoorGridLaw
namespace Go.Proofs.YtoempilmofbhdaaDoor
open Go Go.RowKit Go.Shelf

theorem lay_step {s : ByteArray} {a k : Nat} : ofBytes (layOf s.data.toList a (List.range k)) ++ s.extract (k * a) ((k + 1) * a) ++ ⟨#[10]⟩ = ofBytes (layOf s.data.toList a (List.range (k + 1))) := by
  rw [List.range_succ, layOf_snoc]
  apply ByteArray.ext
  apply Array.ext'
  simp [ofBytes, ByteArray.data_append]
  unfold chunkOf
  rw [Nat.succ_mul, Nat.add_sub_cancel_left]
set_option maxRecDepth 100000 in
theorem RefLay_any (a h : Nat) (s : ByteArray) (hr : rightM (a : Int) (h : Int) s = true) (w : World) :
    Calls Tryd.prog 16 #[.agg #[.int .i64 (a : Int), .int .i64 (h : Int), .string s]] w fun e w' => e = .returned (.string (ofBytes (layOf s.data.toList a (List.range h)))) ∧ Below w.heap.size w w' := by
  have hr2 := Grid.rightB_iff.1 hr
  obtain ⟨a', h', ha, hh, h1, h8, hh1, hh8, hn, _⟩ := Grid.sized_nat hr2.1
  obtain rfl : a = a' := by omega
  obtain rfl : h = h' := by omega
  have HN := Lib.hid hn
  have hl : s.data.toList.length = s.size := by rw [Array.length_toList]; rfl
  clear ha hh hr2 hn
  obtain ⟨w1, HW1⟩ : ∃ w1, Hid (w1 = w.alloc (.cells #[.int .i64 (a : Int), .int .i64 (h : Int), .string s] 23)) := ⟨_, Lib.hid rfl⟩
  obtain ⟨p, HP⟩ : ∃ p, Hid (p = w.heap.size) := ⟨_, Lib.hid rfl⟩
  have HR1 : Hid (RefAt w1 p a h s) := Lib.hid (by rw [HW1.out, HP.out]; exact heap_alloc_new w _)
  have HB1 : Hid (Below w.heap.size w w1) := Lib.hid (by rw [HW1.out]; exact (Below.refl _ _).alloc (Nat.le_refl _) _)
  go_enter Tryd.func16, Tryd.ntmps16
  go_upto_region 1 with (fail)
  rw [← HP.out, ← HW1.out]
  clear HP HW1
  have c0 := HR1.out.w_
  have c1 := HR1.out.h_
  have c2 := HR1.out.s_
  go_wp2_with fail
  go_loopw [3, 4] (fun st y wr => ∃ (k : Nat) (x : ByteArray), k ≤ h ∧ y = .int .i64 (k : Int) ∧ st = .string x ∧ x = ofBytes (layOf s.data.toList a (List.range k)) ∧ wr = w1) (fun _ y _ => h - (intOf y).toNat)
  case atStart => exact ⟨0, _, Nat.zero_le _, rfl, rfl, rfl, rfl⟩
  case round =>
    obtain ⟨k, x, hk, rfl, rfl, hx, rfl⟩ := hrel
    have HX := Lib.hid hx
    clear hx
    have hxl : x.size ≤ 72 := by
      rw [HX.out, ofBytes_size, layOf_length HN.out _ (fun j hj => by have := List.mem_range.1 hj; omega), List.length_range]
      exact Nat.mul_le_mul (show k ≤ 8 by omega) (show a + 1 ≤ 9 by omega)
    by_cases hkh : k < h
    · obtain ⟨u, HU⟩ : ∃ u, Hid (u = k * a) := ⟨_, Lib.hid rfl⟩
      obtain ⟨v, HV⟩ : ∃ v, Hid (v = (k + 1) * a) := ⟨_, Lib.hid rfl⟩
      have huv : u ≤ v := by rw [HU.out, HV.out]; exact Nat.mul_le_mul_right a (by omega)
      have hvs : v ≤ s.size := by rw [HV.out, ← hl, HN.out, Nat.mul_comm a h]; exact Nat.mul_le_mul_right a hkh
      have hs64 : s.size ≤ 64 := by rw [← hl, HN.out]; exact Nat.mul_le_mul h8 hh8
      have m1 : (k : Int) * (a : Int) = (u : Int) := by rw [HU.out]; simp
      have m2 : ((k : Int) + 1) * (a : Int) = (v : Int) := by rw [HV.out]; simp
      obtain ⟨c, HC⟩ : ∃ c, Hid (c = s.extract u v) := ⟨_, Lib.hid rfl⟩
      have hc : s.extract u v = c := HC.out.symm
      have hcl : c.size ≤ 64 := by rw [HC.out, ByteArray.size_extract]; omega
      have HST : Hid (x ++ c ++ ⟨#[10]⟩ = ofBytes (layOf s.data.toList a (List.range (k + 1)))) := Lib.hid (by rw [HX.out, HC.out, HU.out, HV.out]; exact lay_step)
      have hxc : (x ++ c).size ≤ 136 := by rw [ByteArray.size_append]; omega
      have hxd : (x ++ c ++ ⟨#[10]⟩).size ≤ 137 := by rw [ByteArray.size_append]; show _ + 1 ≤ _; omega
      go_wp2_with fail
      go_roundw
      case rel => exact ⟨k + 1, _, hkh, by go_num, rfl, HST.out, trivial⟩
      case measure => simp [intOf]; omega
    · obtain rfl : k = h := by omega
      go_wp2_with fail
      go_ret
      rw [HX.out]
      exact ⟨rfl, HB1.out⟩
end Go.Proofs.YtoempilmofbhdaaDoor
