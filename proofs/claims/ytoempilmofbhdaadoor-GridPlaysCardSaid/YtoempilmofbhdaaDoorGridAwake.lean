/-
  The document's example (layer 14): awake returns true. Conditions: none beyond the premises of each theorem.
-/
import Derived.Test.YtoempilmofbhdaaDoorGridParse
namespace Go.Proofs.YtoempilmofbhdaaDoor
open Go.RowKit

theorem right_example : Grid.Right 2 1 [46, 67] := by
  refine ⟨by decide, by decide, 1, by decide, fun i hi => ?_⟩
  have hl : i < 2 := Grid.openAt_lt hi
  have h1 : Grid.Reach [46, 67] (2 : Int).toNat (some 1) 1 := .base rfl
  match i, hl with
  | 0, _ => exact .step h1 (by decide) (by decide)
  | 1, _ => exact h1
theorem parse_example : parseM [46, 67, 10] = some (2, 1, [46, 67]) := by
  have h := parse_good (s := [46, 67, 10]) (l := [[46, 67]]) (by decide) (by decide) (by decide) (by intro r hr; rw [List.mem_singleton.1 hr]; rfl)
  have h2 : Grid.rightB (wid [[46, 67]] : Int) ([[46, 67]].length : Int) [[46, 67]].flatten = true := Grid.rightB_iff.2 right_example
  rw [h]
  exact (if_pos h2).trans rfl
theorem open_example : openM 2 1 (ofBytes [46, 67]) 0 = true := by
  have h := openM_on (W := 2) (H := 1) (s := ofBytes [46, 67]) (k := 0) (by rw [ofBytes_size]; decide)
  have h2 : rightM 2 1 (ofBytes [46, 67]) = true := Grid.rightB_iff.2 right_example
  rw [show ((0 : Nat) : Int) = 0 from rfl] at h
  rw [h, h2]
  rfl
set_option maxRecDepth 100000 in
theorem awake_any (w : World) : Calls Tryd.prog 9 #[] w fun e w' => e = .returned (.bool true) ∧ Below w.heap.size w w' := by
  have hp := Parse_any ⟨#[46, 67, 10]⟩ (by decide) w
  rw [show (⟨#[46, 67, 10]⟩ : ByteArray).data.toList = [46, 67, 10] from rfl, parse_example] at hp
  have HP := Lib.hid hp
  clear hp
  obtain ⟨c, HC⟩ : ∃ c, Hid (c = ofBytes [46, 67]) := ⟨_, Lib.hid rfl⟩
  go_enter Tryd.func9, Tryd.ntmps9
  go_wp2_with fail
  refine HP.out.mono ?_
  rintro e w1 ⟨hb, rfl⟩
  rw [← HC.out]
  have HB := Lib.hid hb
  clear hb
  dsimp only
  obtain ⟨w2, HW2⟩ : ∃ w2, Hid (w2 = w1.alloc (.cells #[.int .i64 2, .int .i64 1, .string c] 29)) := ⟨_, Lib.hid rfl⟩
  obtain ⟨q, HQ⟩ : ∃ q, Hid (q = w1.heap.size) := ⟨_, Lib.hid rfl⟩
  go_upto_region 2 with (fail)
  rw [← HQ.out, ← HW2.out]
  have HM : Hid (MapAt w2 q 2 1 c) := Lib.hid (by rw [HW2.out, HQ.out]; exact heap_alloc_new w1 _)
  have HB2 : Hid (Below w.heap.size w w2) := Lib.hid (by rw [HW2.out]; exact HB.out.alloc HB.out.size _)
  clear HW2 HQ
  have hop := open_example
  rw [← HC.out] at hop
  have HOP := Lib.hid hop
  have hcs : c.size ≤ maxLen := by rw [HC.out, ofBytes_size]; decide
  clear hop
  have c0 := HM.out.w_
  have c1 := HM.out.h_
  have c2 := HM.out.s_
  go_wp2_with (go_at_call 12; refine (Num_nil _).mono ?_; rintro e w9 ⟨rfl, rfl⟩)
  refine (Open_any 2 1 c 0 hcs w2).mono ?_
  rw [HOP.out]
  rintro e w3 ⟨rfl, hb⟩
  have HB3 := Lib.hid (HB2.out.trans (hb.mono HB2.out.size))
  clear hb
  dsimp only
  go_wp2_with fail
  go_ret
  exact ⟨rfl, HB3.out⟩
end Go.Proofs.YtoempilmofbhdaaDoor
