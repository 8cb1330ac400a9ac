/-
  The contracts of Open, Near and Kind (layer 14). Conditions: none beyond the premises of each theorem.
-/
import Derived.Test.YtiffgmgefpoblaaDoorGridRight
import Derived.Test.YtiffgmgefpoblaaDoorNums
namespace Go.Proofs.YtiffgmgefpoblaaDoor
open Go.RowKit

noncomputable def openM (W H : Int) (s : ByteArray) (c : Int) : Bool := decide (0 ≤ c ∧ c < s.size) && (Grid.openAt s.data.toList c.toNat && rightM W H s)
theorem openM_off {W H : Int} {s : ByteArray} {c : Int} (h : ¬ (0 ≤ c ∧ c < s.size)) : openM W H s c = false := by unfold openM; simp [h]
theorem openM_on {W H : Int} {s : ByteArray} {k : Nat} (h : k < s.size) : openM W H s k = (Grid.openAt s.data.toList k && rightM W H s) := by
  unfold openM
  have : 0 ≤ (k : Int) ∧ (k : Int) < s.size := by omega
  simp [this]
set_option maxRecDepth 100000 in
theorem Open_any (W H : Int) (s : ByteArray) (c : Int) (hs : s.size ≤ maxLen) (w : World) :
    Calls Tryd.prog 24 #[.agg #[.int .i64 W, .int .i64 H, .string s], .int .i64 c] w fun e w' => e = .returned (.bool (openM W H s c)) ∧ Below w.heap.size w w' := by
  have HSM := Lib.hid hs
  obtain ⟨w1, HW1⟩ : ∃ w1, Hid (w1 = w.alloc (.cells #[.int .i64 W, .int .i64 H, .string s] 30)) := ⟨_, Lib.hid rfl⟩
  obtain ⟨q, HQ⟩ : ∃ q, Hid (q = w.heap.size) := ⟨_, Lib.hid rfl⟩
  have HM : Hid (MapAt w1 q W H s) := Lib.hid (by rw [HW1.out, HQ.out]; exact heap_alloc_new w _)
  have HB : Hid (Below w.heap.size w w1) := Lib.hid (by rw [HW1.out]; exact (Below.refl _ _).alloc (Nat.le_refl _) _)
  clear hs
  go_enter Tryd.func24, Tryd.ntmps24
  go_upto_region 1 with (fail)
  rw [← HQ.out, ← HW1.out]
  clear HW1 HQ
  have c0 := HM.out.w_
  have c1 := HM.out.h_
  have c2 := HM.out.s_
  by_cases h0 : 0 ≤ c
  · obtain ⟨k, rfl⟩ := Int.eq_ofNat_of_zero_le h0
    by_cases hk : k < s.size
    · have hb := byte_ne_int s k hk
      have HON := Lib.hid (openM_on (W := W) (H := H) hk)
      obtain ⟨o, HOP⟩ : ∃ o, Hid (o = Grid.openAt s.data.toList k) := ⟨_, Lib.hid rfl⟩
      rw [← HOP.out] at hb HON
      cases o with
      | false =>
        go_wp2_with fail
        go_ret
        exact ⟨ret_bool9 HON.out.symm, HB.out⟩
      | true =>
        go_wp2_with fail
        refine (Right_any W H s HSM.out w1).mono ?_
        obtain ⟨z, HZ⟩ : ∃ z, Hid (z = rightM W H s) := ⟨_, Lib.hid rfl⟩
        rw [← HZ.out] at HON ⊢
        rintro e w2 ⟨rfl, hb2⟩
        have HB2 := Lib.hid (HB.out.trans (hb2.mono HB.out.size))
        clear hb2
        dsimp only
        go_wp2_with fail
        go_ret
        exact ⟨ret_bool9 HON.out.symm, HB2.out⟩
    · have HOF := Lib.hid (openM_off (W := W) (H := H) (s := s) (c := (k : Int)) (by omega))
      go_wp2_with fail
      go_ret
      exact ⟨ret_bool9 HOF.out.symm, HB.out⟩
  · have HOF := Lib.hid (openM_off (W := W) (H := H) (s := s) (c := c) (by omega))
    go_wp2_with fail
    go_ret
    exact ⟨ret_bool9 HOF.out.symm, HB.out⟩
noncomputable def nearM (W H : Int) (s : ByteArray) (c : Int) : List Nat := if openM W H s c = true then Grid.nears s.data.toList W.toNat c.toNat else []
noncomputable def kindM (W H : Int) (s : ByteArray) (k : UInt8) : List Nat := if rightM W H s = true then Grid.kinds s.data.toList k else []
/-- a call that answers a list of numbers in memory of its own -/
def ListPost (l : List Nat) (w : World) (e : Ending) (w' : World) : Prop := ∃ A cap, e = .returned (.slice A l.length cap) ∧ Nums w' .i64 A (ints l) ∧ Below w.heap.size w w'
theorem ListBox.nums {base : Nat} {l : List Nat} {w : World} {v : Value} (h : w.ownsRow base 3 1 v l.length (numCells l)) : ∃ A cap, v = .slice A l.length cap ∧ Nums w .i64 A (ints l) := by
  have hv : ∃ A cap, v = .slice A l.length cap := by
    rcases h.2 with ⟨rfl, h0⟩ | ⟨g, cap, cur, rfl, _⟩
    · exact ⟨none, 0, by rw [h0]⟩
    · exact ⟨_, _, rfl⟩
  obtain ⟨A, cap, rfl⟩ := hv
  refine ⟨A, cap, rfl, Nums.own (n := l.length) (base := base) (e := 3) (c := cap) ?_⟩
  unfold numCells at h
  unfold ints
  rw [List.map_map]
  exact h
theorem near_tells (w0 : World) (B : Nat) (hB : w0.heap.size ≤ B) (ok : Nat → Prop) : Tells 30 #[.pointer (some ⟨B, 0, none⟩)] B ok (NearJ w0 B) where
  step := fun pre n w h _ hp => nearTell_any w0 B hB pre n w h hp
  new := by
    rintro pre w o ⟨⟨v, h1, h2, h3⟩, hb⟩
    exact ⟨⟨v, h1.alloc o, h2.alloc o, h3⟩, hb.alloc hb.size o⟩
  drew := by
    rintro pre w ⟨⟨v, h1, h2, h3⟩, hb⟩
    exact ⟨⟨v, h1, h2, h3⟩, hb.drew⟩
  enter := enters_of Tryd.func30 (by kernel_rfl) rfl
set_option maxRecDepth 100000 in
theorem Near_any (W H : Int) (s : ByteArray) (c : Int) (hs : s.size ≤ maxLen) (w : World) :
    Calls Tryd.prog 17 #[.agg #[.int .i64 W, .int .i64 H, .string s], .int .i64 c] w (ListPost (nearM W H s c) w) := by
  have HSM := Lib.hid hs
  obtain ⟨w1, HW1⟩ : ∃ w1, Hid (w1 = w.alloc (.cells #[.int .i64 W, .int .i64 H, .string s] 30)) := ⟨_, Lib.hid rfl⟩
  obtain ⟨q, HQ⟩ : ∃ q, Hid (q = w.heap.size) := ⟨_, Lib.hid rfl⟩
  have HM : Hid (MapAt w1 q W H s) := Lib.hid (by rw [HW1.out, HQ.out]; exact heap_alloc_new w _)
  have HB : Hid (Below w.heap.size w w1) := Lib.hid (by rw [HW1.out]; exact (Below.refl _ _).alloc (Nat.le_refl _) _)
  have HQL : Hid (w.heap.size ≤ q) := Lib.hid (by rw [HQ.out]; exact Nat.le_refl _)
  clear hs
  obtain ⟨l, HL⟩ : ∃ l, Hid (l = nearM W H s c) := ⟨_, Lib.hid rfl⟩
  rw [← HL.out]
  go_enter Tryd.func17, Tryd.ntmps17
  go_upto_region 1 with (fail)
  rw [← HQ.out, ← HW1.out]
  clear HW1 HQ
  have c0 := HM.out.w_
  have c1 := HM.out.h_
  have c2 := HM.out.s_
  go_wp2_with fail
  refine (Open_any W H s c HSM.out w1).mono ?_
  obtain ⟨z, HZ⟩ : ∃ z, Hid (z = openM W H s c) := ⟨_, Lib.hid rfl⟩
  rw [← HZ.out]
  rintro e w2 ⟨rfl, hb2⟩
  have HB2 := Lib.hid (HB.out.trans (hb2.mono HB.out.size))
  have HM2 : Hid (MapAt w2 q W H s) := Lib.hid ((hb2.block q HM.out.lt).trans HM.out)
  clear hb2 c0 c1 c2
  cases z with
  | false =>
    have hl : l = [] := by rw [HL.out]; unfold nearM; rw [← HZ.out]; rfl
    subst hl
    go_wp2_with fail
    go_ret
    exact ⟨none, 0, rfl, Nums.none_ _ _ _, HB2.out⟩
  | true =>
    have ho := HZ.out.symm
    unfold openM at ho
    simp only [Bool.and_eq_true, decide_eq_true_eq] at ho
    obtain ⟨⟨hc0, hc1⟩, hop, hr⟩ := ho
    obtain ⟨k, rfl⟩ := Int.eq_ofNat_of_zero_le hc0
    have hr2 := Grid.rightB_iff.1 hr
    obtain ⟨a, h, rfl, rfl, h1, h8, hh1, hh8, hn, _⟩ := Grid.sized_nat hr2.1
    rw [size_list] at hn
    have hl : l = Grid.nears s.data.toList a k := by
      rw [HL.out]
      unfold nearM
      rw [← HZ.out, if_pos rfl]
      simp
    have HLE := Lib.hid hl
    have hk : k < s.size := by omega
    clear hr2 hr hop hc0 hc1 hl
    have c0 := HM2.out.w_
    have c1 := HM2.out.h_
    have c2 := HM2.out.s_
    obtain ⟨w3, HW3⟩ : ∃ w3, Hid (w3 = w2.alloc (.cells #[.slice none 0 0] 24)) := ⟨_, Lib.hid rfl⟩
    obtain ⟨B, HBB⟩ : ∃ B, Hid (B = w2.heap.size) := ⟨_, Lib.hid rfl⟩
    have HJ : Hid (NearJ w B [] w3) := Lib.hid (by
      refine ⟨⟨.slice none 0 0, ?_, World.ownsRow_nil _ _ _ _, by simp⟩, by rw [HW3.out]; exact HB2.out.alloc HB2.out.size _⟩
      rw [HW3.out, HBB.out]
      exact Boxed.new _ _ _)
    have HM3 : Hid (MapAt w3 q a h s) := Lib.hid (by rw [HW3.out]; exact HM2.out.alloc _)
    have HBL : Hid (B < w3.heap.size ∧ w.heap.size ≤ B) := Lib.hid (by rw [HW3.out, HBB.out]; have := HB2.out.size; simp; omega)
    go_upto_region 4 with (fail)
    rw [← HBB.out, ← HW3.out]
    clear HW3 HBB c0 c1 c2
    have c0 := HM3.out.w_
    have c1 := HM3.out.h_
    have c2 := HM3.out.s_
    go_wp2_with fail
    refine (beside_any HBL.out.1 (near_tells w B HBL.out.2 _) h1 h8 ⟨hh1, hh8⟩ hn hk HJ.out).mono ?_
    rintro e w4 ⟨rfl, ⟨v, hv, hrow, _⟩, hb4⟩
    rw [← HLE.out] at hrow
    obtain ⟨A, cap, rfl, hnums⟩ := ListBox.nums hrow
    have c4 := hv.cell
    have HN := Lib.hid hnums
    have HB4 := Lib.hid hb4
    clear hv hrow hb4 hnums
    dsimp only
    go_wp2_with fail
    go_ret
    exact ⟨A, cap, rfl, HN.out, HB4.out⟩
end Go.Proofs.YtiffgmgefpoblaaDoor
