/-
  Items compared; the chapter's example of a heap; the walk of HeapOrder. Conditions: none beyond the premises of each theorem.
-/
import Derived.Test.YtchmdnopgfmpdaaHeapSorted
import Derived.Test.YtchmdnopgfmpdaaStructEq
namespace Go.Proofs.Ytchmdnopgfmpdaa
open Go.RowKit Hp

theorem Try.dueFields : (Try.prog.fieldsOf 30).toList = [⟨"Cost", 3, 0, false, "", "", 0⟩, ⟨"Id", 3, 1, false, "", "", 8⟩] := by kernel_rfl
theorem Try.dueStruct : Try.prog.underlying 30 = some (.struct (Try.prog.fieldsOf 30)) := by kernel_rfl
theorem Try.dueHeld : Try.prog.stoodInHeld 30 = false := by kernel_rfl
theorem guardDue : Try.prog.eqGuardType Try.prog.depth 30 = false := by kernel_rfl
theorem flatDue (x y : Itm) : FlatEq Try.prog 9999 (itC x).toArray (itC y).toArray (Try.prog.fieldsOf 30).toList [x.1 == y.1, x.2 == y.2] := by
  rw [Try.dueFields]
  exact ⟨⟨by decide, field_int Try.underlying3 rfl rfl⟩, ⟨by decide, field_int Try.underlying3 rfl rfl⟩, trivial⟩
theorem dueBits (x y : Itm) : [x.1 == y.1, x.2 == y.2].all id = decide (x = y) := by
  rw [Bool.eq_iff_iff]
  cases x; cases y
  simp
set_option maxRecDepth 100000 in
theorem eql_it (x y : Itm) (w : World) : (binOp .eql 30 (itV x) (itV y)).run Try.prog w = .ok (.bool (decide (x = y))) w := by
  rw [← dueBits]
  exact eql_flat Try.dueStruct Try.dueHeld (flatDue x y) w
set_option maxRecDepth 100000 in
theorem neq_it (x y : Itm) (w : World) : (binOp .neq 30 (itV x) (itV y)).run Try.prog w = .ok (.bool (!decide (x = y))) w := by
  rw [← dueBits]
  exact neq_flat Try.dueStruct Try.dueHeld (flatDue x y) w
theorem two_least {L M : List Itm} (h : IsHp L) (hm : M.Perm ([] ++ [(5, 1)])) (hp : L.Perm (M ++ [(3, 2)])) : at2 L 0 = (3, 2) := by
  have hm2 : M = [(5, 1)] := List.perm_singleton.1 hm
  subst hm2
  have hl : L.length = 2 := by have := hp.length_eq; simpa using this
  have h0 : at2 L 0 ∈ L := at2_mem (by omega)
  have h1 : le2 (at2 L 0) (3, 2) := h.least_mem (hp.mem_iff.2 (by simp))
  have h2 := hp.mem_iff.1 h0
  simp only [List.cons_append, List.nil_append, List.mem_cons, List.not_mem_nil, or_false] at h2
  rcases h2 with h2 | h2
  · rw [h2, le2_iff] at h1
    simp at h1
  · exact h2
set_option maxRecDepth 100000 in
theorem awake_any (w : World) : Calls Try.prog 9 #[] w fun e w' => e = .returned (.bool true) ∧ Below w.heap.size w w' := by
  obtain ⟨B, HB⟩ : ∃ B, Hid (B = w.heap.size) := ⟨_, Lib.hid rfl⟩
  have hnew := Lib.hid (New_any w (B := B) (by rw [HB.out]; exact Nat.le_refl _))
  rw [← HB.out] at hnew ⊢
  go_enter Try.func9, Try.ntmps9
  go_wp2_with fail
  refine hnew.out.mono ?_
  rintro e w1 ⟨rfl, h1, h2, hlt1⟩
  obtain ⟨hb, HHB⟩ : ∃ hb, Hid (hb = B) := ⟨_, Lib.hid rfl⟩
  have H1 : Hid (HpAt w1 B hb (.slice none 0 0) []) := Lib.hid (by rw [HHB.out]; exact h1)
  have H2 : Hid (Below B w w1) := Lib.hid h2
  have HB1 : Hid (B ≤ w1.heap.size) := Lib.hid (by omega)
  rw [show ptr9 B = ptr9 hb by rw [HHB.out]]
  clear h1 h2 hlt1 hnew
  have hp1 := Lib.hid (Push_any H1.out isHp_nil (by simp) HB1.out (5, 1))
  go_wp2_with fail
  refine hp1.out.mono ?_
  rintro e w2 ⟨rfl, v2, M2, h1, h2, h3, h4, h5⟩
  have HP2 := Lib.hid h1
  have HI2 := Lib.hid h2
  have HM2 := Lib.hid h3
  have HL2 : Hid (Below B w w2) := Lib.hid (H2.out.trans (h4.below HB1.out (fun k hk => by cases hk; exact H1.out.far) (fun k hk => by cases hk)))
  have HB2 : Hid (B ≤ w2.heap.size) := Lib.hid (Nat.le_trans HB1.out h4.size)
  clear h1 h2 h3 h4 h5 hp1 H1 H2 HB1
  have hl2 : M2.length = 1 := by have := HM2.out.length_eq; simpa using this
  have hp2 := Lib.hid (Push_any HP2.out HI2.out (by omega) HB2.out (3, 2))
  go_wp2_with fail
  refine hp2.out.mono ?_
  rintro e w3 ⟨rfl, v3, M3, h1, h2, h3, h4, h5⟩
  have HP3 := Lib.hid h1
  have HI3 := Lib.hid h2
  have HA : Hid (at2 M3 0 = (3, 2)) := Lib.hid (two_least h2 HM2.out h3)
  have hl3 : M3.length = 2 := by have := h3.length_eq; simp only [List.length_append, List.length_singleton] at this; omega
  have HL3 : Hid (Below B w w3) := Lib.hid (HL2.out.trans (h4.below HB2.out (fun k hk => by cases hk; exact HP2.out.far) (fun k hk => (HP2.out.row.lt k hk).1)))
  have HB3 : Hid (B ≤ w3.heap.size) := Lib.hid (Nat.le_trans HB2.out h4.size)
  clear h1 h2 h3 h4 h5 hp2 HP2 HI2 HM2 HL2 HB2 hl2
  have hpo := Lib.hid (Pop_any HP3.out HI3.out (by omega))
  have hd : decide (0 < M3.length) = true := decide_eq_true (by omega)
  rw [HA.out, hd] at hpo
  clear hd
  go_wp2_with fail
  refine hpo.out.mono ?_
  rintro e w4 ⟨v4, M4, rfl, h1, h2, h3, h4, h5, h6⟩
  have HL4 : Hid (Below B w w4) := Lib.hid (HL3.out.trans (h4.below HB3.out (fun k hk => by cases hk; exact HP3.out.far) (fun k hk => (HP3.out.row.lt k hk).1)))
  have HB4 : Hid (B ≤ w4.heap.size) := Lib.hid (Nat.le_trans HB3.out h4.size)
  clear h1 h2 h3 h4 h5 h6 hpo HP3 HI3 HL3 HB3 HA hl3
  go_wp2_with (with_reducible refine stop_at (o := ⟨none, _, _, _, _, _⟩) ?_)
  unfold Stopped
  refine wpList_store_last rfl _ _ _ rfl _ (itC (3, 2)).toArray _ rfl rfl rfl dueTy.size rfl (all_oneCell_toArray (itC_one (3, 2))) ?_
  obtain ⟨w5, HW5⟩ : ∃ w5, Hid (w5 = w4.alloc (.cells (itC (3, 2)).toArray 30)) := ⟨_, Lib.hid rfl⟩
  obtain ⟨b, HBB⟩ : ∃ b, Hid (b = w4.heap.size) := ⟨_, Lib.hid rfl⟩
  rw [← HW5.out, ← HBB.out]
  have HC5 : Hid (COwn w5 b (itC (3, 2))) := Lib.hid (by rw [HW5.out, HBB.out]; exact COwn.new (itC (3, 2)) _)
  have HL5 : Hid (Below B w w5) := Lib.hid (by rw [HW5.out]; exact HL4.out.alloc HB4.out _)
  clear HW5 HBB HL4 HB4
  have c0 := HC5.out.cell (j := 0) (v := .int .i64 3) rfl
  have c1 := HC5.out.cell (j := 1) (v := .int .i64 2) rfl
  have hq := fun w => eql_it (3, 2) (3, 2) w
  have hg := guardDue
  go_wp2_with fail
  go_ret
  exact ⟨rfl, HL5.out⟩
end Go.Proofs.Ytchmdnopgfmpdaa
