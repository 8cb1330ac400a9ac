/-
  Layer 16's example; two lists held against each other. Conditions: none beyond the premises of each theorem.
-/
import Derived.Test.YtiffgmgefpoblaaDoorFieldWay
import Derived.Test.YtiffgmgefpoblaaDoorGridRefRight
namespace Go.Proofs.YtiffgmgefpoblaaDoor
open Go.RowKit Hp Fld

theorem wrap64_small {n : Nat} (h : n < 1000) : wrap64 (n : Int) = (n : Int) := by unfold wrap64; omega
theorem wrapI_small {n : Nat} (h : n < 1000) : IntKind.i64.wrap (n : Int) = (n : Int) := by rw [IntKind.wrap_i64]; omega
theorem right_example : rightM 2 1 ⟨#[46, 67]⟩ = true := by
  unfold rightM
  refine Grid.rightB_iff.2 ⟨by decide, by decide, 1, by decide, fun i hi => ?_⟩
  have hlt := Grid.openAt_lt hi
  have hc : i = 0 ∨ i = 1 := by
    have : i < 2 := hlt
    omega
  rcases hc with rfl | rfl
  · exact .step (.base rfl) (by decide) (by decide)
  · exact .base rfl
theorem least_one : Least [46, 67] 2 [1] 0 1 := ⟨.src (by simp) (by decide), fun m _ => Nat.zero_le m⟩
theorem least_zero : Least [46, 67] 2 [1] 1 0 := ⟨.step least_one.1 (by decide) (by decide), fun m hm => by
  match m, hm with
  | 0, hm => have := hm.zero; simp at this
  | m + 1, _ => omega⟩
theorem field_example {F : List Int} (h : IsField [46, 67] 2 [1] 2 F) : F.length = 2 ∧ fat F 0 = 2 ∧ fat F 1 = 0 := ⟨h.len, h.least least_zero, h.least least_one⟩
set_option maxRecDepth 100000 in
theorem awake_any (w : World) : Calls Tryd.prog 9 #[] w fun e w' => e = .returned (.bool true) ∧ Below w.heap.size w w' := by
  obtain ⟨c, HC⟩ : ∃ c, Hid (c = (⟨#[46, 67]⟩ : ByteArray)) := ⟨_, Lib.hid rfl⟩
  have hr := right_example
  rw [← HC.out] at hr
  have HR := Lib.hid hr
  clear hr
  go_enter Tryd.func9, Tryd.ntmps9
  go_wp2_with (with_reducible refine stop_at (o := ⟨some 5, _, _, _, _, _⟩) ?_)
  unfold Stopped
  rw [← HC.out]
  refine wpList_nums rfl 24 3 .i64 1 _ rfl [1] Tryd.underlying24 oneInt7 (by kernel_rfl) rfl (by decide) (by decide) rfl ?_
  intro w2 p hpe hnm hbl
  have HB := Lib.hid hbl.out
  have hco := Lib.hid (Costs_yes (cap := 1) (st := 2) 2 1 c hnm.out HR.out (by decide) (by decide) (by decide))
  clear hpe hnm hbl
  simp only [Act.put, List.setIfInBounds_toArray, List.set_cons_zero, List.set_cons_succ]
  go_wp2_with fail
  refine hco.out.mono ?_
  rintro e w3 ⟨g, F, rfl, hg, hrow, hfi, hb3⟩
  rw [HC.out] at hfi
  obtain ⟨hl, h0, h1⟩ := field_example hfi
  have c0 := hrow.cell (rowV_at (fat_eq (F := F) (i := 0) (by omega)))
  have c1 := hrow.cell (rowV_at (fat_eq (F := F) (i := 1) (by omega)))
  rw [h0] at c0
  rw [h1] at c1
  rw [hl]
  have HB3 : Hid (Below w.heap.size w w3) := Lib.hid (HB.out.trans (hb3.mono HB.out.size))
  clear hco hg hrow hfi hb3 hl h0 h1
  go_wp2_with (go_at_call 13; refine (Num_nil _).mono ?_; rintro e w9 ⟨rfl, rfl⟩)
  go_ret
  exact ⟨rfl, HB3.out⟩
set_option maxRecDepth 100000 in
/-- are two lists alike? -/
theorem Ints_any {w : World} {A B : Option Addr} {c1 c2 : Nat} {l m : List Int} (hl : Nums w .i64 A l) (hm : Nums w .i64 B m) (hll : l.length ≤ 1000) :
    Calls Tryd.prog 14 #[.slice A l.length c1, .slice B m.length c2] w fun e w' => e = .returned (.int .i64 (if l = m then 1 else 0)) ∧ Below w.heap.size w w' := by
  have HL := Lib.hid hl
  have HM := Lib.hid hm
  obtain ⟨r, HR⟩ : ∃ r : Int, Hid (r = if l = m then 1 else 0) := ⟨_, Lib.hid rfl⟩
  rw [← HR.out]
  clear hl hm
  by_cases hne : l.length = m.length
  · have HNE := Lib.hid hne
    obtain ⟨n, HN⟩ : ∃ n, Hid (n = l.length) := ⟨_, Lib.hid rfl⟩
    rw [← hne, ← HN.out]
    rw [← HN.out] at hll
    clear hne
    go_enter Tryd.func14, Tryd.ntmps14
    go_wp2_with fail
    go_loopw [5] (fun u wr => ∃ k : Nat, u = .int .i64 (k : Int) ∧ k ≤ n ∧ (∀ i, i < k → l[i]? = m[i]?) ∧ Below w.heap.size w wr) (fun u _ => n - (intOf u).toNat)
    case atStart => exact ⟨0, rfl, Nat.zero_le _, fun i hi => by omega, Below.refl _ _⟩
    case round =>
      obtain ⟨k, rfl, hk, heq, hbl⟩ := hrel
      have HE := Lib.hid heq
      have HB := Lib.hid hbl
      clear heq hbl
      by_cases hkn : k < n
      · have hkl : k < l.length := by rw [← HN.out]; exact hkn
        have hkm : k < m.length := by rw [← HNE.out]; exact hkl
        obtain ⟨x, HX⟩ : ∃ x, Hid (l[k]? = some x) := ⟨_, Lib.hid (List.getElem?_eq_getElem hkl)⟩
        obtain ⟨y, HY⟩ : ∃ y, Hid (m[k]? = some y) := ⟨_, Lib.hid (List.getElem?_eq_getElem hkm)⟩
        obtain ⟨a, rfl, h1⟩ := (HL.out.carry HB.out).at_ HX.out
        obtain ⟨b, rfl, h2⟩ := (HM.out.carry HB.out).at_ HY.out
        clear hkl hkm
        by_cases hxy : x = y
        · go_wp2_with fail
          go_quiet (fail)
          subst hxy
          clear h1 h2
          go_wp2_with fail
          go_roundw
          case rel => exact ⟨k + 1, by go_num, hkn, fun i hi => by
            by_cases e : i = k
            · rw [e, HX.out, HY.out]
            · exact HE.out i (by omega), below_drewN HB.out nq⟩
          case measure => simp [intOf]; omega
        · go_wp2_with fail
          go_quiet (fail)
          clear h1 h2
          go_wp2_with fail
          go_ret
          have h9 : ¬ l = m := fun e => by
            have h8 := HX.out
            rw [e, HY.out] at h8
            exact hxy (Option.some.inj h8).symm
          exact ⟨by rw [HR.out, if_neg h9]; rfl, below_drewN HB.out nq⟩
      · obtain rfl : k = n := by omega
        go_wp2_with fail
        go_ret
        have : l = m := List.ext_getElem? fun i => by
          by_cases hi : i < k
          · exact HE.out i hi
          · rw [List.getElem?_eq_none (by rw [← HN.out]; omega), List.getElem?_eq_none (by rw [← HNE.out, ← HN.out]; omega)]
        exact ⟨by rw [HR.out, if_pos this]; rfl, HB.out⟩
  · have h9 : ¬ l = m := fun e => hne (by rw [e])
    have hr : r = 0 := by rw [HR.out, if_neg h9]
    subst hr
    go_enter Tryd.func14, Tryd.ntmps14
    go_wp2_with fail
    go_ret
    exact ⟨rfl, Below.refl _ _⟩
end Go.Proofs.YtiffgmgefpoblaaDoor
