/-
  The contract of the document's own Read for layer 9, of every text. Conditions: none beyond the premises of each theorem.
-/
import Derived.Test.YtakpjphgkpaipaaDoorNodeRefRead
namespace Go.Proofs.YtakpjphgkpaipaaDoor
open Go.RowKit

theorem size_list (s : ByteArray) : s.data.toList.length = s.size := by rw [Array.length_toList]; rfl
theorem list_at (s : ByteArray) {i : Nat} (h : i < s.size) : s.data.toList[i]? = some (s[i]'h) := by
  rw [List.getElem?_eq_getElem (by rw [size_list]; exact h)]
  rfl
theorem RefRead_head (s : ByteArray) (w : World) {l : Bool} {k : Nat} {r : List UInt8} (hh : headN s.data.toList = some (l, k, r)) : Calls Tryd.prog 19 #[.string s] w (RefReadPost w (nodeR l k r)) := by
  obtain ⟨h1, h2, h3⟩ := headN_some hh
  have hsz : s.size = sizeN l k := by rw [← size_list, h1, ← h3]; rfl
  have hr : r = s.data.toList.drop 2 := by rw [h1]; rfl
  have hs1 : 1 < s.size := by rw [hsz]; unfold sizeN; split <;> omega
  have e0 : s[0]'(by omega) = if l = true then (0 : UInt8) else 1 := by
    have := list_at s (i := 0) (by omega)
    rw [h1] at this
    exact (Option.some.inj this).symm
  have e1 : s[1]'hs1 = UInt8.ofNat k := by
    have := list_at s (i := 1) hs1
    rw [h1] at this
    exact (Option.some.inj this).symm
  have hk : (UInt8.ofNat k).toNat = k := by rw [UInt8.toNat_ofNat']; omega
  rw [hr]
  cases l with
  | true => exact RefRead_leaf s w k _ hs1 (by rw [e0]; rfl) e1 hk h2 hsz
  | false => exact RefRead_inner s w k _ hs1 (by rw [e0]; rfl) e1 hk h2 hsz
theorem headN_none {s : ByteArray} (h : headN s.data.toList = none) : s.size < 2 ∨ ∃ (h1 : 1 < s.size), 1 < (s[0]'(by omega)).toNat ∨ 7 < (s[1]'h1).toNat ∨
    ((s[0]'(by omega)).toNat ≤ 1 ∧ (s[1]'h1).toNat ≤ 7 ∧ (((s[0]'(by omega)).toNat = 0 ∧ s.size ≠ 2 + 16 * (s[1]'h1).toNat) ∨ ((s[0]'(by omega)).toNat = 1 ∧ s.size ≠ 3 + 5 * (s[1]'h1).toNat))) := by
  rcases Nat.lt_or_ge s.size 2 with h2 | h2
  · exact .inl h2
  · refine .inr ⟨h2, ?_⟩
    have hl : s.data.toList = s[0]'(by omega) :: s[1]'h2 :: s.data.toList.drop 2 := by
      apply List.ext_getElem?
      intro i
      match i with
      | 0 => rw [list_at s (by omega)]; rfl
      | 1 => rw [list_at s h2]; rfl
      | i + 2 => rw [List.getElem?_cons_succ, List.getElem?_cons_succ, List.getElem?_drop, Nat.add_comm 2 i]
    have hlen := size_list s
    rw [hl] at h hlen
    unfold headN at h
    simp only at h
    split at h
    · cases h
    · rename_i hc
      rw [UInt8.le_iff_toNat_le, UInt8.le_iff_toNat_le] at hc
      have hc : ¬ ((s[0]'(by omega)).toNat ≤ 1 ∧ (s[1]'h2).toNat ≤ 7 ∧ (s[0]'(by omega) :: s[1]'h2 :: s.data.toList.drop 2).length = sizeN (decide (s[0]'(by omega) = 0)) (s[1]'h2).toNat) := hc
      rw [hlen] at hc
      by_cases a1 : 1 < (s[0]'(by omega)).toNat
      · exact .inl a1
      · by_cases a2 : 7 < (s[1]'h2).toNat
        · exact .inr (.inl a2)
        · refine .inr (.inr ⟨by omega, by omega, ?_⟩)
          by_cases a3 : (s[0]'(by omega)).toNat = 0
          · have e : s[0]'(by omega) = 0 := UInt8.toNat_inj.1 a3
            rw [decide_eq_true e] at hc
            refine .inl ⟨a3, fun e2 => hc ⟨by omega, by omega, ?_⟩⟩
            unfold sizeN
            rw [if_pos rfl]
            exact e2
          · have e : ¬ s[0]'(by omega) = 0 := fun e => a3 (by rw [e]; rfl)
            rw [decide_eq_false e] at hc
            refine .inr ⟨by omega, fun e2 => hc ⟨by omega, by omega, ?_⟩⟩
            unfold sizeN
            rw [if_neg (by decide)]
            exact e2
set_option maxRecDepth 100000 in
set_option maxHeartbeats 4000000 in
theorem RefRead_no (s : ByteArray) (w : World) (hm : s.size ≤ maxLen) (hh : headN s.data.toList = none) : Calls Tryd.prog 19 #[.string s] w fun e w' => e = .returned (.tuple #[ndV Lay3.none_ Nd.empty, .bool false]) ∧ Below w.heap.size w w' := by
  have hz := Tryd.zeroRefNode
  obtain ⟨p, HP⟩ : ∃ p, Hid (p = w.heap.size) := ⟨_, Lib.hid rfl⟩
  obtain ⟨q, HQ⟩ : ∃ q, Hid (q = p + 1) := ⟨_, Lib.hid rfl⟩
  obtain ⟨w1, HW⟩ : ∃ w1, Hid (w1 = (w.alloc (.cells #[.slice none 0 0, .slice none 0 0, .slice none 0 0] 25)).alloc (.cells #[.slice none 0 0, .slice none 0 0, .slice none 0 0] 25)) := ⟨_, Lib.hid rfl⟩
  have HBQ : Hid (NdBox w1 q Lay3.none_ Nd.empty) := Lib.hid (by rw [HW.out, HQ.out, HP.out]; exact ⟨by simp [Lay3.none_, Nd.empty], by simp [Lay3.none_, Nd.empty], by simp [Lay3.none_, Nd.empty]⟩)
  have d0 : w1.cell? ⟨p, 0, none⟩ = some (.slice none 0 0) := by rw [HW.out, HP.out]; simp
  have d1 : w1.cell? ⟨p, 1, none⟩ = some (.slice none 0 0) := by rw [HW.out, HP.out]; simp
  have d2 : w1.cell? ⟨p, 2, none⟩ = some (.slice none 0 0) := by rw [HW.out, HP.out]; simp
  have f0 : w1.frozen? ⟨p, 0, none⟩ = false := by rw [HW.out, HP.out]; simp
  have f1 : w1.frozen? ⟨p, 1, none⟩ = false := by rw [HW.out, HP.out]; simp
  have f2 : w1.frozen? ⟨p, 2, none⟩ = false := by rw [HW.out, HP.out]; simp
  obtain ⟨w9, HW9⟩ : ∃ w9, Hid (w9 = ((w1.setCell ⟨p, 0, none⟩ (.slice Lay3.none_.A Nd.empty.keys.length Lay3.none_.ca)).setCell ⟨p, 1, none⟩ (.slice Lay3.none_.B Nd.empty.vals.length Lay3.none_.cb)).setCell ⟨p, 2, none⟩ (.slice Lay3.none_.C Nd.empty.kids.length Lay3.none_.cc)) := ⟨_, Lib.hid rfl⟩
  have HBX9 : Hid (NdBox w9 p Lay3.none_ Nd.empty) := Lib.hid (by rw [HW9.out]; exact NdBox.set3 (l := Lay3.none_) (x := Nd.empty) d0 d1 d2)
  have HB9 : Hid (Below w.heap.size w w9) := Lib.hid (by
    have hle : w.heap.size ≤ p := by rw [HP.out]; exact Nat.le_refl _
    have hb1 : Below w.heap.size w w1 := by rw [HW.out]; exact ((Below.refl _ _).alloc (Nat.le_refl _) _).alloc (by simp) _
    rw [HW9.out]
    exact ((hb1.setCell hle _).setCell hle _).setCell hle _)
  obtain ⟨n, hn⟩ : ∃ n, s.size = n := ⟨_, rfl⟩
  rcases headN_none hh with h2 | ⟨h1, h2⟩
  · have hl : (n : Int) < 2 := by omega
    clear hh h2 hm
    go_enter Tryd.func19, Tryd.ntmps19
    go_upto_region 2 with (fail)
    rw [← HW.out, ← HP.out, ← HQ.out]
    clear HW HP HQ
    go_wp2_with (with_reducible refine stop_at (o := ⟨some 22, _, _, _, _, _⟩) ?_)
    refine wpList_load_nd Tryd.ndRef (by rfl) _ rfl q rfl Lay3.none_ Nd.empty HBQ.out ?_
    go_wp2_with fail
    rw [← HW9.out]
    exact bodyPost_ret (results_nd2 Tryd.ndRef rfl _ _ p Lay3.none_ Nd.empty (.bool false) rfl rfl HBX9.out) rfl ⟨rfl, HB9.out⟩
  · obtain ⟨c0, e0⟩ : ∃ c0, s[0]'(by omega) = c0 := ⟨_, rfl⟩
    obtain ⟨c1, e1⟩ : ∃ c1, s[1]'h1 = c1 := ⟨_, rfl⟩
    rw [e0, e1] at h2
    obtain ⟨k, hk⟩ : ∃ k, c1.toNat = k := ⟨_, rfl⟩
    rw [hk] at h2
    have hl : ¬ (n : Int) < 2 := by omega
    have hn1 : (1 : Int) < (n : Int) := by omega
    have hn0 : 0 < n := by omega
    have HSM : Hid (n ≤ 9223372036854775807) := Lib.hid (by rw [← hn]; exact hm)
    clear hh hm
    rcases h2 with h2 | h2 | ⟨h2, h3, h4⟩
    · have hc0 : (1 : Int) < (c0.toNat : Int) := by omega
      clear h2
      go_enter Tryd.func19, Tryd.ntmps19
      go_upto_region 2 with (fail)
      rw [← HW.out, ← HP.out, ← HQ.out]
      clear HW HP HQ
      go_wp2_with (with_reducible refine stop_at (o := ⟨some 22, _, _, _, _, _⟩) ?_)
      refine wpList_load_nd Tryd.ndRef (by rfl) _ rfl q rfl Lay3.none_ Nd.empty HBQ.out ?_
      go_wp2_with fail
      rw [← HW9.out]
      exact bodyPost_ret (results_nd2 Tryd.ndRef rfl _ _ p Lay3.none_ Nd.empty (.bool false) rfl rfl HBX9.out) rfl ⟨rfl, HB9.out⟩
    · have hc1 : (7 : Int) < (k : Int) := by omega
      rcases (show 1 < c0.toNat ∨ ¬ 1 < c0.toNat by omega) with h4 | h4
      case' inl => have hc0 : (1 : Int) < (c0.toNat : Int) := by omega
      case' inr => have hc0 : ¬ (1 : Int) < (c0.toNat : Int) := by omega
      all_goals
        clear h2 h4
        go_enter Tryd.func19, Tryd.ntmps19
        go_upto_region 2 with (fail)
        rw [← HW.out, ← HP.out, ← HQ.out]
        clear HW HP HQ
        go_wp2_with (with_reducible refine stop_at (o := ⟨some 22, _, _, _, _, _⟩) ?_)
        refine wpList_load_nd Tryd.ndRef (by rfl) _ rfl q rfl Lay3.none_ Nd.empty HBQ.out ?_
        go_wp2_with fail
        rw [← HW9.out]
        exact bodyPost_ret (results_nd2 Tryd.ndRef rfl _ _ p Lay3.none_ Nd.empty (.bool false) rfl rfl HBX9.out) rfl ⟨rfl, HB9.out⟩
    · have hc1 : ¬ (7 : Int) < (k : Int) := by omega
      rcases h4 with ⟨h4, h5⟩ | ⟨h4, h5⟩
      case' inl =>
        obtain rfl : c0 = 0 := UInt8.toNat_inj.1 h4
        have hne : ¬ (n : Int) = 2 + 16 * (k : Int) := by omega
      case' inr =>
        obtain rfl : c0 = 1 := UInt8.toNat_inj.1 h4
        have hne : ¬ (n : Int) = 3 + 5 * (k : Int) := by omega
        have hne2 : ¬ (n : Int) = 2 + 4 * (k : Int) + (k : Int) + 1 := by omega
      all_goals
        have hk7 : k ≤ 7 := h3
        clear h2 h3 h4 h5
        go_enter Tryd.func19, Tryd.ntmps19
        go_upto_region 2 with (fail)
        rw [← HW.out, ← HP.out, ← HQ.out]
        clear HW HP HQ
        go_wp2_with (with_reducible refine stop_at (o := ⟨some 42, _, _, _, _, _⟩) ?_)
        refine wpList_load_nd Tryd.ndRef (by rfl) _ rfl q rfl Lay3.none_ Nd.empty HBQ.out ?_
        go_wp2_with fail
        rw [← HW9.out]
        exact bodyPost_ret (results_nd2 Tryd.ndRef rfl _ _ p Lay3.none_ Nd.empty (.bool false) rfl rfl HBX9.out) rfl ⟨rfl, HB9.out⟩
/-- what Read answers of any text -/
theorem RefRead_any (s : ByteArray) (w : World) (hm : s.size ≤ maxLen) : Calls Tryd.prog 19 #[.string s] w fun e w' =>
    ∃ l, e = .returned (.tuple #[ndV l ((readN s.data.toList).getD Nd.empty), .bool (readN s.data.toList).isSome]) ∧ NdIs w' l ((readN s.data.toList).getD Nd.empty) ∧ Below w.heap.size w w' := by
  cases hh : headN s.data.toList with
  | none =>
    rw [readN_none_head hh]
    refine (RefRead_no s w hm hh).mono ?_
    rintro e w' ⟨rfl, hb⟩
    exact ⟨_, rfl, NdIs.empty _, hb⟩
  | some v =>
    obtain ⟨l, k, r⟩ := v
    rw [readN_of_head hh]
    refine (RefRead_head s w hh).mono ?_
    rintro e w' ⟨L, rfl, hn, hb⟩
    refine ⟨L, ?_, ?_, hb⟩
    · cases rightN (nodeR l k r) <;> rfl
    · cases h : rightN (nodeR l k r) with
      | true => rw [h] at hn; exact hn
      | false => rw [h] at hn; exact hn
end Go.Proofs.YtakpjphgkpaipaaDoor
