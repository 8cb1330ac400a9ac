/-
  The contracts of the program's own small functions of layer 9: Leaf, rising, areVals, number, fault, and the closure of Read that takes a part. Conditions: none beyond the premises of each theorem.
-/
import Derived.Test.YtakpjphgkpaipaaDoorNodeRef
import Derived.Test.YtakpjphgkpaipaaDoorPackGet
namespace Go.Proofs.YtakpjphgkpaipaaDoor
open Go.RowKit

set_option maxRecDepth 100000 in
theorem Leaf_any {w : World} {l : Lay3} (x : Nd) : Calls Tryd.prog 16 #[ndV l x] w fun e w' => e = .returned (.bool (decide (x.kids.length = 0))) ∧ Below w.heap.size w w' := by
  obtain ⟨A, B, C, ca, cb, cc⟩ := l
  obtain ⟨b, HB⟩ : ∃ b, Hid (b = w.heap.size) := ⟨_, Lib.hid rfl⟩
  obtain ⟨w1, HW⟩ : ∃ w1, Hid (w1 = w.alloc (.cells #[.slice A x.keys.length ca, .slice B x.vals.length cb, .slice C x.kids.length cc] 32)) := ⟨_, Lib.hid rfl⟩
  have HX : Hid (NdBox w1 b ⟨A, B, C, ca, cb, cc⟩ x) := Lib.hid (by rw [HW.out, HB.out]; exact NdBox.new (l := ⟨A, B, C, ca, cb, cc⟩) (x := x) _)
  have HBL : Hid (Below w.heap.size w w1) := Lib.hid (by rw [HW.out]; exact (Below.refl _ _).alloc (Nat.le_refl _) _)
  have c2 : w1.cell? ⟨b, 2, none⟩ = some (.slice C x.kids.length cc) := HX.out.c2
  clear HX
  go_enter Tryd.func16, Tryd.ntmps16
  go_upto_region 1 with (fail)
  rw [← HW.out, ← HB.out]
  clear HW HB
  go_wp2_with fail
  go_ret
  exact ⟨ret_bool (by rw [Bool.eq_iff_iff]; simp), HBL.out⟩

theorem keysB_cons {a : Int} {l : List Int} : keysB (a :: l) = true ↔ (0 ≤ a ∧ a ≤ 4294967295) ∧ keysB l = true ∧ ∀ z ∈ l, a < z := by
  rw [keysB_iff, keysB_iff, List.pairwise_cons]
  constructor
  · rintro ⟨h1, h2, h3⟩
    exact ⟨h1 a (by simp), ⟨fun z hz => h1 z (by simp [hz]), h3⟩, h2⟩
  · rintro ⟨h1, ⟨h2, h3⟩, h4⟩
    refine ⟨fun z hz => ?_, h4, h3⟩
    rcases List.mem_cons.1 hz with rfl | hz
    · exact h1
    · exact h2 z hz
/-- the keys so far are keys that rise, all below least -/
structure Risen (l : List Int) (least : Int) : Prop where
  ok : keysB l = true
  lo : 0 ≤ least
  hi : least ≤ 4294967296
  all : ∀ z ∈ l, z < least
theorem Risen.nil : Risen [] 0 := ⟨rfl, by decide, by decide, fun z hz => by cases hz⟩
theorem Risen.push {l : List Int} {least z : Int} (h : Risen l least) (h1 : least ≤ z) (h2 : z ≤ 4294967295) : Risen (l ++ [z]) (z + 1) := by
  have hk := keysB_iff.1 h.ok
  refine ⟨keysB_iff.2 ⟨fun y hy => ?_, ?_⟩, by have := h.lo; omega, by omega, fun y hy => ?_⟩
  · rcases List.mem_append.1 hy with hy | hy
    · exact hk.1 y hy
    · rw [List.mem_singleton.1 hy]
      have := h.lo
      omega
  · rw [List.pairwise_append]
    refine ⟨hk.2, List.pairwise_singleton _ _, fun a ha b hb => ?_⟩
    rw [List.mem_singleton.1 hb]
    have := h.all a ha
    omega
  · rcases List.mem_append.1 hy with hy | hy
    · have := h.all y hy
      omega
    · rw [List.mem_singleton.1 hy]
      omega
/-- one that breaks it: least is 0, or the last key and one -/
structure RisenAt (l : List Int) (least : Int) : Prop where
  is : Risen l least
  last : least = 0 ∨ (least - 1) ∈ l
theorem RisenAt.nil : RisenAt [] 0 := ⟨.nil, .inl rfl⟩
theorem RisenAt.push {l : List Int} {least z : Int} (h : RisenAt l least) (h1 : least ≤ z) (h2 : z ≤ 4294967295) : RisenAt (l ++ [z]) (z + 1) := ⟨h.is.push h1 h2, .inr (by simp)⟩
theorem RisenAt.stop {l t : List Int} {least z : Int} (h : RisenAt l least) (hz : z < least ∨ 4294967295 < z) : keysB (l ++ z :: t) = false := by
  rw [Bool.eq_false_iff]
  intro hk
  obtain ⟨h1, h2⟩ := keysB_iff.1 hk
  have hz2 := h1 z (by simp)
  rw [List.pairwise_append] at h2
  rcases h.last with h3 | h3
  · omega
  · have := h2.2.2 _ h3 z (by simp)
    omega
def RisingRel (keys : List Int) (least i : Value) : Prop := ∃ (k : Nat) (m : Int), k ≤ keys.length ∧ i = .int .i64 (k : Int) ∧ least = .int .i64 m ∧ RisenAt (keys.take k) m
set_option maxRecDepth 100000 in
theorem rising_any {w : World} {A : Option Addr} {cap : Nat} {keys : List Int} (h : Nums w .i64 A keys) (hl : keys.length ≤ maxLen) (hw : ∀ z ∈ keys, -9223372036854775808 ≤ z ∧ z ≤ 9223372036854775807) :
    Calls Tryd.prog 24 #[.slice A keys.length cap] w fun e w' => e = .returned (.bool (keysB keys)) ∧ w = w' := by
  have HV := Lib.hid h
  have HW := Lib.hid hw
  have hlen : keys.length ≤ maxLen := hl
  unfold maxLen at hlen
  clear h hw hl
  go_enter Tryd.func24, Tryd.ntmps24
  go_wp2_with fail
  go_loop [3, 8] (fun m i => RisingRel keys m i) (fun _ i => keys.length - (intOf i).toNat)
  case atStart => exact ⟨0, 0, Nat.zero_le _, rfl, rfl, RisenAt.nil⟩
  case round =>
    obtain ⟨k, m, hk, rfl, rfl, hr⟩ := hrel
    have HR := Lib.hid hr
    have hm1 := hr.is.lo
    have hm2 := hr.is.hi
    clear hr
    by_cases hlt : k < keys.length
    · obtain ⟨a, rfl, hc⟩ := nums_cell HV.out hlt
      obtain ⟨z, HZ⟩ : ∃ z, Hid (z = keys[k]) := ⟨_, Lib.hid rfl⟩
      have hzw := HW.out z (by rw [HZ.out]; exact List.getElem_mem _)
      rw [← HZ.out] at hc
      have HT : Hid (keys.take (k + 1) = keys.take k ++ [z]) := Lib.hid (by rw [HZ.out, List.take_add_one, List.getElem?_eq_getElem hlt]; rfl)
      have HS : Hid (keys = keys.take k ++ z :: keys.drop (k + 1)) := Lib.hid (by rw [HZ.out, List.getElem_cons_drop hlt, List.take_append_drop])
      by_cases h1 : z < m
      · go_wp2_with fail
        go_ret
        exact ⟨ret_bool (by rw [HS.out]; exact (HR.out.stop (.inl h1)).symm), rfl⟩
      · by_cases h2 : 4294967295 < z
        · go_wp2_with fail
          go_ret
          exact ⟨ret_bool (by rw [HS.out]; exact (HR.out.stop (.inr h2)).symm), rfl⟩
        · go_wp2_with fail
          go_round
          case rel =>
            refine ⟨k + 1, z + 1, hlt, by go_num, by go_num, ?_⟩
            rw [HT.out]
            exact HR.out.push (by omega) (by omega)
          case measure => simp [intOf]; omega
    · obtain rfl : k = keys.length := by omega
      go_wp2_with fail
      go_ret
      refine ⟨ret_bool ?_, rfl⟩
      have := HR.out.is.ok
      rw [List.take_length] at this
      exact this.symm

def ValsRel (vals : List ByteArray) (i : Value) : Prop := ∃ k : Nat, k ≤ vals.length ∧ i = .int .i64 (k : Int) ∧ (vals.take k).all okVal = true
set_option maxRecDepth 100000 in
theorem areVals_any {w : World} {A : Option Addr} {cap : Nat} {vals : List ByteArray} (h : Strs w A vals.length vals) (hl : vals.length ≤ maxLen) (hw : ∀ v ∈ vals, v.size ≤ maxLen) :
    Calls Tryd.prog 25 #[.slice A vals.length cap] w fun e w' => e = .returned (.bool (vals.all okVal)) ∧ w = w' := by
  have HV := Lib.hid h
  have HW := Lib.hid hw
  have hlen : vals.length ≤ maxLen := hl
  unfold maxLen at hlen
  clear h hw hl
  go_enter Tryd.func25, Tryd.ntmps25
  go_wp2_with fail
  go_loop [7] (fun i => ValsRel vals i) (fun i => vals.length - (intOf i).toNat)
  case atStart => exact ⟨0, Nat.zero_le _, rfl, rfl⟩
  case round =>
    obtain ⟨k, hk, rfl, hall⟩ := hrel
    have HALL := Lib.hid hall
    clear hall
    by_cases hlt : k < vals.length
    · obtain ⟨a, rfl, hc⟩ := strs_cell HV.out hlt
      obtain ⟨v, HVV⟩ : ∃ v, Hid (v = vals[k]) := ⟨_, Lib.hid rfl⟩
      have HVS : Hid (v.size ≤ maxLen) := Lib.hid (HW.out v (by rw [HVV.out]; exact List.getElem_mem _))
      rw [← HVV.out] at hc
      have HT : Hid (vals.take (k + 1) = vals.take k ++ [v]) := Lib.hid (by rw [HVV.out, List.take_add_one, List.getElem?_eq_getElem hlt]; rfl)
      by_cases hv : v.size = 12
      · have hv2 : (v.size : Int) = 12 := by omega
        have HO : Hid (okVal v = true) := Lib.hid (by simpa [okVal] using hv)
        clear hv
        go_wp2_with fail
        go_round
        case rel =>
          refine ⟨k + 1, hlt, by go_num, ?_⟩
          rw [HT.out, List.all_append, HALL.out]
          simp [HO.out]
        case measure => simp [intOf]; omega
      · have hv2 : ¬ (v.size : Int) = 12 := by omega
        have HO : Hid (vals.all okVal = false) := Lib.hid (by
          rw [Bool.eq_false_iff]
          intro h
          have := List.all_eq_true.1 h v (by rw [HVV.out]; exact List.getElem_mem _)
          exact hv (by simpa [okVal] using this))
        clear hv
        go_wp2_with fail
        go_ret
        exact ⟨ret_bool HO.out.symm, rfl⟩
    · obtain rfl : k = vals.length := by omega
      go_wp2_with fail
      go_ret
      refine ⟨ret_bool ?_, rfl⟩
      have := HALL.out
      rw [List.take_length] at this
      exact this.symm

theorem fault_any (n : Int) (hn : n ≠ 0) (w : World) : Calls Tryd.prog 21 #[.int .i64 n] w (FromPost n w.heap.size w) := by
  go_enter Tryd.func21, Tryd.ntmps21
  go_wp2_with fail
  refine (Tag_from _ w.heap.size n _ w (.inr ⟨hn, .base⟩) (Nat.le_refl _)).mono ?_
  rintro e w' ⟨v, rfl, he, hb⟩
  have HE := Lib.hid he
  have HB := Lib.hid hb
  clear he hb
  go_wp2_with fail
  go_ret
  exact ⟨_, rfl, HE.out, HB.out⟩

theorem number_any (s : ByteArray) (w : World) (h4 : s.size ≤ 4) : Calls Tryd.prog 28 #[.string s] w fun e w' => e = .returned (.int .i64 (num s.data.toList : Int)) ∧ Below w.heap.size w w' := by
  obtain ⟨k, hk⟩ : ∃ k, s.size = k := ⟨_, rfl⟩
  rcases Nat.eq_zero_or_pos k with h0 | h0
  · have HZ : Hid ((num s.data.toList : Int) = 0) := Lib.hid (by
      have : s.data.toList = [] := List.length_eq_zero_iff.1 (by rw [Array.length_toList]; show s.size = 0; omega)
      rw [this]; rfl)
    have hk0 : s.size = 0 := by omega
    clear hk h0 h4
    go_enter Tryd.func28, Tryd.ntmps28
    go_wp2_with fail
    refine (Get_width s _ w (by omega)).mono ?_
    rintro e w' ⟨v, l, rfl, hc, hb⟩
    obtain ⟨t, x, rfl⟩ : ∃ t x, v = .iface t x := by cases hc <;> exact ⟨_, _, rfl⟩
    have HB := Lib.hid hb
    clear hc hb
    go_wp2_with fail
    go_ret
    exact ⟨ret_int HZ.out.symm, HB.out⟩
  · have HT : Hid (s.data.toList.take k = s.data.toList) := Lib.hid (List.take_of_length_le (by rw [Array.length_toList]; show s.size ≤ k; omega))
    have hk4 : k ≤ 4 := by omega
    go_enter Tryd.func28, Tryd.ntmps28
    go_wp2_with fail
    refine (Get_yes s k w (by omega) hk4 (by omega)).mono ?_
    rw [HT.out]
    rintro e w' ⟨rfl, rfl⟩
    go_wp2_with fail
    go_ret
    exact ⟨rfl, Below.refl _ _⟩

/-- the text that is left, at block d, and whether a part was missing, at block h -/
structure TakeAt (w : World) (d h : Nat) (t : ByteArray) (sh : Bool) : Prop where
  dc : w.cell? ⟨d, 0, none⟩ = some (.string t)
  hc : w.cell? ⟨h, 0, none⟩ = some (.bool sh)
  df : w.frozen? ⟨d, 0, none⟩ = false
  hf : w.frozen? ⟨h, 0, none⟩ = false
theorem take_short {w : World} {d h n : Nat} {t : ByteArray} {sh : Bool} (ht : TakeAt w d h t sh) (hn : t.size < n) :
    Calls Tryd.prog 27 #[.int .i64 (n : Int), .pointer (some ⟨d, 0, none⟩), .pointer (some ⟨h, 0, none⟩)] w fun e w' => e = .returned (.string ⟨#[]⟩) ∧ w' = w.setCell ⟨h, 0, none⟩ (.bool true) := by
  have h1 := ht.dc
  have h2 := ht.hc
  have h3 := ht.hf
  have hn2 : (t.size : Int) < (n : Int) := by omega
  clear ht
  go_enter Tryd.func27, Tryd.ntmps27
  go_wp2_with fail
  go_ret
  exact ⟨rfl, rfl⟩
theorem take_yes {w : World} {d h n : Nat} {t : ByteArray} {sh : Bool} (ht : TakeAt w d h t sh) (hn : n ≤ t.size) :
    Calls Tryd.prog 27 #[.int .i64 (n : Int), .pointer (some ⟨d, 0, none⟩), .pointer (some ⟨h, 0, none⟩)] w fun e w' => e = .returned (.string (t.extract 0 n)) ∧ w' = w.setCell ⟨d, 0, none⟩ (.string (t.extract n t.size)) := by
  have h1 := ht.dc
  have h2 := ht.hc
  have h3 := ht.df
  have hn2 : ¬ (t.size : Int) < (n : Int) := by omega
  clear ht
  go_enter Tryd.func27, Tryd.ntmps27
  go_wp2_with fail
  go_ret
  exact ⟨rfl, rfl⟩
end Go.Proofs.YtakpjphgkpaipaaDoor
