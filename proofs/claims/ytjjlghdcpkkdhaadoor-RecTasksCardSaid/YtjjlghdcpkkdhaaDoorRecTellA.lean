/-
  The closure by which rec reads the state of all. Conditions: none beyond the premises of each theorem.
-/
import Derived.Test.YtjjlghdcpkkdhaaDoorRecTell
namespace Go.Proofs.YtjjlghdcpkkdhaaDoor
open Go.RowKit

/-- the first j bytes, the others still 0 -/
def offPart (l : List Nat) (j : Nat) : List Nat := l.take j ++ List.replicate (8 - j) 0
theorem offPart_len {l : List Nat} (hl : l.length = 8) {j : Nat} (hj : j ≤ 8) : (offPart l j).length = 8 := by simp [offPart, hl]; omega
theorem offPart_set {l : List Nat} (hl : l.length = 8) {j : Nat} (hj : j < 8) : (offPart l j).set j (l[j]'(by omega)) = offPart l (j + 1) := by
  unfold offPart
  have e : 8 - j = (8 - (j + 1)) + 1 := by omega
  rw [List.set_append_right _ _ (by rw [List.length_take]; omega), List.length_take, Nat.min_eq_left (by omega), Nat.sub_self, e, List.replicate_succ, List.set_cons_zero, List.take_add_one, List.getElem?_eq_getElem (by omega), List.append_assoc]
  rfl
theorem offPart_all {l : List Nat} (hl : l.length = 8) : offPart l 8 = l := by simp [offPart, ← hl]
theorem alsCells_set (t : Int) (l : List Nat) (j n : Nat) : (alsCells ⟨t, l⟩).set (1 + j) (.int .u8 (n : Int)) = alsCells ⟨t, l.set j n⟩ := by
  rw [Nat.add_comm]
  simp [alsCells, offCells, List.map_set]
def TARel (n0 : Nat) (l : List Nat) (b g : Nat) (w : World) (i : Value) (wr : World) : Prop :=
  ∃ j : Nat, j ≤ 8 ∧ i = .int .i64 (j : Int) ∧ COwn wr b (alsCells Als.zero) ∧ COwn wr (b + 1) (alsCells ⟨n0, offPart l j⟩) ∧ Nums wr .i64 (some ⟨g, 0, none⟩) (ints (n0 :: l)) ∧ Below w.heap.size w wr
set_option maxRecDepth 100000 in
theorem tellAll_any (n0 : Nat) (l : List Nat) (g cap : Nat) (w : World) (hl : l.length = 8) (hs : ∀ n ∈ l, n < 256) (hn : Nums w .i64 (some ⟨g, 0, none⟩) (ints (n0 :: l))) :
    Calls Tryd.prog 36 #[.slice (some ⟨g, 0, none⟩) 9 cap] w fun e w' => e = .returned (.agg (alsCells (tellA (n0 :: l))).toArray) ∧ Below w.heap.size w w' := by
  have HL := Lib.hid hl
  have HS := Lib.hid hs
  have HN := Lib.hid hn
  obtain ⟨b, HB⟩ : ∃ b, Hid (b = w.heap.size) := ⟨_, Lib.hid rfl⟩
  have hg0 : w.cell? ⟨g, 0, none⟩ = some (.int .i64 (n0 : Int)) := by
    obtain ⟨A, hA, h⟩ := hn.at_ (i := 0) (z := (n0 : Int)) rfl
    obtain rfl := Option.some.inj hA
    simpa [Addr.add_mid] using h
  have HG : Hid (g < w.heap.size) := Lib.hid (below_block hg0)
  clear hl hs hn
  go_enter Tryd.func36, Tryd.ntmps36
  go_upto_region 1 with (fail)
  obtain ⟨w1, HW⟩ : ∃ w1, Hid (w1 = w.alloc (.cells #[.int .i64 0, .int .u8 0, .int .u8 0, .int .u8 0, .int .u8 0, .int .u8 0, .int .u8 0, .int .u8 0, .int .u8 0] 44)) := ⟨_, Lib.hid rfl⟩
  rw [← HW.out, ← HB.out]
  have HC1 : Hid (COwn w1 b (alsCells Als.zero)) := Lib.hid (by rw [HW.out, HB.out]; exact COwn.new (alsCells Als.zero) _)
  have HB1 : Hid (Below w.heap.size w w1 ∧ w1.heap.size = b + 1) := Lib.hid (by rw [HW.out, HB.out]; exact ⟨(Below.refl _ _).alloc (Nat.le_refl _) _, by simp⟩)
  have c0 : w1.cell? ⟨g, 0, none⟩ = some (.int .i64 (n0 : Int)) := (HB1.out.1.cell (p := ⟨g, 0, none⟩) (below_block hg0)).trans hg0
  have HN1 := Lib.hid (HN.out.carry HB1.out.1)
  clear HW hg0 HN
  go_wp2_with fail
  obtain ⟨w2, HW⟩ : ∃ w2, Hid (w2 = w1.alloc (.cells #[.int .i64 (n0 : Int), .int .u8 0, .int .u8 0, .int .u8 0, .int .u8 0, .int .u8 0, .int .u8 0, .int .u8 0, .int .u8 0] 44)) := ⟨_, Lib.hid rfl⟩
  rw [← HW.out, HB1.out.2]
  have hbb : Below w1.heap.size w1 w2 := by rw [HW.out]; exact (Below.refl _ _).alloc (Nat.le_refl _) _
  have HC2 : Hid (COwn w2 b (alsCells Als.zero)) := Lib.hid (HC1.out.carry hbb (by decide))
  have HD2 : Hid (COwn w2 (b + 1) (alsCells ⟨n0, offPart l 0⟩)) := Lib.hid (by
    rw [HW.out, ← HB1.out.2]
    exact COwn.new (alsCells ⟨n0, [0, 0, 0, 0, 0, 0, 0, 0]⟩) _)
  have HB2 := Lib.hid (HB1.out.1.trans (hbb.mono HB1.out.1.size))
  have HN2 := Lib.hid (HN1.out.carry hbb)
  clear HW hbb HC1 HN1 c0 HB1
  go_loopw [9] (fun i wr => TARel n0 l b g w i wr) (fun i _ => 8 - (intOf i).toNat)
  case atStart => exact ⟨0, by decide, rfl, HC2.out, HD2.out, HN2.out, HB2.out⟩
  case round =>
    obtain ⟨j, hj, rfl, h1, h2, h3, h4⟩ := hrel
    have HC3 := Lib.hid h1
    have HD3 := Lib.hid h2
    have HN3 := Lib.hid h3
    have HB3 := Lib.hid h4
    clear h1 h2 h3 h4 HC2 HD2 HN2 HB2
    by_cases hlt : j < 8
    · have hl8 : j < l.length := by rw [HL.out]; exact hlt
      obtain ⟨n, HNJ⟩ : ∃ n : Nat, Hid (n = l[j]) := ⟨_, Lib.hid rfl⟩
      have hn8 : (n : Int) % 256 = (n : Int) := by
        have := HS.out _ (List.getElem_mem hl8)
        rw [← HNJ.out] at this
        omega
      have hc : wr.cell? ⟨g, 1 + j, none⟩ = some (.int .i64 (n : Int)) := by
        obtain ⟨A, hA, h⟩ := HN3.out.at_ (i := j + 1) (z := (n : Int)) (by rw [HNJ.out]; simp [ints, hl8])
        obtain rfl := Option.some.inj hA
        rw [Addr.add_mid, Nat.zero_add, Nat.add_comm] at h
        exact h
      have hlen : (alsCells ⟨n0, offPart l j⟩).length = 9 := by simp [alsCells, offCells, offPart_len HL.out hj]
      have hd : wr.cell? ⟨b + 1, 1 + j, none⟩ = some ((alsCells ⟨n0, offPart l j⟩)[1 + j]'(by omega)) := HD3.out.cell (List.getElem?_eq_getElem _)
      have hf : wr.frozen? ⟨b + 1, 1 + j, none⟩ = false := HD3.out.free _
      obtain ⟨old, HOLD⟩ : ∃ old, Hid (old = (alsCells ⟨n0, offPart l j⟩)[1 + j]'(by omega)) := ⟨_, Lib.hid rfl⟩
      rw [← HOLD.out] at hd
      go_wp2_with fail
      go_roundw
      case rel =>
        have hp := HD3.out.put (i := 1 + j) (by omega) (.int .u8 (n : Int))
        rw [alsCells_set, HNJ.out, offPart_set HL.out hlt] at hp
        refine ⟨j + 1, hlt, by go_num, HC3.out.far (by omega) _ _, by rw [HNJ.out]; exact hp, ?_, HB3.out.setCell (by show w.heap.size ≤ b + 1; rw [HB.out]; omega) _⟩
        intro hp0
        obtain ⟨A, hA, hlt9, hcc⟩ := HN3.out hp0
        obtain rfl := Option.some.inj hA
        have hgb : g < b := by rw [HB.out]; exact HG.out
        refine ⟨_, rfl, by simpa using hlt9, fun i z hz => ?_⟩
        rw [World.cell?_setCell_other _ _ _ _ (by rw [Addr.add_mid]; intro hh; injection hh; omega)]
        exact hcc i z hz
      case measure => simp [intOf]; omega
    · obtain rfl : j = 8 := by omega
      go_wp2_with (with_reducible refine stop_at (o := ⟨some 22, _, _, _, _, _⟩) ?_)
      rw [offPart_all HL.out] at HD3
      refine wpList_load_c Tryd.alsTy rfl _ rfl (b + 1) 0 rfl (alsCells ⟨n0, l⟩) (alsCells_len ⟨HL.out, HS.out⟩) HD3.out.at_ ?_
      refine wpList_store_c Tryd.alsTy rfl _ _ rfl b (alsCells Als.zero) (alsCells ⟨n0, l⟩) (alsCells_len ⟨HL.out, HS.out⟩) rfl (alsCells_one _) rfl rfl HC3.out ?_
      intro w9 HW9 HC9
      have HB9 : Hid (Below w.heap.size w w9) := Lib.hid (below_cells9 HB3.out HW9.out (by rw [HB.out]; exact Nat.le_refl _))
      go_wp2_with fail
      exact bodyPost_ret (results_c Tryd.alsTy rfl _ _ b (alsCells ⟨n0, l⟩) rfl HC9.out.at_ (alsCells_len ⟨HL.out, HS.out⟩)) rfl ⟨rfl, HB9.out⟩
end Go.Proofs.YtjjlghdcpkkdhaaDoor
