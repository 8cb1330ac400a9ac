/-
  The contracts of pack.Fields where the widths may be, and there are as many numbers: the bytes, one number behind the other, or the error that one doesn't fit. Conditions: none beyond the premises of each theorem.
-/
import Derived.Test.YtjjlghdcpkkdhaaDoorPackSize
namespace Go.Proofs.YtjjlghdcpkkdhaaDoor
open Go.RowKit

/-- the numbers so far fit their widths -/
def FitAll (ws ns : List Nat) : Prop := ∀ i (h1 : i < ws.length) (h2 : i < ns.length), ns[i] < 256 ^ ws[i]
/-- the bytes of the first j fields -/
def laid (ws ns : List Nat) (j : Nat) : List UInt8 := lays ((ws.zip ns).take j)
theorem laid_zero (ws ns : List Nat) : laid ws ns 0 = [] := rfl
theorem laid_succ {ws ns : List Nat} {j : Nat} (h1 : j < ws.length) (h2 : j < ns.length) : laid ws ns (j + 1) = laid ws ns j ++ be ws[j] ns[j] := by
  have hz : j < (ws.zip ns).length := by rw [List.length_zip]; omega
  unfold laid
  rw [List.take_add_one, List.getElem?_eq_getElem hz, lays_append, List.getElem_zip]
  exact congrArg _ (lays_one _)
theorem laid_length {ws ns : List Nat} {j : Nat} (h1 : j ≤ ws.length) (h2 : j ≤ ns.length) : (laid ws ns j).length = (ws.take j).sum := by
  induction j with
  | zero => rfl
  | succ j ih => rw [laid_succ (by omega) (by omega), List.length_append, ih (by omega) (by omega), be_length, sum_take_succ (by omega)]
theorem laid_all {ws ns : List Nat} (h : ns.length = ws.length) : laid ws ns ws.length = lays (ws.zip ns) := by
  unfold laid
  rw [List.take_of_length_le (by rw [List.length_zip]; omega)]

def FieldsRel (B q : Nat) (ws ns : List Nat) (w : World) (t i : Value) (wr : World) : Prop :=
  ∃ j g cap : Nat, j ≤ q ∧ i = .int .i64 (j : Int) ∧ t = .slice (some ⟨g, 0, none⟩) (laid ws ns j).length cap ∧ wr.ownsRow B 5 1 (.slice (some ⟨g, 0, none⟩) (laid ws ns j).length cap) (laid ws ns j).length (cellsOf (laid ws ns j)) ∧ Below B w wr
def FieldsPost (l : List UInt8) (w : World) (e : Ending) (w' : World) : Prop := e = .returned (.tuple #[.string ⟨l.toArray⟩, .nilIface]) ∧ Below w.heap.size w w'

set_option maxHeartbeats 2000000 in
set_option maxRecDepth 100000 in
theorem Fields_yes (ws ns : List Nat) (A A2 : Option Addr) (cap cap2 : Nat) (w : World) (hw : Widths ws) (hn : Nums w .i64 A (ints ws)) (hm : Nums w .i64 A2 (ints ns)) (hl : ns.length = ws.length) (hf : FitAll ws ns) :
    Calls Tryd.prog 38 #[.slice A ws.length cap, .slice A2 ns.length cap2] w (FieldsPost (lays (ws.zip ns)) w) := by
  obtain ⟨i0, hi, hz0, hz1, hz2⟩ := info_parts Tryd.infoByte
  have HW := Lib.hid hw
  have HN := Lib.hid hn
  have HM := Lib.hid hm
  have HF := Lib.hid hf
  have HL := Lib.hid hl
  have hl1 : ((ns.length : Int) != (ws.length : Int)) = false := by simp; omega
  have hsum := hw.sum
  have h40 := hw.1
  clear hw hn hm hl hf
  go_enter Tryd.func38, Tryd.ntmps38
  go_wp2_with fail
  refine (Size_yes ws A cap _ HW.out HN.out).mono ?_
  rintro e w' ⟨rfl, rfl⟩
  go_wp2_with (at_make; refine wpList_make_own _ rfl _ _ 68 rfl w.heap.size 5 i0 (.int .u8 0) 1 Tryd.underlying68 hi hz0 hz1 .i64 .i64 _ ws.sum rfl rfl rfl (by rw [hz2]; omega) (by unfold maxLen; omega) (Nat.le_refl _) ?_; intro w1 hown1 hgrow1)
  have HO := Lib.hid hown1
  have HB := Lib.hid ((Below.refl w.heap.size w).grown hgrow1 (Nat.le_refl _) (fun _ h => by cases h))
  clear hown1 hgrow1 hi hz0 hz1 hz2
  go_loopw [7, 26] (fun t i wr => FieldsRel w.heap.size ws.length ws ns w t i wr) (fun _ i _ => ws.length - (intOf i).toNat)
  case atStart => exact ⟨0, w.heap.size, ws.sum, Nat.zero_le _, rfl, rfl, HO.out, HB.out⟩
  case round =>
    obtain ⟨j, g, c, hj, rfl, rfl, ho, hb⟩ := hrel
    have HO' := Lib.hid ho
    have HB' := Lib.hid hb
    clear ho hb HO HB
    obtain ⟨l, HE⟩ : ∃ l, Hid (l = laid ws ns j) := ⟨_, Lib.hid rfl⟩
    rw [← HE.out] at HO' ⊢
    by_cases hlt : j < ws.length
    · have hlt2 : j < ns.length := by have := HL.out; omega
      obtain ⟨a, rfl, hc⟩ := (HN.out.carry HB'.out).at_ (ints_at hlt)
      obtain ⟨a2, rfl, hc2⟩ := (HM.out.carry HB'.out).at_ (ints_at hlt2)
      obtain ⟨k, HK⟩ : ∃ k, Hid (k = ws[j]) := ⟨_, Lib.hid rfl⟩
      obtain ⟨n, HNj⟩ : ∃ n, Hid (n = ns[j]) := ⟨_, Lib.hid rfl⟩
      rw [← HK.out] at hc
      rw [← HNj.out] at hc2
      have h1 : 1 ≤ k := by rw [HK.out]; exact (HW.out.at_ hlt).1
      have h4 : k ≤ 4 := by rw [HK.out]; exact (HW.out.at_ hlt).2
      have HFj : Hid (n < 256 ^ k) := Lib.hid (by rw [HK.out, HNj.out]; exact HF.out j hlt hlt2)
      have hll : l.length ≤ 100000 := by
        have := sum_take_le ws j
        rw [HE.out, laid_length (by omega) (by omega)]
        omega
      go_wp2_with fail
      refine (fits_yes k n _ h4 HFj.out).mono ?_
      rintro e w' ⟨rfl, rfl⟩
      go_wp2_with fail
      refine (lay_any w.heap.size k n l _ _ h1 h4 hll HB'.out.size HO'.out).mono ?_
      rintro e w2 ⟨g2, c2, rfl, ho2, hb2⟩
      have HO2 := Lib.hid ho2
      have HB2 := Lib.hid (HB'.out.trans hb2)
      clear ho2 hb2 hc hc2 HO' HB'
      go_wp2_with fail
      go_roundw
      case rel =>
        refine ⟨j + 1, g2, c2, hlt, by go_num, ?_, ?_, HB2.out⟩
        · rw [laid_succ hlt hlt2, ← HE.out, ← HK.out, ← HNj.out, List.length_append]
        · rw [laid_succ hlt hlt2, ← HE.out, ← HK.out, ← HNj.out]; exact HO2.out
      case measure => simp [intOf]; omega
    · obtain rfl : j = ws.length := by omega
      have hc := own_text HO'.out
      go_wp2_with fail
      go_ret2
      exact ⟨by rw [← laid_all HL.out, ← HE.out]; rfl, HB'.out⟩

set_option maxHeartbeats 2000000 in
set_option maxRecDepth 100000 in
theorem Fields_unfit (ws ns : List Nat) (z : Int) (r : List Int) (A A2 : Option Addr) (cap cap2 : Nat) (w : World) (hw : Widths ws) (hn : Nums w .i64 A (ints ws)) (hm : Nums w .i64 A2 (ints ns ++ z :: r)) (hl : (ints ns ++ z :: r).length = ws.length) (hf : FitAll ws ns) (hz : ∀ h : ns.length < ws.length, fitB ws[ns.length] z = false) :
    Calls Tryd.prog 38 #[.slice A ws.length cap, .slice A2 (ints ns ++ z :: r).length cap2] w (GetFault (.string ⟨#[]⟩) 8 w) := by
  obtain ⟨i0, hi, hz0, hz1, hz2⟩ := info_parts Tryd.infoByte
  have HW := Lib.hid hw
  have HN := Lib.hid hn
  have HM := Lib.hid hm
  have HF := Lib.hid hf
  have HL := Lib.hid hl
  have hq : ns.length < ws.length := by rw [← hl, List.length_append, ints_length, List.length_cons]; omega
  have HZ := Lib.hid (hz hq)
  obtain ⟨L, HLL⟩ : ∃ L, Hid (L = (ints ns ++ z :: r).length) := ⟨_, Lib.hid rfl⟩
  have hlt9 : ns.length < L := by rw [HLL.out, hl]; exact hq
  have hl1 : ((L : Int) != (ws.length : Int)) = false := by rw [HLL.out, hl]; simp
  rw [← HLL.out]
  have hsum := hw.sum
  have h40 := hw.1
  clear hw hn hm hl hf hz
  go_enter Tryd.func38, Tryd.ntmps38
  go_wp2_with fail
  refine (Size_yes ws A cap _ HW.out HN.out).mono ?_
  rintro e w' ⟨rfl, rfl⟩
  go_wp2_with (at_make; refine wpList_make_own _ rfl _ _ 68 rfl w.heap.size 5 i0 (.int .u8 0) 1 Tryd.underlying68 hi hz0 hz1 .i64 .i64 _ ws.sum rfl rfl rfl (by rw [hz2]; omega) (by unfold maxLen; omega) (Nat.le_refl _) ?_; intro w1 hown1 hgrow1)
  have HO := Lib.hid hown1
  have HB := Lib.hid ((Below.refl w.heap.size w).grown hgrow1 (Nat.le_refl _) (fun _ h => by cases h))
  clear hown1 hgrow1 hi hz0 hz1 hz2
  go_loopw [7, 26] (fun t i wr => FieldsRel w.heap.size ns.length ws ns w t i wr) (fun _ i _ => ws.length - (intOf i).toNat)
  case atStart => exact ⟨0, w.heap.size, ws.sum, Nat.zero_le _, rfl, rfl, HO.out, HB.out⟩
  case round =>
    obtain ⟨j, g, c, hj, rfl, rfl, ho, hb⟩ := hrel
    have HO' := Lib.hid ho
    have HB' := Lib.hid hb
    clear ho hb HO HB
    obtain ⟨l, HE⟩ : ∃ l, Hid (l = laid ws ns j) := ⟨_, Lib.hid rfl⟩
    rw [← HE.out] at HO' ⊢
    by_cases hlt2 : j < ns.length
    · have hlt : j < ws.length := by omega
      have hlt3 : j < L := by omega
      obtain ⟨a, rfl, hc⟩ := (HN.out.carry HB'.out).at_ (ints_at hlt)
      obtain ⟨a2, rfl, hc2⟩ := (HM.out.carry HB'.out).at_ (i := j) (z := (ns[j] : Int)) (by rw [List.getElem?_append_left (by rw [ints_length]; exact hlt2)]; exact ints_at hlt2)
      obtain ⟨k, HK⟩ : ∃ k, Hid (k = ws[j]) := ⟨_, Lib.hid rfl⟩
      obtain ⟨n, HNj⟩ : ∃ n, Hid (n = ns[j]) := ⟨_, Lib.hid rfl⟩
      rw [← HK.out] at hc
      rw [← HNj.out] at hc2
      have h1 : 1 ≤ k := by rw [HK.out]; exact (HW.out.at_ hlt).1
      have h4 : k ≤ 4 := by rw [HK.out]; exact (HW.out.at_ hlt).2
      have HFj : Hid (n < 256 ^ k) := Lib.hid (by rw [HK.out, HNj.out]; exact HF.out j hlt hlt2)
      have hll : l.length ≤ 100000 := by
        have := sum_take_le ws j
        rw [HE.out, laid_length (by omega) (by omega)]
        omega
      go_wp2_with fail
      refine (fits_yes k n _ h4 HFj.out).mono ?_
      rintro e w' ⟨rfl, rfl⟩
      go_wp2_with fail
      refine (lay_any w.heap.size k n l _ _ h1 h4 hll HB'.out.size HO'.out).mono ?_
      rintro e w2 ⟨g2, c2, rfl, ho2, hb2⟩
      have HO2 := Lib.hid ho2
      have HB2 := Lib.hid (HB'.out.trans hb2)
      clear ho2 hb2 hc hc2 HO' HB'
      go_wp2_with fail
      go_roundw
      case rel =>
        refine ⟨j + 1, g2, c2, hlt2, by go_num, ?_, ?_, HB2.out⟩
        · rw [laid_succ hlt hlt2, ← HE.out, ← HK.out, ← HNj.out, List.length_append]
        · rw [laid_succ hlt hlt2, ← HE.out, ← HK.out, ← HNj.out]; exact HO2.out
      case measure => simp [intOf]; omega
    · obtain rfl : j = ns.length := by omega
      obtain ⟨a, rfl, hc⟩ := (HN.out.carry HB'.out).at_ (ints_at hq)
      obtain ⟨a2, rfl, hc2⟩ := (HM.out.carry HB'.out).at_ (i := ns.length) (z := z) (by rw [List.getElem?_append_right (by rw [ints_length]; exact Nat.le_refl _), ints_length, Nat.sub_self]; rfl)
      obtain ⟨k, HK⟩ : ∃ k, Hid (k = ws[ns.length]) := ⟨_, Lib.hid rfl⟩
      rw [← HK.out] at hc HZ
      have h4 : k ≤ 4 := by rw [HK.out]; exact (HW.out.at_ hq).2
      go_wp2_with fail
      refine (fits_no k z _ h4 HZ.out).mono ?_
      rintro e w' ⟨rfl, rfl⟩
      go_wp2_with fail
      refine (packFault_any 8 _).mono ?_
      rintro e w2 ⟨v, l2, rfl, hc, hb2⟩
      have HC := Lib.hid hc
      have HB2 := Lib.hid (HB'.out.trans (hb2.mono HB'.out.size))
      clear hc hb2
      go_wp2_with fail
      go_ret2
      exact ⟨_, _, rfl, HC.out, HB2.out⟩
end Go.Proofs.YtjjlghdcpkkdhaaDoor
