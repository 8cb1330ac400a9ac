/-
  The walk of the statement FrameUnlike: it answers true, and no memory that was there has turned. Conditions: errors.errorType and crc.halved are laid.
-/
import Derived.Test.YtcpekkajcjgoiaaDoorFrAwake
namespace Go.Proofs.YtcpekkajcjgoiaaDoor
open Go.RowKit

set_option maxRecDepth 100000 in
set_option maxHeartbeats 4000000 in
theorem unlike_long (a b : Int) (s t : ByteArray) (w : World) (hl : 500 < s.size ∨ (s.size ≤ 500 ∧ 500 < t.size)) (hg : Laid2 w) :
    Calls Tryd.prog 6 #[.int .i64 a, .int .i64 b, .string s, .string t] w fun e w' => e = .returned (.bool true) ∧ Below w.heap.size w w' := by
  have HG := Lib.hid hg
  clear hg
  rcases hl with hl | ⟨hl, hl2⟩
  · have hd : decide ((500 : Int) < (s.size : Int)) = true := by simp; omega
    go_enter Tryd.func6, Tryd.ntmps6
    go_wp2_with fail
    refine (awake_any _ HG.out).mono ?_
    rintro e w1 ⟨rfl, hb⟩
    have HB := Lib.hid hb
    have HG1 := Lib.hid (HG.out.carry hb)
    clear hb
    go_wp2_with fail
    refine (awake_any _ HG1.out).mono ?_
    rintro e w2 ⟨rfl, hb⟩
    have HB2 := Lib.hid (HB.out.trans (hb.mono HB.out.size))
    clear hb
    go_wp2_with fail
    go_ret
    exact ⟨rfl, HB2.out⟩
  · have hd : decide ((500 : Int) < (s.size : Int)) = false := by simp; omega
    have hd2 : decide ((500 : Int) < (t.size : Int)) = true := by simp; omega
    go_enter Tryd.func6, Tryd.ntmps6
    go_wp2_with fail
    refine (awake_any _ HG.out).mono ?_
    rintro e w1 ⟨rfl, hb⟩
    have HB := Lib.hid hb
    have HG1 := Lib.hid (HG.out.carry hb)
    clear hb
    go_wp2_with fail
    refine (awake_any _ HG1.out).mono ?_
    rintro e w2 ⟨rfl, hb⟩
    have HB2 := Lib.hid (HB.out.trans (hb.mono HB.out.size))
    clear hb
    go_wp2_with fail
    go_ret
    exact ⟨rfl, HB2.out⟩

set_option maxRecDepth 100000 in
set_option maxHeartbeats 4000000 in
theorem unlike_short (a b : Int) (s t : ByteArray) (w : World) (hl : s.size ≤ 500) (hl2 : t.size ≤ 500) (hg : Laid2 w) :
    Calls Tryd.prog 6 #[.int .i64 a, .int .i64 b, .string s, .string t] w fun e w' => e = .returned (.bool true) ∧ Below w.heap.size w w' := by
  have HG := Lib.hid hg
  clear hg
  have hz := Tryd.zeroPage
  have hd : decide ((500 : Int) < (s.size : Int)) = false := by simp; omega
  have hd2 : decide ((500 : Int) < (t.size : Int)) = false := by simp; omega
  go_enter Tryd.func6, Tryd.ntmps6
  go_wp2_with fail
  refine (awake_any _ HG.out).mono ?_
  rintro e w1 ⟨rfl, hb⟩
  have HB1 := Lib.hid hb
  have HG1 := Lib.hid (HG.out.carry hb)
  clear hb
  go_wp2_with fail
  refine (FrLay_any a s w1 HG1.out.crc).mono ?_
  obtain ⟨p, HP⟩ : ∃ p, Hid (p = pageL a s) := ⟨_, Lib.hid rfl⟩
  obtain ⟨q, HQ⟩ : ∃ q, Hid (q = pageL b t) := ⟨_, Lib.hid rfl⟩
  have HPL : Hid (p.length = 128) := Lib.hid (by rw [HP.out]; exact pageL_length _ _)
  have HQL : Hid (q.length = 128) := Lib.hid (by rw [HQ.out]; exact pageL_length _ _)
  obtain ⟨c, HC⟩ : ∃ c, Hid (c = codeL a s) := ⟨_, Lib.hid rfl⟩
  obtain ⟨c2, HC2⟩ : ∃ c, Hid (c = codeL b t) := ⟨_, Lib.hid rfl⟩
  rw [← HP.out, ← HC.out]
  rintro e w2 ⟨v, rfl, he, hb⟩
  have HB2 : Hid (Below w.heap.size w w2) := Lib.hid (HB1.out.trans (hb.mono HB1.out.size))
  have HE2 := Lib.hid he
  clear he hb HB1 HG1
  go_wp2_with (with_reducible refine stop_at (o := ⟨none, _, _, _, _, _⟩) ?_)
  refine wpList_store_last rfl _ _ _ rfl (pgArr zeroPg) (pgArr p) _ rfl rfl rfl (by rw [pgArr_size, HPL.out]; exact Tryd.pageSize) (by rw [pgArr_size, pgArr_size, HPL.out]; rfl) (pgArr_all _) ?_
  obtain ⟨w3, HW⟩ : ∃ w3, Hid (w3 = w2.alloc (.cells (pgArr p) 24)) := ⟨_, Lib.hid rfl⟩
  obtain ⟨b1, HBB⟩ : ∃ b, Hid (b = w2.heap.size) := ⟨_, Lib.hid rfl⟩
  rw [← HW.out, ← HBB.out]
  have hb3 : Below w2.heap.size w2 w3 := by rw [HW.out]; exact (Below.refl _ _).alloc (Nat.le_refl _) _
  have HB3 : Hid (Below w.heap.size w w3) := Lib.hid (HB2.out.trans (hb3.mono HB2.out.size))
  have HR3 : Hid (w3.rangeAt b1 0 (pgCells p)) := Lib.hid (by rw [HW.out, HBB.out]; exact page_new _ _ _)
  have HE3 := Lib.hid (HE2.out.below hb3)
  clear HW HBB hb3 HE2 HB2
  go_wp2_with fail
  refine (FrLay_any b t w3 (HG.out.crc.carry HB3.out)).mono ?_
  rw [← HQ.out, ← HC2.out]
  rintro e w4 ⟨v2, rfl, he, hb⟩
  have HB4 : Hid (Below w.heap.size w w4) := Lib.hid (HB3.out.trans (hb.mono HB3.out.size))
  have HE4 := Lib.hid (HE3.out.below hb)
  have HR4 := Lib.hid (range_below HR3.out hb)
  have HF4 := Lib.hid he
  clear he hb HB3 HE3 HR3
  go_wp2_with (with_reducible refine stop_at (o := ⟨none, _, _, _, _, _⟩) ?_)
  refine wpList_store_last rfl _ _ _ rfl (pgArr zeroPg) (pgArr q) _ rfl rfl rfl (by rw [pgArr_size, HQL.out]; exact Tryd.pageSize) (by rw [pgArr_size, pgArr_size, HQL.out]; rfl) (pgArr_all _) ?_
  obtain ⟨w5, HW⟩ : ∃ w5, Hid (w5 = w4.alloc (.cells (pgArr q) 24)) := ⟨_, Lib.hid rfl⟩
  obtain ⟨b2, HBB⟩ : ∃ b, Hid (b = w4.heap.size) := ⟨_, Lib.hid rfl⟩
  rw [← HW.out, ← HBB.out]
  have hb5 : Below w4.heap.size w4 w5 := by rw [HW.out]; exact (Below.refl _ _).alloc (Nat.le_refl _) _
  have HB5 : Hid (Below w.heap.size w w5) := Lib.hid (HB4.out.trans (hb5.mono HB4.out.size))
  have HS5 : Hid (w5.rangeAt b2 0 (pgCells q)) := Lib.hid (by rw [HW.out, HBB.out]; exact page_new _ _ _)
  have HR5 := Lib.hid (range_below HR4.out hb5)
  have HE5 := Lib.hid ((HE4.out.below hb5).is)
  have HF5 := Lib.hid ((HF4.out.below hb5).is)
  have HG5 := Lib.hid (HG.out.carry HB5.out)
  clear HW HBB hb5 HB4 HE4 HF4 HR4
  by_cases h0 : c = 0
  · by_cases h1 : c2 = 0
    · subst h0
      subst h1
      obtain ⟨na, rfl, a1, a2, a3⟩ := codeL_zero HC.out.symm
      obtain ⟨nb, rfl, b1', b2', b3⟩ := codeL_zero HC2.out.symm
      have HPQ : Hid (decide (p = q) = ((na : Int) == (nb : Int) && s.toList == t.toList)) := Lib.hid (by
        rw [HP.out, HQ.out, pageL, pageL, if_pos HC.out.symm, if_pos HC2.out.symm, ByteArray.toList_eq, ByteArray.toList_eq]
        rw [Bool.eq_iff_iff]
        simp only [decide_eq_true_eq, Bool.and_eq_true, beq_iff_eq]
        constructor
        · intro h
          have h := layB_inj (by rw [lenS]; exact a3) (by rw [lenS]; exact b3) (pgB_inj h)
          have e1 := congrArg UInt8.toNat h.1
          rw [UInt8.toNat_ofNat', UInt8.toNat_ofNat'] at e1
          exact ⟨by omega, h.2⟩
        · rintro ⟨e1, e2⟩
          have e1' : na = nb := by omega
          rw [e2, e1'])
      have hgp := guardPage1
      have heq := equalIn_two p q HPL.out HQL.out
      rw [HPQ.out] at heq
      clear HC HC2
      go_wp2_with fail
      refine (Num_any 0 v w5 HE5.out HG5.out.err).mono ?_
      rintro e w6 ⟨rfl, hb⟩
      have HB6 : Hid (Below w.heap.size w w6) := Lib.hid (HB5.out.trans (hb.mono HB5.out.size))
      have HF6 := Lib.hid (HF5.out.carry hb)
      have HG6 := Lib.hid (HG5.out.carry hb)
      have HR6 := Lib.hid (range_below HR5.out hb)
      have HS6 := Lib.hid (range_below HS5.out hb)
      clear hb
      go_wp2_with fail
      refine (Num_any 0 v2 w6 HF6.out HG6.out.err).mono ?_
      rintro e w7 ⟨rfl, hb⟩
      have HB7 : Hid (Below w.heap.size w w7) := Lib.hid (HB6.out.trans (hb.mono HB6.out.size))
      have HR7 := Lib.hid (range_below HR6.out hb)
      have HS7 := Lib.hid (range_below HS6.out hb)
      clear hb
      go_wp2_with (with_reducible refine stop_at (o := ⟨some 46, _, _, _, _, _⟩) ?_)
      refine wpList_load_page rfl _ _ rfl b1 0 rfl p HPL.out HR7.out _ Tryd.underlying24 rfl Tryd.pageSize ?_
      refine wpList_load_page rfl _ _ rfl b2 0 rfl q HQL.out HS7.out _ Tryd.underlying24 rfl Tryd.pageSize ?_
      by_cases hab : na = nb
      · have hab' : ((na : Int) == (nb : Int)) = true := by simp [hab]
        rw [hab'] at heq
        clear hab
        go_wp2_with fail
        go_ret
        exact ⟨by simp, HB7.out⟩
      · have hab' : ((na : Int) == (nb : Int)) = false := by simp; omega
        rw [hab'] at heq
        clear hab
        go_wp2_with fail
        go_ret
        exact ⟨by simp, HB7.out⟩
    · subst h0
      have h1' : (c2 == 0) = false := by simp [h1]
      have h2' : (c2 != 0) = true := by simp [h1]
      clear h1
      go_wp2_with fail
      refine (Num_any 0 v w5 HE5.out HG5.out.err).mono ?_
      rintro e w6 ⟨rfl, hb⟩
      have HB6 : Hid (Below w.heap.size w w6) := Lib.hid (HB5.out.trans (hb.mono HB5.out.size))
      have HF6 := Lib.hid (HF5.out.carry hb)
      have HG6 := Lib.hid (HG5.out.carry hb)
      clear hb
      go_wp2_with fail
      refine (Num_any c2 v2 w6 HF6.out HG6.out.err).mono ?_
      rintro e w7 ⟨rfl, hb⟩
      have HB7 : Hid (Below w.heap.size w w7) := Lib.hid (HB6.out.trans (hb.mono HB6.out.size))
      clear hb
      go_wp2_with fail
      go_ret
      exact ⟨rfl, HB7.out⟩
  · have h1' : (c == 0) = false := by simp [h0]
    have h2' : (c != 0) = true := by simp [h0]
    clear h0
    go_wp2_with fail
    refine (Num_any c v w5 HE5.out HG5.out.err).mono ?_
    rintro e w6 ⟨rfl, hb⟩
    have HB6 : Hid (Below w.heap.size w w6) := Lib.hid (HB5.out.trans (hb.mono HB5.out.size))
    clear hb
    go_wp2_with fail
    go_ret
    exact ⟨rfl, HB6.out⟩
end Go.Proofs.YtcpekkajcjgoiaaDoor
