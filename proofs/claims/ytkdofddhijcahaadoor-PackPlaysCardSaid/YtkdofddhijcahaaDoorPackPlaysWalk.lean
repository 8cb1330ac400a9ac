/-
  The walk of the statement PackPlays: it answers true, and no memory that was there has turned. Conditions: the arguments are within their kinds, and the package variable errors.errorType holds the handle of the type error.
-/
import Derived.Test.YtkdofddhijcahaaDoorPackRef
import Derived.Test.YtkdofddhijcahaaDoorPackGetsWalk
import Derived.Deep.RegionLaw
import Derived.BigQuiet
import Derived.Deep.LoopGhost
import Derived.Deep.DeepCutAuto
import Derived.Deep.CutBlock
import Derived.Test.YtkdofddhijcahaaDoorPackPlaysMid
namespace Go.Proofs.YtkdofddhijcahaaDoor
open Go.RowKit

theorem go_on {P : Program} {K : Act → World → Prop} {c : Code} {Q : Exit → Act → World → Prop} {a : Act} {w : World} (h : ∀ a w, Code.wp P c Q a w → K a w) (hw : Code.wp P c Q a w) : K a w := h a w hw

set_option maxHeartbeats 20000000 in
set_option maxRecDepth 100000 in
theorem plays_short (m n : Int) (s : ByteArray) (zs ms : List Int) (A A2 : Option Addr) (cap cap2 : Nat) (w : World) (hn : n ≤ 9223372036854775807) (hms : ∀ z ∈ ms, z ≤ 9223372036854775807) (hs : s.size ≤ 400) (hl : zs.length ≤ 60) (hl2 : ms.length ≤ 60)
    (hA : Nums w .i64 A zs) (hA2 : Nums w .i64 A2 ms) (hg : Laid w) :
    Calls Tryd.prog 4 #[.int .i64 m, .int .i64 n, .string s, .slice A zs.length cap, .slice A2 ms.length cap2] w fun e w' => e = .returned (.bool true) ∧ Below w.heap.size w w' := by
  have HA := Lib.hid hA
  have HA2 := Lib.hid hA2
  have HG := Lib.hid hg
  have HMS := Lib.hid hms
  have d1 : decide ((s.size : Int) > 400) = false := by simp; omega
  have d2 : decide ((zs.length : Int) > 60) = false := by simp; omega
  have d3 : decide ((ms.length : Int) > 60) = false := by simp; omega
  clear hA hA2 hg hms
  go_enter Tryd.func4, Tryd.ntmps4
  go_wp2_with fail
  refine (awake_any _).mono ?_
  rintro e w1 ⟨rfl, hb1⟩
  have HB1 := Lib.hid hb1
  clear hb1
  go_upto_if 42 with (go_at_call 12; refine (RefFits_any m n _ hn).mono ?_; rintro e w' ⟨rfl, rfl⟩)
  go_cut [11] (fun s11 wx => s11 = .string (putZ m n) ∧ Hid (Below w.heap.size w wx))
  case first =>
    cases hf : fitZ m n with
    | true =>
      have HF := Lib.hid hf
      clear hf
      go_wp2_with fail
      refine (RefPut_any m n _ HF.out).mono ?_
      rintro e w2 ⟨rfl, hb2⟩
      have HB2 : Hid (Below w.heap.size w w2) := Lib.hid (HB1.out.trans (hb2.mono HB1.out.size))
      clear hb2
      go_wp2_with fail
      go_meet
      exact ⟨rfl, HB2⟩
    | false =>
      have HF := Lib.hid hf
      clear hf
      go_wp2_with fail
      go_meet
      exact ⟨by rw [putZ_no HF.out], HB1⟩
  case rest =>
    obtain ⟨rfl, HB2⟩ := hcut
    clear HB1
    obtain ⟨P, HP⟩ : ∃ P, Hid (P = putZ m n) := ⟨_, Lib.hid rfl⟩
    rw [← HP.out]
    go_wp2_with fail
    refine (Get_any s m _).mono ?_
    obtain ⟨X, HX⟩ : ∃ X, Hid (X = getX s m) := ⟨_, Lib.hid rfl⟩
    unfold GetPost
    rw [← HX.out]
    rintro e w3 ⟨v, rfl, he, hb3⟩
    have HE := Lib.hid he
    have HB3 : Hid (Below w.heap.size w w3) := Lib.hid (HB2.out.trans (hb3.mono HB2.out.size))
    clear he hb3 HB2
    go_wp2_with fail
    refine (Put_any m n _).mono ?_
    rw [← HP.out]
    rintro e w4 ⟨rfl, hb4⟩
    have HB4 : Hid (Below w.heap.size w w4) := Lib.hid (HB3.out.trans (hb4.mono HB3.out.size))
    have HE4 := Lib.hid (HE.out.carry hb4)
    clear hb4 HB3 HE
    obtain ⟨Z, HZ⟩ : ∃ Z, Hid (Z = sizeZ zs) := ⟨_, Lib.hid rfl⟩
    go_wp2_with fail
    refine (Size_any zs A cap _ (HA.out.carry HB4.out)).mono ?_
    rw [← HZ.out]
    rintro e w' ⟨rfl, rfl⟩
    go_wp2_with fail
    refine (RefSize_any zs A cap _ (HA.out.carry HB4.out)).mono ?_
    rw [← HZ.out]
    rintro e w' ⟨rfl, rfl⟩
    go_upto_region 9 with (fail)
    go_cut [69] (fun s69 wx => s69 = .bool (!(decide (1 ≤ m ∧ m ≤ 4))) ∧ w4 = wx)
    case first =>
      by_cases h1 : m < 1
      · go_wp2_with fail
        go_meet
        exact ⟨by rw [decide_eq_false (by omega)]; rfl, rfl⟩
      · by_cases h4 : 4 < m
        · go_wp2_with fail
          go_meet
          exact ⟨by rw [decide_eq_false (by omega)]; rfl, rfl⟩
        · go_wp2_with fail
          go_meet
          exact ⟨by rw [decide_eq_true (by omega)]; rfl, rfl⟩
    case rest =>
      obtain ⟨rfl, rfl⟩ := hcut
      go_upto_if 69 with (fail)
      go_cut [] (fun wx => Hid (Below w.heap.size w wx))
      case first =>
        by_cases hm : 1 ≤ m ∧ m ≤ 4
        · rw [decide_eq_true hm]
          obtain ⟨k, rfl⟩ : ∃ k : Nat, m = k := ⟨m.toNat, by omega⟩
          have h1 : 1 ≤ k := by omega
          have h4 : k ≤ 4 := by omega
          by_cases hs9 : s.size < k
          · have e1 : getC s k = 2 := by unfold getC; rw [if_pos hm, if_pos (by omega)]
            have e2 : X = 0 := by rw [HX.out]; unfold getX; rw [e1]; rfl
            subst e2
            have HE9 : Hid (ErrIs w4 2 v) := Lib.hid (by rw [← e1]; exact HE4.out)
            clear e1 hm
            go_wp2_with fail
            refine (Num_any 2 v _ HE9.out (HG.out.carry HB4.out)).mono ?_
            rintro e w5 ⟨rfl, hb5⟩
            have HB5 : Hid (Below w.heap.size w w5) := Lib.hid (HB4.out.trans (hb5.mono HB4.out.size))
            clear hb5
            go_wp2_with fail
            go_meet
            exact HB5
          · have e1 : getC s k = 0 := by unfold getC; rw [if_pos hm, if_neg (by omega)]
            have HX2 : Hid (X = (num (s.data.toList.take k) : Int)) := Lib.hid (by rw [HX.out]; unfold getX; rw [e1]; rfl)
            have HE9 : Hid (ErrIs w4 0 v) := Lib.hid (by rw [← e1]; exact HE4.out)
            clear e1 hm
            go_wp2_with fail
            refine (Num_any 0 v _ HE9.out (HG.out.carry HB4.out)).mono ?_
            rintro e w5 ⟨rfl, hb5⟩
            have HB5 : Hid (Below w.heap.size w w5) := Lib.hid (HB4.out.trans (hb5.mono HB4.out.size))
            clear hb5
            go_wp2_with fail
            refine (RefGet_nat s k _ h4 (by omega)).mono ?_
            rw [← HX2.out]
            rintro e w' ⟨rfl, rfl⟩
            go_wp2_with fail
            go_meet
            exact HB5
        · rw [decide_eq_false hm]
          have e1 : getC s m = 1 := by unfold getC; rw [if_neg hm]
          have e2 : X = 0 := by rw [HX.out]; unfold getX; rw [e1]; rfl
          subst e2
          have HE9 : Hid (ErrIs w4 1 v) := Lib.hid (by rw [← e1]; exact HE4.out)
          clear e1 hm
          go_wp2_with fail
          refine (Num_any 1 v _ HE9.out (HG.out.carry HB4.out)).mono ?_
          rintro e w5 ⟨rfl, hb5⟩
          have HB5 : Hid (Below w.heap.size w w5) := Lib.hid (HB4.out.trans (hb5.mono HB4.out.size))
          clear hb5
          go_wp2_with fail
          go_meet
          exact HB5
      case rest =>
        refine go_on (P := Tryd.prog) (by assumption) ?_
        exact plays_mid hl HMS HA HA2 HG HZ hcut

set_option maxHeartbeats 4000000 in
set_option maxRecDepth 100000 in
theorem plays_long (m n : Int) (s : ByteArray) (q r : Nat) (A A2 : Option Addr) (cap cap2 : Nat) (w : World) (h : 400 < s.size ∨ (s.size ≤ 400 ∧ (60 < q ∨ (q ≤ 60 ∧ 60 < r)))) :
    Calls Tryd.prog 4 #[.int .i64 m, .int .i64 n, .string s, .slice A q cap, .slice A2 r cap2] w fun e w' => e = .returned (.bool true) ∧ Below w.heap.size w w' := by
  rcases h with h | ⟨h, h2 | ⟨h2, h3⟩⟩
  · have d1 : decide ((s.size : Int) > 400) = true := by simp; omega
    go_enter Tryd.func4, Tryd.ntmps4
    go_wp2_with fail
    refine (awake_any _).mono ?_
    rintro e w1 ⟨rfl, hb1⟩
    have HB1 := Lib.hid hb1
    clear hb1
    go_wp2_with fail
    refine (awake_any _).mono ?_
    rintro e w2 ⟨rfl, hb2⟩
    have HB2 : Hid (Below w.heap.size w w2) := Lib.hid (HB1.out.trans (hb2.mono HB1.out.size))
    clear hb2
    go_wp2_with fail
    go_ret
    exact ⟨rfl, HB2.out⟩
  · have d1 : decide ((s.size : Int) > 400) = false := by simp; omega
    have d2 : decide ((q : Int) > 60) = true := by simp; omega
    go_enter Tryd.func4, Tryd.ntmps4
    go_wp2_with fail
    refine (awake_any _).mono ?_
    rintro e w1 ⟨rfl, hb1⟩
    have HB1 := Lib.hid hb1
    clear hb1
    go_wp2_with fail
    refine (awake_any _).mono ?_
    rintro e w2 ⟨rfl, hb2⟩
    have HB2 : Hid (Below w.heap.size w w2) := Lib.hid (HB1.out.trans (hb2.mono HB1.out.size))
    clear hb2
    go_wp2_with fail
    go_ret
    exact ⟨rfl, HB2.out⟩
  · have d1 : decide ((s.size : Int) > 400) = false := by simp; omega
    have d2 : decide ((q : Int) > 60) = false := by simp; omega
    have d3 : decide ((r : Int) > 60) = true := by simp; omega
    go_enter Tryd.func4, Tryd.ntmps4
    go_wp2_with fail
    refine (awake_any _).mono ?_
    rintro e w1 ⟨rfl, hb1⟩
    have HB1 := Lib.hid hb1
    clear hb1
    go_wp2_with fail
    refine (awake_any _).mono ?_
    rintro e w2 ⟨rfl, hb2⟩
    have HB2 : Hid (Below w.heap.size w w2) := Lib.hid (HB1.out.trans (hb2.mono HB1.out.size))
    clear hb2
    go_wp2_with fail
    go_ret
    exact ⟨rfl, HB2.out⟩
theorem plays_walk (m n : Int) (s : ByteArray) (zs ms : List Int) (A A2 : Option Addr) (cap cap2 : Nat) (w : World) (hn : n ≤ 9223372036854775807) (hms : ∀ z ∈ ms, z ≤ 9223372036854775807)
    (hA : Nums w .i64 A zs) (hA2 : Nums w .i64 A2 ms) (hg : Laid w) :
    Calls Tryd.prog 4 #[.int .i64 m, .int .i64 n, .string s, .slice A zs.length cap, .slice A2 ms.length cap2] w fun e w' => e = .returned (.bool true) ∧ Below w.heap.size w w' := by
  by_cases h1 : 400 < s.size
  · exact plays_long m n s _ _ A A2 cap cap2 w (.inl h1)
  · by_cases h2 : 60 < zs.length
    · exact plays_long m n s _ _ A A2 cap cap2 w (.inr ⟨by omega, .inl h2⟩)
    · by_cases h3 : 60 < ms.length
      · exact plays_long m n s _ _ A A2 cap cap2 w (.inr ⟨by omega, .inr ⟨by omega, h3⟩⟩)
      · exact plays_short m n s zs ms A A2 cap cap2 w hn hms (by omega) (by omega) (by omega) hA hA2 hg
end Go.Proofs.YtkdofddhijcahaaDoor
