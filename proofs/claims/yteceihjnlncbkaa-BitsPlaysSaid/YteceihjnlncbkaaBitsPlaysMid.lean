/-
  The walk of BitsPlays from the list of the second set on. Conditions: what stands in the frame there.
-/
import Derived.Test.YteceihjnlncbkaaBitsPlaysEnd
namespace Go.Proofs.Yteceihjnlncbkaa
open Go.RowKit
open Bits (Ok has with_ without count countBelow first both ofK)

/-- the list of both, k of it laid -/
def fK (s t : List Nat) (k j : Nat) : Bool := if j < k then has t j || has s j else has t j
theorem fK_succ (s t : List Nat) (k : Nat) : ∀ j, j < 240 → fK s t (k + 1) j = if j = k then (has t k || has s k) else fK s t k j := fun j _ => by
  unfold fK
  by_cases e : j = k
  · subst e; rw [if_pos (by omega), if_pos rfl]
  · rw [if_neg e]
    by_cases h : j < k
    · rw [if_pos h, if_pos (by omega)]
    · rw [if_neg h, if_neg (by omega)]
theorem fK_at (s t : List Nat) (k : Nat) : fK s t k k = has t k := by unfold fK; rw [if_neg (Nat.lt_irrefl k)]
theorem fK_all {s t : List Nat} (hs : Ok s) (ht : Ok t) : ofF (fK s t 240) = both s t := ofF_eq (hs.both ht) fun n hn => by
  unfold fK
  rw [if_pos hn, Bits.has_both hs ht hn, Bool.or_comm]
theorem BRow.congr {w : World} {g : Nat} {f h : Nat → Bool} (hr : BRow w g f) (hf : ∀ j, j < 240 → h j = f j) : BRow w g h := ⟨fun i hi => by rw [hf i hi]; exact hr.at_ i hi, hr.free⟩
def MRel (w : World) (b b1 g7 g10 g11 g12 : Nat) (s t : List Nat) (f10 f11 : Nat → Bool) (i : Value) (wr : World) : Prop :=
  ∃ k : Nat, k ≤ 240 ∧ i = .int .i64 k ∧ PmSt w b b1 g7 g10 g11 g12 s t f10 f11 (fK s t k) wr
set_option maxRecDepth 100000 in
set_option maxHeartbeats 8000000 in
theorem plays_mid {n : Int} {s t x y : List Nat} {f10 f11 : Nat → Bool} {b b1 g7 g10 g11 c7 c10 c11 : Nat} {w wr : World} {q5 q6 q9 q12 q13 q14 q15 q16 q17 q18 q19 q20 q21 q22 q23 q24 q25 q26 q27 q28 q29 q30 q31 q32 q33 q34 q35 q36 q37 q38 q39 q40 q41 q42 q43 q44 q45 q46 q47 q48 q49 q50 q51 q52 q53 q54 q55 q56 q57 q58 q59 q60 q61 q62 q63 q64 q65 q66 q67 q68 q69 q70 q71 q72 q73 q74 q75 q76 q77 q78 q79 q80 q81 q82 q83 q84 q85 q86 q87 q88 q89 q90 q91 q92 q93 q94 q95 q96 q97 q98 q99 q100 q101 : Value} (hs : Ok s) (ht : Ok t)
    (HX : Hid (withZ s n = x)) (HY : Hid (withoutZ s n = y)) (HX2 : Hid (ofF f10 = x)) (HY2 : Hid (ofF f11 = y)) (HST : Hid (PlSt w b b1 g7 g10 g11 s t f10 f11 wr)) (HLT : Hid (g11 < wr.heap.size)) :
    Code.wp Try.prog (behind 8 (Try.f3.body.getD .skip)) (bodyPost Try.prog Try.f3 fun e w' => e = Ending.returned (Value.bool true) ∧ Below w.heap.size w w')
      ⟨#[stV s, stV t, .int .i64 n, .pointer (some ⟨b, 0, none⟩), .pointer (some ⟨b1, 0, none⟩), q5, q6, .slice (some ⟨g7, 0, none⟩) 240 c7, .int .i64 ((countBelow s 240 : Nat) : Int), q9, .slice (some ⟨g10, 0, none⟩) 240 c10, .slice (some ⟨g11, 0, none⟩) 240 c11, q12, q13, q14, q15, q16, q17, q18, q19, q20, q21, q22, q23, q24, q25, q26, q27, q28, q29, q30, q31, q32, q33, q34, q35, q36, q37, q38, q39, q40, q41, q42, q43, q44, q45, q46, q47, q48, q49, q50, q51, q52, q53, q54, q55, q56, q57, q58, q59, q60, q61, q62, q63, q64, q65, q66, q67, q68, q69, q70, q71, q72, q73, q74, q75, q76, q77, q78, q79, q80, q81, q82, q83, q84, q85, q86, q87, q88, q89, q90, q91, q92, q93, q94, q95, q96, q97, q98, q99, q100, q101], []⟩ wr := by
  conv => arg 2; whnf
  go_wp2_with (with_reducible refine set_stop (o := ⟨some 46, _, _, _, _, _⟩) ?_)
  refine wpList_load_arr rfl _ rfl b1 rfl t ht.len HST.out.arg2 ?_
  go_wp2_with fail
  refine (RefList_any t ht _).mono ?_
  rintro e w3 ⟨g12, c12, rfl, hrow, hg, hb⟩
  have HPM : Hid (PmSt w b b1 g7 g10 g11 g12 s t f10 f11 (fK s t 0) w3) := Lib.hid ⟨HST.out.carry hb, hrow.congr fun j _ => rfl, Nat.lt_of_lt_of_le HLT.out hg⟩
  clear hb hrow hg HST HLT
  go_wp2_with fail
  go_loopw [13] (fun i wr => MRel w b b1 g7 g10 g11 g12 s t f10 f11 i wr) (fun i _ => 240 - (intOf i).toNat)
  case atStart => exact ⟨0, by decide, rfl, HPM.out⟩
  case round =>
    obtain ⟨k, hk, rfl, hst⟩ := hrel
    have HM := Lib.hid hst
    clear hst HPM
    by_cases hlt : k < 240
    · have hc7 := HM.out.st.l.at_ k hlt
      have hc12 := HM.out.m.at_ k hlt
      have hf12 := HM.out.m.free k
      have hk2 : (k : Int) < 240 := by omega
      rw [fK_at] at hc12
      obtain ⟨v7, HV7⟩ : ∃ v, Hid (v = has s k) := ⟨_, Lib.hid rfl⟩
      obtain ⟨v12, HV12⟩ : ∃ v, Hid (v = has t k) := ⟨_, Lib.hid rfl⟩
      rw [← HV7.out] at hc7
      rw [← HV12.out] at hc12
      have HNX : Hid (PmSt w b b1 g7 g10 g11 g12 s t f10 f11 (fK s t (k + 1)) (wr.setCell ⟨g12, k, none⟩ (.bool (v12 || v7)))) := Lib.hid (by
        have := HM.out.put hlt (has t k || has s k) (fK_succ s t k)
        rw [HV12.out, HV7.out]
        exact this)
      clear HM
      cases v12 with
      | true =>
        go_wp2_with fail
        go_roundw
        case rel => exact ⟨k + 1, hlt, by go_num, HNX.out⟩
        case measure => simp [intOf]; omega
      | false =>
        go_wp2_with fail
        go_roundw
        case rel => exact ⟨k + 1, hlt, by go_num, HNX.out⟩
        case measure => simp [intOf]; omega
    · obtain rfl : k = 240 := by omega
      go_upto_if 49 with (fail)
      go_step
      go_step
      refine go_on (P := Try.prog) (by assumption) ?_
      exact plays_end hs ht HX HY (Lib.hid rfl) HX2 HY2 (Lib.hid (fK_all hs ht)) HM
end Go.Proofs.Yteceihjnlncbkaa
