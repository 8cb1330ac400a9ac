/-
 ChkNone. Conditions: as each theorem says.
-/
import Derived.Test.YtafclmbecmgbnaaGreatDoorSm
import Derived.Test.YtafclmbecmgbnaaGreatDoorChkAwake
namespace Go.Proofs.YtafclmbecmgbnaaGreatDoor
open Go.RowKit
theorem readN_mark (s : List UInt8) : readN (63 :: s) = none := by
 refine readN_none_head ?_
 unfold headN
 cases s with
 | nil => rfl
 | cons b r => exact if_neg (fun h => absurd h.1 (by decide))
theorem svd_bad {S : TS} {root c : Int} (h0 : root ≠ 0) (hr : -9223372036854775808 ≤ root ∧ root ≤ 9223372036854775807) (h : loadM S root 1 = .error c) : Svd S root ⟨[], [root], 0, [c]⟩ := by
 refine .inr ⟨h0, hr, rfl, by simp, (fun h => by cases h), 1, by decide, ?_⟩
 show svStep S (svBegin root) = _
 unfold svStep svBegin
 simp only [List.not_mem_nil, if_false, h, List.nil_append]
section
variable {O : PgOwn} (H : PgSpec O)
include H
set_option maxRecDepth 100000 in
set_option maxHeartbeats 4000000 in
theorem chkNone_walk (at_ : Int) (hat : -9223372036854775808 ≤ at_ ∧ at_ ≤ 9223372036854775807) (data : ByteArray) (w : World) (hg : Laid2 w) :
  Calls Tryz.prog 6 #[.int .i64 at_, .string data] w fun e w' => e = .returned (.bool true) ∧ Below w.heap.size w w' := by
 have HG := Hi hg
 have HAT := Hi hat
 clear hg hat
 obtain ⟨nn, HNN⟩ : ∃ nn, Hid (nn = data.size) := Hy
 by_cases hn : 100 < nn
 ·have hd : decide ((100 : Int) < ((data.size : Nat) : Int)) = true := by rw [← HNN.out]; simp; omega
  go_enter Tryz.func6, Tryz.ntmps6
  go_wp2_with fail
  refine (awake11_any H _ HG.out).mono ?_
  rintro e w1 ⟨rfl, hb⟩
  have HB := Hi hb
  have HG1 := Hi (HG.out.carry hb)
  clear hb
  dsimp only
  go_wp2_with fail
  refine (awake11_any H _ HG1.out).mono ?_
  rintro e w2 ⟨rfl, hb⟩
  have HB2 := Hi (HB.out.trans (hb.mono HB.out.size))
  clear hb
  dsimp only
  go_wp2_with fail
  go_ret
  exact ⟨rfl, HB2.out⟩
 ·have hd : decide ((100 : Int) < ((data.size : Nat) : Int)) = false := by rw [← HNN.out]; simp; omega
  have HN1 : Hid (data.size ≤ 100) := Hi (by rw [← HNN.out]; omega)
  clear hn
  go_enter Tryz.func6, Tryz.ntmps6
  go_wp2_with fail
  refine (awake11_any H _ HG.out).mono ?_
  rintro e w1 ⟨rfl, hb⟩
  have HB1 := Hi hb
  clear hb
  dsimp only
  go_wp2_with fail
  refine (New_yes 20 (by decide) (by decide) w1).mono ?_
  rintro e w2 ⟨D, rfl, hd2, hb⟩
  have HF := Hi (Format_new H (n := 20) (by decide) (by decide) (fun _ => []) HB1.out hd2 hb HG.out)
  clear hd2 hb hd
  dsimp only
  go_wp2_with fail
  refine HF.out.mono ?_
  rintro e w3 ⟨P, rfl, hl⟩
  have HL : Hid (LawT O w (· < w1.heap.size) w3 P D 20 (S0 20) (fun _ => [])) := Hi hl
  clear hl HF
  dsimp only
  go_wp2_with fail
  refine (chkPages_is H HL.out HG.out (root := 0) (s := ⟨[], [], 0, []⟩) (.inl ⟨rfl, rfl⟩)).mono ?_
  rintro e w4 ⟨v, u, rfl, he, hp, hb⟩
  obtain rfl : u = .nilIface := ErrFrom.zero (show ErrFrom w4 w3.heap.size 0 u from he)
  have hrow := hp.1 rfl
  obtain ⟨A, cap, rfl⟩ : ∃ A cap, v = .slice A 0 cap := by
   rcases hrow.2 with ⟨h1, _⟩ | ⟨g, cap, cur, h1, _⟩
   ·exact ⟨none, 0, h1⟩
   ·exact ⟨_, cap, h1⟩
  have HL4 : Hid (LawT O w (· < w1.heap.size) w4 P D 20 (S0 20) (fun _ => [])) := Hi (HL.out.carry H hb)
  clear hb he hp hrow
  dsimp only
  go_wp2_with fail
  refine (chkDepth_is H HL4.out HG.out (root := 0) (s := ⟨[], [], 0, []⟩) (.inl ⟨rfl, rfl⟩)).mono ?_
  rintro e w5 ⟨u, rfl, he, hb⟩
  obtain rfl : u = .nilIface := ErrFrom.zero (show ErrFrom w5 w4.heap.size 0 u from he)
  have HL5 : Hid (LawT O w (· < w1.heap.size) w5 P D 20 (S0 20) (fun _ => [])) := Hi (HL4.out.carry H hb)
  rw [show depZ ⟨[], [], 0, []⟩ = 0 from rfl]
  clear hb he HL4
  obtain ⟨t, HT⟩ : ∃ t : ByteArray, Hid (t = ⟨#[63]⟩ ++ data) := Hy
  have hcat := run_string_add_sum (P := Tryz.prog) w5 ⟨#[63]⟩ data (by have := HN1.out; show 1 + data.size ≤ _; omega)
  rw [← HT.out] at hcat
  have HTS : Hid (t.size ≤ 120) := Hi (by
   rw [HT.out, ByteArray.size_append]
   have := HN1.out
   show 1 + data.size ≤ 120
   omega)
  have HTD : Hid (∃ r, t.data.toList = 63 :: r) := Hi (by rw [HT.out]; exact ⟨data.data.toList, by simp⟩)
  dsimp only
  go_wp2_with fail
  refine (H.newYes HL5.out.pg HL5.out.inv HL5.out.up (HL5.out.laidK HG.out) (by show (0 : Nat) ≤ 100000; decide) t HTS.out 2 (first_free (by decide) (by decide))).mono ?_
  rintro e w6 ⟨rfl, hp, hk⟩
  obtain ⟨S1, HS1⟩ : ∃ S1 : TS, Hid (S1 = ⟨(S0 20).d.write 2 (pgB (pageP t.data.toList)), (S0 20).s.at_ 2, upd (fun _ => []) 2 t.data.toList⟩) := Hy
  have HL6 : Hid (LawT O w (· < w1.heap.size) w6 P D 20 S1 (fun _ => [])) := Hi (by
   rw [HS1.out]
   exact HL5.out.turned hp hk (HL5.out.inv.laid (first_free (by decide) (by decide)) (by have := HTS.out; simpa using this)) HL5.out.up)
  have hst := (StIs.opened_bare 1).at_ (PInv.start (n := 20) (by decide) (by decide) (fun _ => [])) (k := 2) (by decide)
  have HIN : Hid (∀ i : Int, inZ S1.s i = decide (i = 2)) := Hi (fun i => by
   rw [HS1.out]
   by_cases hi : 0 ≤ i ∧ i < 240
   ·obtain ⟨m, rfl⟩ : ∃ m : Nat, i = (m : Int) := ⟨i.toNat, by omega⟩
    rw [inZ_nat (by omega)]
    refine (hst.isIn (by omega)).trans ?_
    by_cases h2 : m = 2
    ·subst h2; rfl
    ·rw [if_neg h2, decide_eq_false (by omega)]; rfl
   ·unfold inZ
    rw [decide_eq_false hi, decide_eq_false (by omega)]; rfl)
  have HS2 : Hid (Svd S1 2 ⟨[], [2], 0, [2]⟩) := Hi (svd_bad (by decide) (by decide) (by
   unfold loadM
   rw [if_neg (by decide), HIN.out, if_pos (by decide)]
   obtain ⟨r, hr⟩ := HTD.out
   rw [HS1.out]
   dsimp only
   rw [show (upd (fun _ => ([] : List UInt8)) 2 t.data.toList) (Int.toNat 2) = 63 :: r by unfold upd; rw [if_pos (by decide), hr], readN_mark]))
  have HSA : Hid (at_ ≠ 0 → at_ ≠ 2 → Svd S1 at_ ⟨[], [at_], 0, [4]⟩) := Hi (fun h0 h2 => svd_bad h0 HAT.out (by
   unfold loadM
   rw [if_neg (by decide), HIN.out, decide_eq_false h2, if_neg (by decide)]))
  rw [show ((2 : Nat) : Int) = 2 from rfl]
  clear hp hk hst HL5 hcat HT HTS HTD
  dsimp only
  go_wp2_with fail
  refine (Num_nil _).mono ?_
  rintro e w' ⟨rfl, rfl⟩
  dsimp only
  go_wp2_with fail
  refine (Num_nil _).mono ?_
  rintro e w' ⟨rfl, rfl⟩
  dsimp only
  go_wp2_with fail
  refine (Num_nil _).mono ?_
  rintro e w' ⟨rfl, rfl⟩
  dsimp only
  go_wp2_with fail
  refine (Num_nil _).mono ?_
  rintro e w' ⟨rfl, rfl⟩
  dsimp only
  go_wp2_with fail
  refine (chkSound_is H HL6.out HG.out HS2.out).mono ?_
  rintro e w7 ⟨u, rfl, he, hb⟩
  have HL7 : Hid (LawT O w (· < w1.heap.size) w7 P D 20 S1 (fun _ => [])) := Hi (HL6.out.carry H hb)
  have HE7 : Hid (ErrIs w7 2 u) := Hi he.is
  have HX7 := Hi (HL7.out.laid HG.out)
  clear he hb
  dsimp only
  go_wp2_with fail
  refine (Num_any 2 u w7 HE7.out HX7.out.err).mono ?_
  rintro e w8 ⟨rfl, hb⟩
  have HL8 : Hid (LawT O w (· < w1.heap.size) w8 P D 20 S1 (fun _ => [])) := Hi (HL7.out.carry H hb)
  clear hb
  dsimp only
  by_cases h0 : at_ = 0
  ·have hd0 : (at_ == 0) = true := by simp [h0]
   go_wp2_with fail
   go_ret
   exact ⟨rfl, HL8.out.below⟩
  ·have hd0 : (at_ == 0) = false := by simp [h0]
   by_cases h2 : at_ = 2
   ·have hd2 : (at_ == 2) = true := by simp [h2]
    go_wp2_with fail
    go_ret
    exact ⟨rfl, HL8.out.below⟩
   ·have hd2 : (at_ == 2) = false := by simp [h2]
    have HSX := Hi (HSA.out h0 h2)
    clear h0 h2
    go_wp2_with fail
    refine (chkSound_is H HL8.out HG.out HSX.out).mono ?_
    rintro e w9 ⟨u2, rfl, he, hb⟩
    have HL9 : Hid (LawT O w (· < w1.heap.size) w9 P D 20 S1 (fun _ => [])) := Hi (HL8.out.carry H hb)
    have HE9 : Hid (ErrIs w9 4 u2) := Hi he.is
    have HX9 := Hi (HL9.out.laid HG.out)
    clear he hb
    dsimp only
    go_wp2_with fail
    refine (Num_any 4 u2 w9 HE9.out HX9.out.err).mono ?_
    rintro e w10 ⟨rfl, hb⟩
    have HB10 := Hi (HL9.out.below.trans (hb.mono HL9.out.below.size))
    clear hb
    dsimp only
    go_wp2_with fail
    go_ret
    exact ⟨rfl, HB10.out⟩
end
end Go.Proofs.YtafclmbecmgbnaaGreatDoor
