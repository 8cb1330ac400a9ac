/-
 ChkWrGood. Conditions: as each theorem says.
-/
import Derived.Test.YtafclmbecmgbnaaGreatDoorChkWrMath
namespace Go.Proofs.YtafclmbecmgbnaaGreatDoor
open Go.RowKit
abbrev wrR (key : Int) (q : Nat) : Nd := ⟨[key], [], [2, (q : Int)]⟩
theorem wrR_right {key : Int} (hk : 0 ≤ key ∧ key ≤ 4294967295) {q : Nat} (hq : kidsB [2, (q : Int)] = true) : rightN (wrR key q) = true := by
 unfold rightN
 rw [keysB_iff.2 ⟨fun z hz => by rw [List.mem_singleton.1 hz]; exact hk, List.pairwise_singleton _ _⟩, if_neg (show ¬ (wrR key q).kids.length = 0 by simp), hq]
 rfl
def WrGood (S : TS) (key : Int) (q : Nat) (fz : Int) : Prop := ∃ k : Nat, S.s.first 30 = some k ∧ rightN (wrR key q) = true ∧ ∀ d : Dk, ∃ s, Svd ⟨d, S.s.at_ k, upd S.data k (layN (wrR key q))⟩ (k : Int) s ∧ fltZ s = fz ∧ depZ s = (if fz = 0 then 2 else 0) ∧
 (fz = 0 → rootOk (S.s.at_ k) (k : Int) = true ∧ (S.s.at_ k).sup.gen + 1 < 4294967296 ∧ ∀ d2 : Dk, ∃ s2, Svd ⟨d2, (S.s.at_ k).commit (k : Int), upd S.data k (layN (wrR key q))⟩ ((S.s.at_ k).commit (k : Int)).sup.root s2 ∧ wholeZ ⟨d2, (S.s.at_ k).commit (k : Int), upd S.data k (layN (wrR key q))⟩ s2 = 0)
def wrD (x c y : Nat) : Nat → List UInt8 := upd (upd (fun _ => []) 2 (layN (lvN x c))) 3 (layN (lvN y 3))
theorem upd_same9 (f : Nat → List UInt8) (k : Nat) (t : List UInt8) : upd f k t k = t := if_pos rfl
theorem upd_other9 (f : Nat → List UInt8) (t : List UInt8) {k j : Nat} (h : j ≠ k) : upd f k t j = f j := if_neg h
theorem wrD_two (x c y : Nat) : wrD x c y 2 = layN (lvN x c) := (upd_other9 _ _ (by decide)).trans (upd_same9 _ _ _)
theorem wrD_three (x c y : Nat) : wrD x c y 3 = layN (lvN y 3) := upd_same9 _ _ _
theorem k43 : (4 : Nat) ≠ 0 ∧ 4 < 240 ∧ (2 : Int) ≠ ((4 : Nat) : Int) ∧ ((3 : Nat) : Int) ≠ ((4 : Nat) : Int) ∧ ((3 : Nat) : Int) ≠ 2 := by decide
theorem k54 : (5 : Nat) ≠ 0 ∧ 5 < 240 ∧ (2 : Int) ≠ ((5 : Nat) : Int) ∧ ((4 : Nat) : Int) ≠ ((5 : Nat) : Int) ∧ ((4 : Nat) : Int) ≠ 2 := by decide
theorem k429 : (4 : Nat) ≠ 0 ∧ 4 < 240 ∧ (2 : Int) ≠ ((4 : Nat) : Int) ∧ ((29 : Nat) : Int) ≠ ((4 : Nat) : Int) ∧ ((29 : Nat) : Int) ≠ 2 := by decide
section
variable {d0 : Dk} {x c y : Nat} (hx : x < 50) (hc : 3 ≤ c ∧ c ≤ 7) (hy : 100 ≤ y ∧ y < 150)
include hx hc hy
theorem wr_good0 : WrGood ⟨d0, (pw0.at_ 2).at_ 3, wrD x c y⟩ (y : Int) 3 0 := by
 refine ⟨4, pw_first.2.2.1, wrR_right ⟨by omega, by omega⟩ (by decide), fun d => ⟨⟨[], [((4 : Nat) : Int), 2, ((3 : Nat) : Int)], 2, []⟩, ?_, rfl, rfl, fun _ => ⟨(pw_in4 _ rfl).2.2.2.2.2.2.2.1, (pw_in4 _ rfl).2.2.2.2.2.2.2.2, fun d2 => ⟨⟨[], [((4 : Nat) : Int), 2, ((3 : Nat) : Int)], 2, []⟩, ?_, ?_⟩⟩⟩⟩
 ·show Svd ⟨d, ((pw0.at_ 2).at_ 3).at_ 4, upd (wrD x c y) 4 (layN (wrR (y : Int) 3))⟩ ((4 : Nat) : Int) ⟨[], [((4 : Nat) : Int), 2, ((3 : Nat) : Int)], 2, []⟩
  obtain ⟨G, hG⟩ : ∃ G, G = upd (wrD x c y) 4 (layN (wrR (y : Int) 3)) := ⟨_, rfl⟩
  rw [← hG]
  have g4 : G 4 = layN (wrR (y : Int) 3) := by rw [hG]; exact upd_same9 _ _ _
  have g2 : G 2 = layN (lvN x c) := by rw [hG, upd_other9 _ _ (by decide)]; exact wrD_two x c y
  have g3 : G 3 = layN (lvN y 3) := by rw [hG, upd_other9 _ _ (by decide)]; exact wrD_three x c y
  clear hG
  generalize hs : ((pw0.at_ 2).at_ 3).at_ 4 = s
  have h := pw_in4 s hs.symm
  exact wr_twoF (k := 4) (q := 3) (x := x) (c := c) (y := y) (e := 3) (key := (y : Int)) ⟨by omega, by omega⟩ (by omega) ⟨by omega, hc.2⟩ (by omega) (by decide) k43 h.2.2.1 h.1 h.2.1 h.2.2.2.2.2.2.1 h.2.2.2.2.1 h.2.2.2.2.2.1 (wrR_right ⟨by omega, by omega⟩ (by decide)) g4 g2 g3
   (by rw [decide_eq_true hc.1, decide_eq_true (show (0 : Int) ≤ (x : Int) by omega), decide_eq_true (show ((x + (c - 1) : Nat) : Int) < (y : Int) by omega), decide_eq_true (Int.le_refl (y : Int)), decide_eq_true (show ((y + (3 - 1) : Nat) : Int) < 4294967296 by omega)]; rfl) (Nat.zero_le _)
 ·show Svd ⟨d2, (((pw0.at_ 2).at_ 3).at_ 4).commit ((4 : Nat) : Int), upd (wrD x c y) 4 (layN (wrR (y : Int) 3))⟩ ((((pw0.at_ 2).at_ 3).at_ 4).commit ((4 : Nat) : Int)).sup.root ⟨[], [((4 : Nat) : Int), 2, ((3 : Nat) : Int)], 2, []⟩
  obtain ⟨G, hG⟩ : ∃ G, G = upd (wrD x c y) 4 (layN (wrR (y : Int) 3)) := ⟨_, rfl⟩
  rw [← hG]
  have g4 : G 4 = layN (wrR (y : Int) 3) := by rw [hG]; exact upd_same9 _ _ _
  have g2 : G 2 = layN (lvN x c) := by rw [hG, upd_other9 _ _ (by decide)]; exact wrD_two x c y
  have g3 : G 3 = layN (lvN y 3) := by rw [hG, upd_other9 _ _ (by decide)]; exact wrD_three x c y
  clear hG
  generalize hs : (((pw0.at_ 2).at_ 3).at_ 4).commit ((4 : Nat) : Int) = s
  have h := pw_com s hs.symm
  rw [h.2.2.2.2.2.2]
  exact wr_twoF (k := 4) (q := 3) (x := x) (c := c) (y := y) (e := 3) (key := (y : Int)) ⟨by omega, by omega⟩ (by omega) ⟨by omega, hc.2⟩ (by omega) (by decide) k43 h.2.2.1 h.1 h.2.1 h.2.2.2.2.2.1 h.2.2.2.1 h.2.2.2.2.1 (wrR_right ⟨by omega, by omega⟩ (by decide)) g4 g2 g3
   (by rw [decide_eq_true hc.1, decide_eq_true (show (0 : Int) ≤ (x : Int) by omega), decide_eq_true (show ((x + (c - 1) : Nat) : Int) < (y : Int) by omega), decide_eq_true (Int.le_refl (y : Int)), decide_eq_true (show ((y + (3 - 1) : Nat) : Int) < 4294967296 by omega)]; rfl) (Nat.zero_le _)
 ·unfold wholeZ
  rw [if_pos rfl]
  exact if_pos pw_used
theorem wr_good1 : WrGood ⟨d0, (pw0.at_ 2).at_ 3, wrD x c y⟩ ((y : Int) + 1) 3 2 := by
 refine ⟨4, pw_first.2.2.1, wrR_right ⟨by omega, by omega⟩ (by decide), fun d => ⟨⟨[], [((4 : Nat) : Int), 2, ((3 : Nat) : Int)], 2, [2]⟩, ?_, rfl, rfl, fun h => absurd h (by decide)⟩⟩
 show Svd ⟨d, ((pw0.at_ 2).at_ 3).at_ 4, upd (wrD x c y) 4 (layN (wrR ((y : Int) + 1) 3))⟩ ((4 : Nat) : Int) ⟨[], [((4 : Nat) : Int), 2, ((3 : Nat) : Int)], 2, [2]⟩
 obtain ⟨G, hG⟩ : ∃ G, G = upd (wrD x c y) 4 (layN (wrR ((y : Int) + 1) 3)) := ⟨_, rfl⟩
 rw [← hG]
 have g4 : G 4 = layN (wrR ((y : Int) + 1) 3) := by rw [hG]; exact upd_same9 _ _ _
 have g2 : G 2 = layN (lvN x c) := by rw [hG, upd_other9 _ _ (by decide)]; exact wrD_two x c y
 have g3 : G 3 = layN (lvN y 3) := by rw [hG, upd_other9 _ _ (by decide)]; exact wrD_three x c y
 clear hG
 generalize hs : ((pw0.at_ 2).at_ 3).at_ 4 = s
 have h := pw_in4 s hs.symm
 exact wr_twoF (k := 4) (q := 3) (x := x) (c := c) (y := y) (e := 3) (key := (y : Int) + 1) ⟨by omega, by omega⟩ (by omega) ⟨by omega, hc.2⟩ (by omega) (by decide) k43 h.2.2.1 h.1 h.2.1 h.2.2.2.2.2.2.1 h.2.2.2.2.1 h.2.2.2.2.2.1 (wrR_right ⟨by omega, by omega⟩ (by decide)) g4 g2 g3
  (by rw [decide_eq_true hc.1, decide_eq_true (show (0 : Int) ≤ (x : Int) by omega), decide_eq_true (show ((x + (c - 1) : Nat) : Int) < (y : Int) + 1 by omega), decide_eq_false (show ¬ ((y : Int) + 1 ≤ (y : Int)) by omega)]; rfl) (Nat.le_refl _)
theorem wr_good2 : WrGood ⟨d0, ((pw0.at_ 2).at_ 3).at_ 4, upd (wrD x c y) 4 (layN (lvN y 2))⟩ (y : Int) 4 2 := by
 refine ⟨5, pw_first.2.2.2, wrR_right ⟨by omega, by omega⟩ (by decide), fun d => ⟨⟨[], [((5 : Nat) : Int), 2, ((4 : Nat) : Int)], 2, [2]⟩, ?_, rfl, rfl, fun h => absurd h (by decide)⟩⟩
 show Svd ⟨d, (((pw0.at_ 2).at_ 3).at_ 4).at_ 5, upd (upd (wrD x c y) 4 (layN (lvN y 2))) 5 (layN (wrR (y : Int) 4))⟩ ((5 : Nat) : Int) ⟨[], [((5 : Nat) : Int), 2, ((4 : Nat) : Int)], 2, [2]⟩
 obtain ⟨G, hG⟩ : ∃ G, G = upd (upd (wrD x c y) 4 (layN (lvN y 2))) 5 (layN (wrR (y : Int) 4)) := ⟨_, rfl⟩
 rw [← hG]
 have g5 : G 5 = layN (wrR (y : Int) 4) := by rw [hG]; exact upd_same9 _ _ _
 have g2 : G 2 = layN (lvN x c) := by rw [hG, upd_other9 _ _ (by decide), upd_other9 _ _ (by decide)]; exact wrD_two x c y
 have g4 : G 4 = layN (lvN y 2) := by rw [hG, upd_other9 _ _ (by decide)]; exact upd_same9 _ _ _
 clear hG
 generalize hs : (((pw0.at_ 2).at_ 3).at_ 4).at_ 5 = s
 have h := pw_in5 s hs.symm
 exact wr_twoF (k := 5) (q := 4) (x := x) (c := c) (y := y) (e := 2) (key := (y : Int)) ⟨by omega, by omega⟩ (by omega) ⟨by omega, hc.2⟩ (by omega) (by decide) k54 h.2.2.1 h.1 h.2.1 h.2.2.2.2.2 h.2.2.2.1 h.2.2.2.2.1 (wrR_right ⟨by omega, by omega⟩ (by decide)) g5 g2 g4
  (by rw [decide_eq_true hc.1, decide_eq_true (show (0 : Int) ≤ (x : Int) by omega), decide_eq_true (show ((x + (c - 1) : Nat) : Int) < (y : Int) by omega)]; rfl) (Nat.le_refl _)
theorem wr_good3 : WrGood ⟨d0, (pw0.at_ 2).at_ 3, wrD x c y⟩ (x : Int) 3 2 := by
 refine ⟨4, pw_first.2.2.1, wrR_right ⟨by omega, by omega⟩ (by decide), fun d => ⟨⟨[], [((4 : Nat) : Int), 2, ((3 : Nat) : Int)], 2, [2]⟩, ?_, rfl, rfl, fun h => absurd h (by decide)⟩⟩
 show Svd ⟨d, ((pw0.at_ 2).at_ 3).at_ 4, upd (wrD x c y) 4 (layN (wrR (x : Int) 3))⟩ ((4 : Nat) : Int) ⟨[], [((4 : Nat) : Int), 2, ((3 : Nat) : Int)], 2, [2]⟩
 obtain ⟨G, hG⟩ : ∃ G, G = upd (wrD x c y) 4 (layN (wrR (x : Int) 3)) := ⟨_, rfl⟩
 rw [← hG]
 have g4 : G 4 = layN (wrR (x : Int) 3) := by rw [hG]; exact upd_same9 _ _ _
 have g2 : G 2 = layN (lvN x c) := by rw [hG, upd_other9 _ _ (by decide)]; exact wrD_two x c y
 have g3 : G 3 = layN (lvN y 3) := by rw [hG, upd_other9 _ _ (by decide)]; exact wrD_three x c y
 clear hG
 generalize hs : ((pw0.at_ 2).at_ 3).at_ 4 = s
 have h := pw_in4 s hs.symm
 exact wr_twoF (k := 4) (q := 3) (x := x) (c := c) (y := y) (e := 3) (key := (x : Int)) ⟨by omega, by omega⟩ (by omega) ⟨by omega, hc.2⟩ (by omega) (by decide) k43 h.2.2.1 h.1 h.2.1 h.2.2.2.2.2.2.1 h.2.2.2.2.1 h.2.2.2.2.2.1 (wrR_right ⟨by omega, by omega⟩ (by decide)) g4 g2 g3
  (by rw [decide_eq_true hc.1, decide_eq_true (show (0 : Int) ≤ (x : Int) by omega), decide_eq_false (show ¬ (((x + (c - 1) : Nat) : Int) < (x : Int)) by omega), decide_eq_true (show (x : Int) ≤ (y : Int) by omega), decide_eq_true (show ((y + (3 - 1) : Nat) : Int) < 4294967296 by omega)]; rfl) (Nat.le_refl _)
theorem wr_good4 : WrGood ⟨d0, (pw0.at_ 2).at_ 3, wrD x c y⟩ (y : Int) 29 4 := by
 refine ⟨4, pw_first.2.2.1, wrR_right ⟨by omega, by omega⟩ (by decide), fun d => ⟨⟨[], [((4 : Nat) : Int), 2, ((29 : Nat) : Int)], 2, [4]⟩, ?_, rfl, rfl, fun h => absurd h (by decide)⟩⟩
 show Svd ⟨d, ((pw0.at_ 2).at_ 3).at_ 4, upd (wrD x c y) 4 (layN (wrR (y : Int) 29))⟩ ((4 : Nat) : Int) ⟨[], [((4 : Nat) : Int), 2, ((29 : Nat) : Int)], 2, [4]⟩
 obtain ⟨G, hG⟩ : ∃ G, G = upd (wrD x c y) 4 (layN (wrR (y : Int) 29)) := ⟨_, rfl⟩
 rw [← hG]
 have g4 : G 4 = layN (wrR (y : Int) 29) := by rw [hG]; exact upd_same9 _ _ _
 have g2 : G 2 = layN (lvN x c) := by rw [hG, upd_other9 _ _ (by decide)]; exact wrD_two x c y
 have g3 : G 3 = layN (lvN y 3) := by rw [hG, upd_other9 _ _ (by decide)]; exact wrD_three x c y
 clear hG
 generalize hs : ((pw0.at_ 2).at_ 3).at_ 4 = s
 have h := pw_in4 s hs.symm
 exact wr_oneF (k := 4) (q := 29) (x := x) (c := c) (key := (y : Int)) ⟨by omega, by omega⟩ (by omega) hc (by omega) k429 h.2.2.1 h.1 h.2.2.2.1 h.2.2.2.2.2.2.1 h.2.2.2.2.1 (wrR_right ⟨by omega, by omega⟩ (by decide)) g4 g2
end
end Go.Proofs.YtafclmbecmgbnaaGreatDoor
