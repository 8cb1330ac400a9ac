/-
  The walk of the statement NodeSeeks: it answers true, and no memory that was there has turned. Conditions: the program's calls are as NodeSpec says; errors.errorType is laid.
-/
import Derived.Test.YtakpjphgkpaipaaDoorNodeBack
namespace Go.Proofs.YtakpjphgkpaipaaDoor
open Go.RowKit

def SeekRel (w : World) (p : Nat) (L : Lay3) (x : Nd) (i : Value) (wr : World) : Prop := ∃ k : Nat, k ≤ x.keys.length ∧ i = .int .i64 (k : Int) ∧ BoxS w p L x wr
theorem seek_here {keys : List Int} (h : keys.Pairwise (· < ·)) {key : Int} {i : Nat} (hi : i < keys.length) (he : keys[i] = key) : less keys key = i :=
  less_of h key (Nat.le_of_lt hi) (fun j hj => by rw [← he]; exact List.pairwise_iff_getElem.1 h j i (by omega) hi hj) (fun _ => by rw [he]; exact Int.lt_irrefl _)
set_option maxRecDepth 100000 in
set_option maxHeartbeats 4000000 in
theorem nseeks_walk (H : NodeSpec) {w : World} {l : Lay3} {x : Nd} (h : NdIs w l x) (key : Int) (hk1 : -9223372036854775808 ≤ key) (hk2 : key ≤ 9223372036854775807) (hg : Laid w) :
    Calls Tryd.prog 5 #[ndV l x, .int .i64 key] w fun e w' => e = .returned (.bool true) ∧ Below w.heap.size w w' := by
  obtain ⟨A, B, C, ca, cb, cc⟩ := l
  obtain ⟨p, HP⟩ : ∃ p, Hid (p = w.heap.size) := ⟨_, Lib.hid rfl⟩
  obtain ⟨w1, HW⟩ : ∃ w1, Hid (w1 = w.alloc (.cells #[.slice A x.keys.length ca, .slice B x.vals.length cb, .slice C x.kids.length cc] 25)) := ⟨_, Lib.hid rfl⟩
  have HS : Hid (BoxS w p ⟨A, B, C, ca, cb, cc⟩ x w1) := Lib.hid (by
    rw [HW.out, HP.out]
    exact ⟨NdBox.new (l := ⟨A, B, C, ca, cb, cc⟩) (x := x) _, (Below.refl _ _).alloc (Nat.le_refl _) _⟩)
  have HN : Hid (∀ w', Below w.heap.size w w' → NdIs w' ⟨A, B, C, ca, cb, cc⟩ x) := Lib.hid fun w' hb => h.carry hb
  have HGK : Hid (∀ w', Below w.heap.size w w' → Laid w') := Lib.hid fun w' hb => hg.carry hb
  have HAW : Hid (∀ w', Below w.heap.size w w' → Calls Tryd.prog 8 #[] w' fun e w'' => e = .returned (.bool true) ∧ Below w'.heap.size w' w'') := Lib.hid fun w' hb => awake_any H w' (HGK.out _ hb)
  have HSK : Hid (∀ w', Below w.heap.size w w' → Calls Tryd.prog 20 #[ndV ⟨A, B, C, ca, cb, cc⟩ x, .int .i64 key] w' fun e w'' => e = .returned (.tuple #[.int .i64 ((seekN x key).1 : Int), .bool (seekN x key).2]) ∧ Below w'.heap.size w' w'') := Lib.hid fun w' hb => H.seek (HN.out _ hb) key hk1 hk2
  obtain ⟨fa, HFA⟩ : ∃ f : Int, Hid (f = fewZ x) := ⟨_, Lib.hid rfl⟩
  have hfa : fa = 0 ∨ fa = 1 := by rw [HFA.out]; unfold fewZ; split <;> simp
  obtain ⟨r, HR⟩ : ∃ r, Hid (r = rightN x) := ⟨_, Lib.hid rfl⟩
  obtain ⟨n, HNN⟩ : ∃ n, Hid (n = x.keys.length) := ⟨_, Lib.hid rfl⟩
  have HNL : Hid (n ≤ 9223372036854775807) := Lib.hid (by rw [HNN.out]; exact h.kl)
  clear h hg hk1 hk2
  go_enter Tryd.func5, Tryd.ntmps5
  go_upto_region 1 with (fail)
  rw [← HW.out, ← HP.out]
  clear HW
  go_wp2_with fail
  refine (HAW.out w1 HS.out.below).mono ?_
  rintro e w2 ⟨rfl, hb⟩
  have HS2 := Lib.hid (HS.out.carry hb)
  clear hb HS
  go_wp2_with (with_reducible refine stop_at (o := ⟨some 11, _, _, _, _, _⟩) ?_)
  refine wpList_load_nd Tryd.ndRef (by rfl) _ rfl p rfl ⟨A, B, C, ca, cb, cc⟩ x HS2.out.a ?_
  go_wp2_with fail
  refine (Few_any (HN.out _ HS2.out.below)).mono ?_
  rw [← HFA.out]
  rintro e w3 ⟨rfl, hb⟩
  have HS3 := Lib.hid (HS2.out.carry hb)
  clear hb HS2
  rcases hfa with rfl | rfl
  · go_wp2_with fail
    refine (HAW.out _ HS3.out.below).mono ?_
    rintro e w9 ⟨rfl, hb⟩
    have HB9 := Lib.hid (HS3.out.below.trans (hb.mono HS3.out.below.size))
    clear hb
    go_wp2_with fail
    go_ret
    exact ⟨rfl, HB9.out⟩
  · go_wp2_with (with_reducible refine stop_at (o := ⟨some 17, _, _, _, _, _⟩) ?_)
    refine wpList_load_nd Tryd.ndRef (by rfl) _ rfl p rfl ⟨A, B, C, ca, cb, cc⟩ x HS3.out.a ?_
    go_wp2_with fail
    refine (Of_any ⟨A, B, C, ca, cb, cc⟩ x).mono ?_
    rintro e w4 ⟨rfl, hb⟩
    have HS4 := Lib.hid (HS3.out.carry hb)
    clear hb HS3
    go_wp2_with fail
    refine (HSK.out _ HS4.out.below).mono ?_
    cases r with
    | false =>
      have e : seekN x key = (0, false) := by unfold seekN; rw [← HR.out]; rfl
      rw [e]
      rintro e w5 ⟨rfl, hb⟩
      have HS5 := Lib.hid (HS4.out.carry hb)
      clear hb HS4
      go_wp2_with (with_reducible refine stop_at (o := ⟨some 23, _, _, _, _, _⟩) ?_)
      refine wpList_load_nd Tryd.ndRef (by rfl) _ rfl p rfl ⟨A, B, C, ca, cb, cc⟩ x HS5.out.a ?_
      go_wp2_with fail
      refine (RefRight_any (HN.out _ HS5.out.below)).mono ?_
      rw [← HR.out]
      rintro e w6 ⟨rfl, hb⟩
      have HS6 := Lib.hid (HS5.out.carry hb)
      clear hb HS5
      go_wp2_with fail
      go_ret
      exact ⟨rfl, HS6.out.below⟩
    | true =>
      obtain ⟨m, HM⟩ : ∃ m, Hid (m = less x.keys key) := ⟨_, Lib.hid rfl⟩
      obtain ⟨ok, HOK⟩ : ∃ b, Hid (b = decide (x.keys[less x.keys key]? = some key)) := ⟨_, Lib.hid rfl⟩
      have e : seekN x key = (m, ok) := by unfold seekN; rw [← HR.out, if_pos rfl, ← HM.out, HOK.out, ← HM.out]
      rw [e]
      rintro e w5 ⟨rfl, hb⟩
      have HS5 := Lib.hid (HS4.out.carry hb)
      have HPW : Hid (x.keys.Pairwise (· < ·)) := Lib.hid (keysB_iff.1 (right_parts HR.out.symm).1).2
      clear hb HS4
      go_wp2_with (with_reducible refine stop_at (o := ⟨some 23, _, _, _, _, _⟩) ?_)
      refine wpList_load_nd Tryd.ndRef (by rfl) _ rfl p rfl ⟨A, B, C, ca, cb, cc⟩ x HS5.out.a ?_
      go_wp2_with fail
      refine (RefRight_any (HN.out _ HS5.out.below)).mono ?_
      rw [← HR.out]
      rintro e w6 ⟨rfl, hb⟩
      have HS6 := Lib.hid (HS5.out.carry hb)
      clear hb HS5
      go_wp2_with fail
      go_loopw [7] (fun i wr => SeekRel w p ⟨A, B, C, ca, cb, cc⟩ x i wr) (fun i _ => n - (intOf i).toNat)
      case atStart => exact ⟨0, Nat.zero_le _, rfl, HS6.out⟩
      case round =>
        obtain ⟨k, hk, rfl, hs⟩ := hrel
        have HSR := Lib.hid hs
        rw [← HNN.out] at hk
        clear hs HS6
        have p0 : wr.cell? ⟨p, 0, none⟩ = some (.slice A x.keys.length ca) := HSR.out.a.c0
        rw [← HNN.out] at p0
        have hnl := HNL.out
        by_cases hlt : k < n
        · have hk1 : k < x.keys.length := by have := HNN.out; omega
          obtain ⟨a, rfl, hc⟩ := nums_cell (HN.out _ HSR.out.below).keys hk1
          obtain ⟨z, HZ⟩ : ∃ z, Hid (z = x.keys[k]) := ⟨_, Lib.hid rfl⟩
          rw [← HZ.out] at hc
          have hla := less_at HPW.out key hk1
          rw [← HZ.out, ← HM.out] at hla
          have HK1 := Lib.hid hk1
          rcases Int.lt_trichotomy z key with hz | hz | hz
          · have hkm : k < m := hla.1 hz
            have hne : ¬ z = key := by omega
            clear hla
            go_wp2_with fail
            go_roundw
            case rel => exact ⟨k + 1, HK1.out, by go_num, HSR.out⟩
            case measure => simp [intOf]; omega
          · have hme : m = k := by rw [HM.out]; exact seek_here HPW.out hk1 (by rw [← HZ.out]; exact hz)
            have hok : ok = true := by
              rw [HOK.out, ← HM.out, hme, List.getElem?_eq_getElem hk1, ← HZ.out, hz]
              simp
            subst hz
            subst hme
            subst hok
            clear hla
            go_wp2_with fail
            go_roundw
            case rel => exact ⟨m + 1, HK1.out, by go_num, HSR.out⟩
            case measure => simp [intOf]; omega
          · have hkm : ¬ k < m := fun e => by have := hla.2 e; omega
            have hne : ¬ z = key := by omega
            have hzk : ¬ z < key := by omega
            clear hla
            go_wp2_with fail
            go_roundw
            case rel => exact ⟨k + 1, HK1.out, by go_num, HSR.out⟩
            case measure => simp [intOf]; omega
        · obtain rfl : k = n := by omega
          cases ok with
          | false =>
            go_wp2_with fail
            go_ret
            exact ⟨rfl, HSR.out.below⟩
          | true =>
            have hsome : x.keys[m]? = some key := by rw [HM.out]; exact of_decide_eq_true HOK.out.symm
            obtain ⟨hm1, hm2⟩ := List.getElem?_eq_some_iff.1 hsome
            obtain ⟨a, rfl, hc⟩ := nums_cell (HN.out _ HSR.out.below).keys hm1
            rw [hm2] at hc
            have hmk : m < k := by rw [HNN.out]; exact hm1
            clear hsome hm2
            go_wp2_with fail
            go_ret
            exact ⟨rfl, HSR.out.below⟩
end Go.Proofs.YtakpjphgkpaipaaDoor
