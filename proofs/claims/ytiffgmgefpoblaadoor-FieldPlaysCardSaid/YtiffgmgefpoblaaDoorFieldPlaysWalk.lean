/-
  The walk of FieldPlays: the field of any sources is the document's; what may not be is refused. Conditions: none beyond the premises of each theorem.
-/
import Derived.Test.YtiffgmgefpoblaaDoorFieldRefCosts
namespace Go.Proofs.YtiffgmgefpoblaaDoor
open Go.RowKit Hp Fld

set_option maxRecDepth 100000 in
set_option maxHeartbeats 2000000 in
theorem plays_walk (W H : Int) (s : ByteArray) {A : Option Addr} {S : List Int} {cap : Nat} (st : Int) {w : World} (hz : Nums w .i64 A S) (hg : Laid w) : Calls Tryd.prog 3 #[.agg #[.int .i64 W, .int .i64 H, .string s], .slice A S.length cap, .int .i64 st] w fun e w' => e = .returned (.bool true) ∧ Below w.heap.size w w' := by
  have HZ := Lib.hid hz
  clear hz
  obtain ⟨w1, HW1⟩ : ∃ w1, Hid (w1 = w.alloc (.cells #[.int .i64 W, .int .i64 H, .string s] 23)) := ⟨_, Lib.hid rfl⟩
  obtain ⟨p, HP⟩ : ∃ p, Hid (p = w.heap.size) := ⟨_, Lib.hid rfl⟩
  have HR1 : Hid (RefAt w1 p W H s) := Lib.hid (by rw [HW1.out, HP.out]; exact heap_alloc_new w _)
  have HB1 : Hid (Below w.heap.size w w1) := Lib.hid (by rw [HW1.out]; exact (Below.refl _ _).alloc (Nat.le_refl _) _)
  go_enter Tryd.func3, Tryd.ntmps3
  go_upto_region 1 with (fail)
  rw [← HP.out, ← HW1.out]
  clear HP HW1
  go_wp2_with fail
  refine (awake_any w1).mono ?_
  rintro e w2 ⟨rfl, hbw⟩
  have HR2 := Lib.hid (HR1.out.carry hbw)
  have HB2 := Lib.hid (HB1.out.trans (hbw.mono HB1.out.size))
  clear hbw HR1 HB1
  dsimp only
  have c0 := HR2.out.w_
  have c1 := HR2.out.h_
  have c2 := HR2.out.s_
  by_cases hbig : (200 : Int) < (s.size : Int) ∨ (100 : Int) < (S.length : Int)
  · rcases Classical.em ((200 : Int) < (s.size : Int)) with h1 | h1
    · go_wp2_with fail
      refine (awake_any w2).mono ?_
      rintro e w4 ⟨rfl, hbw⟩
      have HB4 := Lib.hid (HB2.out.trans (hbw.mono HB2.out.size))
      clear hbw
      dsimp only
      go_wp2_with fail
      go_ret
      exact ⟨rfl, HB4.out⟩
    · have h2 : (100 : Int) < (S.length : Int) := hbig.resolve_left h1
      go_wp2_with fail
      refine (awake_any w2).mono ?_
      rintro e w4 ⟨rfl, hbw⟩
      have HB4 := Lib.hid (HB2.out.trans (hbw.mono HB2.out.size))
      clear hbw
      dsimp only
      go_wp2_with fail
      go_ret
      exact ⟨rfl, HB4.out⟩
  · have h1 : ¬ (200 : Int) < (s.size : Int) := fun h => hbig (.inl h)
    have h2 : ¬ (100 : Int) < (S.length : Int) := fun h => hbig (.inr h)
    have HSM : Hid (s.size ≤ maxLen) := Lib.hid (by unfold maxLen; omega)
    clear hbig
    go_wp2_with fail
    refine (Of_any W H s w2).mono ?_
    rintro e w3 ⟨rfl, hbw⟩
    have HR3 := Lib.hid (HR2.out.carry hbw)
    have HB3 := Lib.hid (HB2.out.trans (hbw.mono HB2.out.size))
    clear hbw HR2 HB2 c0 c1 c2
    by_cases hok : S.length ≤ 64 ∧ 1 ≤ st ∧ st ≤ 100 ∧ rightM W H s = true
    · obtain ⟨ok1, ok2, ok3, ok4⟩ := hok
      have HRT := Lib.hid ok4
      have HSZ : Hid (s.data.toList.length = s.size ∧ s.size ≤ 64) := Lib.hid (by
        obtain ⟨_, _, _, _, _, _, _, _, hlen, _, h64⟩ := right_small ok4
        exact ⟨hlen, h64⟩)
      have hco := Lib.hid (Costs_yes (cap := cap) (st := st) W H s (HZ.out.carry HB3.out) ok4 ok2 ok3 ok1)
      clear ok4
      go_wp2_with fail
      refine hco.out.mono ?_
      rintro e w4 ⟨gF, F, rfl, hg9, hrow, hfi, hbm⟩
      have HLF : Hid (F.length ≤ 1000) := Lib.hid (by rw [hfi.len, HSZ.out.1]; have := HSZ.out.2; omega)
      have HIF := Lib.hid hfi
      have HNF := Lib.hid hrow.nums
      have HR4 := Lib.hid (HR3.out.carry hbm)
      have HB4 := Lib.hid (HB3.out.trans (hbm.mono HB3.out.size))
      clear hco hg9 hrow hfi hbm HR3 HB3
      have c0 := HR4.out.w_
      have c1 := HR4.out.h_
      have c2 := HR4.out.s_
      have hrr := Lib.hid (RefRight_any W H s w4)
      rw [HRT.out] at hrr
      go_wp2_with fail
      refine hrr.out.mono ?_
      rintro e w5 ⟨rfl, hb5⟩
      have HR5 := Lib.hid (HR4.out.carry hb5)
      have HB5 := Lib.hid (HB4.out.trans (hb5.mono HB4.out.size))
      have HN5 := Lib.hid (HNF.out.carry hb5)
      clear hrr hb5 HR4 HB4 HNF c0 c1 c2
      have c0 := HR5.out.w_
      have c1 := HR5.out.h_
      have c2 := HR5.out.s_
      have d1 : ¬ st < 1 := by omega
      have d2 : ¬ (100 : Int) < st := by omega
      have d3 : ¬ (64 : Int) < (S.length : Int) := by omega
      have hre := Lib.hid (RefCosts_any (cap := cap) (st := st) W H s (HZ.out.carry HB5.out) HRT.out ok2 ok3 ok1)
      go_wp2_with (go_at_call 13; refine (Num_nil _).mono ?_; rintro e w9 ⟨rfl, rfl⟩)
      refine hre.out.mono ?_
      rintro e w6 ⟨gG, G, rfl, hng, hgi, hb6⟩
      have hFG : F = G := HIF.out.uniq hgi
      subst hFG
      have HB6 := Lib.hid (HB5.out.trans (hb6.mono HB5.out.size))
      have hin := Lib.hid (Ints_any (c1 := F.length) (c2 := F.length) (HN5.out.carry hb6) hng HLF.out)
      rw [if_pos rfl] at hin
      clear hre hng hgi hb6 HR5 HB5 HN5 c0 c1 c2 d1 d2 d3
      go_wp2_with fail
      refine hin.out.mono ?_
      rintro e w7 ⟨rfl, hb7⟩
      have HB7 := Lib.hid (HB6.out.trans (hb7.mono HB6.out.size))
      clear hin hb7
      go_wp2_with fail
      go_ret
      exact ⟨rfl, HB7.out⟩
    · have hco := Lib.hid (Costs_no (w := w3) (A := A) (cap := cap) (S := S) (st := st) W H s HSM.out (by unfold maxLen; omega) hok)
      go_wp2_with fail
      refine hco.out.mono ?_
      rintro e w4 ⟨ev, rfl, herr, hbm⟩
      have HER := Lib.hid herr
      have HR4 := Lib.hid (HR3.out.carry hbm)
      have HB4 := Lib.hid (HB3.out.trans (hbm.mono HB3.out.size))
      clear hco herr hbm HR3 HB3
      have c0 := HR4.out.w_
      have c1 := HR4.out.h_
      have c2 := HR4.out.s_
      obtain ⟨z, HZ2⟩ : ∃ z, Hid (z = rightM W H s) := ⟨_, Lib.hid rfl⟩
      have hrr := Lib.hid (RefRight_any W H s w4)
      rw [← HZ2.out] at hrr
      have HNO : Hid (z = true → ¬ st < 1 → ¬ (100 : Int) < st → (64 : Int) < (S.length : Int)) := Lib.hid (fun h1 h2 h3 => by
        have : ¬ S.length ≤ 64 := fun h4 => hok ⟨h4, by omega, by omega, by rw [← HZ2.out]; exact h1⟩
        omega)
      clear hok
      have END : ∀ w5, Below w.heap.size w w5 → ErrFrom w5 w3.heap.size 1 ev → Calls Tryd.prog 13 #[ev] w5 fun e w' => e = .returned (.int .i64 1) ∧ Below w.heap.size w w' := fun w5 h5 he5 => (Num_any 1 ev w5 he5.is (hg.carry h5)).mono (by
        rintro e w' ⟨rfl, h⟩
        exact ⟨rfl, h5.trans (h.mono h5.size)⟩)
      have HEND := Lib.hid END
      clear END
      go_wp2_with fail
      refine hrr.out.mono ?_
      rintro e w5 ⟨rfl, hb5⟩
      have HB5 := Lib.hid (HB4.out.trans (hb5.mono HB4.out.size))
      have hnum := Lib.hid (HEND.out w5 HB5.out (HER.out.below hb5))
      clear hrr hb5 HR4 HB4 HER HEND c0 c1 c2
      cases z with
      | false =>
        go_wp2_with fail
        refine hnum.out.mono ?_
        rintro e w6 ⟨rfl, hb6⟩
        clear hnum
        go_wp2_with fail
        go_ret
        exact ⟨rfl, hb6⟩
      | true =>
        rcases Classical.em (st < 1) with d1 | d1
        · go_wp2_with fail
          refine hnum.out.mono ?_
          rintro e w6 ⟨rfl, hb6⟩
          clear hnum
          go_wp2_with fail
          go_ret
          exact ⟨rfl, hb6⟩
        · rcases Classical.em ((100 : Int) < st) with d2 | d2
          · go_wp2_with fail
            refine hnum.out.mono ?_
            rintro e w6 ⟨rfl, hb6⟩
            clear hnum
            go_wp2_with fail
            go_ret
            exact ⟨rfl, hb6⟩
          · have d3 := HNO.out rfl (by omega) (by omega)
            go_wp2_with fail
            refine hnum.out.mono ?_
            rintro e w6 ⟨rfl, hb6⟩
            clear hnum
            go_wp2_with fail
            go_ret
            exact ⟨rfl, hb6⟩
end Go.Proofs.YtiffgmgefpoblaaDoor
