/-
  The walk of the statement SuperUnlike: it answers true, and no memory that was there has turned. Conditions: errors.errorType and crc.halved are laid.
-/
import Derived.Test.YtaolkmlgdhnhaaaDoorSb
namespace Go.Proofs.YtaolkmlgdhnhaaaDoor
open Go.RowKit

/-- two superblocks that a law was called with -/
structure TwoSt (w wr : World) (b : Nat) (x y : Sb) : Prop where
  fst : BOwn wr b x
  snd : BOwn wr (b + 1) y
  below : Below w.heap.size w wr
theorem TwoSt.carry {w wi wj : World} {b : Nat} {x y : Sb} (h : TwoSt w wi b x y) (hb : Below wi.heap.size wi wj) : TwoSt w wj b x y :=
  ⟨h.fst.below hb h.fst.lt, h.snd.below hb h.snd.lt, h.below.trans (hb.mono h.below.size)⟩
theorem TwoSt.new (w : World) (x y : Sb) (t : TypeId) : TwoSt w ((w.alloc (.cells (sbArr x) t)).alloc (.cells (sbArr y) t)) w.heap.size x y :=
  ⟨(BOwn.new _).below ((Below.refl _ _).alloc (Nat.le_refl _) _) (by simp), by have := BOwn.new (w := w.alloc (.cells (sbArr x) t)) (x := y) t; simpa using this,
    ((Below.refl _ _).alloc (Nat.le_refl _) _).alloc (by simp) _⟩
set_option maxRecDepth 100000 in
set_option maxHeartbeats 4000000 in
theorem unlike_walk (x y : Sb) (hx : x.Ok) (hy : y.Ok) (w : World) (hg : Laid2 w) :
    Calls Tryd.prog 7 #[sbV x, sbV y] w fun e w' => e = .returned (.bool true) ∧ Below w.heap.size w w' := by
  have HX := Lib.hid hx
  have HY := Lib.hid hy
  obtain ⟨b, HB⟩ : ∃ b, Hid (b = w.heap.size) := ⟨_, Lib.hid rfl⟩
  obtain ⟨w1, HW⟩ : ∃ w1, Hid (w1 = (w.alloc (.cells (sbArr x) 25)).alloc (.cells (sbArr y) 25)) := ⟨_, Lib.hid rfl⟩
  have HS : Hid (TwoSt w w1 b x y) := Lib.hid (by rw [HW.out, HB.out]; exact TwoSt.new _ _ _ _)
  have HGK : Hid (∀ w', Below w.heap.size w w' → Laid2 w') := Lib.hid fun w' h => hg.carry h
  clear hg hx hy
  go_enter Tryd.func7, Tryd.ntmps7
  go_upto_region 1 with (fail)
  rw [← HW.out, ← HB.out]
  clear HW
  go_wp2_with fail
  refine (awake_any _ (HGK.out _ HS.out.below)).mono ?_
  rintro e w2 ⟨rfl, hb⟩
  have HS2 := Lib.hid (HS.out.carry hb)
  clear hb HS
  go_wp2_with (with_reducible refine stop_at (o := ⟨some 12, _, _, _, _, _⟩) ?_)
  refine wpList_load_sb Tryd.sbRef (by rfl) _ rfl b rfl x HX.out HS2.out.fst.at_ ?_
  go_wp2_with fail
  refine (RefRight_any x HX.out _).mono ?_
  rintro e w3 ⟨rfl, hb⟩
  have HS3 := Lib.hid (HS2.out.carry hb)
  clear hb HS2
  cases hr : rightB x with
  | false =>
    clear hr
    go_wp2_with fail
    refine (awake_any _ (HGK.out _ HS3.out.below)).mono ?_
    rintro e w4 ⟨rfl, hb⟩
    have HS4 := Lib.hid (HS3.out.carry hb)
    clear hb
    go_wp2_with fail
    go_ret
    exact ⟨rfl, HS4.out.below⟩
  | true =>
    have HRX := Lib.hid hr
    clear hr
    go_wp2_with (with_reducible refine stop_at (o := ⟨some 17, _, _, _, _, _⟩) ?_)
    refine wpList_load_sb Tryd.sbRef (by rfl) _ rfl (b + 1) rfl y HY.out HS3.out.snd.at_ ?_
    go_wp2_with fail
    refine (RefRight_any y HY.out _).mono ?_
    rintro e w4 ⟨rfl, hb⟩
    have HS4 := Lib.hid (HS3.out.carry hb)
    clear hb HS3
    cases hr : rightB y with
    | false =>
      clear hr
      go_wp2_with fail
      refine (awake_any _ (HGK.out _ HS4.out.below)).mono ?_
      rintro e w5 ⟨rfl, hb⟩
      have HS5 := Lib.hid (HS4.out.carry hb)
      clear hb
      go_wp2_with fail
      go_ret
      exact ⟨rfl, HS5.out.below⟩
    | true =>
      have HRY := Lib.hid hr
      clear hr
      go_wp2_with (with_reducible refine stop_at (o := ⟨some 23, _, _, _, _, _⟩) ?_)
      refine wpList_load_sb Tryd.sbRef (by rfl) _ rfl b rfl x HX.out HS4.out.fst.at_ ?_
      go_wp2_with fail
      refine (Of_any x HX.out _).mono ?_
      rintro e w5 ⟨rfl, hb⟩
      have HS5 := Lib.hid (HS4.out.carry hb)
      clear hb HS4
      go_wp2_with fail
      refine (Lay_any x HX.out _).mono ?_
      rintro e w6 ⟨v, rfl, he, hb⟩
      rw [HRX.out, if_pos rfl] at he
      rw [HRX.out, if_pos rfl]
      obtain rfl := he.zero
      have HS6 := Lib.hid (HS5.out.carry hb)
      obtain ⟨p, HP⟩ : ∃ p : ByteArray, Hid (p = ⟨(layS x).toArray⟩) := ⟨_, Lib.hid rfl⟩
      rw [← HP.out]
      clear he hb HS5
      go_wp2_with (with_reducible refine stop_at (o := ⟨some 29, _, _, _, _, _⟩) ?_)
      refine wpList_load_sb Tryd.sbRef (by rfl) _ rfl (b + 1) rfl y HY.out HS6.out.snd.at_ ?_
      go_wp2_with fail
      refine (Of_any y HY.out _).mono ?_
      rintro e w7 ⟨rfl, hb⟩
      have HS7 := Lib.hid (HS6.out.carry hb)
      clear hb HS6
      go_wp2_with fail
      refine (Lay_any y HY.out _).mono ?_
      rintro e w8 ⟨v, rfl, he, hb⟩
      rw [HRY.out, if_pos rfl] at he
      rw [HRY.out, if_pos rfl]
      obtain rfl := he.zero
      have HS8 := Lib.hid (HS7.out.carry hb)
      obtain ⟨q, HQ⟩ : ∃ q : ByteArray, Hid (q = ⟨(layS y).toArray⟩) := ⟨_, Lib.hid rfl⟩
      rw [← HQ.out]
      clear he hb HS7
      have hps : p.size = 35 := by rw [HP.out, toArr_size, layS_length HX.out]
      have HPQ : Hid (p = q ↔ x = y) := Lib.hid ⟨fun h => layS_inj HX.out HY.out HRX.out HRY.out (by
        rw [HP.out, HQ.out] at h
        have := congrArg (fun s : ByteArray => s.data.toList) h
        simpa using this), fun h => by subst h; rw [HP.out, HQ.out]⟩
      have heq := fun w => eql_sb HX.out HY.out w
      have hgd := guardSb
      go_wp2_with fail
      refine (Num_nil _).mono ?_
      rintro e w' ⟨rfl, rfl⟩
      go_wp2_with fail
      refine (Num_nil _).mono ?_
      rintro e w' ⟨rfl, rfl⟩
      go_wp2_with (with_reducible refine stop_at (o := ⟨some 46, _, _, _, _, _⟩) ?_)
      refine wpList_load_sb Tryd.sbRef (by rfl) _ rfl b rfl x HX.out HS8.out.fst.at_ ?_
      refine wpList_load_sb Tryd.sbRef (by rfl) _ rfl (b + 1) rfl y HY.out HS8.out.snd.at_ ?_
      by_cases hxy : x = y
      · have hpq := HPQ.out.2 hxy
        subst hxy
        subst hpq
        rw [decide_eq_true rfl] at heq
        go_wp2_with fail
        go_ret
        exact ⟨rfl, HS8.out.below⟩
      · have hpq : (p.toList == q.toList) = false := by
          rw [beq_eq_false_iff_ne, ByteArray.toList_eq, ByteArray.toList_eq]
          exact fun h => hxy (HPQ.out.1 (ByteArray.ext (Array.toList_inj.mp h)))
        rw [decide_eq_false hxy] at heq
        go_wp2_with fail
        go_ret
        exact ⟨rfl, HS8.out.below⟩
end Go.Proofs.YtaolkmlgdhnhaaaDoor
