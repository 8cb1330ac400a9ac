/-
  The contracts of bits.With and bits.Without. Conditions: none beyond the premises of each theorem.
-/
import Derived.Test.YteceihjnlncbkaaSetHas
namespace Go.Proofs.Yteceihjnlncbkaa
open Go.RowKit
open Bits (Ok has with_ without)

/-- what With answers -/
def withZ (s : List Nat) (n : Int) : List Nat := if isNum n then with_ s n.toNat else s
def withoutZ (s : List Nat) (n : Int) : List Nat := if isNum n then without s n.toNat else s
theorem withZ_ok {s : List Nat} (h : Ok s) (n : Int) : Ok (withZ s n) := by
  unfold withZ; split
  · exact h.with_ _
  · exact h
theorem withoutZ_ok {s : List Nat} (h : Ok s) (n : Int) : Ok (withoutZ s n) := by
  unfold withoutZ; split
  · exact h.without _
  · exact h
/-- how far the call has come: its copy, its result's place -/
structure WithSt (w wi : World) (b : Nat) (s : List Nat) : Prop where
  own : SOwn wi b s
  res : SOwn wi (b + 1) (zeroSt)
  below : Below w.heap.size w wi
  at_ : b = w.heap.size
theorem WithSt.new (w : World) (s : List Nat) : WithSt w ((w.alloc (.cells (stArr s) 28)).alloc (.cells (stArr (zeroSt)) 28)) w.heap.size s :=
  ⟨(SOwn.new (w := w) 28).below ((Below.refl _ _).alloc (Nat.le_refl _) _) (by simp), by
    have := SOwn.new (w := w.alloc (.cells (stArr s) 28)) (s := zeroSt) 28
    simpa using this, ((Below.refl _ _).alloc (Nat.le_refl _) _).alloc (by simp) _, rfl⟩
theorem WithSt.drew {w wi : World} {b : Nat} {s : List Nat} (h : WithSt w wi b s) : WithSt w wi.drew b s := ⟨h.own.drew, h.res.drew, h.below.drew, h.at_⟩
theorem WithSt.put {w wi : World} {b : Nat} {s : List Nat} (h : WithSt w wi b s) {i : Nat} (hi : i < s.length) (v : Nat) : WithSt w (wi.setCell ⟨b, i, none⟩ (.int .u8 (v : Int))) b (s.set i v) :=
  ⟨h.own.put hi v, h.res.other (by omega) _ _, h.below.setCell (by rw [h.at_]; exact Nat.le_refl _) _, h.at_⟩
set_option maxRecDepth 100000 in
theorem With_yes (s : List Nat) (h : Ok s) (m : Nat) (hm : m < 240) (w : World) :
    Calls Try.prog 12 #[stV s, .int .i64 m] w fun e w' => e = .returned (stV (with_ s m)) ∧ Below w.heap.size w w' := by
  have hz := Try.zeroSet
  have HN : ∀ w, Calls Try.prog 18 #[.int .i64 m] w fun e w' => e = .returned (.bool true) ∧ w' = w := fun w => (isNumber_any m w).mono fun e w' ⟨h1, h2⟩ => ⟨by rw [h1, isNum_nat hm], h2.symm⟩
  obtain ⟨a, HA⟩ : ∃ a, Hid (a = Bits.at_ s (m / 8)) := ⟨_, Lib.hid rfl⟩
  obtain ⟨p, HP⟩ : ∃ p, Hid (p = 2 ^ (m % 8)) := ⟨_, Lib.hid rfl⟩
  have HB : ∀ w, Calls Try.prog 19 #[.int .i64 m] w fun e w' => e = .returned (.int .u8 (p : Int)) ∧ w' = w := fun w => (bit_any m w).mono fun e w' ⟨h1, h2⟩ => ⟨by rw [h1, HP.out], h2.symm⟩
  have hst := WithSt.new w s
  obtain ⟨w2, HW⟩ : ∃ w2, Hid (w2 = (w.alloc (.cells (stArr s) 28)).alloc (.cells (stArr (zeroSt)) 28)) := ⟨_, Lib.hid rfl⟩
  obtain ⟨b, HBB⟩ : ∃ b, Hid (b = w.heap.size) := ⟨_, Lib.hid rfl⟩
  rw [← HW.out, ← HBB.out] at hst
  have HST := Lib.hid hst
  clear hst
  go_enter Try.func12, Try.ntmps12
  go_wp2_with fail
  rw [← HW.out]
  rw [← HBB.out]
  refine (HN _).mono ?_
  rintro e w' ⟨rfl, rfl⟩
  go_wp2_with fail
  obtain ⟨i, HI⟩ : ∃ i, Hid (i = m / 8) := ⟨_, Lib.hid rfl⟩
  have hi : i < 30 := by rw [HI.out]; omega
  have hwr : IntKind.i64.wrap ((m : Int) / 8) = (i : Int) := by rw [HI.out, IntKind.wrap_i64]; omega
  have hi2 : (i : Int) < 30 := by omega
  have hc := set_at HST.out.own.at_ (i := i) (by rw [h.len]; exact hi)
  have hf := HST.out.own.free i
  rw [HI.out, ← HA.out, ← HI.out] at hc
  go_region_law ((go_simp; go_at_call 19; refine (HB _).mono ?_; rintro e w' ⟨rfl, rfl⟩))
  all_goals
    rw [u8_or_nat a p (by rw [HA.out]; exact Bits.at_lt h _) (by rw [HP.out]; exact Bits.pow_lt m)]
    obtain ⟨w3, HW3⟩ : ∃ w3, Hid (w3 = (w'.setCell ⟨b, i, none⟩ (.int .u8 ((a ||| p : Nat) : Int))).drew) := ⟨_, Lib.hid rfl⟩
    rw [← HW3.out]
    have HS3 : Hid (WithSt w w3 b (with_ s m)) := Lib.hid (by
      have := (HST.out.put (i := i) (by rw [h.len]; exact hi) (a ||| p)).drew
      have e : with_ s m = s.set i (a ||| p) := by rw [HA.out, HP.out, HI.out]; rfl
      rw [HW3.out, e]
      exact this)
    clear HW3 HST hc hf HW
    have hl : (with_ s m).length = 30 := (h.with_ m).len
    go_wp2_with (with_reducible refine set_stop (o := ⟨some 15, _, _, _, _, _⟩) ?_)
    refine wpList_load_set rfl _ rfl b rfl (with_ s m) hl HS3.out.own.at_ ?_
    refine wpList_store_set rfl _ _ rfl (b + 1) (with_ s m) zeroSt hl zeroSt_length rfl rfl HS3.out.res ?_
    intro w4 HW4 HO4
    go_wp2_with fail
    refine bodyPost_ret (results_set rfl _ _ (b + 1) (with_ s m) rfl HO4.out.at_ hl) rfl ⟨rfl, ?_⟩
    have := HS3.out.below
    exact below_cells_of this HW4.out (by have := HS3.out.at_; omega)
set_option maxRecDepth 100000 in
theorem With_no (s : List Nat) (h : Ok s) (n : Int) (hn : isNum n = false) (w : World) :
    Calls Try.prog 12 #[stV s, .int .i64 n] w fun e w' => e = .returned (stV s) ∧ Below w.heap.size w w' := by
  have hz := Try.zeroSet
  have HN : ∀ w, Calls Try.prog 18 #[.int .i64 n] w fun e w' => e = .returned (.bool false) ∧ w' = w := fun w => (isNumber_any n w).mono fun e w' ⟨h1, h2⟩ => ⟨by rw [h1, hn], h2.symm⟩
  have hst := WithSt.new w s
  obtain ⟨w2, HW⟩ : ∃ w2, Hid (w2 = (w.alloc (.cells (stArr s) 28)).alloc (.cells (stArr zeroSt) 28)) := ⟨_, Lib.hid rfl⟩
  obtain ⟨b, HBB⟩ : ∃ b, Hid (b = w.heap.size) := ⟨_, Lib.hid rfl⟩
  rw [← HW.out, ← HBB.out] at hst
  have HS3 := Lib.hid hst
  clear hst
  have hl := h.len
  go_enter Try.func12, Try.ntmps12
  go_wp2_with fail
  rw [← HW.out]
  rw [← HBB.out]
  refine (HN _).mono ?_
  rintro e w' ⟨rfl, rfl⟩
  go_wp2_with (with_reducible refine set_stop (o := ⟨some 15, _, _, _, _, _⟩) ?_)
  refine wpList_load_set rfl _ rfl b rfl s hl HS3.out.own.at_ ?_
  refine wpList_store_set rfl _ _ rfl (b + 1) s zeroSt hl zeroSt_length rfl rfl HS3.out.res ?_
  intro w4 HW4 HO4
  go_wp2_with fail
  refine bodyPost_ret (results_set rfl _ _ (b + 1) s rfl HO4.out.at_ hl) rfl ⟨rfl, ?_⟩
  have := HS3.out.below
  exact below_cells_of this HW4.out (by have := HS3.out.at_; omega)
theorem With_any (s : List Nat) (h : Ok s) (n : Int) (w : World) :
    Calls Try.prog 12 #[stV s, .int .i64 n] w fun e w' => e = .returned (stV (withZ s n)) ∧ Below w.heap.size w w' := by
  cases hn : isNum n with
  | true =>
    obtain ⟨m, rfl, hm⟩ := isNum_true hn
    rw [show withZ s (m : Int) = with_ s m by unfold withZ; rw [hn, if_pos rfl, Int.toNat_natCast]]
    exact With_yes s h m hm w
  | false =>
    rw [show withZ s n = s by unfold withZ; rw [hn, if_neg (by decide)]]
    exact With_no s h n hn w
set_option maxRecDepth 100000 in
theorem Without_yes (s : List Nat) (h : Ok s) (m : Nat) (hm : m < 240) (w : World) :
    Calls Try.prog 14 #[stV s, .int .i64 m] w fun e w' => e = .returned (stV (without s m)) ∧ Below w.heap.size w w' := by
  have hz := Try.zeroSet
  have HN : ∀ w, Calls Try.prog 18 #[.int .i64 m] w fun e w' => e = .returned (.bool true) ∧ w' = w := fun w => (isNumber_any m w).mono fun e w' ⟨h1, h2⟩ => ⟨by rw [h1, isNum_nat hm], h2.symm⟩
  obtain ⟨a, HA⟩ : ∃ a, Hid (a = Bits.at_ s (m / 8)) := ⟨_, Lib.hid rfl⟩
  obtain ⟨p, HP⟩ : ∃ p, Hid (p = 2 ^ (m % 8)) := ⟨_, Lib.hid rfl⟩
  have HB : ∀ w, Calls Try.prog 19 #[.int .i64 m] w fun e w' => e = .returned (.int .u8 (p : Int)) ∧ w' = w := fun w => (bit_any m w).mono fun e w' ⟨h1, h2⟩ => ⟨by rw [h1, HP.out], h2.symm⟩
  have hst := WithSt.new w s
  obtain ⟨w2, HW⟩ : ∃ w2, Hid (w2 = (w.alloc (.cells (stArr s) 28)).alloc (.cells (stArr (zeroSt)) 28)) := ⟨_, Lib.hid rfl⟩
  obtain ⟨b, HBB⟩ : ∃ b, Hid (b = w.heap.size) := ⟨_, Lib.hid rfl⟩
  rw [← HW.out, ← HBB.out] at hst
  have HST := Lib.hid hst
  clear hst
  go_enter Try.func14, Try.ntmps14
  go_wp2_with fail
  rw [← HW.out]
  rw [← HBB.out]
  refine (HN _).mono ?_
  rintro e w' ⟨rfl, rfl⟩
  go_wp2_with fail
  obtain ⟨i, HI⟩ : ∃ i, Hid (i = m / 8) := ⟨_, Lib.hid rfl⟩
  have hi : i < 30 := by rw [HI.out]; omega
  have hwr : IntKind.i64.wrap ((m : Int) / 8) = (i : Int) := by rw [HI.out, IntKind.wrap_i64]; omega
  have hi2 : (i : Int) < 30 := by omega
  have hc := set_at HST.out.own.at_ (i := i) (by rw [h.len]; exact hi)
  have hf := HST.out.own.free i
  rw [HI.out, ← HA.out, ← HI.out] at hc
  go_region_law ((go_simp; go_at_call 19; refine (HB _).mono ?_; rintro e w' ⟨rfl, rfl⟩))
  all_goals
    rw [u8_andNot_nat a p (by rw [HA.out]; exact Bits.at_lt h _) (by rw [HP.out]; exact Bits.pow_lt m)]
    obtain ⟨w3, HW3⟩ : ∃ w3, Hid (w3 = (w'.setCell ⟨b, i, none⟩ (.int .u8 ((a &&& (255 - p) : Nat) : Int))).drew) := ⟨_, Lib.hid rfl⟩
    rw [← HW3.out]
    have HS3 : Hid (WithSt w w3 b (without s m)) := Lib.hid (by
      have := (HST.out.put (i := i) (by rw [h.len]; exact hi) (a &&& (255 - p))).drew
      have e : without s m = s.set i (a &&& (255 - p)) := by rw [HA.out, HP.out, HI.out]; rfl
      rw [HW3.out, e]
      exact this)
    clear HW3 HST hc hf HW
    have hl : (without s m).length = 30 := (h.without m).len
    go_wp2_with (with_reducible refine set_stop (o := ⟨some 15, _, _, _, _, _⟩) ?_)
    refine wpList_load_set rfl _ rfl b rfl (without s m) hl HS3.out.own.at_ ?_
    refine wpList_store_set rfl _ _ rfl (b + 1) (without s m) zeroSt hl zeroSt_length rfl rfl HS3.out.res ?_
    intro w4 HW4 HO4
    go_wp2_with fail
    refine bodyPost_ret (results_set rfl _ _ (b + 1) (without s m) rfl HO4.out.at_ hl) rfl ⟨rfl, ?_⟩
    have := HS3.out.below
    exact below_cells_of this HW4.out (by have := HS3.out.at_; omega)
set_option maxRecDepth 100000 in
theorem Without_no (s : List Nat) (h : Ok s) (n : Int) (hn : isNum n = false) (w : World) :
    Calls Try.prog 14 #[stV s, .int .i64 n] w fun e w' => e = .returned (stV s) ∧ Below w.heap.size w w' := by
  have hz := Try.zeroSet
  have HN : ∀ w, Calls Try.prog 18 #[.int .i64 n] w fun e w' => e = .returned (.bool false) ∧ w' = w := fun w => (isNumber_any n w).mono fun e w' ⟨h1, h2⟩ => ⟨by rw [h1, hn], h2.symm⟩
  have hst := WithSt.new w s
  obtain ⟨w2, HW⟩ : ∃ w2, Hid (w2 = (w.alloc (.cells (stArr s) 28)).alloc (.cells (stArr zeroSt) 28)) := ⟨_, Lib.hid rfl⟩
  obtain ⟨b, HBB⟩ : ∃ b, Hid (b = w.heap.size) := ⟨_, Lib.hid rfl⟩
  rw [← HW.out, ← HBB.out] at hst
  have HS3 := Lib.hid hst
  clear hst
  have hl := h.len
  go_enter Try.func14, Try.ntmps14
  go_wp2_with fail
  rw [← HW.out]
  rw [← HBB.out]
  refine (HN _).mono ?_
  rintro e w' ⟨rfl, rfl⟩
  go_wp2_with (with_reducible refine set_stop (o := ⟨some 15, _, _, _, _, _⟩) ?_)
  refine wpList_load_set rfl _ rfl b rfl s hl HS3.out.own.at_ ?_
  refine wpList_store_set rfl _ _ rfl (b + 1) s zeroSt hl zeroSt_length rfl rfl HS3.out.res ?_
  intro w4 HW4 HO4
  go_wp2_with fail
  refine bodyPost_ret (results_set rfl _ _ (b + 1) s rfl HO4.out.at_ hl) rfl ⟨rfl, ?_⟩
  have := HS3.out.below
  exact below_cells_of this HW4.out (by have := HS3.out.at_; omega)
theorem Without_any (s : List Nat) (h : Ok s) (n : Int) (w : World) :
    Calls Try.prog 14 #[stV s, .int .i64 n] w fun e w' => e = .returned (stV (withoutZ s n)) ∧ Below w.heap.size w w' := by
  cases hn : isNum n with
  | true =>
    obtain ⟨m, rfl, hm⟩ := isNum_true hn
    rw [show withoutZ s (m : Int) = without s m by unfold withoutZ; rw [hn, if_pos rfl, Int.toNat_natCast]]
    exact Without_yes s h m hm w
  | false =>
    rw [show withoutZ s n = s by unfold withoutZ; rw [hn, if_neg (by decide)]]
    exact Without_no s h n hn w
end Go.Proofs.Yteceihjnlncbkaa
