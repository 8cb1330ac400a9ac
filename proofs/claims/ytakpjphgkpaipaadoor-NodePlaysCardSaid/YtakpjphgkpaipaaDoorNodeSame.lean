/-
  The contracts of the statements' own ints, Same. Conditions: none beyond the premises of each theorem.
-/
import Derived.Test.YtakpjphgkpaipaaDoorNodeRef
import Derived.Test.YtakpjphgkpaipaaDoorRegionHead
namespace Go.Proofs.YtakpjphgkpaipaaDoor
open Go.RowKit

def IntsRel (w : World) (us vs : List Int) (i : Value) (wr : World) : Prop := ∃ k : Nat, k ≤ us.length ∧ i = .int .i64 (k : Int) ∧ (∀ j (_ : j < k) (h1 : j < us.length) (h2 : j < vs.length), us[j] = vs[j]) ∧ Below w.heap.size w wr
set_option maxRecDepth 100000 in
theorem ints_any {w : World} {A B : Option Addr} {us vs : List Int} {ca cb : Nat} (ha : Nums w .i64 A us) (hb : Nums w .i64 B vs) (hm : us.length ≤ maxLen) :
    Calls Tryd.prog 29 #[.slice A us.length ca, .slice B vs.length cb] w fun e w' => e = .returned (.int .i64 (if us = vs then 1 else 0)) ∧ Below w.heap.size w w' := by
  obtain ⟨r, HR⟩ : ∃ r : Int, Hid (r = if us = vs then 1 else 0) := ⟨_, Lib.hid rfl⟩
  rw [← HR.out]
  by_cases hl : vs.length = us.length
  · have HA := Lib.hid ha
    have HB := Lib.hid hb
    have HL := Lib.hid hl
    rw [hl]
    obtain ⟨n, HNN⟩ : ∃ n, Hid (n = us.length) := ⟨_, Lib.hid rfl⟩
    rw [← HNN.out]
    have hnl : n ≤ 9223372036854775807 := by rw [HNN.out]; unfold maxLen at hm; omega
    clear ha hb hl hm
    go_enter Tryd.func29, Tryd.ntmps29
    go_wp2_with fail
    go_loopw [5] (fun i wr => IntsRel w us vs i wr) (fun i _ => n - (intOf i).toNat)
    case atStart => exact ⟨0, Nat.zero_le _, rfl, fun j hj => absurd hj (Nat.not_lt_zero j), Below.refl _ _⟩
    case round =>
      obtain ⟨k, hk, rfl, hall, hbl⟩ := hrel
      have HALL := Lib.hid hall
      have HBL := Lib.hid hbl
      rw [← HNN.out] at hk
      clear hall hbl
      by_cases hlt : k < n
      · have hk1 : k < us.length := by have := HNN.out; omega
        have hk2 : k < vs.length := by have := HNN.out; have := HL.out; omega
        obtain ⟨a, rfl, hc⟩ := nums_cell (HA.out.carry HBL.out) hk1
        obtain ⟨b, rfl, hd⟩ := nums_cell (HB.out.carry HBL.out) hk2
        obtain ⟨x, HX⟩ : ∃ x, Hid (x = us[k]) := ⟨_, Lib.hid rfl⟩
        obtain ⟨y, HY⟩ : ∃ y, Hid (y = vs[k]) := ⟨_, Lib.hid rfl⟩
        rw [← HX.out] at hc
        rw [← HY.out] at hd
        have HK := Lib.hid hk1
        by_cases hxy : x = y
        · subst hxy
          go_wp2_with fail
          go_region
          go_wp2_with fail
          go_roundw
          case rel =>
            refine ⟨k + 1, HK.out, by go_num, fun j hj h1 h2 => ?_, HBL.out.drew⟩
            rcases Nat.lt_or_ge j k with h | h
            · exact HALL.out j h h1 h2
            · obtain rfl : j = k := by omega
              rw [← HX.out, ← HY.out]
          case measure => simp [intOf]; omega
        · have HNE : Hid (us ≠ vs) := Lib.hid (by
            rintro rfl
            exact hxy (by rw [HX.out, HY.out]))
          go_wp2_with fail
          go_region
          go_wp2_with fail
          go_ret
          exact ⟨by rw [HR.out, if_neg HNE.out]; rfl, HBL.out.drew⟩
      · obtain rfl : k = n := by omega
        have HE : Hid (us = vs) := Lib.hid (List.ext_getElem HL.out.symm fun j h1 h2 => HALL.out j (by have := HNN.out; omega) h1 h2)
        go_wp2_with fail
        go_ret
        exact ⟨by rw [HR.out, if_pos HE.out]; rfl, HBL.out⟩
  · have hne : ¬ ((us.length : Int) = (vs.length : Int)) := by omega
    have HNE : Hid (us ≠ vs) := Lib.hid (by rintro rfl; exact hl rfl)
    clear hl ha hb hm
    go_enter Tryd.func29, Tryd.ntmps29
    go_wp2_with fail
    go_ret
    exact ⟨by rw [HR.out, if_neg HNE.out]; rfl, Below.refl _ _⟩
/-- two nodes in memory, as a call has them -/
structure SameS (w : World) (p q : Nat) (l m : Lay3) (x y : Nd) (wr : World) : Prop where
  a : NdBox wr p l x
  b : NdBox wr q m y
  below : Below w.heap.size w wr
theorem SameS.carry {w wr w' : World} {p q : Nat} {l m : Lay3} {x y : Nd} (h : SameS w p q l m x y wr) (hb : Below wr.heap.size wr w') : SameS w p q l m x y w' := ⟨h.a.carry hb h.a.lt, h.b.carry hb h.b.lt, h.below.trans (hb.mono h.below.size)⟩
theorem SameS.drew {w wr : World} {p q : Nat} {l m : Lay3} {x y : Nd} (h : SameS w p q l m x y wr) : SameS w p q l m x y wr.drew := h.carry (Below.refl _ _).drew
def SameRel (w : World) (p q : Nat) (l m : Lay3) (x y : Nd) (i : Value) (wr : World) : Prop :=
  ∃ k : Nat, k ≤ x.vals.length ∧ i = .int .i64 (k : Int) ∧ (∀ j (_ : j < k) (h1 : j < x.vals.length) (h2 : j < y.vals.length), x.vals[j] = y.vals[j]) ∧ SameS w p q l m x y wr
theorem toList_ne {u v : ByteArray} (h : ¬ u = v) : (u.toList == v.toList) = false := by
  rw [ByteArray.toList_eq, ByteArray.toList_eq, beq_eq_false_iff_ne]
  intro e
  exact h (ByteArray.ext (Array.toList_inj.1 e))
/-- what Same answers -/
def sameZ (x y : Nd) (r : Int) : Prop := (x = y ∧ r = 1) ∨ (x ≠ y ∧ r = 0)
set_option maxRecDepth 100000 in
set_option maxHeartbeats 1000000 in
theorem Same_any {w : World} {l m : Lay3} {x y : Nd} (hx : NdIs w l x) (hy : NdIs w m y) : Calls Tryd.prog 15 #[ndV l x, ndV m y] w fun e w' => ∃ r : Int, e = .returned (.int .i64 r) ∧ sameZ x y r ∧ Below w.heap.size w w' := by
  obtain ⟨A, B, C, ca, cb, cc⟩ := l
  obtain ⟨D, E, F, da, de, df⟩ := m
  obtain ⟨p, HP⟩ : ∃ p, Hid (p = w.heap.size) := ⟨_, Lib.hid rfl⟩
  obtain ⟨w1, HW⟩ : ∃ w1, Hid (w1 = (w.alloc (.cells #[.slice A x.keys.length ca, .slice B x.vals.length cb, .slice C x.kids.length cc] 32)).alloc (.cells #[.slice D y.keys.length da, .slice E y.vals.length de, .slice F y.kids.length df] 25)) := ⟨_, Lib.hid rfl⟩
  obtain ⟨q, HQ⟩ : ∃ q, Hid (q = p + 1) := ⟨_, Lib.hid rfl⟩
  have HS : Hid (SameS w p q ⟨A, B, C, ca, cb, cc⟩ ⟨D, E, F, da, de, df⟩ x y w1) := Lib.hid (by
    rw [HW.out, HQ.out, HP.out]
    have hb1 : Below w.heap.size w (w.alloc (.cells #[.slice A x.keys.length ca, .slice B x.vals.length cb, .slice C x.kids.length cc] 32)) := (Below.refl _ _).alloc (Nat.le_refl _) _
    refine ⟨(NdBox.new (w := w) (l := ⟨A, B, C, ca, cb, cc⟩) (x := x) 32).carry ((Below.refl _ _).alloc (Nat.le_refl _) _) (by simp), ?_, hb1.alloc (by simp) _⟩
    have := NdBox.new (w := w.alloc (.cells #[.slice A x.keys.length ca, .slice B x.vals.length cb, .slice C x.kids.length cc] 32)) (l := ⟨D, E, F, da, de, df⟩) (x := y) 25
    simpa using this)
  have HX := Lib.hid hx
  have HY := Lib.hid hy
  have p1 : w1.cell? ⟨p, 1, none⟩ = some (.slice B x.vals.length cb) := HS.out.a.c1
  have q1 : w1.cell? ⟨q, 1, none⟩ = some (.slice E y.vals.length de) := HS.out.b.c1
  clear hx hy
  by_cases hl : y.vals.length = x.vals.length
  · have HL := Lib.hid hl
    obtain ⟨n, HNN⟩ : ∃ n, Hid (n = x.vals.length) := ⟨_, Lib.hid rfl⟩
    have HML : Hid (n ≤ 9223372036854775807) := Lib.hid (by rw [HNN.out]; exact HX.out.vl)
    rw [hl, ← HNN.out] at q1
    rw [← HNN.out] at p1
    clear hl
    go_enter Tryd.func15, Tryd.ntmps15
    go_upto_region 1 with (fail)
    rw [← HW.out, ← HP.out, ← HQ.out]
    clear HW HP HQ
    go_wp2_with fail
    clear p1 q1
    go_loopw [5] (fun i wr => SameRel w p q ⟨A, B, C, ca, cb, cc⟩ ⟨D, E, F, da, de, df⟩ x y i wr) (fun i _ => n - (intOf i).toNat)
    case atStart => exact ⟨0, Nat.zero_le _, rfl, fun j hj => absurd hj (Nat.not_lt_zero j), HS.out⟩
    case round =>
      obtain ⟨k, hk, rfl, hall, hs⟩ := hrel
      have HALL := Lib.hid hall
      have HSR := Lib.hid hs
      rw [← HNN.out] at hk
      clear hall hs HS
      have p1 : wr.cell? ⟨p, 1, none⟩ = some (.slice B x.vals.length cb) := HSR.out.a.c1
      have q1 : wr.cell? ⟨q, 1, none⟩ = some (.slice E y.vals.length de) := HSR.out.b.c1
      rw [HL.out, ← HNN.out] at q1
      rw [← HNN.out] at p1
      have hnl := HML.out
      by_cases hlt : k < n
      · have hk1 : k < x.vals.length := by have := HNN.out; omega
        have hk2 : k < y.vals.length := by have := HNN.out; have := HL.out; omega
        obtain ⟨a, rfl, hc⟩ := strs_cell (HX.out.carry HSR.out.below).vals hk1
        obtain ⟨b, rfl, hd⟩ := strs_cell (HY.out.carry HSR.out.below).vals hk2
        obtain ⟨u, HU⟩ : ∃ u, Hid (u = x.vals[k]) := ⟨_, Lib.hid rfl⟩
        obtain ⟨v, HV⟩ : ∃ v, Hid (v = y.vals[k]) := ⟨_, Lib.hid rfl⟩
        rw [← HU.out] at hc
        rw [← HV.out] at hd
        have HK := Lib.hid hk1
        by_cases hxy : u = v
        · subst hxy
          go_wp2_with fail
          go_region
          go_wp2_with fail
          go_roundw
          case rel =>
            refine ⟨k + 1, HK.out, by go_num, fun j hj h1 h2 => ?_, HSR.out.drew⟩
            rcases Nat.lt_or_ge j k with h | h
            · exact HALL.out j h h1 h2
            · obtain rfl : j = k := by omega
              rw [← HU.out, ← HV.out]
          case measure => simp [intOf]; omega
        · have HNE : Hid (x ≠ y) := Lib.hid (by
            intro e
            subst e
            exact hxy (by rw [HU.out, HV.out]))
          have hts := toList_ne hxy
          go_wp2_with fail
          go_region
          go_wp2_with fail
          go_ret
          exact ⟨0, rfl, .inr ⟨HNE.out, rfl⟩, HSR.out.below.drew⟩
      · obtain rfl : k = n := by omega
        have HE : Hid (x.vals = y.vals) := Lib.hid (List.ext_getElem HL.out.symm fun j h1 h2 => HALL.out j (by have := HNN.out; omega) h1 h2)
        go_upto_region 8 with (fail)
        clear p1 q1
        refine wp_region_held (S := SameS w p q ⟨A, B, C, ca, cb, cc⟩ ⟨D, E, F, da, de, df⟩ x y) (by kernel_rfl) ?_
        change wpAnyH _ _ _ _ _ _ _ _ wr.drew
        obtain ⟨wa, HWA⟩ : ∃ wa, Hid (wa = wr.drew) := ⟨_, Lib.hid rfl⟩
        rw [← HWA.out]
        have hS : SameS w p q ⟨A, B, C, ca, cb, cc⟩ ⟨D, E, F, da, de, df⟩ x y wa := by rw [HWA.out]; exact HSR.out.drew
        clear HWA HSR
        obtain ⟨rk, HRK⟩ : ∃ rk : Int, Hid (rk = if x.keys = y.keys then 1 else 0) := ⟨_, Lib.hid rfl⟩
        obtain ⟨rc, HRC⟩ : ∃ rc : Int, Hid (rc = if x.kids = y.kids then 1 else 0) := ⟨_, Lib.hid rfl⟩
        refine takeH (i := 0) 31 (v := .pointer (some ⟨p, 0, none⟩)) rfl (by kernel_rfl) (by kernel_rfl) (by kernel_rfl) rfl (fun _ _ _ h => h) (.inl ⟨by rfl, fun _ _ => by go_simp⟩) hS ?_
        simp only [Act.put, List.setIfInBounds_toArray, List.set_cons_zero, List.set_cons_succ]
        refine takeH (i := 1) 32 (v := Value.slice A x.keys.length ca) rfl (by kernel_rfl) (by kernel_rfl) (by kernel_rfl) rfl (fun _ _ _ h => h) (.inl ⟨by rfl, fun _ h => by have c0 : _ = some (Value.slice A x.keys.length ca) := h.a.c0; go_simp⟩) hS ?_
        simp only [Act.put, List.setIfInBounds_toArray, List.set_cons_zero, List.set_cons_succ]
        refine takeH (i := 2) 33 (v := .pointer (some ⟨q, 0, none⟩)) rfl (by kernel_rfl) (by kernel_rfl) (by kernel_rfl) rfl (fun _ _ _ h => h) (.inl ⟨by rfl, fun _ _ => by go_simp⟩) hS ?_
        simp only [Act.put, List.setIfInBounds_toArray, List.set_cons_zero, List.set_cons_succ]
        refine takeH (i := 3) 34 (v := Value.slice D y.keys.length da) rfl (by kernel_rfl) (by kernel_rfl) (by kernel_rfl) rfl (fun _ _ _ h => h) (.inl ⟨by rfl, fun _ h => by have c0 : _ = some (Value.slice D y.keys.length da) := h.b.c0; go_simp⟩) hS ?_
        simp only [Act.put, List.setIfInBounds_toArray, List.set_cons_zero, List.set_cons_succ]
        refine takeH (i := 5) 36 (v := .pointer (some ⟨p, 2, none⟩)) rfl (by kernel_rfl) (by kernel_rfl) (by kernel_rfl) rfl (fun _ _ _ h => h) (.inl ⟨by rfl, fun _ _ => by go_simp⟩) hS ?_
        simp only [Act.put, List.setIfInBounds_toArray, List.set_cons_zero, List.set_cons_succ]
        refine takeH (i := 6) 37 (v := Value.slice C x.kids.length cc) rfl (by kernel_rfl) (by kernel_rfl) (by kernel_rfl) rfl (fun _ _ _ h => h) (.inl ⟨by rfl, fun _ h => by have c0 : _ = some (Value.slice C x.kids.length cc) := h.a.c2; go_simp⟩) hS ?_
        simp only [Act.put, List.setIfInBounds_toArray, List.set_cons_zero, List.set_cons_succ]
        refine takeH (i := 7) 38 (v := .pointer (some ⟨q, 2, none⟩)) rfl (by kernel_rfl) (by kernel_rfl) (by kernel_rfl) rfl (fun _ _ _ h => h) (.inl ⟨by rfl, fun _ _ => by go_simp⟩) hS ?_
        simp only [Act.put, List.setIfInBounds_toArray, List.set_cons_zero, List.set_cons_succ]
        refine takeH (i := 8) 39 (v := Value.slice F y.kids.length df) rfl (by kernel_rfl) (by kernel_rfl) (by kernel_rfl) rfl (fun _ _ _ h => h) (.inl ⟨by rfl, fun _ h => by have c0 : _ = some (Value.slice F y.kids.length df) := h.b.c2; go_simp⟩) hS ?_
        simp only [Act.put, List.setIfInBounds_toArray, List.set_cons_zero, List.set_cons_succ]
        refine oneH (i := 4) (oi := ⟨some 35, _, _, _, _, _⟩) rfl (by kernel_rfl) (fun K hK => ?_)
        go_simp
        refine (ints_any (HX.out.carry hS.below).keys (HY.out.carry hS.below).keys HX.out.kl).mono ?_
        rw [← HRK.out]
        rintro e wn ⟨rfl, hb⟩
        have hS2 := hS.carry hb
        clear hb hS
        refine hK.out _ _ hS2 ?_
        clear hK K
        have hS := hS2
        clear hS2
        refine oneH (i := 9) (oi := ⟨some 40, _, _, _, _, _⟩) rfl (by kernel_rfl) (fun K hK => ?_)
        go_simp
        refine (ints_any (HX.out.carry hS.below).kids (HY.out.carry hS.below).kids HX.out.cl).mono ?_
        rw [← HRC.out]
        rintro e wn ⟨rfl, hb⟩
        have hS2 := hS.carry hb
        clear hb hS
        refine hK.out _ _ hS2 ?_
        clear hK K
        have hS := hS2
        clear hS2
        refine takeH (i := 10) 41 (v := .int .i64 (IntKind.i64.wrap (rk * rc))) rfl (by kernel_rfl) (by kernel_rfl) (by kernel_rfl) rfl (fun _ _ _ h => h) (.inl ⟨by rfl, fun _ _ => by go_simp⟩) hS ?_
        simp only [Act.put, List.setIfInBounds_toArray, List.set_cons_zero, List.set_cons_succ]
        refine takeH (i := 11) 4 (v := .int .i64 (IntKind.i64.wrap (rk * rc))) rfl (by kernel_rfl) (by kernel_rfl) (by kernel_rfl) rfl (fun _ _ _ h => h) (.inl ⟨by rfl, fun _ _ => by go_simp⟩) hS ?_
        simp only [Act.put, List.setIfInBounds_toArray, List.set_cons_zero, List.set_cons_succ]
        refine wpAnyH_done (by kernel_rfl) ?_ _
        go_wp2_with fail
        go_ret
        refine ⟨_, rfl, ?_, hS.below⟩
        rw [HRK.out, HRC.out]
        have hv := HE.out
        obtain ⟨xk, xv, xc⟩ := x
        obtain ⟨yk, yv, yc⟩ := y
        simp only at hv ⊢
        subst hv
        unfold sameZ
        by_cases h1 : xk = yk
        · by_cases h2 : xc = yc
          · left; subst h1; subst h2; exact ⟨rfl, by rw [if_pos rfl, if_pos rfl]; decide⟩
          · right; exact ⟨fun e => h2 (congrArg Nd.kids e), by rw [if_neg h2, Int.mul_zero]; decide⟩
        · right; exact ⟨fun e => h1 (congrArg Nd.keys e), by rw [if_neg h1, Int.zero_mul]; decide⟩
  · have hne : ¬ ((x.vals.length : Int) = (y.vals.length : Int)) := by omega
    have HNE : Hid (x ≠ y) := Lib.hid (by rintro rfl; exact hl rfl)
    clear hl
    go_enter Tryd.func15, Tryd.ntmps15
    go_upto_region 1 with (fail)
    rw [← HW.out, ← HP.out, ← HQ.out]
    go_wp2_with fail
    go_ret
    exact ⟨0, rfl, .inr ⟨HNE.out, rfl⟩, HS.out.below⟩
end Go.Proofs.YtakpjphgkpaipaaDoor
