/-
  Rows of items in memory; the contract of heap.each where it pushes. Conditions: none beyond the premises of each theorem.
-/
import Derived.Test.YtiffgmgefpoblaaDoorHeapPop
namespace Go.Proofs.YtiffgmgefpoblaaDoor
open Go.RowKit Hp

/-- a slice that reads as these items, in a block below B -/
def ItmsAt (w : World) (B : Nat) (A : Option Addr) (L : List Itm) : Prop := 0 < L.length → ∃ b o, A = some ⟨b, o, none⟩ ∧ b < B ∧ ∀ i, i < L.length → w.rangeAt b (o + i * 2) (itC (at2 L i))
theorem ItmsAt.below {w w' : World} {B : Nat} {A : Option Addr} {L : List Itm} (h : ItmsAt w B A L) (hb : Below B w w') : ItmsAt w' B A L := fun hp => by
  obtain ⟨b, o, e, hlt, hc⟩ := h hp
  exact ⟨b, o, e, hlt, fun i hi j v hv => (hb.cell (p := ⟨b, o + i * 2 + j, none⟩) hlt).trans (hc i hi j v hv)⟩
theorem ItmsAt.more {w : World} {B C : Nat} {A : Option Addr} {L : List Itm} (h : ItmsAt w B A L) (hb : B ≤ C) : ItmsAt w C A L := fun hp => by
  obtain ⟨b, o, e, hlt, hc⟩ := h hp
  exact ⟨b, o, e, by omega, hc⟩
theorem own_item {w : World} {B : Nat} {v : Value} {n g : Nat} {L : List Itm} (h : w.ownsRow B 52 2 v n (flat2 L)) (hg : v.ownBlock = some g) {i : Nat} (hi : i < L.length) : w.rangeAt g (i * 2) (itC (at2 L i)) := by
  have hc := h.cells hg
  have e : ∀ j, (⟨g, 0, none⟩ : Addr).add j = ⟨g, j, none⟩ := fun j => by rw [Addr.add_mid, Nat.zero_add]
  intro j u hu
  match j, hu with
  | 0, hu =>
    obtain rfl := Option.some.inj hu
    have := hc _ _ (flat2_fst hi)
    rwa [e] at this
  | 1, hu =>
    obtain rfl := Option.some.inj hu
    have := hc _ _ (flat2_snd hi)
    rwa [e] at this
/-- what a call owns -/
theorem ItmsAt.own {w : World} {B C : Nat} {v : Value} {L : List Itm} (h : w.ownsRow B 52 2 v L.length (flat2 L)) (hC : w.heap.size ≤ C) : ∃ A cap, v = .slice A L.length cap ∧ ItmsAt w C A L ∧ (A = none → cap = 0) := by
  rcases h.2 with ⟨h1, h2⟩ | ⟨g, cap, _, h1, _, _⟩
  · exact ⟨none, 0, by rw [h1, h2], fun hp => absurd hp (by omega), fun _ => rfl⟩
  · subst h1
    exact ⟨_, cap, rfl, fun _ => ⟨g, 0, rfl, by have := (h.lt g rfl).2; omega, fun i hi => by rw [Nat.zero_add]; exact own_item h rfl hi⟩, fun h => by cases h⟩
theorem at2_drop_cons {L : List Itm} {k : Nat} (h : k < L.length) : L.take (k + 1) = L.take k ++ [at2 L k] := by
  rw [List.take_add_one, at2_eq h]; rfl
theorem itC_one (x : Itm) : ∀ u ∈ itC x, u.oneCell' = true := by
  intro u hu
  simp only [itC, List.mem_cons, List.not_mem_nil, or_false] at hu
  rcases hu with rfl | rfl <;> rfl
/-- between two rounds -/
def EachR (B hb n : Nat) (L : List Itm) (w : World) (u : Value) (wr : World) : Prop :=
  ∃ (k : Nat) (v : Value) (M : List Itm), u = .int .i64 (k : Int) ∧ k ≤ n ∧ HpAt wr B hb v M ∧ IsHp M ∧ M.Perm (L.take k) ∧ Below B w wr
set_option maxRecDepth 100000 in
theorem each_any {w : World} {B hb : Nat} {v : Value} {A : Option Addr} {L : List Itm} {n cap : Nat} (h : HpAt w B hb v []) (hl : ItmsAt w B A L) (hn : L.length = n) (h3 : n ≤ 1000) (hB : B ≤ w.heap.size) :
    Calls Tryd.prog 41 #[.slice A n cap, .func (.func 25) #[ptr9 hb] #[]] w fun e w' => e = .returned (.tuple #[]) ∧ ∃ v' M, HpAt w' B hb v' M ∧ IsHp M ∧ M.Perm L ∧ Below B w w' := by
  have HH := Lib.hid h
  have HL := Lib.hid hl
  have HN := Lib.hid hn
  have HB := Lib.hid hB
  clear h hl hn hB
  go_enter Tryd.func41, Tryd.ntmps41
  go_wp2_with fail
  go_loopw [8] (fun u wr => EachR B hb n L w u wr) (fun u _ => n - (intOf u).toNat)
  case atStart => exact ⟨0, v, [], rfl, Nat.zero_le _, HH.out, isHp_nil, .refl _, .refl _ _⟩
  case round =>
    clear HH
    obtain ⟨k, v2, M, rfl, hk, hs, hh, hp, hb2⟩ := hrel
    have HS := Lib.hid hs
    have HHH := Lib.hid hh
    have HP := Lib.hid hp
    have HB2 := Lib.hid hb2
    clear hs hh hp hb2
    by_cases hkn : k < n
    · have hkl : k < L.length := by rw [HN.out]; exact hkn
      obtain ⟨b, o, hA, hbB, hc⟩ := HL.out (by omega)
      subst hA
      obtain ⟨x, HX⟩ : ∃ x, Hid (x = at2 L k) := ⟨_, Lib.hid rfl⟩
      have HC : Hid (wr.rangeAt b (o + k * 2) (itC x)) := Lib.hid (by rw [HX.out]; intro j u hu; exact (HB2.out.cell (p := ⟨b, o + k * 2 + j, none⟩) hbB).trans (hc k hkl j u hu))
      clear hc
      have hML : M.length = k := by have := HP.out.length_eq; rw [List.length_take] at this; omega
      go_wp2_with (with_reducible refine stop_at (o := ⟨some 11, _, _, _, _, _⟩) ?_)
      unfold Stopped
      refine wpList_load_c dueTy (by rfl) _ rfl b (o + k * 2) rfl (itC x) rfl HC.out ?_
      simp only [Act.put, List.setIfInBounds_toArray, List.set_cons_zero, List.set_cons_succ]
      go_wp2_with (with_reducible refine stop_at (o := ⟨none, _, _, _, _, _⟩) ?_)
      unfold Stopped
      refine wpList_store_last rfl _ _ _ rfl _ (itC x).toArray _ rfl rfl rfl dueTy.size rfl (all_oneCell_toArray (itC_one x)) ?_
      obtain ⟨w1, HW1⟩ : ∃ w1, Hid (w1 = wr.alloc (.cells (itC x).toArray 52)) := ⟨_, Lib.hid rfl⟩
      obtain ⟨p, HPP⟩ : ∃ p, Hid (p = wr.heap.size) := ⟨_, Lib.hid rfl⟩
      rw [← HW1.out, ← HPP.out]
      have HX1 : Hid (w1.rangeAt p 0 (itC x)) := Lib.hid (by rw [HW1.out, HPP.out]; exact (COwn.new (w := wr) (itC x) 52).at_)
      have hb1 : Below wr.heap.size wr w1 := by rw [HW1.out]; exact (Below.refl _ _).alloc (Nat.le_refl _) _
      have HS1 : Hid (HpAt w1 B hb v2 M) := Lib.hid (HS.out.carry hb1)
      have HB1 : Hid (Below B w w1) := Lib.hid (HB2.out.trans (hb1.mono (by have := HB2.out.size; have := HB.out; omega)))
      clear hb1 HS HB2 HW1 HPP HC
      have hpu := Lib.hid (Push_any HS1.out HHH.out (by omega) (by have := HB1.out.size; have := HB.out; omega) x)
      go_wp2_with (with_reducible refine stop_at (o := ⟨some 13, _, _, _, _, _⟩) ?_)
      unfold Stopped
      refine wpList_load_c dueTy (by rfl) _ rfl p 0 rfl (itC x) rfl HX1.out ?_
      simp only [Act.put, List.setIfInBounds_toArray, List.set_cons_zero, List.set_cons_succ]
      go_wp2_with fail
      refine hpu.out.mono ?_
      rintro e w2 ⟨rfl, v3, M3, h1, h2, h3', h4, h5⟩
      have H1 := Lib.hid h1
      have H2 := Lib.hid h2
      have H3 : Hid (M3.Perm (L.take (k + 1))) := Lib.hid (by rw [at2_drop_cons hkl, ← HX.out]; exact h3'.trans (HP.out.append_right _))
      have H4 : Hid (Below B w w2) := Lib.hid (HB1.out.trans (h4.below (by have := HB1.out.size; have := HB.out; omega) (fun g hg => by cases hg; exact HS1.out.far) (fun g hg => (HS1.out.row.lt g hg).1)))
      clear h1 h2 h3' h4 h5 hpu HS1 HHH HP HB1 HX1
      go_wp2_with fail
      go_roundw
      case rel => exact ⟨k + 1, v3, M3, by go_num, hkn, H1.out, H2.out, H3.out, H4.out⟩
      case measure => simp [intOf]; omega
    · obtain rfl : k = n := by omega
      go_wp2_with fail
      exact bodyPost_end (results_none rfl _ _ _) rfl ⟨rfl, v2, M, HS.out, HHH.out, by have := HP.out; rwa [List.take_of_length_le (by rw [HN.out]; exact Nat.le_refl _)] at this, HB2.out⟩
end Go.Proofs.YtiffgmgefpoblaaDoor
