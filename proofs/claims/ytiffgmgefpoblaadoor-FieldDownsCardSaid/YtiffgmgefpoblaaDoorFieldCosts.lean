/-
  The contract of field.Costs (layer 16): what may not be is refused; else the field. Conditions: none beyond the premises of each theorem.
-/
import Derived.Test.YtiffgmgefpoblaaDoorFieldSpread
import Derived.Test.YtiffgmgefpoblaaDoorErrFrom
namespace Go.Proofs.YtiffgmgefpoblaaDoor
open Go.RowKit Hp Fld

/-- the sources so far -/
def SrcsI (xs : List UInt8) (S : List Int) (M : List Itm) : Prop := ∀ x, x ∈ M ↔ ∃ i : Nat, (i : Int) ∈ S ∧ Grid.openAt xs i = true ∧ x = (0, (i : Int))
theorem SrcsI.nil (xs : List UInt8) : SrcsI xs [] [] := fun x => by simp
theorem SrcsI.push {xs : List UInt8} {S : List Int} {M M' : List Itm} {i : Nat} (h : SrcsI xs S M) (ho : Grid.openAt xs i = true) (hp : M'.Perm (M ++ [(0, (i : Int))])) : SrcsI xs (S ++ [(i : Int)]) M' := fun x => by
  rw [hp.mem_iff, List.mem_append, List.mem_singleton, h x]
  constructor
  · rintro (⟨k, h1, h2, h3⟩ | rfl)
    · exact ⟨k, List.mem_append.2 (.inl h1), h2, h3⟩
    · exact ⟨i, by simp, ho, rfl⟩
  · rintro ⟨k, h1, h2, h3⟩
    rcases List.mem_append.1 h1 with h1 | h1
    · exact .inl ⟨k, h1, h2, h3⟩
    · rw [List.mem_singleton] at h1
      rw [h1] at h3
      exact .inr h3
theorem SrcsI.pass {xs : List UInt8} {S : List Int} {M : List Itm} {c : Int} (h : SrcsI xs S M) (hc : ∀ i : Nat, c = (i : Int) → Grid.openAt xs i = false) : SrcsI xs (S ++ [c]) M := fun x => by
  rw [h x]
  constructor
  · rintro ⟨k, h1, h2, h3⟩
    exact ⟨k, List.mem_append.2 (.inl h1), h2, h3⟩
  · rintro ⟨k, h1, h2, h3⟩
    rcases List.mem_append.1 h1 with h1 | h1
    · exact ⟨k, h1, h2, h3⟩
    · rw [List.mem_singleton] at h1
      rw [hc k h1.symm] at h2
      cases h2
theorem openM_iff {W H : Int} {s : ByteArray} {c : Int} (hr : rightM W H s = true) : openM W H s c = true ↔ ∃ i : Nat, c = (i : Int) ∧ Grid.openAt s.data.toList i = true := by
  constructor
  · intro h
    by_cases hc : 0 ≤ c ∧ c < s.size
    · obtain ⟨i, rfl⟩ : ∃ i : Nat, c = (i : Int) := ⟨c.toNat, by omega⟩
      rw [openM_on (by omega), hr] at h
      exact ⟨i, rfl, by simpa using h⟩
    · rw [openM_off hc] at h; cases h
  · rintro ⟨i, rfl, ho⟩
    have := Grid.openAt_lt ho
    rw [size_list] at this
    rw [openM_on this, ho, hr]
    rfl
set_option maxRecDepth 100000 in
theorem Costs_yes {w : World} {A : Option Addr} {cap : Nat} {S : List Int} {st : Int} (W H : Int) (s : ByteArray) (hz : Nums w .i64 A S) (hr : rightM W H s = true) (hs1 : 1 ≤ st) (hs2 : st ≤ 100) (hn : S.length ≤ 64) :
    Calls Tryd.prog 10 #[.agg #[.int .i64 W, .int .i64 H, .string s], .slice A S.length cap, .int .i64 st] w fun e w' => ∃ g F, e = .returned (.tuple #[.slice (some ⟨g, 0, none⟩) F.length F.length, .nilIface]) ∧ w.heap.size ≤ g ∧ COwn w' g (rowV F) ∧ IsField s.data.toList W.toNat S st F ∧ Below w.heap.size w w' := by
  obtain ⟨a, b, e1, e2, ha1, ha8, hb1, hb8, hlen, hs0, hs64⟩ := right_small hr
  have HR := Lib.hid hr
  clear e1 e2 hb1 hb8 hlen ha1 ha8 hs0
  obtain ⟨w1, HW1⟩ : ∃ w1, Hid (w1 = w.alloc (.cells #[.int .i64 W, .int .i64 H, .string s] 30)) := ⟨_, Lib.hid rfl⟩
  obtain ⟨q, HQ⟩ : ∃ q, Hid (q = w.heap.size) := ⟨_, Lib.hid rfl⟩
  have hbw : Below w.heap.size w w1 := by rw [HW1.out]; exact (Below.refl _ _).alloc (Nat.le_refl _) _
  have HM1 : Hid (MapAt w1 q W H s) := Lib.hid (by rw [HW1.out, HQ.out]; exact heap_alloc_new w _)
  have HB1 : Hid (Below w.heap.size w w1) := Lib.hid hbw
  have HZ1 : Hid (Nums w1 .i64 A S) := Lib.hid (hz.carry hbw)
  clear hbw hz
  have hri := Lib.hid (Right_any W H s (by unfold maxLen; omega) w1)
  rw [hr] at hri
  have m0 := HM1.out.w_
  have m1 := HM1.out.h_
  have m2 := HM1.out.s_
  have d1 : ¬ (64 : Int) < (S.length : Int) := by omega
  have d2 : ¬ st < 1 := by omega
  have d3 : ¬ (100 : Int) < st := by omega
  rw [HW1.out] at m0 m1 m2 hri
  rw [HQ.out] at m0 m1 m2
  go_enter Tryd.func10, Tryd.ntmps10
  go_wp2_with fail
  rw [← HW1.out, ← HQ.out]
  rw [← HW1.out] at hri
  refine hri.out.mono ?_
  rintro e w2 ⟨rfl, hb2⟩
  have HM2 : Hid (MapAt w2 q W H s) := Lib.hid (HM1.out.carry hb2)
  have HZ2 : Hid (Nums w2 .i64 A S) := Lib.hid (HZ1.out.carry hb2)
  have HB2 : Hid (Below w.heap.size w w2) := Lib.hid (HB1.out.trans (hb2.mono HB1.out.size))
  clear hri hb2 m0 m1 m2 HM1 HZ1 HB1 HW1
  obtain ⟨B, HB⟩ : ∃ B, Hid (B = w2.heap.size) := ⟨_, Lib.hid rfl⟩
  have hnew := Lib.hid (New_any w2 (B := B) (by rw [HB.out]; exact Nat.le_refl _))
  rw [← HB.out] at hnew
  go_wp2_with fail
  refine hnew.out.mono ?_
  rintro e w3 ⟨rfl, h1, h2, hlt1⟩
  obtain ⟨hb, HHB⟩ : ∃ hb, Hid (hb = B) := ⟨_, Lib.hid rfl⟩
  rw [show ptr9 B = ptr9 hb by rw [HHB.out]]
  have HP3 : Hid (HpAt w3 B hb (.slice none 0 0) []) := Lib.hid (by rw [HHB.out]; exact h1)
  have HB3 : Hid (Below B w2 w3) := Lib.hid h2
  have HM0 : Hid (q < B) := Lib.hid (by rw [HB.out]; exact HM2.out.lt)
  have HBW : Hid (w.heap.size ≤ B) := Lib.hid (by rw [HB.out]; exact HB2.out.size)
  have HBE : Hid (B ≤ w2.heap.size) := Lib.hid (by rw [HB.out]; exact Nat.le_refl _)
  clear h1 h2 hlt1 hnew HHB d1 d2 d3
  go_wp2_with fail
  go_loopw [32] (fun u wr => ∃ (k : Nat) (v : Value) (M : List Itm), u = .int .i64 (k : Int) ∧ k ≤ S.length ∧ HpAt wr B hb v M ∧ IsHp M ∧ SrcsI s.data.toList (S.take k) M ∧ M.length ≤ k ∧ Below B w2 wr) (fun u _ => S.length - (intOf u).toNat)
  case atStart => exact ⟨0, _, [], rfl, Nat.zero_le _, HP3.out, isHp_nil, .nil _, Nat.le_refl _, HB3.out⟩
  case round =>
    clear HP3 HB3
    obtain ⟨k, v, M, rfl, hk, hhp, hih, hsr, hml, hbl⟩ := hrel
    have HP := Lib.hid hhp
    have HI := Lib.hid hih
    have HS := Lib.hid hsr
    have HML := Lib.hid hml
    have HBL := Lib.hid hbl
    have HBr : Hid (B ≤ wr.heap.size) := Lib.hid (Nat.le_trans HBE.out hbl.size)
    have HM : Hid (MapAt wr q W H s) := Lib.hid ((HBL.out.block q HM0.out).trans HM2.out)
    clear hhp hih hsr hml hbl
    have m0 := HM.out.w_
    have m1 := HM.out.h_
    have m2 := HM.out.s_
    by_cases hkl : k < S.length
    · obtain ⟨c, HC⟩ : ∃ c, Hid (c = S[k]) := ⟨_, Lib.hid rfl⟩
      have HTK : Hid (S.take (k + 1) = S.take k ++ [c]) := Lib.hid (by rw [List.take_add_one, List.getElem?_eq_getElem hkl, HC.out]; rfl)
      obtain ⟨ad, hcA, hcc⟩ := HZ2.out.at_ (List.getElem?_eq_getElem hkl)
      subst hcA
      rw [← HC.out] at hcc
      have c0 : wr.cell? (ad.add k) = some (.int .i64 c) := (HBL.out.cell (by rw [HB.out]; exact below_block hcc)).trans hcc
      clear hcc
      have hop := Lib.hid (Open_any W H s c (by unfold maxLen; omega) wr)
      obtain ⟨o, HO⟩ : ∃ o, Hid (o = openM W H s c) := ⟨_, Lib.hid rfl⟩
      rw [← HO.out] at hop
      go_wp2_with fail
      refine hop.out.mono ?_
      rintro e w4 ⟨rfl, hb4⟩
      have HP4 : Hid (HpAt w4 B hb v M) := Lib.hid (HP.out.carry hb4)
      have HB4 : Hid (Below B w2 w4) := Lib.hid (HBL.out.trans (hb4.mono HBr.out))
      have HBw4 : Hid (B ≤ w4.heap.size) := Lib.hid (Nat.le_trans HBr.out hb4.size)
      clear hop hb4 HP HBL HM m0 m1 m2 c0
      cases o with
      | false =>
        go_wp2_with fail
        go_roundw
        case rel => exact ⟨k + 1, v, M, by go_num, hkl, HP4.out, HI.out, by rw [HTK.out]; exact HS.out.pass (fun i hi => by
          cases ho : Grid.openAt s.data.toList i
          · rfl
          · have := (openM_iff (c := c) HR.out).2 ⟨i, hi, ho⟩
            rw [← HO.out] at this
            cases this), by have := HML.out; omega, HB4.out⟩
        case measure => simp [intOf]; omega
      | true =>
        obtain ⟨i, hi, ho⟩ := (openM_iff HR.out).1 HO.out.symm
        subst hi
        have HOP := Lib.hid ho
        clear ho
        have hpu := Lib.hid (Push_any HP4.out HI.out (by have := HML.out; omega) HBw4.out (0, (i : Int)))
        go_wp2_with fail
        refine hpu.out.mono ?_
        rintro e w5 ⟨rfl, v5, M5, h1, h2, h3, h4, h5⟩
        have HP5 := Lib.hid h1
        have HI5 := Lib.hid h2
        have HS5 : Hid (SrcsI s.data.toList (S.take (k + 1)) M5) := Lib.hid (by rw [HTK.out]; exact HS.out.push HOP.out h3)
        have HM5 : Hid (M5.length ≤ k + 1) := Lib.hid (by have := h3.length_eq; rw [List.length_append, List.length_singleton] at this; have := HML.out; omega)
        have HB5 : Hid (Below B w2 w5) := Lib.hid (HB4.out.trans (h4.below HBw4.out (fun g hg => by cases hg; exact HP4.out.far) (fun g hg => (HP4.out.row.lt g hg).1)))
        clear h1 h2 h3 h4 h5 hpu HP4 HB4
        go_wp2_with fail
        go_roundw
        case rel => exact ⟨k + 1, v5, M5, by go_num, hkl, HP5.out, HI5.out, HS5.out, HM5.out, HB5.out⟩
        case measure => simp [intOf]; omega
    · obtain rfl : k = S.length := by omega
      rw [List.take_length] at HS
      have hsp := Lib.hid (spread_any W H s hr hs1 hs2 HP.out HI.out (by have := HML.out; omega) HS.out HBr.out)
      go_wp2_with fail
      refine hsp.out.mono ?_
      rintro e w6 ⟨g, F, rfl, hg, hco, hfi, hb6⟩
      clear hsp
      go_wp2_with fail
      go_ret2
      exact ⟨g, F, rfl, by have := HBr.out; have := HBW.out; omega, hco, hfi, HB2.out.trans (((HBL.out.trans hb6)).mono HBW.out)⟩
set_option maxRecDepth 100000 in
theorem Costs_no {w : World} {A : Option Addr} {cap : Nat} {S : List Int} {st : Int} (W H : Int) (s : ByteArray) (hsz : s.size ≤ maxLen) (hn : S.length ≤ maxLen) (hno : ¬ (S.length ≤ 64 ∧ 1 ≤ st ∧ st ≤ 100 ∧ rightM W H s = true)) :
    Calls Tryd.prog 10 #[.agg #[.int .i64 W, .int .i64 H, .string s], .slice A S.length cap, .int .i64 st] w fun e w' => ∃ v, e = .returned (.tuple #[.slice none 0 0, v]) ∧ ErrFrom w' w.heap.size 1 v ∧ Below w.heap.size w w' := by
  unfold maxLen at hn
  obtain ⟨w1, HW1⟩ : ∃ w1, Hid (w1 = w.alloc (.cells #[.int .i64 W, .int .i64 H, .string s] 30)) := ⟨_, Lib.hid rfl⟩
  obtain ⟨q, HQ⟩ : ∃ q, Hid (q = w.heap.size) := ⟨_, Lib.hid rfl⟩
  have hbw : Below w.heap.size w w1 := by rw [HW1.out]; exact (Below.refl _ _).alloc (Nat.le_refl _) _
  have HM1 : Hid (MapAt w1 q W H s) := Lib.hid (by rw [HW1.out, HQ.out]; exact heap_alloc_new w _)
  have HB1 : Hid (Below w.heap.size w w1) := Lib.hid hbw
  clear hbw
  have htg := fun w9 h => Tag_from ⟨#[102, 105, 101, 108, 100]⟩ w.heap.size 1 (.iface 46 (.int .i64 1)) w9 (.inr ⟨by decide, .base⟩) h
  have HTG := Lib.hid htg
  clear htg
  have hri := Lib.hid (Right_any W H s hsz w1)
  have m0 := HM1.out.w_
  have m1 := HM1.out.h_
  have m2 := HM1.out.s_
  rw [HW1.out] at m0 m1 m2 hri
  rw [HQ.out] at m0 m1 m2
  have fin : ∀ w9, Below w.heap.size w w9 → Calls Tryd.prog 22 #[.string ⟨#[102, 105, 101, 108, 100]⟩, .iface 46 (.int .i64 1)] w9 fun e w' => ∃ v, e = .returned v ∧ ErrFrom w' w.heap.size 1 v ∧ Below w.heap.size w w' := fun w9 h9 => (HTG.out w9 h9.size).mono (by
    rintro e w' ⟨v, rfl, h1, h2⟩
    exact ⟨v, rfl, h1, h9.trans (h2.mono h9.size)⟩)
  have HF := Lib.hid fin
  clear fin
  have hw1 : Below w.heap.size w (w.alloc (.cells #[.int .i64 W, .int .i64 H, .string s] 30)) := by rw [← HW1.out]; exact HB1.out
  have HW := Lib.hid hw1
  clear hw1
  by_cases hd : (64 : Int) < (S.length : Int) ∨ st < 1 ∨ 100 < st
  · have hq : (decide ((64 : Int) < (S.length : Int)) || decide (st < 1) || decide ((100 : Int) < st)) = true := by simpa [or_assoc] using hd
    rcases Classical.em ((64 : Int) < (S.length : Int)) with h1 | h1
    · go_enter Tryd.func10, Tryd.ntmps10
      go_wp2_with fail
      refine (HF.out _ HW.out).mono ?_
      rintro e w2 ⟨v, rfl, hv, hb⟩
      go_wp2_with fail
      go_ret2
      exact ⟨v, rfl, hv, hb⟩
    · rcases Classical.em (st < 1) with h2 | h2
      · go_enter Tryd.func10, Tryd.ntmps10
        go_wp2_with fail
        refine (HF.out _ HW.out).mono ?_
        rintro e w2 ⟨v, rfl, hv, hb⟩
        go_wp2_with fail
        go_ret2
        exact ⟨v, rfl, hv, hb⟩
      · have h3 : (100 : Int) < st := by rcases hd with h | h | h; exact absurd h h1; exact absurd h h2; exact h
        go_enter Tryd.func10, Tryd.ntmps10
        go_wp2_with fail
        refine (HF.out _ HW.out).mono ?_
        rintro e w2 ⟨v, rfl, hv, hb⟩
        go_wp2_with fail
        go_ret2
        exact ⟨v, rfl, hv, hb⟩
  · have d1 : ¬ (64 : Int) < (S.length : Int) := fun h => hd (.inl h)
    have d2 : ¬ st < 1 := fun h => hd (.inr (.inl h))
    have d3 : ¬ (100 : Int) < st := fun h => hd (.inr (.inr h))
    have hr : rightM W H s = false := by
      cases e : rightM W H s with
      | false => rfl
      | true => exact absurd ⟨by omega, by omega, by omega, e⟩ hno
    rw [hr] at hri
    clear hd hno hr
    go_enter Tryd.func10, Tryd.ntmps10
    go_wp2_with fail
    refine hri.out.mono ?_
    rintro e w2 ⟨rfl, hb2⟩
    have HB2 : Hid (Below w.heap.size w w2) := Lib.hid (HW.out.trans (hb2.mono HW.out.size))
    clear hri hb2 m0 m1 m2
    go_wp2_with fail
    refine (HF.out _ HB2.out).mono ?_
    rintro e w3 ⟨v, rfl, hv, hb⟩
    go_wp2_with fail
    go_ret2
    exact ⟨v, rfl, hv, hb⟩
end Go.Proofs.YtiffgmgefpoblaaDoor
