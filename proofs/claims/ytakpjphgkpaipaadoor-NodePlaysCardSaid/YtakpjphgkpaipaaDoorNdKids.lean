/-
  The contract of the program's own areKids of layer 9: the children that were met stand in a map that the call makes. Conditions: none beyond the premises of each theorem.
-/
import Derived.Test.YtakpjphgkpaipaaDoorNdBasic
import Derived.Test.YtakpjphgkpaipaaDoorStop
import Derived.Maps.OwnOps
import Derived.Maps.Views
namespace Go.Proofs.YtakpjphgkpaipaaDoor
open Go.RowKit Go.Maps

theorem Tryd.keyInt : Keyed Tryd.prog 3 := int_keyed Tryd.underlying3
theorem Tryd.zeroInt (w : World) : (zeroValue 3).run Tryd.prog w = .ok (.int .i64 0) w := by kernel_rfl
/-- a look-up that is guarded, and wanted -/
theorem wpList_lookup_guarded {H : Type} {P : Program} (w : World) {ops : Array Oper} {rest : List Oper} {o : Oper} {a : Act} {Q : Exit → Act → World → Prop}
    (hg : Region.wanted o (yielded ops a.tmps) = true) (m x : Operand) (t : TypeId) (hop : o.op = Op.lookup t m x false)
    (k e : TypeId) (q : IntKind) (K : Keyed P k) (ht : P.underlying t = some (.map k e)) (he : P.underlying e = some (.int q)) (hz : (zeroValue e).run P w = .ok (.int q 0) w) (b n : Nat) (D : DataW H)
    (hm : a.eval m = .map (some b)) (hown : w.ownsMap P k (plainElem P e) b n D) (key : Value) (kl : Lit) (hx : a.eval x = key) (hkey : keyOf P k key = some kl)
    (hK : ∀ c : Int, D.atKey kl (.lit (.int q 0)) = .lit (.int q c) → (Lit.int q c).wf = true → wpList P ops Q rest (a.put o.dst (.int q c)) w) :
    wpList P ops Q (o :: rest) a w := by
  refine wpList_step fun K' hK' => ?_
  rw [if_pos hg]
  obtain ⟨c, hrun, hat, hwc⟩ := hown.lookup_int K ht he hz hkey
  unfold Oper.wp
  simp [execOp, hop, hm, hx, hrun, Result.andThen]
  exact hK' _ _ (hK c hat hwc)
/-- how often a child was met -/
def metZ (l : List Int) (z : Int) : Int := if z ∈ l then 1 else 0
/-- the map of those that were met -/
structure Met (w : World) (b k : Nat) (l : List Int) (D : DataW Unit) : Prop where
  own : w.ownsMap Tryd.prog 3 (plainElem Tryd.prog 3) b k D
  map : IsMap D
  at_ : ∀ z, D.atKey (.int .i64 z) (.lit (.int .i64 0)) = .lit (.int .i64 (metZ l z))
def KidsIn (l : List Int) : Prop := (∀ z ∈ l, 2 ≤ z ∧ z ≤ 239) ∧ l.Pairwise (· ≠ ·)
theorem kidsB_in {l : List Int} : kidsB l = true ↔ KidsIn l := kidsB_iff
theorem KidsIn.push {l : List Int} {z : Int} (h : KidsIn l) (h1 : 2 ≤ z) (h2 : z ≤ 239) (h3 : z ∉ l) : KidsIn (l ++ [z]) := by
  refine ⟨fun y hy => ?_, ?_⟩
  · rcases List.mem_append.1 hy with hy | hy
    · exact h.1 y hy
    · rw [List.mem_singleton.1 hy]; exact ⟨h1, h2⟩
  · rw [List.pairwise_append]
    refine ⟨h.2, List.pairwise_singleton _ _, fun a ha b hb => ?_⟩
    rw [List.mem_singleton.1 hb]
    rintro rfl
    exact h3 ha
theorem kids_stop {l t : List Int} {z : Int} (h : z < 2 ∨ 239 < z ∨ z ∈ l) : kidsB (l ++ z :: t) = false := by
  rw [Bool.eq_false_iff]
  intro hk
  obtain ⟨h1, h2⟩ := kidsB_iff.1 hk
  have := h1 z (by simp)
  rw [List.pairwise_append] at h2
  rcases h with h | h | h
  · omega
  · omega
  · exact h2.2.2 z h z (by simp) rfl
theorem lit_int {a b : Int} (h : (.lit (.int .i64 a) : DataW Unit) = .lit (.int .i64 b)) : a = b := by
  injection h with h
  injection h
theorem Met.push {w' : World} {b k : Nat} {l : List Int} {D : DataW Unit} {z c : Int} (hm : IsMap D) (hat : ∀ z, D.atKey (.int .i64 z) (.lit (.int .i64 0)) = .lit (.int .i64 (metZ l z)))
    (hz : z ∉ l) (hc : c = 1) (hown : w'.ownsMap Tryd.prog 3 (plainElem Tryd.prog 3) b (k + 1) (D.put (.int .i64 z) (.lit (.int .i64 c)))) (hk : WideAt.IsKeyLit (.int .i64 z)) : Met w' b (k + 1) (l ++ [z]) (D.put (.int .i64 z) (.lit (.int .i64 c))) := by
  refine ⟨hown, hm.put _ _, fun y => ?_⟩
  by_cases hy : y = z
  · subst hy
    rw [atKey_put_same hm hk, hc]
    simp [metZ]
  · rw [atKey_put_other (by simpa using hy), hat y]
    simp [metZ, hy]
def KidsMet (kids : List Int) (b B : Nat) (w : World) (i : Value) (wr : World) : Prop := ∃ (k : Nat) (D : DataW Unit), k ≤ kids.length ∧ i = .int .i64 (k : Int) ∧ Met wr b k (kids.take k) D ∧ KidsIn (kids.take k) ∧ Below B w wr
set_option maxRecDepth 100000 in
set_option maxHeartbeats 1000000 in
theorem areKids_any {w : World} {A : Option Addr} {cap : Nat} {kids : List Int} (h : Nums w .i64 A kids) (hl : kids.length ≤ 1000) (hw : ∀ z ∈ kids, -9223372036854775808 ≤ z ∧ z ≤ 9223372036854775807) :
    Calls Tryd.prog 26 #[.slice A kids.length cap] w fun e w' => e = .returned (.bool (kidsB kids)) ∧ Below w.heap.size w w' := by
  have hmm := @run_makeMap Tryd.prog
  have HV := Lib.hid h
  have HW := Lib.hid hw
  clear h hw
  obtain ⟨b, HB⟩ : ∃ b, Hid (b = w.heap.size) := ⟨_, Lib.hid rfl⟩
  obtain ⟨w1, HW1⟩ : ∃ w1, Hid (w1 = w.alloc (.map #[] 0)) := ⟨_, Lib.hid rfl⟩
  have HM1 : Hid (Met w1 b 0 [] (.map [])) := Lib.hid (by rw [HW1.out, HB.out]; exact ⟨World.ownsMap_made _ _ _ _, isMap_empty, fun z => rfl⟩)
  have HBL : Hid (Below w.heap.size w w1) := Lib.hid (by rw [HW1.out]; exact (Below.refl _ _).alloc (Nat.le_refl _) _)
  go_enter Tryd.func26, Tryd.ntmps26
  go_upto_region 2 with (fail)
  rw [← HB.out, ← HW1.out]
  go_wp2_with fail
  go_loopw [9] (fun i wr => KidsMet kids b w.heap.size w i wr) (fun i _ => kids.length - (intOf i).toNat)
  case atStart => exact ⟨0, _, Nat.zero_le _, rfl, HM1.out, ⟨fun z hz => (by cases hz), List.Pairwise.nil⟩, HBL.out⟩
  case round =>
    obtain ⟨k, D, hk, rfl, hmet, hin, hb⟩ := hrel
    have HMET := Lib.hid hmet
    have HIN := Lib.hid hin
    have HBW := Lib.hid hb
    clear hmet hin hb HM1 HBL HW1
    by_cases hlt : k < kids.length
    · obtain ⟨a, rfl, hc⟩ := nums_cell (HV.out.carry HBW.out) hlt
      obtain ⟨z, HZ⟩ : ∃ z, Hid (z = kids[k]) := ⟨_, Lib.hid rfl⟩
      have hzw := HW.out z (by rw [HZ.out]; exact List.getElem_mem _)
      rw [← HZ.out] at hc
      have HT : Hid (kids.take (k + 1) = kids.take k ++ [z]) := Lib.hid (by rw [HZ.out, List.take_add_one, List.getElem?_eq_getElem hlt]; rfl)
      have HS : Hid (kids = kids.take k ++ z :: kids.drop (k + 1)) := Lib.hid (by rw [HZ.out, List.getElem_cons_drop hlt, List.take_append_drop])
      have hkey : keyOf Tryd.prog 3 (.int .i64 z) = some (.int .i64 z) := keyOf_int_mk Tryd.underlying3 (WalkArith.wf_i64 hzw)
      obtain ⟨q, HQ⟩ : ∃ q, Hid (q = metZ (kids.take k) z) := ⟨_, Lib.hid rfl⟩
      have hq : q = 0 ∨ q = 1 := by rw [HQ.out]; unfold metZ; split <;> simp
      have hat := HMET.out.at_ z
      rw [← HQ.out] at hat
      have hz0 := Tryd.zeroInt
      go_wp2_with (with_reducible refine stop_at (o := ⟨some 15, _, _, _, _, _⟩) ?_)
      refine wpList_lookup_own_int _ rfl _ _ 68 rfl 3 3 .i64 Tryd.keyInt Tryd.underlying68 Tryd.underlying3 (hz0 _) b k D rfl HMET.out.own _ _ rfl hkey ?_
      intro c hat2 hwc
      obtain rfl : q = c := lit_int (hat.symm.trans hat2)
      clear hat2 hwc hat
      have HK := Lib.hid hkey
      have hkm : k < maxLen := by unfold maxLen; omega
      rcases hq with rfl | rfl
      · have HNI : Hid (z ∉ kids.take k) := Lib.hid (fun h => by have := HQ.out; simp [metZ, h] at this)
        go_wp2_with (with_reducible refine stop_at (o := ⟨none, _, _, _, _, _⟩) ?_)
        refine wpList_mapUpdate_own _ rfl _ _ _ 68 rfl 3 3 Tryd.keyInt Tryd.underlying68 _ b k D rfl HMET.out.own hkm _ (.int .i64 1) _ rfl rfl HK.out (.lit (.int .i64 1)) [] (plainElem_int Tryd.underlying3 (by decide)) ?_
        intro w2 hown2 hgrow2
        have HM2 := Lib.hid (Met.push HMET.out.map HMET.out.at_ HNI.out (c := 1) rfl hown2 trivial)
        have HB2 : Hid (Below w.heap.size w w2) := Lib.hid (HBW.out.grown hgrow2 HBW.out.size (fun j hj => by cases hj; rw [HB.out]; exact Nat.le_refl _))
        have HM3 : Hid (w2.ownsMap Tryd.prog 3 (plainElem Tryd.prog 3) b (k + 1) (D.put (.int .i64 z) (.lit (.int .i64 1)))) := Lib.hid hown2
        have HAT : Hid ((D.put (.int .i64 z) (.lit (.int .i64 1))).atKey (.int .i64 z) (.lit (.int .i64 0)) = .lit (.int .i64 1)) := Lib.hid (atKey_put_same (k := .int .i64 z) HMET.out.map trivial _ _)
        clear hown2 hgrow2 hkey
        by_cases h1 : z < 2
        · have HF : Hid (kidsB kids = false) := Lib.hid (by rw [HS.out]; exact kids_stop (.inl h1))
          go_wp2_with fail
          go_ret
          exact ⟨ret_bool HF.out.symm, HB2.out⟩
        · by_cases h2 : 239 < z
          · have HF : Hid (kidsB kids = false) := Lib.hid (by rw [HS.out]; exact kids_stop (.inr (.inl h2)))
            go_wp2_with fail
            go_ret
            exact ⟨ret_bool HF.out.symm, HB2.out⟩
          · go_wp2_with (with_reducible refine stop_at (o := ⟨some 26, _, _, _, _, _⟩) ?_)
            refine wpList_lookup_guarded _ (by rfl) _ _ 68 rfl 3 3 .i64 Tryd.keyInt Tryd.underlying68 Tryd.underlying3 (hz0 _) b (k + 1) _ rfl HM3.out _ _ rfl HK.out ?_
            intro c hat2 hwc
            obtain rfl : 1 = c := lit_int (HAT.out.symm.trans hat2)
            clear hat2 hwc
            go_wp2_with fail
            go_roundw
            case rel =>
              refine ⟨k + 1, D.put (.int .i64 z) (.lit (.int .i64 1)), hlt, by go_num, ?_, ?_, HB2.out⟩
              · rw [HT.out]; exact HM2.out
              · rw [HT.out]; exact HIN.out.push (by omega) (by omega) HNI.out
            case measure => simp [intOf]; omega
      · have HF : Hid (kidsB kids = false) := Lib.hid (by
          rw [HS.out]
          exact kids_stop (.inr (.inr (by
            have := HQ.out
            unfold metZ at this
            split at this
            · assumption
            · cases this))))
        go_wp2_with (with_reducible refine stop_at (o := ⟨none, _, _, _, _, _⟩) ?_)
        refine wpList_mapUpdate_own _ rfl _ _ _ 68 rfl 3 3 Tryd.keyInt Tryd.underlying68 _ b k D rfl HMET.out.own hkm _ (.int .i64 2) _ rfl rfl HK.out (.lit (.int .i64 2)) [] (plainElem_int Tryd.underlying3 (by decide)) ?_
        intro w2 hown2 hgrow2
        have HB2 : Hid (Below w.heap.size w w2) := Lib.hid (HBW.out.grown hgrow2 HBW.out.size (fun j hj => by cases hj; rw [HB.out]; exact Nat.le_refl _))
        have HM3 : Hid (w2.ownsMap Tryd.prog 3 (plainElem Tryd.prog 3) b (k + 1) (D.put (.int .i64 z) (.lit (.int .i64 2)))) := Lib.hid hown2
        have HAT : Hid ((D.put (.int .i64 z) (.lit (.int .i64 2))).atKey (.int .i64 z) (.lit (.int .i64 0)) = .lit (.int .i64 2)) := Lib.hid (atKey_put_same (k := .int .i64 z) HMET.out.map trivial _ _)
        clear hown2 hgrow2 hkey
        rcases (show z < 2 ∨ (¬ z < 2 ∧ 239 < z) ∨ (¬ z < 2 ∧ ¬ 239 < z) by omega) with h1 | ⟨h1, h2⟩ | ⟨h1, h2⟩
        · go_wp2_with fail
          go_ret
          exact ⟨ret_bool HF.out.symm, HB2.out⟩
        · go_wp2_with fail
          go_ret
          exact ⟨ret_bool HF.out.symm, HB2.out⟩
        · go_wp2_with (with_reducible refine stop_at (o := ⟨some 26, _, _, _, _, _⟩) ?_)
          refine wpList_lookup_guarded _ (by rfl) _ _ 68 rfl 3 3 .i64 Tryd.keyInt Tryd.underlying68 Tryd.underlying3 (hz0 _) b (k + 1) _ rfl HM3.out _ _ rfl HK.out ?_
          intro c hat2 hwc
          obtain rfl : 2 = c := lit_int (HAT.out.symm.trans hat2)
          clear hat2 hwc
          go_wp2_with fail
          go_ret
          exact ⟨ret_bool HF.out.symm, HB2.out⟩
    · obtain rfl : k = kids.length := by omega
      go_wp2_with fail
      go_ret
      refine ⟨ret_bool ?_, HBW.out⟩
      have := HIN.out
      rw [List.take_length] at this
      exact (kidsB_in.2 this).symm
end Go.Proofs.YtakpjphgkpaipaaDoor
