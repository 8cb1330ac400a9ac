/-
  The walk of the statement NodeBack: it answers true, and no memory that was there has turned. Conditions: the program's calls are as NodeSpec says; errors.errorType is laid.
-/
import Derived.Test.YtakpjphgkpaipaaDoorNodeAwake
import Derived.Test.YtakpjphgkpaipaaDoorNodeRefLay
import Derived.Test.YtakpjphgkpaipaaDoorStop
namespace Go.Proofs.YtakpjphgkpaipaaDoor
open Go.RowKit

theorem nd_one (l : Lay3) (x : Nd) : (#[.slice l.A x.keys.length l.ca, .slice l.B x.vals.length l.cb, .slice l.C x.kids.length l.cc] : Array Value).all (·.oneCell') = true := by
  simp [Value.oneCell']
/-- a node that a call answers is laid into a variable made anew -/
theorem wpList_store_nd {T : TypeId} (hT : NdType T) {ops : Array Oper} {rest : List Oper} {o : Oper} {a : Act} {w : World} {Q : Exit → Act → World → Prop} (hgd : o.guard = none) (y z : Operand) (ho : o.op = .store T y z)
    (l : Lay3) (x : Nd) (hx : a.eval y = .pointer (some ⟨w.heap.size, 0, none⟩)) (hy : a.eval z = ndV l x)
    (h : ∀ w2 b, Hid (b = w.heap.size) → Hid (Below w.heap.size w w2) → Hid (NdBox w2 b l x) → wpList Tryd.prog ops Q rest (a.put o.dst undef) w2) : wpList Tryd.prog ops Q (o :: rest) a (w.alloc (.cells #[.slice none 0 0, .slice none 0 0, .slice none 0 0] T)) :=
  wpList_store_last hgd T y z ho #[.slice none 0 0, .slice none 0 0, .slice none 0 0] #[.slice l.A x.keys.length l.ca, .slice l.B x.vals.length l.cb, .slice l.C x.kids.length l.cc] T rfl hx hy hT.size rfl (nd_one l x)
    (h _ _ (Lib.hid rfl) (Lib.hid ((Below.refl _ _).alloc (Nat.le_refl _) _)) (Lib.hid (NdBox.new T)))
theorem few_parts {x : Nd} (h : fewB x = true) : x.keys.length ≤ 20 ∧ x.vals.length ≤ 20 ∧ x.kids.length ≤ 20 := by
  unfold fewB at h
  simp only [Bool.and_eq_true, decide_eq_true_eq] at h
  exact ⟨h.1.1.1, h.1.1.2, h.1.2⟩
/-- what stands in memory: the argument's copy, the node that was read, the error of what has a byte more -/
structure BackS (w : World) (p q : Nat) (L M : Lay3) (x : Nd) (v : Value) (wr : World) : Prop where
  a : NdBox wr p L x
  b : NdBox wr q M x
  node : NdIs wr M x
  err : ErrIs wr 2 v
  below : Below w.heap.size w wr
theorem BackS.carry {w wr w' : World} {p q : Nat} {L M : Lay3} {x : Nd} {v : Value} (h : BackS w p q L M x v wr) (hb : Below wr.heap.size wr w') : BackS w p q L M x v w' :=
  ⟨h.a.carry hb h.a.lt, h.b.carry hb h.b.lt, h.node.carry hb, h.err.carry hb, h.below.trans (hb.mono h.below.size)⟩
set_option maxRecDepth 100000 in
set_option maxHeartbeats 4000000 in
theorem nback_walk (H : NodeSpec) {w : World} {l : Lay3} {x : Nd} (h : NdIs w l x) (hg : Laid w) : Calls Tryd.prog 3 #[ndV l x] w fun e w' => e = .returned (.bool true) ∧ Below w.heap.size w w' := by
  have hz := Tryd.zeroNode
  obtain ⟨A, B, C, ca, cb, cc⟩ := l
  obtain ⟨p, HP⟩ : ∃ p, Hid (p = w.heap.size) := ⟨_, Lib.hid rfl⟩
  obtain ⟨w1, HW⟩ : ∃ w1, Hid (w1 = w.alloc (.cells #[.slice A x.keys.length ca, .slice B x.vals.length cb, .slice C x.kids.length cc] 25)) := ⟨_, Lib.hid rfl⟩
  have HS : Hid (BoxS w p ⟨A, B, C, ca, cb, cc⟩ x w1) := Lib.hid (by
    rw [HW.out, HP.out]
    exact ⟨NdBox.new (l := ⟨A, B, C, ca, cb, cc⟩) (x := x) _, (Below.refl _ _).alloc (Nat.le_refl _) _⟩)
  obtain ⟨L, HL⟩ : ∃ L : Lay3, Hid (L = ⟨A, B, C, ca, cb, cc⟩) := ⟨_, Lib.hid rfl⟩
  rw [← HL.out] at HS h
  have HN : Hid (∀ w', Below w.heap.size w w' → NdIs w' L x) := Lib.hid fun w' hb => h.carry hb
  have HGK : Hid (∀ w', Below w.heap.size w w' → Laid w') := Lib.hid fun w' hb => hg.carry hb
  obtain ⟨r, HR⟩ : ∃ r, Hid (r = rightN x) := ⟨_, Lib.hid rfl⟩
  clear h hg
  go_enter Tryd.func3, Tryd.ntmps3
  go_upto_region 1 with (fail)
  rw [← HW.out, ← HP.out]
  clear HW
  go_wp2_with fail
  refine (awake_any H w1 (HGK.out _ HS.out.below)).mono ?_
  rintro e w2 ⟨rfl, hb⟩
  have HS2 := Lib.hid (HS.out.carry hb)
  clear hb HS
  go_wp2_with (with_reducible refine stop_at (o := ⟨some 12, _, _, _, _, _⟩) ?_)
  refine wpList_load_nd Tryd.ndRef (by rfl) _ rfl p rfl L x HS2.out.a ?_
  go_wp2_with fail
  refine (Few_any (HN.out _ HS2.out.below)).mono ?_
  rintro e w3 ⟨rfl, hb⟩
  have HS3 := Lib.hid (HS2.out.carry hb)
  clear hb HS2
  unfold fewZ
  by_cases hf : fewB x = true
  · rw [if_pos hf]
    have HFW := Lib.hid (few_parts hf)
    clear hf
    go_wp2_with (with_reducible refine stop_at (o := ⟨some 18, _, _, _, _, _⟩) ?_)
    refine wpList_load_nd Tryd.ndRef (by rfl) _ rfl p rfl L x HS3.out.a ?_
    go_wp2_with fail
    refine (Of_any L x).mono ?_
    rintro e w4 ⟨rfl, hb⟩
    have HS4 := Lib.hid (HS3.out.carry hb)
    clear hb HS3
    go_wp2_with fail
    cases r with
    | false =>
      refine (H.layNo (HN.out _ HS4.out.below) (HGK.out _ HS4.out.below) HR.out.symm).mono ?_
      rintro e w5 ⟨v, rfl, he, hb⟩
      have HE5 := Lib.hid he.is
      have HS5 := Lib.hid (HS4.out.carry hb)
      clear he hb HS4
      go_wp2_with fail
      refine (Num_any 1 v w5 HE5.out (HGK.out _ HS5.out.below)).mono ?_
      rintro e w6 ⟨rfl, hb⟩
      have HE6 := Lib.hid (HE5.out.carry hb)
      have HS6 := Lib.hid (HS5.out.carry hb)
      clear hb HS5 HE5
      go_wp2_with fail
      refine (Num_any 1 v w6 HE6.out (HGK.out _ HS6.out.below)).mono ?_
      rintro e w7 ⟨rfl, hb⟩
      have HS7 := Lib.hid (HS6.out.carry hb)
      clear hb HS6 HE6
      go_wp2_with (with_reducible refine stop_at (o := ⟨some 34, _, _, _, _, _⟩) ?_)
      refine wpList_load_nd Tryd.ndRef (by rfl) _ rfl p rfl L x HS7.out.a ?_
      go_wp2_with fail
      refine (Of_any L x).mono ?_
      rintro e w8 ⟨rfl, hb⟩
      have HS8 := Lib.hid (HS7.out.carry hb)
      clear hb HS7
      go_wp2_with fail
      refine (H.right (HN.out _ HS8.out.below)).mono ?_
      rw [← HR.out]
      rintro e w9 ⟨rfl, hb⟩
      have HS9 := Lib.hid (HS8.out.carry hb)
      clear hb HS8
      go_wp2_with fail
      go_ret
      exact ⟨rfl, HS9.out.below⟩
    | true =>
      refine (H.layYes (HN.out _ HS4.out.below) (HGK.out _ HS4.out.below) HR.out.symm).mono ?_
      obtain ⟨s, HST⟩ : ∃ s : ByteArray, Hid (s = ⟨(layN x).toArray⟩) := ⟨_, Lib.hid rfl⟩
      have HSZ : Hid (s.size ≤ 120) := Lib.hid (by rw [HST.out]; exact layN_small HR.out.symm)
      have HSD : Hid (s.data.toList = layN x) := Lib.hid (by rw [HST.out])
      rw [← HST.out]
      rintro e w5 ⟨rfl, hb⟩
      have HS5 := Lib.hid (HS4.out.carry hb)
      clear hb HS4
      go_wp2_with fail
      refine (Num_any 0 .nilIface w5 (.nil _) (HGK.out _ HS5.out.below)).mono ?_
      rintro e w6 ⟨rfl, hb⟩
      have HS6 := Lib.hid (HS5.out.carry hb)
      clear hb HS5
      go_wp2_with fail
      refine (H.readYes w6 s x (HGK.out _ HS6.out.below) (by have := HSZ.out; unfold maxLen; omega) (by rw [HSD.out]; exact readN_lay HR.out.symm)).mono ?_
      rintro e w7 ⟨M, rfl, hm, hb⟩
      have HM7 := Lib.hid hm
      have HS7 := Lib.hid (HS6.out.carry hb)
      clear hm hb HS6
      go_wp2_with (with_reducible refine stop_at (o := ⟨none, _, _, _, _, _⟩) ?_)
      refine wpList_store_nd Tryd.ndProg rfl _ _ rfl M x rfl rfl ?_
      intro w8 q HQ HB8 HX8
      rw [← HQ.out]
      have HS8 := Lib.hid (HS7.out.carry HB8.out)
      have HM8 := Lib.hid (HM7.out.carry HB8.out)
      clear HQ HB8 HS7 HM7
      have hsx : (s ++ ⟨#[120]⟩ : ByteArray).size = s.size + 1 := by rw [ByteArray.size_append]; rfl
      obtain ⟨t, HTT⟩ : ∃ t : ByteArray, Hid (t = s ++ ⟨#[120]⟩) := ⟨_, Lib.hid rfl⟩
      have hcat : ∀ w, (Op.stringOp .add s ⟨#[120]⟩).run Tryd.prog w = .ok (.string t) w := fun w => by
        rw [HTT.out]
        exact run_string_add_sum w _ _ (by
          have e : (⟨#[120]⟩ : ByteArray).size = 1 := rfl
          have := HSZ.out
          omega)
      have HTD : Hid (t.data.toList = layN x ++ [120]) := Lib.hid (by rw [HTT.out, ByteArray.data_append, Array.toList_append, HSD.out])
      have HTZ : Hid (t.size ≤ 121) := Lib.hid (by rw [HTT.out, hsx]; have := HSZ.out; omega)
      clear hsx HTT
      go_wp2_with fail
      refine (H.readNo w8 t (HGK.out _ HS8.out.below) (by have := HTZ.out; unfold maxLen; omega) (by rw [HTD.out]; exact readN_more HR.out.symm 120)).mono ?_
      rintro e w9 ⟨M2, v, rfl, hm, he, hb⟩
      have HE9 := Lib.hid he.is
      have HS9 := Lib.hid (HS8.out.carry hb)
      have HM9 := Lib.hid (HM8.out.carry hb)
      have HX9 := Lib.hid (HX8.out.carry hb HX8.out.lt)
      clear hm he hb HS8 HM8 HX8
      go_wp2_with (with_reducible refine stop_at (o := ⟨none, _, _, _, _, _⟩) ?_)
      refine wpList_store_nd Tryd.ndProg rfl _ _ rfl M2 Nd.empty rfl rfl ?_
      intro w10 q2 HQ2 HB10 HX10
      rw [← HQ2.out]
      have HS10 : Hid (BackS w p q L M x v w10) := Lib.hid ⟨HS9.out.a.carry HB10.out HS9.out.a.lt, HX9.out.carry HB10.out HX9.out.lt, HM9.out.carry HB10.out, HE9.out.carry HB10.out, HS9.out.below.trans (HB10.out.mono HS9.out.below.size)⟩
      clear HQ2 HB10 HX10 HS9 HM9 HX9 HE9 hcat
      have hlen : (s.size : Int) ≤ 120 := by have := HSZ.out; omega
      go_upto_region 8 with (fail)
      refine wp_region_held (S := BackS w p q L M x v) (by kernel_rfl) ?_
      change wpAnyH _ _ _ _ _ _ _ _ w10.drew
      obtain ⟨wa, HWA⟩ : ∃ wa, Hid (wa = w10.drew) := ⟨_, Lib.hid rfl⟩
      rw [← HWA.out]
      have hS : BackS w p q L M x v wa := by rw [HWA.out]; exact HS10.out.carry (Below.refl _ _).drew
      clear HWA HS10
      obtain ⟨kz, HKZ⟩ : ∃ kz : Bool, Hid (kz = decide (x.kids.length = 0)) := ⟨_, Lib.hid rfl⟩
      have hkz : ((x.kids.length : Int) == 0) = kz := by rw [HKZ.out]; by_cases h : x.kids.length = 0 <;> simp [h]
      refine takeH (i := 0) 50 (v := .nilIface) rfl (by kernel_rfl) (by kernel_rfl) (by kernel_rfl) rfl (fun _ _ _ h => h) (.inl ⟨by rfl, fun _ _ => by go_simp⟩) hS ?_
      simp only [Act.put, List.setIfInBounds_toArray, List.set_cons_zero, List.set_cons_succ]
      refine oneH (i := 1) (oi := ⟨some 51, _, _, _, _, _⟩) rfl (by kernel_rfl) (fun K hK => ?_)
      go_simp
      refine (Num_any 0 .nilIface _ (.nil _) (HGK.out _ hS.below)).mono ?_
      rintro e wn ⟨rfl, hb⟩
      have hS2 := hS.carry hb
      clear hb hS
      refine hK.out _ _ hS2 ?_
      clear hK K
      have hS := hS2
      clear hS2
      refine takeH (i := 2) 52 (v := .bool true) rfl (by kernel_rfl) (by kernel_rfl) (by kernel_rfl) rfl (fun _ _ _ h => h) (.inl ⟨by rfl, fun _ _ => by go_simp⟩) hS ?_
      simp only [Act.put, List.setIfInBounds_toArray, List.set_cons_zero, List.set_cons_succ]
      refine takeH (i := 3) 53 (v := .bool true) rfl (by kernel_rfl) (by kernel_rfl) (by kernel_rfl) rfl (fun _ _ _ h => h) (.inl ⟨by rfl, fun _ _ => by go_simp⟩) hS ?_
      simp only [Act.put, List.setIfInBounds_toArray, List.set_cons_zero, List.set_cons_succ]
      refine takeH (i := 4) 54 (v := ndV M x) rfl (by kernel_rfl) (by kernel_rfl) (by kernel_rfl) rfl (fun _ _ _ h => h) (yieldsIf_nd Tryd.ndProg (by rfl) _ rfl q rfl M x (fun _ h => h.b)) hS ?_
      simp only [Act.put, List.setIfInBounds_toArray, List.set_cons_zero, List.set_cons_succ]
      refine takeH (i := 5) 55 (v := ndV L x) rfl (by kernel_rfl) (by kernel_rfl) (by kernel_rfl) rfl (fun _ _ _ h => h) (yieldsIf_nd Tryd.ndRef (by rfl) _ rfl p rfl L x (fun _ h => h.a)) hS ?_
      simp only [Act.put, List.setIfInBounds_toArray, List.set_cons_zero, List.set_cons_succ]
      refine oneH (i := 6) (oi := ⟨some 56, _, _, _, _, _⟩) rfl (by kernel_rfl) (fun K hK => ?_)
      rw [if_pos (by rfl)]
      go_simp
      refine (Same_any hS.node (HN.out _ hS.below)).mono ?_
      rintro e wn ⟨rr, rfl, hrr, hb⟩
      obtain rfl : rr = 1 := by
        rcases hrr with ⟨_, h⟩ | ⟨h, _⟩
        · exact h
        · exact absurd rfl h
      have hS2 := hS.carry hb
      clear hb hS
      refine hK.out _ _ hS2 ?_
      clear hK K
      have hS := hS2
      clear hS2
      refine takeH (i := 7) 57 (v := .bool true) rfl (by kernel_rfl) (by kernel_rfl) (by kernel_rfl) rfl (fun _ _ _ h => h) (.inl ⟨by rfl, fun _ _ => by go_simp⟩) hS ?_
      simp only [Act.put, List.setIfInBounds_toArray, List.set_cons_zero, List.set_cons_succ]
      refine takeH (i := 8) 58 (v := .bool true) rfl (by kernel_rfl) (by kernel_rfl) (by kernel_rfl) rfl (fun _ _ _ h => h) (.inl ⟨by rfl, fun _ _ => by go_simp⟩) hS ?_
      simp only [Act.put, List.setIfInBounds_toArray, List.set_cons_zero, List.set_cons_succ]
      refine takeH (i := 9) 59 (v := .bool true) rfl (by kernel_rfl) (by kernel_rfl) (by kernel_rfl) rfl (fun _ _ _ h => h) (.inl ⟨by rfl, fun _ _ => by go_simp⟩) hS ?_
      simp only [Act.put, List.setIfInBounds_toArray, List.set_cons_zero, List.set_cons_succ]
      refine takeH (i := 10) 60 (v := .string s) rfl (by kernel_rfl) (by kernel_rfl) (by kernel_rfl) rfl (fun _ _ _ h => h) (.inl ⟨by rfl, fun _ _ => by go_simp⟩) hS ?_
      simp only [Act.put, List.setIfInBounds_toArray, List.set_cons_zero, List.set_cons_succ]
      refine takeH (i := 11) 61 (v := .int .i64 (s.size : Int)) rfl (by kernel_rfl) (by kernel_rfl) (by kernel_rfl) rfl (fun _ _ _ h => h) (.inl ⟨by rfl, fun _ _ => by go_simp⟩) hS ?_
      simp only [Act.put, List.setIfInBounds_toArray, List.set_cons_zero, List.set_cons_succ]
      refine takeH (i := 12) 62 (v := .bool true) rfl (by kernel_rfl) (by kernel_rfl) (by kernel_rfl) rfl (fun _ _ _ h => h) (.inl ⟨by rfl, fun _ _ => by go_simp⟩) hS ?_
      simp only [Act.put, List.setIfInBounds_toArray, List.set_cons_zero, List.set_cons_succ]
      refine takeH (i := 13) 63 (v := .bool true) rfl (by kernel_rfl) (by kernel_rfl) (by kernel_rfl) rfl (fun _ _ _ h => h) (.inl ⟨by rfl, fun _ _ => by go_simp⟩) hS ?_
      simp only [Act.put, List.setIfInBounds_toArray, List.set_cons_zero, List.set_cons_succ]
      refine takeH (i := 14) 64 (v := .bool true) rfl (by kernel_rfl) (by kernel_rfl) (by kernel_rfl) rfl (fun _ _ _ h => h) (.inl ⟨by rfl, fun _ _ => by go_simp⟩) hS ?_
      simp only [Act.put, List.setIfInBounds_toArray, List.set_cons_zero, List.set_cons_succ]
      refine takeH (i := 15) 65 (v := v) rfl (by kernel_rfl) (by kernel_rfl) (by kernel_rfl) rfl (fun _ _ _ h => h) (.inl ⟨by rfl, fun _ _ => by go_simp⟩) hS ?_
      simp only [Act.put, List.setIfInBounds_toArray, List.set_cons_zero, List.set_cons_succ]
      refine oneH (i := 16) (oi := ⟨some 66, _, _, _, _, _⟩) rfl (by kernel_rfl) (fun K hK => ?_)
      rw [if_pos (by rfl)]
      go_simp
      refine (Num_any 2 v _ hS.err (HGK.out _ hS.below)).mono ?_
      rintro e wn ⟨rfl, hb⟩
      have hS2 := hS.carry hb
      clear hb hS
      refine hK.out _ _ hS2 ?_
      clear hK K
      have hS := hS2
      clear hS2
      refine takeH (i := 17) 67 (v := .bool true) rfl (by kernel_rfl) (by kernel_rfl) (by kernel_rfl) rfl (fun _ _ _ h => h) (.inl ⟨by rfl, fun _ _ => by go_simp⟩) hS ?_
      simp only [Act.put, List.setIfInBounds_toArray, List.set_cons_zero, List.set_cons_succ]
      refine takeH (i := 18) 68 (v := .bool true) rfl (by kernel_rfl) (by kernel_rfl) (by kernel_rfl) rfl (fun _ _ _ h => h) (.inl ⟨by rfl, fun _ _ => by go_simp⟩) hS ?_
      simp only [Act.put, List.setIfInBounds_toArray, List.set_cons_zero, List.set_cons_succ]
      refine takeH (i := 19) 69 (v := .bool true) rfl (by kernel_rfl) (by kernel_rfl) (by kernel_rfl) rfl (fun _ _ _ h => h) (.inl ⟨by rfl, fun _ _ => by go_simp⟩) hS ?_
      simp only [Act.put, List.setIfInBounds_toArray, List.set_cons_zero, List.set_cons_succ]
      refine takeH (i := 20) 70 (v := ndV M x) rfl (by kernel_rfl) (by kernel_rfl) (by kernel_rfl) rfl (fun _ _ _ h => h) (yieldsIf_nd Tryd.ndProg (by rfl) _ rfl q rfl M x (fun _ h => h.b)) hS ?_
      simp only [Act.put, List.setIfInBounds_toArray, List.set_cons_zero, List.set_cons_succ]
      refine takeH (i := 22) 72 (v := .pointer (some ⟨p, 2, none⟩)) rfl (by kernel_rfl) (by kernel_rfl) (by kernel_rfl) rfl (fun _ _ _ h => h) (.inl ⟨by rfl, fun _ _ => by go_simp⟩) hS ?_
      simp only [Act.put, List.setIfInBounds_toArray, List.set_cons_zero, List.set_cons_succ]
      refine takeH (i := 23) 73 (v := Value.slice L.C x.kids.length L.cc) rfl (by kernel_rfl) (by kernel_rfl) (by kernel_rfl) rfl (fun _ _ _ h => h) (.inl ⟨by rfl, fun _ h => by have c2 := h.a.c2; go_simp⟩) hS ?_
      simp only [Act.put, List.setIfInBounds_toArray, List.set_cons_zero, List.set_cons_succ]
      refine takeH (i := 24) 74 (v := .int .i64 (x.kids.length : Int)) rfl (by kernel_rfl) (by kernel_rfl) (by kernel_rfl) rfl (fun _ _ _ h => h) (.inl ⟨by rfl, fun _ _ => by go_simp⟩) hS ?_
      simp only [Act.put, List.setIfInBounds_toArray, List.set_cons_zero, List.set_cons_succ]
      refine takeH (i := 25) 75 (v := .bool kz) rfl (by kernel_rfl) (by kernel_rfl) (by kernel_rfl) rfl (fun _ _ _ h => h) (.inl ⟨by rfl, fun _ _ => by go_simp⟩) hS ?_
      simp only [Act.put, List.setIfInBounds_toArray, List.set_cons_zero, List.set_cons_succ]
      refine oneH (i := 21) (oi := ⟨some 71, _, _, _, _, _⟩) rfl (by kernel_rfl) (fun K hK => ?_)
      rw [if_pos (by rfl)]
      go_simp
      refine (H.leaf hS.node).mono ?_
      rw [← HKZ.out]
      rintro e wn ⟨rfl, hb⟩
      have hS2 := hS.carry hb
      clear hb hS
      refine hK.out _ _ hS2 ?_
      clear hK K
      have hS := hS2
      clear hS2
      refine takeH (i := 26) 76 (v := .bool true) rfl (by kernel_rfl) (by kernel_rfl) (by kernel_rfl) rfl (fun _ _ _ h => h) (.inl ⟨by rfl, fun _ _ => by go_simp⟩) hS ?_
      simp only [Act.put, List.setIfInBounds_toArray, List.set_cons_zero, List.set_cons_succ]
      refine takeH (i := 27) 77 (v := .bool true) rfl (by kernel_rfl) (by kernel_rfl) (by kernel_rfl) rfl (fun _ _ _ h => h) (.inl ⟨by rfl, fun _ _ => by go_simp⟩) hS ?_
      simp only [Act.put, List.setIfInBounds_toArray, List.set_cons_zero, List.set_cons_succ]
      refine takeH (i := 28) 2 (v := .bool true) rfl (by kernel_rfl) (by kernel_rfl) (by kernel_rfl) rfl (fun _ _ _ h => h) (.inl ⟨by rfl, fun _ _ => by go_simp⟩) hS ?_
      simp only [Act.put, List.setIfInBounds_toArray, List.set_cons_zero, List.set_cons_succ]
      refine wpAnyH_done (by kernel_rfl) ?_ _
      go_wp2_with fail
      go_ret
      exact ⟨rfl, hS.below⟩
  · rw [if_neg hf]
    clear hf
    go_wp2_with fail
    refine (awake_any H w3 (HGK.out _ HS3.out.below)).mono ?_
    rintro e w4 ⟨rfl, hb⟩
    have HB4 := Lib.hid (HS3.out.below.trans (hb.mono HS3.out.below.size))
    clear hb
    go_wp2_with fail
    go_ret
    exact ⟨rfl, HB4.out⟩
end Go.Proofs.YtakpjphgkpaipaaDoor
