/-
 TrWithout. Conditions: as each theorem says.
-/
import Derived.Test.YticbgbngookmnaaGreatDoorSm
import Derived.Test.YticbgbngookmnaaGreatDoorTrDelRow
import Derived.Test.YticbgbngookmnaaGreatDoorTa
import Derived.Test.YticbgbngookmnaaGreatDoorTrDelModel
namespace Go.Proofs.YticbgbngookmnaaGreatDoor
open Go.RowKit
def WoPost (w : World) (b : Nat) (l : Lay3) (R : Except Int Nd) (e : Ending) (w' : World) : Prop :=
 Turn l.has w w' ∧ match R with
 | .error c => c ≠ 0 ∧ ∃ v, e = .returned (.tuple #[ndV Lay3.none_ Nd.empty, v]) ∧ ErrFrom w' w.heap.size c v
 | .ok y => ∃ l', e = .returned (.tuple #[ndV l' y, .nilIface]) ∧ NdMine w' b l' y ∧ ∀ g, l'.has g → l.has g
structure WoS (w : World) (p q : Nat) (l : Lay3) (x : Nd) (wr : World) : Prop where
 bx : NdBox wr p l x
 bq : NdBox wr q Lay3.none_ Nd.empty
 fq : ∀ j, wr.frozen? ⟨q, j, none⟩ = false
 turn : Turn l.has w wr
 lw : ∀ g, l.has g → g < w.heap.size
 wp : w.heap.size ≤ p
 wq : w.heap.size ≤ q
theorem WoS.step {w wr w' : World} {p q : Nat} {l : Lay3} {x : Nd} {M : Nat → Prop} (h : WoS w p q l x wr) (ht : Turn M wr w') (hM : ∀ g, M g → l.has g) : WoS w p q l x w' := by
 have hn : ∀ g, w.heap.size ≤ g → ¬ M g := fun g hg hm => by have := h.lw g (hM g hm); omega
 have hbq := ht.block q ⟨h.bq.lt, hn q h.wq⟩
 exact ⟨h.bx.turn ht (hn p h.wp), h.bq.turn ht (hn q h.wq), fun j => (World.frozen?_of_block (w := wr) (a := ⟨q, j, none⟩) hbq).trans (h.fq j), h.turn.trans (ht.more fun k _ hk => .inl (hM k hk)), h.lw, h.wp, h.wq⟩
set_option maxRecDepth 100000 in
set_option maxHeartbeats 4000000 in
theorem without_any {w : World} {b : Nat} {l : Lay3} {x : Nd} (h : NdMine w b l x) (hb : b ≤ w.heap.size) (hr : rightN x = true) (hlf : x.kids.length = 0) (key : Int) :
  Calls Tryz.prog 83 #[ndV l x, .int .i64 key] w (WoPost w b l (withoutN x key)) := by
 have h7 := (right_parts hr).2.1
 have hvl := ((right_shape hr).leaf hlf)
 obtain ⟨p, HPP⟩ : ∃ p, Hid (p = w.heap.size) := Hy
 obtain ⟨q, HQQ⟩ : ∃ q, Hid (q = p + 1) := Hy
 have HPQ : Hid (p ≠ q) := Hi (by rw [HQQ.out]; omega)
 obtain ⟨w1, HW1⟩ : ∃ w1, Hid (w1 = (w.alloc (.cells #[.slice l.A x.keys.length l.ca, .slice l.B x.vals.length l.cb, .slice l.C x.kids.length l.cc] 61)).alloc (.cells #[.slice none 0 0, .slice none 0 0, .slice none 0 0] 61)) := Hy
 have HB1 : Hid (Below w.heap.size w w1) := Hi (by rw [HW1.out]; exact ((Below.refl _ _).alloc (Nat.le_refl _) _).alloc (by simp) _)
 have HS1 : Hid (WoS w p q l x w1) := Hi (by
  have ht : Turn l.has w w1 := Turn.of_below HB1.out
  rw [HW1.out] at ht ⊢
  obtain ⟨wa, hwa⟩ : ∃ wa, wa = w.alloc (.cells #[.slice l.A x.keys.length l.ca, .slice l.B x.vals.length l.cb, .slice l.C x.kids.length l.cc] 61) := ⟨_, rfl⟩
  have hsa : wa.heap.size = w.heap.size + 1 := by rw [hwa]; simp
  have e1 := NdBox.new (w := w) (l := l) (x := x) 61
  rw [← hwa] at e1 ht ⊢
  have hab : Below wa.heap.size wa (wa.alloc (.cells #[.slice none 0 0, .slice none 0 0, .slice none 0 0] 61)) := (Below.refl _ _).alloc (Nat.le_refl _) _
  have e3 := NdBox.new (w := wa) (l := Lay3.none_) (x := Nd.empty) 61
  have f3 := frozen_new1 wa #[.slice none 0 0, .slice none 0 0, .slice none 0 0] 61
  rw [hsa] at e3 f3
  rw [HQQ.out, HPP.out]
  exact ⟨e1.carry hab e1.lt, e3, f3, ht, fun g hg => (h.lt g hg).2, Nat.le_refl _, by omega⟩)
 have HM1 : Hid (NdMine w1 b l x) := Hi (h.carry HB1.out)
 have HBW : Hid (b ≤ w.heap.size) := Hi hb
 have HSZ : Hid (x.keys.length ≤ 7 ∧ x.vals.length = x.keys.length ∧ x.kids.length = 0) := Hi ⟨h7, hvl, hlf⟩
 obtain ⟨a, HAA⟩ : ∃ a, Hid (a = (seekN x key).1) := Hy
 obtain ⟨fd, HFD⟩ : ∃ fd, Hid (fd = (seekN x key).2) := Hy
 have HSE : Hid (seekN x key = (less x.keys key, decide (x.keys[less x.keys key]? = some key))) := Hi (by unfold seekN; rw [if_pos hr])
 have HSK := Hi (Seek_any HM1.out.is key)
 rw [← HAA.out, ← HFD.out] at HSK
 obtain ⟨R, HRR⟩ : ∃ R, Hid (R = withoutN x key) := Hy
 have HX' : Hid (R = if fd = true then .ok ⟨x.keys.take a ++ x.keys.drop (a + 1), x.vals.take a ++ x.vals.drop (a + 1), []⟩ else .error 4) := Hi (by rw [HRR.out, HFD.out, HAA.out]; rfl)
 rw [← HRR.out]
 clear h hb hr hlf h7 hvl HRR
 go_enter Tryz.func83, Tryz.ntmps83
 go_upto_region 1 with (fail)
 rw [← HW1.out, ← HPP.out, ← HQQ.out]
 clear HW1 HPP HQQ
 go_wp2_with (with_reducible refine stop_at (o := ⟨some 9, _, _, _, _, _⟩) ?_)
 refine wpList_load_nd Tryz.ndProg (by rfl) _ rfl p rfl l x HS1.out.bx ?_
 go_wp2_with fail
 refine HSK.out.mono ?_
 rintro e w2 ⟨rfl, hb⟩
 have HM2 := Hi (HM1.out.carry hb)
 have HS2 : Hid (WoS w p q l x w2) := Hi (HS1.out.step (M := fun _ => False) (Turn.of_below hb) (fun _ h => h.elim))
 clear hb HSK HS1 HM1
 cases fd with
 | false =>
  have HR : Hid (R = .error 4) := Hi (by rw [HX'.out]; rfl)
  go_wp2_with fail
  refine (trFault_any 4 (by decide) _).mono ?_
  rintro e w3 ⟨v, rfl, he, hb⟩
  obtain ⟨tt, xx, rfl⟩ := he.some (by decide)
  have HE := Hi he
  have HS3 : Hid (WoS w p q l x w3) := Hi (HS2.out.step (M := fun _ => False) (Turn.of_below hb) (fun _ h => h.elim))
  have HLT : Hid (q < w2.heap.size) := Hi HS2.out.bq.lt
  have HWS : Hid (w.heap.size ≤ w2.heap.size) := Hi HS2.out.turn.size
  clear he hb HS2 HM2
  have f0 := HS3.out.fq 0
  have f1 := HS3.out.fq 1
  have f2 := HS3.out.fq 2
  have HBQ := Hi HS3.out.bq
  have d0 := HBQ.out.c0
  have d1 := HBQ.out.c1
  have d2 := HBQ.out.c2
  obtain ⟨w4, HWw4⟩ : ∃ w4, Hid (w4 = ((w3.setCell ⟨q, 0, none⟩ (.slice none 0 0)).setCell ⟨q, 1, none⟩ (.slice none 0 0)).setCell ⟨q, 2, none⟩ (.slice none 0 0)) := Hy
  have HSw4 : Hid (w4 = store3 w3 q Lay3.none_ Nd.empty) := Hi HWw4.out
  have HXw4 : Hid (NdBox w4 q Lay3.none_ Nd.empty) := Hi (by rw [HSw4.out]; exact store3_box HBQ.out)
  go_wp2_with fail
  rw [← HWw4.out]
  refine bodyPost_ret (results_nd2 Tryz.ndProg rfl _ _ q Lay3.none_ Nd.empty (.iface tt xx) rfl rfl HXw4.out) rfl ?_
  rw [HR.out]
  have hT4 : Turn (fun k => k = q) w3 w4 := ⟨by rw [HSw4.out]; rfl, by rw [HSw4.out]; rfl, by rw [HSw4.out]; rfl, by rw [HSw4.out, store3_size]; exact Nat.le_refl _, fun k hk => by rw [HSw4.out]; exact store3_far hk.2⟩
  refine ⟨HS3.out.turn.trans (hT4.more fun k _ hk => .inr (by rw [hk]; exact HS3.out.wq)), by decide, _, rfl, ?_⟩
  rw [HSw4.out]
  exact (store3_err HE.out HLT.out).mono HWS.out
 | true =>
  have HAV : Hid (a < x.keys.length) := Hi (by
   have h := HFD.out
   rw [HSE.out] at h
   have h2 := of_decide_eq_true h.symm
   have h3 : less x.keys key = a := by rw [HAA.out, HSE.out]
   rw [h3] at h2
   exact (List.getElem?_eq_some_iff.1 h2).1)
  obtain ⟨ks, HKS⟩ : ∃ ks, Hid (ks = x.keys.take a ++ x.keys.drop (a + 1)) := Hy
  obtain ⟨vs, HVS⟩ : ∃ vs, Hid (vs = x.vals.take a ++ x.vals.drop (a + 1)) := Hy
  have HR : Hid (R = .ok ⟨ks, vs, []⟩) := Hi (by rw [HX'.out, HKS.out, HVS.out]; rfl)
  have hw8 : IntKind.i64.wrap ((a : Int) + 1) = (a : Int) + 1 := by
   have := HAV.out
   have := HSZ.out.1
   rw [IntKind.wrap_i64]; omega
  clear HX' HFD HSE HAA
  go_upto_region 4 with (fail)
  refine wp_region_held (S := fun w9 => NdBox w9 p l x) (by kernel_rfl) ?_
  change wpAnyH _ _ _ _ _ _ _ _ w2.drew
  obtain ⟨wa, HWA⟩ : ∃ wa, Hid (wa = w2.drew) := Hy
  rw [← HWA.out]
  have hdr : Below w2.heap.size w2 wa := by rw [HWA.out]; exact (Below.refl _ _).drew
  have hW : WoS w p q l x wa := HS2.out.step (M := fun _ => False) (Turn.of_below hdr) (fun _ h => h.elim)
  have HW := Hi hW
  have hS : NdBox wa p l x := hW.bx
  have HKA := Hi (own_turn HM2.out.k (M := fun _ => False) (Turn.of_below hdr) (fun _ _ h => h.elim))
  have HVA := Hi (own_turn HM2.out.v (M := fun _ => False) (Turn.of_below hdr) (fun _ _ h => h.elim))
  have HNE : Hid (∀ a c, l.A = some a → l.B = some c → a.block ≠ c.block) := Hi HM2.out.akv
  have HIS : Hid (NdIs w2 l x) := Hi HM2.out.is
  clear HWA hdr HS2 HM2 hW
  refine takeK (i := 0) 18 (v := .pointer (some ⟨p, 0, none⟩)) rfl rfl hS ?_
  simp only [Act.put, pU]
  refine takeJ (i := 1) 19 (v := .slice l.A x.keys.length l.ca) rfl rfl (.inl ⟨by rfl, fun _ h => by have c0 := h.c0; go_simp⟩) hS ?_
  simp only [Act.put, pU]
  refine takeK (i := 2) 20 (v := .int .i64 (a : Int)) rfl rfl hS ?_
  simp only [Act.put, pU]
  refine takeK (i := 3) 21 (v := .int .i64 (a : Int)) rfl rfl hS ?_
  simp only [Act.put, pU]
  refine takeK (i := 4) 22 (v := .int .i64 ((a : Int) + 1)) rfl rfl hS ?_
  simp only [Act.put, pU]
  refine takeK (i := 6) 24 (v := .pointer (some ⟨p, 1, none⟩)) rfl rfl hS ?_
  simp only [Act.put, pU]
  refine takeJ (i := 7) 25 (v := .slice l.B x.vals.length l.cb) rfl rfl (.inl ⟨by rfl, fun _ h => by have c1 := h.c1; go_simp⟩) hS ?_
  simp only [Act.put, pU]
  refine takeK (i := 8) 26 (v := .int .i64 (a : Int)) rfl rfl hS ?_
  simp only [Act.put, pU]
  refine takeK (i := 9) 27 (v := .int .i64 (a : Int)) rfl rfl hS ?_
  simp only [Act.put, pU]
  refine takeK (i := 10) 28 (v := .int .i64 ((a : Int) + 1)) rfl rfl hS ?_
  simp only [Act.put, pU]
  refine oneH (i := 5) (oi := ⟨some 23, _, _, _, _, _⟩) rfl (by kernel_rfl) (fun K0 hK => ?_)
  go_simp
  refine (delKey HKA.out HAV.out).mono ?_
  rintro e wb ⟨rfl, hown, ht⟩
  rw [← HKS.out] at hown ⊢
  have HKA := Hi hown
  have HVA := Hi (own_turn HVA.out ht (fun g hg ⟨c, e1, e2⟩ => by cases hB : l.B with | none => (rw [hB] at hg; cases hg) | some d => (rw [hB] at hg; cases hg; exact HNE.out c d e1 hB e2)))
  have hW2 := HW.out.step ht (fun _ ⟨c, e1, e2⟩ => .inl ⟨c, e1, e2⟩)
  have HW := Hi hW2
  have hS2 := hW2.bx
  clear hS ht hown hW2
  refine hK.out _ _ hS2 ?_
  clear hK K0
  have hS := hS2
  clear hS2
  refine oneH (i := 11) (oi := ⟨some 29, _, _, _, _, _⟩) rfl (by kernel_rfl) (fun K0 hK => ?_)
  go_simp
  refine (delVal HVA.out (by rw [HSZ.out.2.1]; exact HAV.out)).mono ?_
  rintro e wc ⟨rfl, hown, ht⟩
  rw [← HVS.out] at hown ⊢
  have HVA := Hi hown
  have HKA := Hi (own_turn HKA.out ht (fun g hg ⟨d, e1, e2⟩ => by cases hA : l.A with | none => (rw [hA] at hg; cases hg) | some c => (rw [hA] at hg; cases hg; exact HNE.out c d hA e1 e2.symm)))
  have hW2 := HW.out.step ht (fun _ ⟨c, e1, e2⟩ => .inr (.inl ⟨c, e1, e2⟩))
  have HW := Hi hW2
  have hS2 := hW2.bx
  clear hS ht hown hW2
  refine hK.out _ _ hS2 ?_
  clear hK K0
  have hS := hS2
  clear hS2
  refine takeK (i := 12) 30 (v := .agg #[.slice l.A ks.length l.ca, .slice l.B vs.length l.cb, .slice none 0 0]) rfl rfl hS ?_
  simp only [Act.put, pU]
  refine oneH (i := 13) (oi := ⟨none, _, _, _, _, _⟩) rfl (by kernel_rfl) (fun K0 hK => ?_)
  have HBQ := Hi HW.out.bq
  have f0 := HW.out.fq 0
  have f1 := HW.out.fq 1
  have f2 := HW.out.fq 2
  obtain ⟨x2, HX2⟩ : ∃ x2 : Nd, Hid (x2 = ⟨ks, vs, []⟩) := Hy
  have d0 := HBQ.out.c0
  have d1 := HBQ.out.c1
  have d2 := HBQ.out.c2
  obtain ⟨w4, HWw4⟩ : ∃ w4, Hid (w4 = ((wc.setCell ⟨q, 0, none⟩ (.slice l.A ks.length l.ca)).setCell ⟨q, 1, none⟩ (.slice l.B vs.length l.cb)).setCell ⟨q, 2, none⟩ (.slice none 0 0)) := Hy
  have HSw4 : Hid (w4 = store3 wc q ⟨l.A, l.B, none, l.ca, l.cb, 0⟩ x2) := Hi (by rw [HX2.out]; exact HWw4.out)
  have HXw4 : Hid (NdBox w4 q ⟨l.A, l.B, none, l.ca, l.cb, 0⟩ x2) := Hi (by rw [HSw4.out]; exact store3_box HBQ.out)
  go_simp
  rw [← HWw4.out]
  have hT4 : Turn (fun k => k = q) wc w4 := ⟨by rw [HSw4.out]; rfl, by rw [HSw4.out]; rfl, by rw [HSw4.out]; rfl, by rw [HSw4.out, store3_size]; exact Nat.le_refl _, fun k hk => by rw [HSw4.out]; exact store3_far hk.2⟩
  have hpq : p ≠ q := HPQ.out
  have hS4 : NdBox w4 p l x := hS.keep (by rw [HSw4.out]; exact store3_far hpq)
  have HT4 := Hi hT4
  clear hS hT4 d0 d1 d2 f0 f1 f2
  refine hK.out _ _ hS4 ?_
  clear hK K0
  refine takeK (i := 14) 5 (v := .nilIface) rfl rfl hS4 ?_
  simp only [Act.put, pU]
  refine wpAnyH_done (by kernel_rfl) ?_ _
  go_wp2_with fail
  refine bodyPost_ret (results_nd2 Tryz.ndProg rfl _ _ q ⟨l.A, l.B, none, l.ca, l.cb, 0⟩ x2 (.nilIface) rfl rfl HXw4.out) rfl ?_
  have hqA : ∀ c, l.A = some c → c.block ≠ q := fun c e h => by have := HW.out.lw c.block (.inl ⟨c, e, rfl⟩); have := HW.out.wq; omega
  have hqB : ∀ c, l.B = some c → c.block ≠ q := fun c e h => by have := HW.out.lw c.block (.inr (.inl ⟨c, e, rfl⟩)); have := HW.out.wq; omega
  rw [HR.out, ← HX2.out]
  refine ⟨HW.out.turn.trans (HT4.out.more fun k _ hk => .inr (by rw [hk]; exact HW.out.wq)), _, rfl, ?_, ?_⟩
  ·rw [HX2.out]
   refine NdMine.of_own (own_turn HKA.out HT4.out ?_) (own_turn HVA.out HT4.out ?_) (World.ownsRow_nil _ _ _ _) HNE.out (fun _ _ _ h => (by cases h)) (fun _ _ _ h => (by cases h)) ?_ ?_ (Nat.zero_le _) ?_ ?_ (fun z hz => (by cases hz))
   ·intro g hg e
    cases hA : l.A with
    | none => rw [hA] at hg; cases hg
    | some c => rw [hA] at hg; cases hg; exact hqA c hA e
   ·intro g hg e
    cases hA : l.B with
    | none => rw [hA] at hg; cases hg
    | some c => rw [hA] at hg; cases hg; exact hqB c hA e
   ·show ks.length ≤ 100
    rw [HKS.out, del_len HAV.out]; have := HSZ.out; omega
   ·show vs.length ≤ 100
    rw [HVS.out, del_len (by rw [HSZ.out.2.1]; exact HAV.out)]; have := HSZ.out; omega
   ·intro z hz
    have hz2 : z ∈ x.keys.take a ++ x.keys.drop (a + 1) := by rw [← HKS.out]; exact hz
    exact HIS.out.kw z ((List.mem_append.1 hz2).elim List.mem_of_mem_take List.mem_of_mem_drop)
   ·intro z hz
    have hz2 : z ∈ x.vals.take a ++ x.vals.drop (a + 1) := by rw [← HVS.out]; exact hz
    exact HIS.out.vw z ((List.mem_append.1 hz2).elim List.mem_of_mem_take List.mem_of_mem_drop)
  ·rintro g (⟨c, e, rfl⟩ | ⟨c, e, rfl⟩ | ⟨c, e, rfl⟩)
   ·exact .inl ⟨c, e, rfl⟩
   ·exact .inr (.inl ⟨c, e, rfl⟩)
   ·cases e
end Go.Proofs.YticbgbngookmnaaGreatDoor
