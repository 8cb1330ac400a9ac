/-
  The contract of rec.LayTask. Conditions: none beyond the premises of each theorem.
-/
import Derived.Test.YtjjlghdcpkkdhaaDoorRecLay
namespace Go.Proofs.YtjjlghdcpkkdhaaDoor
open Go.RowKit

/-- what a call of Lay answers -/
def RecLayPost (ok : Bool) (l : List UInt8) (w : World) (e : Ending) (w' : World) : Prop :=
  ∃ v, e = .returned (.tuple #[.string (if ok = true then ⟨l.toArray⟩ else ⟨#[]⟩), v]) ∧ ErrFrom w' w.heap.size (if ok = true then 0 else 8) v ∧ Below w.heap.size w w'
theorem carry2 {R : World → Prop} {w wr w' : World} (h : R wr ∧ Below w.heap.size w wr) (hb : Below wr.heap.size wr w') (hR : R wr → Below wr.heap.size wr w' → R w') : R w' ∧ Below w.heap.size w w' := ⟨hR h.1 hb, h.2.trans (hb.mono h.2.size)⟩
theorem recLay_of {ws ns : List Nat} (hw : Widths ws) (hl : ns.length = ws.length) (hf : FitAll ws ns) : ∀ w B5 B6, Nums w .i64 (some ⟨B5, 0, none⟩) (ints ws) → Nums w .i64 (some ⟨B6, 0, none⟩) (ints ns) → Calls Tryd.prog 25 #[.slice (some ⟨B5, 0, none⟩) ws.length ws.length, .slice (some ⟨B6, 0, none⟩) ns.length ns.length] w (FieldsPost (lays (ws.zip ns)) w) :=
  fun w _ _ h1 h2 => recLay_yes ws ns _ _ _ _ w hw h1 h2 hl hf
section
variable {P : Program} {ops : Array Oper} {md : Region.Mode} {Q : Exit → Act → World → Prop} {S : World → Prop}
theorem twoH {i j : Nat} {oi oj : Oper} {fuel : Nat} {listed : Array Bool} {a : Act} {w : World} (hi : ops[i]? = some oi) (hj : ops[j]? = some oj) (hr : Region.ready md ops listed = [i, j])
    (h : ∀ K : Act → World → Prop, Hid (∀ a w, S w → wpAnyH P md ops Q S fuel (listed.setIfInBounds i true) a w → K a w) → if Region.wanted oi (yielded ops a.tmps) = true then Oper.wp P oi a w K Q else K (a.put oi.dst undef) w)
    (h' : ∀ K : Act → World → Prop, Hid (∀ a w, S w → wpAnyH P md ops Q S fuel (listed.setIfInBounds j true) a w → K a w) → if Region.wanted oj (yielded ops a.tmps) = true then Oper.wp P oj a w K Q else K (a.put oj.dst undef) w) : wpAnyH P md ops Q S (fuel + 1) listed a w :=
  wpAnyH_ready hr (by simp) (AllReadyH.cons hi (fun K hK => h K (fun a w h1 h2 => hK.out a w h1 fun _ => h2)) (AllReadyH.cons hj (fun K hK => h' K (fun a w h1 h2 => hK.out a w h1 fun _ => h2)) AllReadyH.nil))
end
def tasV (x : Tas) : Value := .agg #[.int .i64 x.frm, .int .i64 x.to, .int .i64 x.state]
structure TasAt (w : World) (b : Nat) (x : Tas) : Prop where
  c0 : w.cell? ⟨b, 0, none⟩ = some (.int .i64 x.frm)
  c1 : w.cell? ⟨b, 1, none⟩ = some (.int .i64 x.to)
  c2 : w.cell? ⟨b, 2, none⟩ = some (.int .i64 x.state)
theorem TasAt.carry {w w' : World} {b : Nat} {x : Tas} (h : TasAt w b x) (hb : Below w.heap.size w w') : TasAt w' b x :=
  have hl : b < w.heap.size := below_block h.c0
  ⟨(hb.cell (p := ⟨b, 0, none⟩) hl).trans h.c0, (hb.cell (p := ⟨b, 1, none⟩) hl).trans h.c1, (hb.cell (p := ⟨b, 2, none⟩) hl).trans h.c2⟩
theorem TasAt.drewN {w : World} {b : Nat} {x : Tas} (h : TasAt w b x) (n : Nat) : TasAt (w.drewN n) b x := ⟨h.c0, h.c1, h.c2⟩
theorem TasAt.new {w : World} {x : Tas} (ty : TypeId) : TasAt (w.alloc (.cells #[.int .i64 x.frm, .int .i64 x.to, .int .i64 x.state] ty)) w.heap.size x := ⟨by simp, by simp, by simp⟩
def prtsT (x : Tas) : List Prt := [⟨x.frm, 0, 63⟩, ⟨x.to, 0, 63⟩, ⟨x.state, 0, 3⟩]
theorem prtsT_ok (x : Tas) : (prtsT x).all Prt.ok = rightT x := by
  simp only [prtsT, List.all_cons, List.all_nil, Prt.ok, rightT, Bool.and_true]
  rw [Bool.eq_iff_iff]
  simp only [Bool.and_eq_true, decide_eq_true_eq]
  omega
theorem ints_numsT {x : Tas} (h : rightT x = true) : ints (numsT x) = [x.frm, x.to, x.state, 0, 0, 0] := by
  have h := of_decide_eq_true h
  simp only [numsT, ints, List.map_cons, List.map_nil, List.cons.injEq, and_true]
  omega
set_option maxRecDepth 100000 in
theorem LayTask_any (x : Tas) (w : World) : Calls Tryd.prog 15 #[tasV x] w (RecLayPost (rightT x) (layT x) w) := by
  obtain ⟨b, HB⟩ : ∃ b, Hid (b = w.heap.size) := ⟨_, Lib.hid rfl⟩
  unfold tasV
  go_enter Tryd.func15, Tryd.ntmps15
  go_upto_region 1 with (fail)
  obtain ⟨w1, HW⟩ : ∃ w1, Hid (w1 = w.alloc (.cells #[.int .i64 x.frm, .int .i64 x.to, .int .i64 x.state] 42)) := ⟨_, Lib.hid rfl⟩
  rw [← HW.out, ← HB.out]
  have HO : Hid (TasAt w1 b x) := Lib.hid (by rw [HW.out, HB.out]; exact TasAt.new _)
  have HBL : Hid (Below w.heap.size w w1) := Lib.hid (by rw [HW.out]; exact (Below.refl _ _).alloc (Nat.le_refl _) _)
  clear HW
  obtain ⟨c0, c1, c2⟩ := HO.out
  go_wp2_with (with_reducible refine stop_at (o := ⟨some 13, _, _, _, _, _⟩) ?_)
  refine wpList_prts rfl 3 _ rfl (prtsT x) rfl (by decide) (by decide) rfl ?_
  intro w2 B2 HE2 HP2 HB2 HL2
  have HO2 := Lib.hid (HO.out.carry HB2.out)
  have HBL2 := Lib.hid (HBL.out.trans (HB2.out.mono HBL.out.size))
  clear HO HBL HB2 c0 c1 c2
  go_wp2_with fail
  refine (mayBe_any (prtsT x) B2 3 w2 HP2.out HL2.out (by decide : (3 : Nat) ≤ 100)).mono ?_
  rw [prtsT_ok]
  rintro e w3 ⟨rfl, hb⟩
  have HO3 := Lib.hid (HO2.out.carry (hb))
  have HBL3 := Lib.hid (HBL2.out.trans (hb.mono HBL2.out.size))
  clear hb HO2 HBL2 HP2 HL2 HE2
  cases hr : rightT x with
  | false =>
    have HNo : Hid (∀ v w', ErrFrom w' w.heap.size 8 v → Below w.heap.size w w' → RecLayPost (rightT x) (layT x) w (.returned (.tuple #[.string ⟨#[]⟩, v])) w') := Lib.hid fun v w' h1 h2 => by rw [hr]; exact ⟨v, rfl, h1, h2⟩
    clear hr
    go_wp2_with fail
    refine (RecFault_any 8 (by decide) _).mono ?_
    rintro e w4 ⟨v, rfl, he, hb⟩
    have HE := Lib.hid (he.mono HBL3.out.size)
    have HB4 := Lib.hid (HBL3.out.trans (hb.mono HBL3.out.size))
    clear he hb
    go_wp2_with fail
    go_ret2
    exact HNo.out v _ HE.out HB4.out
  | true =>
    have HNI := Lib.hid (ints_numsT hr)
    have HR := Lib.hid hr
    have HY := Lib.hid (recLay_of (ws := wsT) (ns := numsT x) widthsT (lenT x) (fitT hr))
    obtain ⟨s, HS⟩ : ∃ s : ByteArray, Hid (s = ⟨(layT x).toArray⟩) := ⟨_, Lib.hid rfl⟩
    have HPost : Hid (∀ w', Below w.heap.size w w' → RecLayPost (rightT x) (layT x) w (.returned (.tuple #[.string s, .nilIface])) w') := Lib.hid fun w' h => by rw [hr]; exact ⟨_, by rw [HS.out]; rfl, .nil _ _, h⟩
    clear hr
    go_wp2_with fail
    refine wp_region_held (S := fun wr => TasAt wr b x ∧ Below w.heap.size w wr) (by kernel_rfl) ?_
    change wpAnyH _ _ _ _ _ _ _ _ w3.drew
    obtain ⟨wa, HWA⟩ : ∃ wa, Hid (wa = w3.drew) := ⟨_, Lib.hid rfl⟩
    rw [← HWA.out]
    have hS : TasAt wa b x ∧ Below w.heap.size w wa := by rw [HWA.out]; exact ⟨HO3.out.drewN 1, HBL3.out.drew⟩
    clear HWA HO3 HBL3
    refine takeH (i := 1) 18 (v := .pointer (some ⟨b, 0, none⟩)) rfl (by kernel_rfl) (by kernel_rfl) (by kernel_rfl) rfl (fun _ _ _ h => h) (.inl ⟨by rfl, fun _ _ => by go_simp⟩) hS ?_
    simp only [Act.put, List.setIfInBounds_toArray, List.set_cons_zero, List.set_cons_succ]
    refine takeH (i := 2) 19 (v := .int .i64 x.frm) rfl (by kernel_rfl) (by kernel_rfl) (by kernel_rfl) rfl (fun _ _ _ h => h) (.inl ⟨by rfl, fun _ h => by have c0 := h.1.c0; go_simp⟩) hS ?_
    simp only [Act.put, List.setIfInBounds_toArray, List.set_cons_zero, List.set_cons_succ]
    refine takeH (i := 3) 20 (v := .pointer (some ⟨b, 1, none⟩)) rfl (by kernel_rfl) (by kernel_rfl) (by kernel_rfl) rfl (fun _ _ _ h => h) (.inl ⟨by rfl, fun _ _ => by go_simp⟩) hS ?_
    simp only [Act.put, List.setIfInBounds_toArray, List.set_cons_zero, List.set_cons_succ]
    refine takeH (i := 4) 21 (v := .int .i64 x.to) rfl (by kernel_rfl) (by kernel_rfl) (by kernel_rfl) rfl (fun _ _ _ h => h) (.inl ⟨by rfl, fun _ h => by have c0 := h.1.c1; go_simp⟩) hS ?_
    simp only [Act.put, List.setIfInBounds_toArray, List.set_cons_zero, List.set_cons_succ]
    refine takeH (i := 5) 22 (v := .pointer (some ⟨b, 2, none⟩)) rfl (by kernel_rfl) (by kernel_rfl) (by kernel_rfl) rfl (fun _ _ _ h => h) (.inl ⟨by rfl, fun _ _ => by go_simp⟩) hS ?_
    simp only [Act.put, List.setIfInBounds_toArray, List.set_cons_zero, List.set_cons_succ]
    refine takeH (i := 6) 23 (v := .int .i64 x.state) rfl (by kernel_rfl) (by kernel_rfl) (by kernel_rfl) rfl (fun _ _ _ h => h) (.inl ⟨by rfl, fun _ h => by have c0 := h.1.c2; go_simp⟩) hS ?_
    simp only [Act.put, List.setIfInBounds_toArray, List.set_cons_zero, List.set_cons_succ]
    refine twoH (i := 0) (j := 7) (oi := ⟨some 17, _, _, _, _, _⟩) (oj := ⟨some 24, _, _, _, _, _⟩) rfl rfl (by kernel_rfl) (fun K0 hK => ?_) (fun K0 hK => ?_)
    case' refine_1 =>
      go_simp
      refine (taskWidths_any _).mono ?_
      rintro e wy ⟨B5, rfl, hn, hb⟩
      have HN5 := Lib.hid hn
      have hS2 := carry2 (R := fun wr => TasAt wr b x) hS hb (fun h hb => TasAt.carry h hb)
      have hb5 := Lib.hid hb
      clear hn hb hS
      refine hK.out _ _ hS2 ?_
      clear hK K0
      have hS := hS2
      clear hS2
      try simp only [Act.put, List.setIfInBounds_toArray, List.set_cons_zero, List.set_cons_succ]
      refine oneH (i := 7) (oi := ⟨some 24, _, _, _, _, _⟩) rfl (by kernel_rfl) (fun K0 hK => ?_)
      rw [if_pos (by rfl)]
      refine wp_ints 6 _ rfl [x.frm, x.to, x.state, 0, 0, 0] rfl (by decide) (by decide) rfl ?_
      intro wz B6 HE6 HN6 HB6
      have hS2 := carry2 (R := fun wr => TasAt wr b x) hS HB6.out (fun h hb => TasAt.carry h hb)
      clear HE6 hS
      refine hK.out _ _ hS2 ?_
      clear hK K0
      have hS := hS2
      clear hS2
      try simp only [Act.put, List.setIfInBounds_toArray, List.set_cons_zero, List.set_cons_succ]
      replace HN5 := Lib.hid (HN5.out.carry HB6.out)
      clear HB6 hb5
    case' refine_2 =>
      rw [if_pos (by rfl)]
      refine wp_ints 6 _ rfl [x.frm, x.to, x.state, 0, 0, 0] rfl (by decide) (by decide) rfl ?_
      intro wy B6 HE6 HN6 HB6
      have hS2 := carry2 (R := fun wr => TasAt wr b x) hS HB6.out (fun h hb => TasAt.carry h hb)
      clear HE6 hS
      refine hK.out _ _ hS2 ?_
      clear hK K0
      have hS := hS2
      clear hS2
      try simp only [Act.put, List.setIfInBounds_toArray, List.set_cons_zero, List.set_cons_succ]
      refine oneH (i := 0) (oi := ⟨some 17, _, _, _, _, _⟩) rfl (by kernel_rfl) (fun K0 hK => ?_)
      go_simp
      refine (taskWidths_any _).mono ?_
      rintro e wz ⟨B5, rfl, hn, hb⟩
      have HN5 := Lib.hid hn
      have hS2 := carry2 (R := fun wr => TasAt wr b x) hS hb (fun h hb => TasAt.carry h hb)
      have hb5 := Lib.hid hb
      clear hn hb hS
      refine hK.out _ _ hS2 ?_
      clear hK K0
      have hS := hS2
      clear hS2
      try simp only [Act.put, List.setIfInBounds_toArray, List.set_cons_zero, List.set_cons_succ]
      replace HN6 := Lib.hid (HN6.out.carry hb5.out)
      clear HB6 hb5
    all_goals
      replace HN6 : Hid (Nums wz .i64 (some ⟨B6, 0, none⟩) (ints (numsT x))) := Lib.hid (by rw [HNI.out]; exact HN6.out)
      refine oneH (i := 8) (oi := ⟨some 25, _, _, _, _, _⟩) rfl (by kernel_rfl) (fun K0 hK => ?_)
      go_simp
      refine (HY.out wz B5 B6 HN5.out HN6.out).mono ?_
      rw [show lays ((wsT).zip (numsT x)) = layT x from rfl]
      unfold FieldsPost
      rw [← HS.out]
      rintro e wk ⟨rfl, hb⟩
      have hS2 := carry2 (R := fun wr => TasAt wr b x) hS hb (fun h hb => TasAt.carry h hb)
      clear hb hS HN5 HN6
      refine hK.out _ _ hS2 ?_
      clear hK K0
      have hS := hS2
      clear hS2
      try simp only [Act.put, List.setIfInBounds_toArray, List.set_cons_zero, List.set_cons_succ]
      refine takeH (i := 9) 26 (v := .string s) rfl (by kernel_rfl) (by kernel_rfl) (by kernel_rfl) rfl (fun _ _ _ h => h) (.inl ⟨by rfl, fun _ _ => by go_simp⟩) hS ?_
      simp only [Act.put, List.setIfInBounds_toArray, List.set_cons_zero, List.set_cons_succ]
      refine takeH (i := 10) 27 (v := .nilIface) rfl (by kernel_rfl) (by kernel_rfl) (by kernel_rfl) rfl (fun _ _ _ h => h) (.inl ⟨by rfl, fun _ _ => by go_simp⟩) hS ?_
      simp only [Act.put, List.setIfInBounds_toArray, List.set_cons_zero, List.set_cons_succ]
      refine takeH (i := 11) 2 (v := .string s) rfl (by kernel_rfl) (by kernel_rfl) (by kernel_rfl) rfl (fun _ _ _ h => h) (.inl ⟨by rfl, fun _ _ => by go_simp⟩) hS ?_
      simp only [Act.put, List.setIfInBounds_toArray, List.set_cons_zero, List.set_cons_succ]
      refine takeH (i := 12) 3 (v := .nilIface) rfl (by kernel_rfl) (by kernel_rfl) (by kernel_rfl) rfl (fun _ _ _ h => h) (.inl ⟨by rfl, fun _ _ => by go_simp⟩) hS ?_
      simp only [Act.put, List.setIfInBounds_toArray, List.set_cons_zero, List.set_cons_succ]
      refine wpAnyH_done (by kernel_rfl) ?_ _
      go_wp2_with fail
      go_ret2
      exact HPost.out _ hS.2
end Go.Proofs.YtjjlghdcpkkdhaaDoor
