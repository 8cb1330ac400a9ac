/-
  The walk of the statement RecTasks: it answers true, and no memory that was there has turned. Conditions: errors.errorType is laid.
-/
import Derived.Test.YtjjlghdcpkkdhaaDoorRecOf
import Derived.BigQuiet
namespace Go.Proofs.YtjjlghdcpkkdhaaDoor
open Go.RowKit

theorem AlsAt.range {w : World} {b : Nat} {x : Als} (h : AlsAt w b x) : w.rangeAt b 0 (alsCells x) := fun j v hv => by
  rw [Nat.zero_add]
  cases j with
  | zero => rw [← Option.some.inj hv]; exact h.c0
  | succ j =>
    have := h.off j v (by simpa [alsCells] using hv)
    rwa [Nat.add_comm] at this
theorem Tryd.refAlsTy : RowTy Tryd.prog 40 9 := ⟨⟨_, Tryd.underlying40, rfl⟩, by kernel_rfl⟩
theorem Tryd.refTasTy : RowTy Tryd.prog 37 3 := ⟨⟨_, Tryd.underlying37, rfl⟩, by kernel_rfl⟩
theorem Tryd.offTy : RowTy Tryd.prog 38 8 := ⟨⟨_, Tryd.underlying38, rfl⟩, by kernel_rfl⟩
theorem Tryd.alsParts (x y : Value) : Tryd.prog.built 44 [(0, x), (1, y)] = Instr.fill ((#[(0, 1), (1, 8)] : Array (Nat × Nat))[·]?) (alsCells Als.zero).toArray [(0, x), (1, y)] := by kernel_rfl
theorem built_als {x : Als} (h : x.Ok) : Tryd.prog.built 44 [(0, .int .i64 x.tick), (1, .agg (offArr x.off))] = some (alsCells x).toArray := by
  rw [Tryd.alsParts]
  have hl : (offCells x.off).length = 8 := by simp [offCells, h.len]
  rw [fill_step9 _ _ 0 _ _ 0 1 rfl rfl (by simp [alsCells, offCells, Als.zero]), fill_step9 _ _ 1 _ _ 1 8 rfl (by show (offArr x.off).size = 8; rw [offArr_size, h.len]) (by simp [Value.cells, alsCells, offCells, Als.zero]), Instr.fill]
  congr 1
  simp [Value.cells, offArr, alsCells, offCells, Als.zero]
/-- a struct literal, guarded or not -/
theorem wpList_build_c {P : Program} {T : TypeId} {ops : Array Oper} {rest : List Oper} {op : Oper} {a : Act} {w : World} {Q : Exit → Act → World → Prop} (hw : Region.wanted op (yielded ops a.tmps) = true) (parts : Array (Nat × Operand)) (ho : op.op = .build T parts)
    (cells : Array Value) (hf : P.built T (parts.toList.map fun x => (x.1, a.eval x.2)) = some cells) (h : wpList P ops Q rest (a.put op.dst (.agg cells)) w) : wpList P ops Q (op :: rest) a w :=
  wpList_step fun _ hK => by
    have e : P.built T (parts.map fun (i, x) => (i, a.eval x)).toList = some cells := by
      rw [Array.toList_map]
      exact hf
    rw [if_pos hw]
    exact wp_build T _ ho (by rw [e]; rfl) (hK _ _ (by rw [e]; exact h))
/-- what is known of a task behind Lay and Read of it -/
def TasKnown (x : Tas) (u : ByteArray) (k : Int) (y : Tas) (m : Int) : Prop := (rightT x = true ∧ u = ⟨(layT x).toArray⟩ ∧ k = 0 ∧ y = x ∧ m = 0) ∨ (rightT x = false ∧ u = ⟨#[]⟩ ∧ k = 8 ∧ y = Tas.zero ∧ m = 2)
def AlsKnown (x : Als) (u : ByteArray) (k : Int) (y : Als) (m : Int) : Prop := (rightA x = true ∧ u = ⟨(layA x).toArray⟩ ∧ k = 0 ∧ y = x ∧ m = 0) ∨ (rightA x = false ∧ u = ⟨#[]⟩ ∧ k = 8 ∧ y = Als.zero ∧ m = 2)
theorem tas_known (x : Tas) : ∃ u k y m, TasKnown x u k y m ∧ y = (readT u.data.toList).getD Tas.zero ∧ m = (if (readT u.data.toList).isSome then (0 : Int) else 2) ∧ u = (if rightT x = true then ⟨(layT x).toArray⟩ else ⟨#[]⟩) ∧ k = (if rightT x = true then 0 else 8) := by
  cases h : rightT x with
  | true => exact ⟨_, _, x, 0, .inl ⟨h, rfl, rfl, rfl, rfl⟩, by rw [read_layT h]; rfl, by rw [read_layT h]; rfl, rfl, rfl⟩
  | false =>
    have e : readT [] = none := readT_len (by decide)
    exact ⟨_, _, Tas.zero, 2, .inr ⟨h, rfl, rfl, rfl, rfl⟩, by rw [e]; rfl, by rw [e]; rfl, rfl, rfl⟩
theorem als_known {x : Als} (hx : x.Ok) : ∃ u k y m, AlsKnown x u k y m ∧ y = (readA u.data.toList).getD Als.zero ∧ m = (if (readA u.data.toList).isSome then (0 : Int) else 2) ∧ u = (if rightA x = true then ⟨(layA x).toArray⟩ else ⟨#[]⟩) ∧ k = (if rightA x = true then 0 else 8) := by
  cases h : rightA x with
  | true => exact ⟨_, _, x, 0, .inl ⟨h, rfl, rfl, rfl, rfl⟩, by rw [read_layA hx h]; rfl, by rw [read_layA hx h]; rfl, rfl, rfl⟩
  | false =>
    have e : readA [] = none := readA_len (by decide)
    exact ⟨_, _, Als.zero, 2, .inr ⟨h, rfl, rfl, rfl, rfl⟩, by rw [e]; rfl, by rw [e]; rfl, rfl, rfl⟩
/-- Lay's answer, by letters -/
theorem layPost_at {ok : Bool} {l : List UInt8} {w w' : World} {e : Ending} {u : ByteArray} {k : Int} (h : RecLayPost ok l w e w') (hu : u = (if ok = true then ⟨l.toArray⟩ else ⟨#[]⟩)) (hk : k = (if ok = true then 0 else 8)) :
    ∃ v, e = .returned (.tuple #[.string u, v]) ∧ ErrIs w' k v ∧ Below w.heap.size w w' := by
  obtain ⟨v, h1, h2, h3⟩ := h
  exact ⟨v, by rw [hu]; exact h1, by rw [hk]; exact h2.is, h3⟩
set_option maxRecDepth 100000 in
set_option maxHeartbeats 8000000 in
theorem recTasks_walk (x : Tas) (a : Als) (ha : a.Ok) (w : World) (hg : Laid w) : Calls Tryd.prog 4 #[tasV x, alsV a] w fun e w' => e = .returned (.bool true) ∧ Below w.heap.size w w' := by
  have HGK : Hid (∀ w', Below w.heap.size w w' → Laid w') := Lib.hid fun w' h => hg.carry h
  clear hg
  have HA := Lib.hid ha
  clear ha
  obtain ⟨u, k, y, m, h1, h2, h3, h4, h5⟩ := tas_known x
  obtain ⟨u2, k2, y2, m2, g1, g2, g3, g4, g5⟩ := als_known HA.out
  have HK := Lib.hid h1
  have HKY := Lib.hid h2
  have HKM := Lib.hid h3
  have HKU := Lib.hid h4
  have HKK := Lib.hid h5
  have HJ := Lib.hid g1
  have HJY := Lib.hid g2
  have HJM := Lib.hid g3
  have HJU := Lib.hid g4
  have HJK := Lib.hid g5
  have HYL : Hid ((alsCells y2).length = 9) := Lib.hid (by
    rw [g2]
    exact alsCells_len (readA_ok _))
  clear h1 h2 h3 h4 h5 g1 g2 g3 g4 g5
  obtain ⟨p, HP⟩ : ∃ p, Hid (p = w.heap.size) := ⟨_, Lib.hid rfl⟩
  unfold tasV alsV
  go_enter Tryd.func4, Tryd.ntmps4
  go_upto_region 1 with (fail)
  obtain ⟨w1, HW⟩ : ∃ w1, Hid (w1 = (w.alloc (.cells #[.int .i64 x.frm, .int .i64 x.to, .int .i64 x.state] 37)).alloc (.cells (alsArr a) 40)) := ⟨_, Lib.hid rfl⟩
  rw [← HW.out, ← HP.out]
  have HOx : Hid (TasAt w1 p x) := Lib.hid (by
    rw [HW.out, HP.out]
    exact (TasAt.new _).carry ((Below.refl _ _).alloc (Nat.le_refl _) _))
  have HOa : Hid (AlsAt w1 (p + 1) a) := Lib.hid (by
    have h2 := AlsAt.new (w := w.alloc (.cells #[.int .i64 x.frm, .int .i64 x.to, .int .i64 x.state] 37)) (x := a) 40
    have e : (w.alloc (.cells #[.int .i64 x.frm, .int .i64 x.to, .int .i64 x.state] 37)).heap.size = w.heap.size + 1 := by simp
    rw [e] at h2
    rw [HW.out, HP.out]
    exact h2)
  have HB : Hid (Below w.heap.size w w1) := Lib.hid (by rw [HW.out]; exact ((Below.refl _ _).alloc (Nat.le_refl _) _).alloc (by simp) _)
  clear HW HP
  go_wp2_with fail
  refine (awake_any _ (HGK.out _ HB.out)).mono ?_
  rintro e wn ⟨rfl, hb⟩
  dsimp only
  replace HOx := Lib.hid (HOx.out.carry hb)
  replace HOa := Lib.hid (HOa.out.carry hb)
  replace HB := Lib.hid (HB.out.trans (hb.mono HB.out.size))
  clear hb
  obtain ⟨c0, c1, c2⟩ := HOx.out
  go_wp2_with fail
  refine (LayTask_any x _).mono ?_
  intro e wn hp
  obtain ⟨v, rfl, he, hb⟩ := layPost_at hp HKU.out HKK.out
  dsimp only
  have HEv := Lib.hid he
  replace HOx := Lib.hid (HOx.out.carry hb)
  replace HOa := Lib.hid (HOa.out.carry hb)
  replace HB := Lib.hid (HB.out.trans (hb.mono HB.out.size))
  clear hp he hb c0 c1 c2
  have hba := built_als HA.out
  have d0 := HOa.out.c0
  go_wp2_with (with_reducible refine stop_at (o := ⟨some 30, _, _, _, _, _⟩) ?_)
  refine wpList_load_c Tryd.offTy rfl _ rfl (p + 1) 1 rfl (offCells a.off) (by simp [offCells, HA.out.len]) HOa.out.off ?_
  rw [show (offCells a.off).toArray = offArr a.off from rfl]
  go_wp2_with (with_reducible refine stop_at (o := ⟨some 31, _, _, _, _, _⟩) ?_)
  refine wpList_build_c rfl _ rfl (alsCells a).toArray hba ?_
  clear hba
  go_wp2_with fail
  refine (LayAll_any a HA.out _).mono ?_
  intro e wn hp
  obtain ⟨v2, rfl, he, hb⟩ := layPost_at hp HJU.out HJK.out
  dsimp only
  have HEv2 := Lib.hid he
  replace HOx := Lib.hid (HOx.out.carry hb)
  replace HOa := Lib.hid (HOa.out.carry hb)
  replace HEv := Lib.hid (HEv.out.carry hb)
  replace HB := Lib.hid (HB.out.trans (hb.mono HB.out.size))
  clear hp he hb d0
  go_wp2_with fail
  refine (ReadTask_at u wn y m HKY.out HKM.out).mono ?_
  rintro e wr ⟨z, rfl, he, hb⟩
  dsimp only
  have HEz := Lib.hid he
  replace HOx := Lib.hid (HOx.out.carry hb)
  replace HOa := Lib.hid (HOa.out.carry hb)
  replace HEv := Lib.hid (HEv.out.carry hb)
  replace HEv2 := Lib.hid (HEv2.out.carry hb)
  replace HB := Lib.hid (HB.out.trans (hb.mono HB.out.size))
  clear he hb
  go_wp2_with (with_reducible refine stop_at (o := ⟨none, _, _, _, _, _⟩) ?_)
  obtain ⟨c, HCN⟩ : ∃ c, Hid (c = wr.heap.size) := ⟨_, Lib.hid rfl⟩
  obtain ⟨wb, HWB⟩ : ∃ wb, Hid (wb = wr.alloc (.cells #[.int .i64 0, .int .i64 0, .int .i64 0] 42)) := ⟨_, Lib.hid rfl⟩
  rw [← HWB.out, ← HCN.out]
  have hbb : Below wr.heap.size wr wb := by rw [HWB.out]; exact (Below.refl _ _).alloc (Nat.le_refl _) _
  have HCB : Hid (COwn wb c (tasCells Tas.zero)) := Lib.hid (by rw [HWB.out, HCN.out]; exact COwn.new (tasCells Tas.zero) _)
  clear HWB
  refine wpList_store_c Tryd.tasTy rfl _ _ rfl c (tasCells Tas.zero) (tasCells y) rfl rfl (tasCells_one _) rfl rfl HCB.out ?_
  intro wn2 HWC HCc
  have hbc : Below wr.heap.size wr wn2 := below_cells9 hbb HWC.out (by rw [HCN.out]; exact Nat.le_refl _)
  replace HOx := Lib.hid (HOx.out.carry hbc)
  replace HOa := Lib.hid (HOa.out.carry hbc)
  replace HEv := Lib.hid (HEv.out.carry hbc)
  replace HEv2 := Lib.hid (HEv2.out.carry hbc)
  replace HEz := Lib.hid (HEz.out.carry hbc)
  replace HB := Lib.hid (HB.out.trans (hbc.mono HB.out.size))
  clear hbb hbc HWC HCB HCN
  obtain ⟨wn, rfl⟩ : ∃ wn, wn = wn2 := ⟨_, rfl⟩
  go_wp2_with fail
  refine (ReadAll_at u2 wn y2 m2 HJY.out HJM.out).mono ?_
  rintro e wr ⟨z2, rfl, he, hb⟩
  dsimp only
  have HEz2 := Lib.hid he
  replace HOx := Lib.hid (HOx.out.carry hb)
  replace HOa := Lib.hid (HOa.out.carry hb)
  replace HEv := Lib.hid (HEv.out.carry hb)
  replace HEv2 := Lib.hid (HEv2.out.carry hb)
  replace HEz := Lib.hid (HEz.out.carry hb)
  replace HCc := Lib.hid (HCc.out.carry hb (by show 0 < 3; decide))
  replace HB := Lib.hid (HB.out.trans (hb.mono HB.out.size))
  clear he hb
  go_wp2_with (with_reducible refine stop_at (o := ⟨none, _, _, _, _, _⟩) ?_)
  obtain ⟨d, HCN⟩ : ∃ c, Hid (c = wr.heap.size) := ⟨_, Lib.hid rfl⟩
  obtain ⟨wb, HWB⟩ : ∃ wb, Hid (wb = wr.alloc (.cells #[.int .i64 0, .int .u8 0, .int .u8 0, .int .u8 0, .int .u8 0, .int .u8 0, .int .u8 0, .int .u8 0, .int .u8 0] 44)) := ⟨_, Lib.hid rfl⟩
  rw [← HWB.out, ← HCN.out]
  have hbb : Below wr.heap.size wr wb := by rw [HWB.out]; exact (Below.refl _ _).alloc (Nat.le_refl _) _
  have HCB : Hid (COwn wb d (alsCells Als.zero)) := Lib.hid (by rw [HWB.out, HCN.out]; exact COwn.new (alsCells Als.zero) _)
  clear HWB
  refine wpList_store_c Tryd.alsTy rfl _ _ rfl d (alsCells Als.zero) (alsCells y2) HYL.out rfl (alsCells_one _) rfl rfl HCB.out ?_
  intro wn3 HWC HCd
  have hbc : Below wr.heap.size wr wn3 := below_cells9 hbb HWC.out (by rw [HCN.out]; exact Nat.le_refl _)
  replace HOx := Lib.hid (HOx.out.carry hbc)
  replace HOa := Lib.hid (HOa.out.carry hbc)
  replace HEv := Lib.hid (HEv.out.carry hbc)
  replace HEv2 := Lib.hid (HEv2.out.carry hbc)
  replace HEz := Lib.hid (HEz.out.carry hbc)
  replace HCc := Lib.hid (HCc.out.carry hbc (by show 0 < 3; decide))
  replace HEz2 := Lib.hid (HEz2.out.carry hbc)
  replace HB := Lib.hid (HB.out.trans (hbc.mono HB.out.size))
  clear hbb hbc HWC HCB HCN
  obtain ⟨wn, rfl⟩ : ∃ wn, wn = wn3 := ⟨_, rfl⟩
  have hes : ((⟨#[]⟩ : ByteArray).toList == (⟨#[]⟩ : ByteArray).toList) = true := by simp
  have hgT := guardTas
  have hgA := guardAls
  rcases HK.out with ⟨hrt, hu, rfl, rfl, rfl⟩ | ⟨hrt, rfl, rfl, rfl, rfl⟩
  · have HRT := Lib.hid hrt
    have HU := Lib.hid hu
    have huu : (!(u.toList == u.toList)) = false := by simp
    have hneT : ∀ w, (binOp .neq 42 (.agg #[.int .i64 y.frm, .int .i64 y.to, .int .i64 y.state]) (.agg #[.int .i64 y.frm, .int .i64 y.to, .int .i64 y.state])).run Tryd.prog w = .ok (.bool false) w := fun w => by have h := neq_tas y y w; rw [decide_eq_true rfl] at h; exact h
    clear hrt hu HK HKU HKK HKY HKM
    rcases HJ.out with ⟨hra, hv, rfl, rfl, rfl⟩ | ⟨hra, rfl, rfl, rfl, rfl⟩
    · have HRA := Lib.hid hra
      have HV := Lib.hid hv
      have hvv : (!(u2.toList == u2.toList)) = false := by simp
      have hneA : ∀ w, (binOp .neq 44 (.agg (alsCells y2).toArray) (.agg (alsCells y2).toArray)).run Tryd.prog w = .ok (.bool false) w := fun w => by have h := neq_als HA.out HA.out w; rw [decide_eq_true rfl] at h; exact h
      clear hra hv HJ HJU HJK HJY HJM
      obtain ⟨c0, c1, c2⟩ := HOx.out
      go_wp2_with fail
      refine (RightTask_any y _).mono ?_
      rw [HRT.out]
      rintro e wn ⟨rfl, hb⟩
      dsimp only
      replace HOx := Lib.hid (HOx.out.carry hb)
      replace HOa := Lib.hid (HOa.out.carry hb)
      replace HEv := Lib.hid (HEv.out.carry hb)
      replace HEv2 := Lib.hid (HEv2.out.carry hb)
      replace HEz := Lib.hid (HEz.out.carry hb)
      replace HEz2 := Lib.hid (HEz2.out.carry hb)
      replace HCc := Lib.hid (HCc.out.carry hb (by show 0 < 3; decide))
      replace HCd := Lib.hid (HCd.out.carry hb (by rw [HYL.out]; decide))
      replace HB := Lib.hid (HB.out.trans (hb.mono HB.out.size))
      clear hb
      clear c0 c1 c2
      go_wp2_with fail
      refine (Num_any 0 v _ HEv.out (HGK.out _ HB.out)).mono ?_
      rintro e wn ⟨rfl, hb⟩
      dsimp only
      replace HOx := Lib.hid (HOx.out.carry hb)
      replace HOa := Lib.hid (HOa.out.carry hb)
      replace HEv := Lib.hid (HEv.out.carry hb)
      replace HEv2 := Lib.hid (HEv2.out.carry hb)
      replace HEz := Lib.hid (HEz.out.carry hb)
      replace HEz2 := Lib.hid (HEz2.out.carry hb)
      replace HCc := Lib.hid (HCc.out.carry hb (by show 0 < 3; decide))
      replace HCd := Lib.hid (HCd.out.carry hb (by rw [HYL.out]; decide))
      replace HB := Lib.hid (HB.out.trans (hb.mono HB.out.size))
      clear hb
      go_wp2_with (with_reducible refine stop_at (o := ⟨some 52, _, _, _, _, _⟩) ?_)
      refine wpList_load_c Tryd.refAlsTy ?gw _ rfl (p + 1) 0 rfl (alsCells y2) (alsCells_len HA.out) HOa.out.range ?_
      case gw => rfl
      go_wp2_with fail
      refine (RightAll_any y2 _).mono ?_
      rw [HRA.out]
      rintro e wn ⟨rfl, hb⟩
      dsimp only
      replace HOx := Lib.hid (HOx.out.carry hb)
      replace HOa := Lib.hid (HOa.out.carry hb)
      replace HEv := Lib.hid (HEv.out.carry hb)
      replace HEv2 := Lib.hid (HEv2.out.carry hb)
      replace HEz := Lib.hid (HEz.out.carry hb)
      replace HEz2 := Lib.hid (HEz2.out.carry hb)
      replace HCc := Lib.hid (HCc.out.carry hb (by show 0 < 3; decide))
      replace HCd := Lib.hid (HCd.out.carry hb (by rw [HYL.out]; decide))
      replace HB := Lib.hid (HB.out.trans (hb.mono HB.out.size))
      clear hb
      go_wp2_with fail
      refine (Num_any 0 v2 _ HEv2.out (HGK.out _ HB.out)).mono ?_
      rintro e wn ⟨rfl, hb⟩
      dsimp only
      replace HOx := Lib.hid (HOx.out.carry hb)
      replace HOa := Lib.hid (HOa.out.carry hb)
      replace HEv := Lib.hid (HEv.out.carry hb)
      replace HEv2 := Lib.hid (HEv2.out.carry hb)
      replace HEz := Lib.hid (HEz.out.carry hb)
      replace HEz2 := Lib.hid (HEz2.out.carry hb)
      replace HCc := Lib.hid (HCc.out.carry hb (by show 0 < 3; decide))
      replace HCd := Lib.hid (HCd.out.carry hb (by rw [HYL.out]; decide))
      replace HB := Lib.hid (HB.out.trans (hb.mono HB.out.size))
      clear hb
      go_wp2_with fail
      refine (Num_any 0 v _ HEv.out (HGK.out _ HB.out)).mono ?_
      rintro e wn ⟨rfl, hb⟩
      dsimp only
      replace HOx := Lib.hid (HOx.out.carry hb)
      replace HOa := Lib.hid (HOa.out.carry hb)
      replace HEv := Lib.hid (HEv.out.carry hb)
      replace HEv2 := Lib.hid (HEv2.out.carry hb)
      replace HEz := Lib.hid (HEz.out.carry hb)
      replace HEz2 := Lib.hid (HEz2.out.carry hb)
      replace HCc := Lib.hid (HCc.out.carry hb (by show 0 < 3; decide))
      replace HCd := Lib.hid (HCd.out.carry hb (by rw [HYL.out]; decide))
      replace HB := Lib.hid (HB.out.trans (hb.mono HB.out.size))
      clear hb
      obtain ⟨c0, c1, c2⟩ := HOx.out
      go_wp2_with fail
      refine (RefLayTask_any y HRT.out _).mono ?_
      rw [← HU.out]
      rintro e wn ⟨rfl, hb⟩
      dsimp only
      replace HOx := Lib.hid (HOx.out.carry hb)
      replace HOa := Lib.hid (HOa.out.carry hb)
      replace HEv := Lib.hid (HEv.out.carry hb)
      replace HEv2 := Lib.hid (HEv2.out.carry hb)
      replace HEz := Lib.hid (HEz.out.carry hb)
      replace HEz2 := Lib.hid (HEz2.out.carry hb)
      replace HCc := Lib.hid (HCc.out.carry hb (by show 0 < 3; decide))
      replace HCd := Lib.hid (HCd.out.carry hb (by rw [HYL.out]; decide))
      replace HB := Lib.hid (HB.out.trans (hb.mono HB.out.size))
      clear hb
      clear c0 c1 c2
      go_wp2_with fail
      refine (Num_any 0 z _ HEz.out (HGK.out _ HB.out)).mono ?_
      rintro e wn ⟨rfl, hb⟩
      dsimp only
      replace HOx := Lib.hid (HOx.out.carry hb)
      replace HOa := Lib.hid (HOa.out.carry hb)
      replace HEv := Lib.hid (HEv.out.carry hb)
      replace HEv2 := Lib.hid (HEv2.out.carry hb)
      replace HEz := Lib.hid (HEz.out.carry hb)
      replace HEz2 := Lib.hid (HEz2.out.carry hb)
      replace HCc := Lib.hid (HCc.out.carry hb (by show 0 < 3; decide))
      replace HCd := Lib.hid (HCd.out.carry hb (by rw [HYL.out]; decide))
      replace HB := Lib.hid (HB.out.trans (hb.mono HB.out.size))
      clear hb
      obtain ⟨c0, c1, c2⟩ := HOx.out
      have e0 := HCc.out.cell (j := 0) (v := .int .i64 y.frm) rfl
      have e1 := HCc.out.cell (j := 1) (v := .int .i64 y.to) rfl
      have e2 := HCc.out.cell (j := 2) (v := .int .i64 y.state) rfl
      go_wp2_with fail
      clear e0 e1 e2
      clear c0 c1 c2
      refine (Num_any 0 v2 _ HEv2.out (HGK.out _ HB.out)).mono ?_
      rintro e wn ⟨rfl, hb⟩
      dsimp only
      replace HOx := Lib.hid (HOx.out.carry hb)
      replace HOa := Lib.hid (HOa.out.carry hb)
      replace HEv := Lib.hid (HEv.out.carry hb)
      replace HEv2 := Lib.hid (HEv2.out.carry hb)
      replace HEz := Lib.hid (HEz.out.carry hb)
      replace HEz2 := Lib.hid (HEz2.out.carry hb)
      replace HCc := Lib.hid (HCc.out.carry hb (by show 0 < 3; decide))
      replace HCd := Lib.hid (HCd.out.carry hb (by rw [HYL.out]; decide))
      replace HB := Lib.hid (HB.out.trans (hb.mono HB.out.size))
      clear hb
      go_wp2_with (with_reducible refine stop_at (o := ⟨some 89, _, _, _, _, _⟩) ?_)
      refine wpList_load_c Tryd.refAlsTy ?gw _ rfl (p + 1) 0 rfl (alsCells y2) (alsCells_len HA.out) HOa.out.range ?_
      case gw => rfl
      go_wp2_with fail
      refine (RefLayAll_any y2 HA.out HRA.out _).mono ?_
      rw [← HV.out]
      rintro e wn ⟨rfl, hb⟩
      dsimp only
      replace HOx := Lib.hid (HOx.out.carry hb)
      replace HOa := Lib.hid (HOa.out.carry hb)
      replace HEv := Lib.hid (HEv.out.carry hb)
      replace HEv2 := Lib.hid (HEv2.out.carry hb)
      replace HEz := Lib.hid (HEz.out.carry hb)
      replace HEz2 := Lib.hid (HEz2.out.carry hb)
      replace HCc := Lib.hid (HCc.out.carry hb (by show 0 < 3; decide))
      replace HCd := Lib.hid (HCd.out.carry hb (by rw [HYL.out]; decide))
      replace HB := Lib.hid (HB.out.trans (hb.mono HB.out.size))
      clear hb
      go_wp2_with fail
      refine (Num_any 0 z2 _ HEz2.out (HGK.out _ HB.out)).mono ?_
      rintro e wn ⟨rfl, hb⟩
      dsimp only
      replace HOx := Lib.hid (HOx.out.carry hb)
      replace HOa := Lib.hid (HOa.out.carry hb)
      replace HEv := Lib.hid (HEv.out.carry hb)
      replace HEv2 := Lib.hid (HEv2.out.carry hb)
      replace HEz := Lib.hid (HEz.out.carry hb)
      replace HEz2 := Lib.hid (HEz2.out.carry hb)
      replace HCc := Lib.hid (HCc.out.carry hb (by show 0 < 3; decide))
      replace HCd := Lib.hid (HCd.out.carry hb (by rw [HYL.out]; decide))
      replace HB := Lib.hid (HB.out.trans (hb.mono HB.out.size))
      clear hb
      go_wp2_with (with_reducible refine stop_at (o := ⟨some 98, _, _, _, _, _⟩) ?_)
      refine wpList_load_c Tryd.alsTy ?gw _ rfl d 0 rfl (alsCells y2) (alsCells_len HA.out) HCd.out.at_ ?_
      case gw => rfl
      have d0 := HOa.out.c0
      go_wp2_with (with_reducible refine stop_at (o := ⟨some 102, _, _, _, _, _⟩) ?_)
      refine wpList_load_c Tryd.offTy ?gw _ rfl (p + 1) 1 rfl (offCells y2.off) (by simp [offCells, HA.out.len]) HOa.out.off ?_
      case gw => rfl
      rw [show (offCells y2.off).toArray = offArr y2.off from rfl]
      go_wp2_with (with_reducible refine stop_at (o := ⟨some 103, _, _, _, _, _⟩) ?_)
      refine wpList_build_c ?gw _ rfl (alsCells y2).toArray (built_als HA.out) ?_
      case gw => rfl
      go_wp2_with fail
      clear d0
      refine (Num_any 0 v _ HEv.out (HGK.out _ HB.out)).mono ?_
      rintro e wn ⟨rfl, hb⟩
      dsimp only
      replace HOx := Lib.hid (HOx.out.carry hb)
      replace HOa := Lib.hid (HOa.out.carry hb)
      replace HEv := Lib.hid (HEv.out.carry hb)
      replace HEv2 := Lib.hid (HEv2.out.carry hb)
      replace HEz := Lib.hid (HEz.out.carry hb)
      replace HEz2 := Lib.hid (HEz2.out.carry hb)
      replace HCc := Lib.hid (HCc.out.carry hb (by show 0 < 3; decide))
      replace HCd := Lib.hid (HCd.out.carry hb (by rw [HYL.out]; decide))
      replace HB := Lib.hid (HB.out.trans (hb.mono HB.out.size))
      clear hb
      go_wp2_with fail
      refine (Num_any 0 v2 _ HEv2.out (HGK.out _ HB.out)).mono ?_
      rintro e wn ⟨rfl, hb⟩
      dsimp only
      replace HOx := Lib.hid (HOx.out.carry hb)
      replace HOa := Lib.hid (HOa.out.carry hb)
      replace HEv := Lib.hid (HEv.out.carry hb)
      replace HEv2 := Lib.hid (HEv2.out.carry hb)
      replace HEz := Lib.hid (HEz.out.carry hb)
      replace HEz2 := Lib.hid (HEz2.out.carry hb)
      replace HCc := Lib.hid (HCc.out.carry hb (by show 0 < 3; decide))
      replace HCd := Lib.hid (HCd.out.carry hb (by rw [HYL.out]; decide))
      replace HB := Lib.hid (HB.out.trans (hb.mono HB.out.size))
      clear hb
      go_wp2_with fail
      go_ret
      exact ⟨rfl, HB.out⟩
    · have HRA := Lib.hid hra
      clear hra HJ HJU HJK HJY HJM
      obtain ⟨c0, c1, c2⟩ := HOx.out
      go_wp2_with fail
      refine (RightTask_any y _).mono ?_
      rw [HRT.out]
      rintro e wn ⟨rfl, hb⟩
      dsimp only
      replace HOx := Lib.hid (HOx.out.carry hb)
      replace HOa := Lib.hid (HOa.out.carry hb)
      replace HEv := Lib.hid (HEv.out.carry hb)
      replace HEv2 := Lib.hid (HEv2.out.carry hb)
      replace HEz := Lib.hid (HEz.out.carry hb)
      replace HEz2 := Lib.hid (HEz2.out.carry hb)
      replace HCc := Lib.hid (HCc.out.carry hb (by show 0 < 3; decide))
      replace HCd := Lib.hid (HCd.out.carry hb (by rw [HYL.out]; decide))
      replace HB := Lib.hid (HB.out.trans (hb.mono HB.out.size))
      clear hb
      clear c0 c1 c2
      go_wp2_with fail
      refine (Num_any 0 v _ HEv.out (HGK.out _ HB.out)).mono ?_
      rintro e wn ⟨rfl, hb⟩
      dsimp only
      replace HOx := Lib.hid (HOx.out.carry hb)
      replace HOa := Lib.hid (HOa.out.carry hb)
      replace HEv := Lib.hid (HEv.out.carry hb)
      replace HEv2 := Lib.hid (HEv2.out.carry hb)
      replace HEz := Lib.hid (HEz.out.carry hb)
      replace HEz2 := Lib.hid (HEz2.out.carry hb)
      replace HCc := Lib.hid (HCc.out.carry hb (by show 0 < 3; decide))
      replace HCd := Lib.hid (HCd.out.carry hb (by rw [HYL.out]; decide))
      replace HB := Lib.hid (HB.out.trans (hb.mono HB.out.size))
      clear hb
      go_wp2_with (with_reducible refine stop_at (o := ⟨some 52, _, _, _, _, _⟩) ?_)
      refine wpList_load_c Tryd.refAlsTy ?gw _ rfl (p + 1) 0 rfl (alsCells a) (alsCells_len HA.out) HOa.out.range ?_
      case gw => rfl
      go_wp2_with fail
      refine (RightAll_any a _).mono ?_
      rw [HRA.out]
      rintro e wn ⟨rfl, hb⟩
      dsimp only
      replace HOx := Lib.hid (HOx.out.carry hb)
      replace HOa := Lib.hid (HOa.out.carry hb)
      replace HEv := Lib.hid (HEv.out.carry hb)
      replace HEv2 := Lib.hid (HEv2.out.carry hb)
      replace HEz := Lib.hid (HEz.out.carry hb)
      replace HEz2 := Lib.hid (HEz2.out.carry hb)
      replace HCc := Lib.hid (HCc.out.carry hb (by show 0 < 3; decide))
      replace HCd := Lib.hid (HCd.out.carry hb (by rw [HYL.out]; decide))
      replace HB := Lib.hid (HB.out.trans (hb.mono HB.out.size))
      clear hb
      go_wp2_with fail
      refine (Num_any 8 v2 _ HEv2.out (HGK.out _ HB.out)).mono ?_
      rintro e wn ⟨rfl, hb⟩
      dsimp only
      replace HOx := Lib.hid (HOx.out.carry hb)
      replace HOa := Lib.hid (HOa.out.carry hb)
      replace HEv := Lib.hid (HEv.out.carry hb)
      replace HEv2 := Lib.hid (HEv2.out.carry hb)
      replace HEz := Lib.hid (HEz.out.carry hb)
      replace HEz2 := Lib.hid (HEz2.out.carry hb)
      replace HCc := Lib.hid (HCc.out.carry hb (by show 0 < 3; decide))
      replace HCd := Lib.hid (HCd.out.carry hb (by rw [HYL.out]; decide))
      replace HB := Lib.hid (HB.out.trans (hb.mono HB.out.size))
      clear hb
      go_wp2_with fail
      refine (Num_any 0 v _ HEv.out (HGK.out _ HB.out)).mono ?_
      rintro e wn ⟨rfl, hb⟩
      dsimp only
      replace HOx := Lib.hid (HOx.out.carry hb)
      replace HOa := Lib.hid (HOa.out.carry hb)
      replace HEv := Lib.hid (HEv.out.carry hb)
      replace HEv2 := Lib.hid (HEv2.out.carry hb)
      replace HEz := Lib.hid (HEz.out.carry hb)
      replace HEz2 := Lib.hid (HEz2.out.carry hb)
      replace HCc := Lib.hid (HCc.out.carry hb (by show 0 < 3; decide))
      replace HCd := Lib.hid (HCd.out.carry hb (by rw [HYL.out]; decide))
      replace HB := Lib.hid (HB.out.trans (hb.mono HB.out.size))
      clear hb
      obtain ⟨c0, c1, c2⟩ := HOx.out
      go_wp2_with fail
      refine (RefLayTask_any y HRT.out _).mono ?_
      rw [← HU.out]
      rintro e wn ⟨rfl, hb⟩
      dsimp only
      replace HOx := Lib.hid (HOx.out.carry hb)
      replace HOa := Lib.hid (HOa.out.carry hb)
      replace HEv := Lib.hid (HEv.out.carry hb)
      replace HEv2 := Lib.hid (HEv2.out.carry hb)
      replace HEz := Lib.hid (HEz.out.carry hb)
      replace HEz2 := Lib.hid (HEz2.out.carry hb)
      replace HCc := Lib.hid (HCc.out.carry hb (by show 0 < 3; decide))
      replace HCd := Lib.hid (HCd.out.carry hb (by rw [HYL.out]; decide))
      replace HB := Lib.hid (HB.out.trans (hb.mono HB.out.size))
      clear hb
      clear c0 c1 c2
      go_wp2_with fail
      refine (Num_any 0 z _ HEz.out (HGK.out _ HB.out)).mono ?_
      rintro e wn ⟨rfl, hb⟩
      dsimp only
      replace HOx := Lib.hid (HOx.out.carry hb)
      replace HOa := Lib.hid (HOa.out.carry hb)
      replace HEv := Lib.hid (HEv.out.carry hb)
      replace HEv2 := Lib.hid (HEv2.out.carry hb)
      replace HEz := Lib.hid (HEz.out.carry hb)
      replace HEz2 := Lib.hid (HEz2.out.carry hb)
      replace HCc := Lib.hid (HCc.out.carry hb (by show 0 < 3; decide))
      replace HCd := Lib.hid (HCd.out.carry hb (by rw [HYL.out]; decide))
      replace HB := Lib.hid (HB.out.trans (hb.mono HB.out.size))
      clear hb
      obtain ⟨c0, c1, c2⟩ := HOx.out
      have e0 := HCc.out.cell (j := 0) (v := .int .i64 y.frm) rfl
      have e1 := HCc.out.cell (j := 1) (v := .int .i64 y.to) rfl
      have e2 := HCc.out.cell (j := 2) (v := .int .i64 y.state) rfl
      go_wp2_with fail
      clear e0 e1 e2
      clear c0 c1 c2
      refine (Num_any 8 v2 _ HEv2.out (HGK.out _ HB.out)).mono ?_
      rintro e wn ⟨rfl, hb⟩
      dsimp only
      replace HOx := Lib.hid (HOx.out.carry hb)
      replace HOa := Lib.hid (HOa.out.carry hb)
      replace HEv := Lib.hid (HEv.out.carry hb)
      replace HEv2 := Lib.hid (HEv2.out.carry hb)
      replace HEz := Lib.hid (HEz.out.carry hb)
      replace HEz2 := Lib.hid (HEz2.out.carry hb)
      replace HCc := Lib.hid (HCc.out.carry hb (by show 0 < 3; decide))
      replace HCd := Lib.hid (HCd.out.carry hb (by rw [HYL.out]; decide))
      replace HB := Lib.hid (HB.out.trans (hb.mono HB.out.size))
      clear hb
      go_wp2_with fail
      refine (Num_any 0 v _ HEv.out (HGK.out _ HB.out)).mono ?_
      rintro e wn ⟨rfl, hb⟩
      dsimp only
      replace HOx := Lib.hid (HOx.out.carry hb)
      replace HOa := Lib.hid (HOa.out.carry hb)
      replace HEv := Lib.hid (HEv.out.carry hb)
      replace HEv2 := Lib.hid (HEv2.out.carry hb)
      replace HEz := Lib.hid (HEz.out.carry hb)
      replace HEz2 := Lib.hid (HEz2.out.carry hb)
      replace HCc := Lib.hid (HCc.out.carry hb (by show 0 < 3; decide))
      replace HCd := Lib.hid (HCd.out.carry hb (by rw [HYL.out]; decide))
      replace HB := Lib.hid (HB.out.trans (hb.mono HB.out.size))
      clear hb
      go_wp2_with fail
      refine (Num_any 8 v2 _ HEv2.out (HGK.out _ HB.out)).mono ?_
      rintro e wn ⟨rfl, hb⟩
      dsimp only
      replace HOx := Lib.hid (HOx.out.carry hb)
      replace HOa := Lib.hid (HOa.out.carry hb)
      replace HEv := Lib.hid (HEv.out.carry hb)
      replace HEv2 := Lib.hid (HEv2.out.carry hb)
      replace HEz := Lib.hid (HEz.out.carry hb)
      replace HEz2 := Lib.hid (HEz2.out.carry hb)
      replace HCc := Lib.hid (HCc.out.carry hb (by show 0 < 3; decide))
      replace HCd := Lib.hid (HCd.out.carry hb (by rw [HYL.out]; decide))
      replace HB := Lib.hid (HB.out.trans (hb.mono HB.out.size))
      clear hb
      go_wp2_with fail
      refine (Num_any 8 v2 _ HEv2.out (HGK.out _ HB.out)).mono ?_
      rintro e wn ⟨rfl, hb⟩
      dsimp only
      replace HOx := Lib.hid (HOx.out.carry hb)
      replace HOa := Lib.hid (HOa.out.carry hb)
      replace HEv := Lib.hid (HEv.out.carry hb)
      replace HEv2 := Lib.hid (HEv2.out.carry hb)
      replace HEz := Lib.hid (HEz.out.carry hb)
      replace HEz2 := Lib.hid (HEz2.out.carry hb)
      replace HCc := Lib.hid (HCc.out.carry hb (by show 0 < 3; decide))
      replace HCd := Lib.hid (HCd.out.carry hb (by rw [HYL.out]; decide))
      replace HB := Lib.hid (HB.out.trans (hb.mono HB.out.size))
      clear hb
      go_wp2_with fail
      refine (Num_any 2 z2 _ HEz2.out (HGK.out _ HB.out)).mono ?_
      rintro e wn ⟨rfl, hb⟩
      dsimp only
      replace HOx := Lib.hid (HOx.out.carry hb)
      replace HOa := Lib.hid (HOa.out.carry hb)
      replace HEv := Lib.hid (HEv.out.carry hb)
      replace HEv2 := Lib.hid (HEv2.out.carry hb)
      replace HEz := Lib.hid (HEz.out.carry hb)
      replace HEz2 := Lib.hid (HEz2.out.carry hb)
      replace HCc := Lib.hid (HCc.out.carry hb (by show 0 < 3; decide))
      replace HCd := Lib.hid (HCd.out.carry hb (by rw [HYL.out]; decide))
      replace HB := Lib.hid (HB.out.trans (hb.mono HB.out.size))
      clear hb
      go_wp2_with fail
      go_ret
      exact ⟨rfl, HB.out⟩
  · have HRT := Lib.hid hrt
    clear hrt HK HKU HKK HKY HKM
    rcases HJ.out with ⟨hra, hv, rfl, rfl, rfl⟩ | ⟨hra, rfl, rfl, rfl, rfl⟩
    · have HRA := Lib.hid hra
      have HV := Lib.hid hv
      have hvv : (!(u2.toList == u2.toList)) = false := by simp
      have hneA : ∀ w, (binOp .neq 44 (.agg (alsCells y2).toArray) (.agg (alsCells y2).toArray)).run Tryd.prog w = .ok (.bool false) w := fun w => by have h := neq_als HA.out HA.out w; rw [decide_eq_true rfl] at h; exact h
      clear hra hv HJ HJU HJK HJY HJM
      obtain ⟨c0, c1, c2⟩ := HOx.out
      go_wp2_with fail
      refine (RightTask_any x _).mono ?_
      rw [HRT.out]
      rintro e wn ⟨rfl, hb⟩
      dsimp only
      replace HOx := Lib.hid (HOx.out.carry hb)
      replace HOa := Lib.hid (HOa.out.carry hb)
      replace HEv := Lib.hid (HEv.out.carry hb)
      replace HEv2 := Lib.hid (HEv2.out.carry hb)
      replace HEz := Lib.hid (HEz.out.carry hb)
      replace HEz2 := Lib.hid (HEz2.out.carry hb)
      replace HCc := Lib.hid (HCc.out.carry hb (by show 0 < 3; decide))
      replace HCd := Lib.hid (HCd.out.carry hb (by rw [HYL.out]; decide))
      replace HB := Lib.hid (HB.out.trans (hb.mono HB.out.size))
      clear hb
      clear c0 c1 c2
      go_wp2_with fail
      refine (Num_any 8 v _ HEv.out (HGK.out _ HB.out)).mono ?_
      rintro e wn ⟨rfl, hb⟩
      dsimp only
      replace HOx := Lib.hid (HOx.out.carry hb)
      replace HOa := Lib.hid (HOa.out.carry hb)
      replace HEv := Lib.hid (HEv.out.carry hb)
      replace HEv2 := Lib.hid (HEv2.out.carry hb)
      replace HEz := Lib.hid (HEz.out.carry hb)
      replace HEz2 := Lib.hid (HEz2.out.carry hb)
      replace HCc := Lib.hid (HCc.out.carry hb (by show 0 < 3; decide))
      replace HCd := Lib.hid (HCd.out.carry hb (by rw [HYL.out]; decide))
      replace HB := Lib.hid (HB.out.trans (hb.mono HB.out.size))
      clear hb
      go_wp2_with (with_reducible refine stop_at (o := ⟨some 52, _, _, _, _, _⟩) ?_)
      refine wpList_load_c Tryd.refAlsTy ?gw _ rfl (p + 1) 0 rfl (alsCells y2) (alsCells_len HA.out) HOa.out.range ?_
      case gw => rfl
      go_wp2_with fail
      refine (RightAll_any y2 _).mono ?_
      rw [HRA.out]
      rintro e wn ⟨rfl, hb⟩
      dsimp only
      replace HOx := Lib.hid (HOx.out.carry hb)
      replace HOa := Lib.hid (HOa.out.carry hb)
      replace HEv := Lib.hid (HEv.out.carry hb)
      replace HEv2 := Lib.hid (HEv2.out.carry hb)
      replace HEz := Lib.hid (HEz.out.carry hb)
      replace HEz2 := Lib.hid (HEz2.out.carry hb)
      replace HCc := Lib.hid (HCc.out.carry hb (by show 0 < 3; decide))
      replace HCd := Lib.hid (HCd.out.carry hb (by rw [HYL.out]; decide))
      replace HB := Lib.hid (HB.out.trans (hb.mono HB.out.size))
      clear hb
      go_wp2_with fail
      refine (Num_any 0 v2 _ HEv2.out (HGK.out _ HB.out)).mono ?_
      rintro e wn ⟨rfl, hb⟩
      dsimp only
      replace HOx := Lib.hid (HOx.out.carry hb)
      replace HOa := Lib.hid (HOa.out.carry hb)
      replace HEv := Lib.hid (HEv.out.carry hb)
      replace HEv2 := Lib.hid (HEv2.out.carry hb)
      replace HEz := Lib.hid (HEz.out.carry hb)
      replace HEz2 := Lib.hid (HEz2.out.carry hb)
      replace HCc := Lib.hid (HCc.out.carry hb (by show 0 < 3; decide))
      replace HCd := Lib.hid (HCd.out.carry hb (by rw [HYL.out]; decide))
      replace HB := Lib.hid (HB.out.trans (hb.mono HB.out.size))
      clear hb
      go_wp2_with fail
      refine (Num_any 8 v _ HEv.out (HGK.out _ HB.out)).mono ?_
      rintro e wn ⟨rfl, hb⟩
      dsimp only
      replace HOx := Lib.hid (HOx.out.carry hb)
      replace HOa := Lib.hid (HOa.out.carry hb)
      replace HEv := Lib.hid (HEv.out.carry hb)
      replace HEv2 := Lib.hid (HEv2.out.carry hb)
      replace HEz := Lib.hid (HEz.out.carry hb)
      replace HEz2 := Lib.hid (HEz2.out.carry hb)
      replace HCc := Lib.hid (HCc.out.carry hb (by show 0 < 3; decide))
      replace HCd := Lib.hid (HCd.out.carry hb (by rw [HYL.out]; decide))
      replace HB := Lib.hid (HB.out.trans (hb.mono HB.out.size))
      clear hb
      go_wp2_with fail
      refine (Num_any 0 v2 _ HEv2.out (HGK.out _ HB.out)).mono ?_
      rintro e wn ⟨rfl, hb⟩
      dsimp only
      replace HOx := Lib.hid (HOx.out.carry hb)
      replace HOa := Lib.hid (HOa.out.carry hb)
      replace HEv := Lib.hid (HEv.out.carry hb)
      replace HEv2 := Lib.hid (HEv2.out.carry hb)
      replace HEz := Lib.hid (HEz.out.carry hb)
      replace HEz2 := Lib.hid (HEz2.out.carry hb)
      replace HCc := Lib.hid (HCc.out.carry hb (by show 0 < 3; decide))
      replace HCd := Lib.hid (HCd.out.carry hb (by rw [HYL.out]; decide))
      replace HB := Lib.hid (HB.out.trans (hb.mono HB.out.size))
      clear hb
      go_wp2_with (with_reducible refine stop_at (o := ⟨some 89, _, _, _, _, _⟩) ?_)
      refine wpList_load_c Tryd.refAlsTy ?gw _ rfl (p + 1) 0 rfl (alsCells y2) (alsCells_len HA.out) HOa.out.range ?_
      case gw => rfl
      go_wp2_with fail
      refine (RefLayAll_any y2 HA.out HRA.out _).mono ?_
      rw [← HV.out]
      rintro e wn ⟨rfl, hb⟩
      dsimp only
      replace HOx := Lib.hid (HOx.out.carry hb)
      replace HOa := Lib.hid (HOa.out.carry hb)
      replace HEv := Lib.hid (HEv.out.carry hb)
      replace HEv2 := Lib.hid (HEv2.out.carry hb)
      replace HEz := Lib.hid (HEz.out.carry hb)
      replace HEz2 := Lib.hid (HEz2.out.carry hb)
      replace HCc := Lib.hid (HCc.out.carry hb (by show 0 < 3; decide))
      replace HCd := Lib.hid (HCd.out.carry hb (by rw [HYL.out]; decide))
      replace HB := Lib.hid (HB.out.trans (hb.mono HB.out.size))
      clear hb
      go_wp2_with fail
      refine (Num_any 0 z2 _ HEz2.out (HGK.out _ HB.out)).mono ?_
      rintro e wn ⟨rfl, hb⟩
      dsimp only
      replace HOx := Lib.hid (HOx.out.carry hb)
      replace HOa := Lib.hid (HOa.out.carry hb)
      replace HEv := Lib.hid (HEv.out.carry hb)
      replace HEv2 := Lib.hid (HEv2.out.carry hb)
      replace HEz := Lib.hid (HEz.out.carry hb)
      replace HEz2 := Lib.hid (HEz2.out.carry hb)
      replace HCc := Lib.hid (HCc.out.carry hb (by show 0 < 3; decide))
      replace HCd := Lib.hid (HCd.out.carry hb (by rw [HYL.out]; decide))
      replace HB := Lib.hid (HB.out.trans (hb.mono HB.out.size))
      clear hb
      go_wp2_with (with_reducible refine stop_at (o := ⟨some 98, _, _, _, _, _⟩) ?_)
      refine wpList_load_c Tryd.alsTy ?gw _ rfl d 0 rfl (alsCells y2) (alsCells_len HA.out) HCd.out.at_ ?_
      case gw => rfl
      have d0 := HOa.out.c0
      go_wp2_with (with_reducible refine stop_at (o := ⟨some 102, _, _, _, _, _⟩) ?_)
      refine wpList_load_c Tryd.offTy ?gw _ rfl (p + 1) 1 rfl (offCells y2.off) (by simp [offCells, HA.out.len]) HOa.out.off ?_
      case gw => rfl
      rw [show (offCells y2.off).toArray = offArr y2.off from rfl]
      go_wp2_with (with_reducible refine stop_at (o := ⟨some 103, _, _, _, _, _⟩) ?_)
      refine wpList_build_c ?gw _ rfl (alsCells y2).toArray (built_als HA.out) ?_
      case gw => rfl
      go_wp2_with fail
      clear d0
      refine (Num_any 8 v _ HEv.out (HGK.out _ HB.out)).mono ?_
      rintro e wn ⟨rfl, hb⟩
      dsimp only
      replace HOx := Lib.hid (HOx.out.carry hb)
      replace HOa := Lib.hid (HOa.out.carry hb)
      replace HEv := Lib.hid (HEv.out.carry hb)
      replace HEv2 := Lib.hid (HEv2.out.carry hb)
      replace HEz := Lib.hid (HEz.out.carry hb)
      replace HEz2 := Lib.hid (HEz2.out.carry hb)
      replace HCc := Lib.hid (HCc.out.carry hb (by show 0 < 3; decide))
      replace HCd := Lib.hid (HCd.out.carry hb (by rw [HYL.out]; decide))
      replace HB := Lib.hid (HB.out.trans (hb.mono HB.out.size))
      clear hb
      go_wp2_with fail
      refine (Num_any 8 v _ HEv.out (HGK.out _ HB.out)).mono ?_
      rintro e wn ⟨rfl, hb⟩
      dsimp only
      replace HOx := Lib.hid (HOx.out.carry hb)
      replace HOa := Lib.hid (HOa.out.carry hb)
      replace HEv := Lib.hid (HEv.out.carry hb)
      replace HEv2 := Lib.hid (HEv2.out.carry hb)
      replace HEz := Lib.hid (HEz.out.carry hb)
      replace HEz2 := Lib.hid (HEz2.out.carry hb)
      replace HCc := Lib.hid (HCc.out.carry hb (by show 0 < 3; decide))
      replace HCd := Lib.hid (HCd.out.carry hb (by rw [HYL.out]; decide))
      replace HB := Lib.hid (HB.out.trans (hb.mono HB.out.size))
      clear hb
      go_wp2_with fail
      refine (Num_any 2 z _ HEz.out (HGK.out _ HB.out)).mono ?_
      rintro e wn ⟨rfl, hb⟩
      dsimp only
      replace HOx := Lib.hid (HOx.out.carry hb)
      replace HOa := Lib.hid (HOa.out.carry hb)
      replace HEv := Lib.hid (HEv.out.carry hb)
      replace HEv2 := Lib.hid (HEv2.out.carry hb)
      replace HEz := Lib.hid (HEz.out.carry hb)
      replace HEz2 := Lib.hid (HEz2.out.carry hb)
      replace HCc := Lib.hid (HCc.out.carry hb (by show 0 < 3; decide))
      replace HCd := Lib.hid (HCd.out.carry hb (by rw [HYL.out]; decide))
      replace HB := Lib.hid (HB.out.trans (hb.mono HB.out.size))
      clear hb
      go_wp2_with fail
      refine (Num_any 0 v2 _ HEv2.out (HGK.out _ HB.out)).mono ?_
      rintro e wn ⟨rfl, hb⟩
      dsimp only
      replace HOx := Lib.hid (HOx.out.carry hb)
      replace HOa := Lib.hid (HOa.out.carry hb)
      replace HEv := Lib.hid (HEv.out.carry hb)
      replace HEv2 := Lib.hid (HEv2.out.carry hb)
      replace HEz := Lib.hid (HEz.out.carry hb)
      replace HEz2 := Lib.hid (HEz2.out.carry hb)
      replace HCc := Lib.hid (HCc.out.carry hb (by show 0 < 3; decide))
      replace HCd := Lib.hid (HCd.out.carry hb (by rw [HYL.out]; decide))
      replace HB := Lib.hid (HB.out.trans (hb.mono HB.out.size))
      clear hb
      go_wp2_with fail
      go_ret
      exact ⟨rfl, HB.out⟩
    · have HRA := Lib.hid hra
      clear hra HJ HJU HJK HJY HJM
      obtain ⟨c0, c1, c2⟩ := HOx.out
      go_wp2_with fail
      refine (RightTask_any x _).mono ?_
      rw [HRT.out]
      rintro e wn ⟨rfl, hb⟩
      dsimp only
      replace HOx := Lib.hid (HOx.out.carry hb)
      replace HOa := Lib.hid (HOa.out.carry hb)
      replace HEv := Lib.hid (HEv.out.carry hb)
      replace HEv2 := Lib.hid (HEv2.out.carry hb)
      replace HEz := Lib.hid (HEz.out.carry hb)
      replace HEz2 := Lib.hid (HEz2.out.carry hb)
      replace HCc := Lib.hid (HCc.out.carry hb (by show 0 < 3; decide))
      replace HCd := Lib.hid (HCd.out.carry hb (by rw [HYL.out]; decide))
      replace HB := Lib.hid (HB.out.trans (hb.mono HB.out.size))
      clear hb
      clear c0 c1 c2
      go_wp2_with fail
      refine (Num_any 8 v _ HEv.out (HGK.out _ HB.out)).mono ?_
      rintro e wn ⟨rfl, hb⟩
      dsimp only
      replace HOx := Lib.hid (HOx.out.carry hb)
      replace HOa := Lib.hid (HOa.out.carry hb)
      replace HEv := Lib.hid (HEv.out.carry hb)
      replace HEv2 := Lib.hid (HEv2.out.carry hb)
      replace HEz := Lib.hid (HEz.out.carry hb)
      replace HEz2 := Lib.hid (HEz2.out.carry hb)
      replace HCc := Lib.hid (HCc.out.carry hb (by show 0 < 3; decide))
      replace HCd := Lib.hid (HCd.out.carry hb (by rw [HYL.out]; decide))
      replace HB := Lib.hid (HB.out.trans (hb.mono HB.out.size))
      clear hb
      go_wp2_with (with_reducible refine stop_at (o := ⟨some 52, _, _, _, _, _⟩) ?_)
      refine wpList_load_c Tryd.refAlsTy ?gw _ rfl (p + 1) 0 rfl (alsCells a) (alsCells_len HA.out) HOa.out.range ?_
      case gw => rfl
      go_wp2_with fail
      refine (RightAll_any a _).mono ?_
      rw [HRA.out]
      rintro e wn ⟨rfl, hb⟩
      dsimp only
      replace HOx := Lib.hid (HOx.out.carry hb)
      replace HOa := Lib.hid (HOa.out.carry hb)
      replace HEv := Lib.hid (HEv.out.carry hb)
      replace HEv2 := Lib.hid (HEv2.out.carry hb)
      replace HEz := Lib.hid (HEz.out.carry hb)
      replace HEz2 := Lib.hid (HEz2.out.carry hb)
      replace HCc := Lib.hid (HCc.out.carry hb (by show 0 < 3; decide))
      replace HCd := Lib.hid (HCd.out.carry hb (by rw [HYL.out]; decide))
      replace HB := Lib.hid (HB.out.trans (hb.mono HB.out.size))
      clear hb
      go_wp2_with fail
      refine (Num_any 8 v2 _ HEv2.out (HGK.out _ HB.out)).mono ?_
      rintro e wn ⟨rfl, hb⟩
      dsimp only
      replace HOx := Lib.hid (HOx.out.carry hb)
      replace HOa := Lib.hid (HOa.out.carry hb)
      replace HEv := Lib.hid (HEv.out.carry hb)
      replace HEv2 := Lib.hid (HEv2.out.carry hb)
      replace HEz := Lib.hid (HEz.out.carry hb)
      replace HEz2 := Lib.hid (HEz2.out.carry hb)
      replace HCc := Lib.hid (HCc.out.carry hb (by show 0 < 3; decide))
      replace HCd := Lib.hid (HCd.out.carry hb (by rw [HYL.out]; decide))
      replace HB := Lib.hid (HB.out.trans (hb.mono HB.out.size))
      clear hb
      go_wp2_with fail
      refine (Num_any 8 v _ HEv.out (HGK.out _ HB.out)).mono ?_
      rintro e wn ⟨rfl, hb⟩
      dsimp only
      replace HOx := Lib.hid (HOx.out.carry hb)
      replace HOa := Lib.hid (HOa.out.carry hb)
      replace HEv := Lib.hid (HEv.out.carry hb)
      replace HEv2 := Lib.hid (HEv2.out.carry hb)
      replace HEz := Lib.hid (HEz.out.carry hb)
      replace HEz2 := Lib.hid (HEz2.out.carry hb)
      replace HCc := Lib.hid (HCc.out.carry hb (by show 0 < 3; decide))
      replace HCd := Lib.hid (HCd.out.carry hb (by rw [HYL.out]; decide))
      replace HB := Lib.hid (HB.out.trans (hb.mono HB.out.size))
      clear hb
      go_wp2_with fail
      refine (Num_any 8 v2 _ HEv2.out (HGK.out _ HB.out)).mono ?_
      rintro e wn ⟨rfl, hb⟩
      dsimp only
      replace HOx := Lib.hid (HOx.out.carry hb)
      replace HOa := Lib.hid (HOa.out.carry hb)
      replace HEv := Lib.hid (HEv.out.carry hb)
      replace HEv2 := Lib.hid (HEv2.out.carry hb)
      replace HEz := Lib.hid (HEz.out.carry hb)
      replace HEz2 := Lib.hid (HEz2.out.carry hb)
      replace HCc := Lib.hid (HCc.out.carry hb (by show 0 < 3; decide))
      replace HCd := Lib.hid (HCd.out.carry hb (by rw [HYL.out]; decide))
      replace HB := Lib.hid (HB.out.trans (hb.mono HB.out.size))
      clear hb
      go_wp2_with fail
      refine (Num_any 8 v _ HEv.out (HGK.out _ HB.out)).mono ?_
      rintro e wn ⟨rfl, hb⟩
      dsimp only
      replace HOx := Lib.hid (HOx.out.carry hb)
      replace HOa := Lib.hid (HOa.out.carry hb)
      replace HEv := Lib.hid (HEv.out.carry hb)
      replace HEv2 := Lib.hid (HEv2.out.carry hb)
      replace HEz := Lib.hid (HEz.out.carry hb)
      replace HEz2 := Lib.hid (HEz2.out.carry hb)
      replace HCc := Lib.hid (HCc.out.carry hb (by show 0 < 3; decide))
      replace HCd := Lib.hid (HCd.out.carry hb (by rw [HYL.out]; decide))
      replace HB := Lib.hid (HB.out.trans (hb.mono HB.out.size))
      clear hb
      go_wp2_with fail
      refine (Num_any 8 v _ HEv.out (HGK.out _ HB.out)).mono ?_
      rintro e wn ⟨rfl, hb⟩
      dsimp only
      replace HOx := Lib.hid (HOx.out.carry hb)
      replace HOa := Lib.hid (HOa.out.carry hb)
      replace HEv := Lib.hid (HEv.out.carry hb)
      replace HEv2 := Lib.hid (HEv2.out.carry hb)
      replace HEz := Lib.hid (HEz.out.carry hb)
      replace HEz2 := Lib.hid (HEz2.out.carry hb)
      replace HCc := Lib.hid (HCc.out.carry hb (by show 0 < 3; decide))
      replace HCd := Lib.hid (HCd.out.carry hb (by rw [HYL.out]; decide))
      replace HB := Lib.hid (HB.out.trans (hb.mono HB.out.size))
      clear hb
      go_wp2_with fail
      refine (Num_any 2 z _ HEz.out (HGK.out _ HB.out)).mono ?_
      rintro e wn ⟨rfl, hb⟩
      dsimp only
      replace HOx := Lib.hid (HOx.out.carry hb)
      replace HOa := Lib.hid (HOa.out.carry hb)
      replace HEv := Lib.hid (HEv.out.carry hb)
      replace HEv2 := Lib.hid (HEv2.out.carry hb)
      replace HEz := Lib.hid (HEz.out.carry hb)
      replace HEz2 := Lib.hid (HEz2.out.carry hb)
      replace HCc := Lib.hid (HCc.out.carry hb (by show 0 < 3; decide))
      replace HCd := Lib.hid (HCd.out.carry hb (by rw [HYL.out]; decide))
      replace HB := Lib.hid (HB.out.trans (hb.mono HB.out.size))
      clear hb
      go_wp2_with fail
      refine (Num_any 8 v2 _ HEv2.out (HGK.out _ HB.out)).mono ?_
      rintro e wn ⟨rfl, hb⟩
      dsimp only
      replace HOx := Lib.hid (HOx.out.carry hb)
      replace HOa := Lib.hid (HOa.out.carry hb)
      replace HEv := Lib.hid (HEv.out.carry hb)
      replace HEv2 := Lib.hid (HEv2.out.carry hb)
      replace HEz := Lib.hid (HEz.out.carry hb)
      replace HEz2 := Lib.hid (HEz2.out.carry hb)
      replace HCc := Lib.hid (HCc.out.carry hb (by show 0 < 3; decide))
      replace HCd := Lib.hid (HCd.out.carry hb (by rw [HYL.out]; decide))
      replace HB := Lib.hid (HB.out.trans (hb.mono HB.out.size))
      clear hb
      go_wp2_with fail
      refine (Num_any 8 v2 _ HEv2.out (HGK.out _ HB.out)).mono ?_
      rintro e wn ⟨rfl, hb⟩
      dsimp only
      replace HOx := Lib.hid (HOx.out.carry hb)
      replace HOa := Lib.hid (HOa.out.carry hb)
      replace HEv := Lib.hid (HEv.out.carry hb)
      replace HEv2 := Lib.hid (HEv2.out.carry hb)
      replace HEz := Lib.hid (HEz.out.carry hb)
      replace HEz2 := Lib.hid (HEz2.out.carry hb)
      replace HCc := Lib.hid (HCc.out.carry hb (by show 0 < 3; decide))
      replace HCd := Lib.hid (HCd.out.carry hb (by rw [HYL.out]; decide))
      replace HB := Lib.hid (HB.out.trans (hb.mono HB.out.size))
      clear hb
      go_wp2_with fail
      refine (Num_any 2 z2 _ HEz2.out (HGK.out _ HB.out)).mono ?_
      rintro e wn ⟨rfl, hb⟩
      dsimp only
      replace HOx := Lib.hid (HOx.out.carry hb)
      replace HOa := Lib.hid (HOa.out.carry hb)
      replace HEv := Lib.hid (HEv.out.carry hb)
      replace HEv2 := Lib.hid (HEv2.out.carry hb)
      replace HEz := Lib.hid (HEz.out.carry hb)
      replace HEz2 := Lib.hid (HEz2.out.carry hb)
      replace HCc := Lib.hid (HCc.out.carry hb (by show 0 < 3; decide))
      replace HCd := Lib.hid (HCd.out.carry hb (by rw [HYL.out]; decide))
      replace HB := Lib.hid (HB.out.trans (hb.mono HB.out.size))
      clear hb
      go_wp2_with fail
      go_ret
      exact ⟨rfl, HB.out⟩
end Go.Proofs.YtjjlghdcpkkdhaaDoor
