/-
  Proved: SuperBest, its tied card: for all two sectors the law returns true, and the arguments read as before. Conditions: those of the given card (errors.errorType and crc.halved start as the program's text lays them).
-/
import Derived.Test.YtaolkmlgdhnhaaaDoorCloseTwo
import Derived.Test.YtaolkmlgdhnhaaaDoorOpens
import Derived.Test.YtaolkmlgdhnhaaaDoorSbBestWalk
namespace Go.Proofs.YtaolkmlgdhnhaaaDoor
open Go.ChangeShapes Go.WideShapes Go.ChangeAt Go.RowKit

set_option maxRecDepth 100000 in
theorem best_contract (H : Type) (enc : TypeId × Value → H) (W : World) (base : Nat) (args : Array Value) (ds gs : List (DataW H)) (before : List MemPlace)
    (hval : ∀ (j : Nat) t v, Tryd.f5.params[j]? = some t → args[j]? = some v → Value.okWide Tryd.prog W .any base t v)
    (hW : DataW.Whole enc Tryd.prog Tryd.f5.params.toList Rows.superBestSpec.vars false W args.toList ds gs before) (hL : laidMetH Tryd.prog Rows.superBestRow.laid W) :
    Calls Tryd.prog 5 args W fun e W' => ∃ v, e = .returned v ∧ Rows.superBestSpec.post enc Tryd.prog Tryd.f5 false true false false W args v W' := by
  have hW' := hW
  obtain ⟨p, q, hA0, hV, rfl, hfz, hnd⟩ := hW
  have hA : DataW.TrodAll enc Tryd.prog W 0 (fun _ => true) true Tryd.f5.params.toList args.toList ds p := hA0
  rw [Tryd.params5] at hA hval
  obtain ⟨v0, vs0, d0, ds0, p0, q0, hargs0, rfl, rfl, h0, r0⟩ := trodAll_cons hA
  obtain ⟨v1, vs1, d1, ds1, p1, q1, hargs1, rfl, rfl, h1, r1⟩ := trodAll_cons r0
  obtain ⟨rfl, rfl, rfl⟩ := trodAll_nil r1
  obtain rfl : args = #[v0, v1] := by cases args; simp_all
  obtain ⟨rfl, rfl⟩ := trodVars_none hV
  obtain ⟨n0, rfl, hn0⟩ := open_arr (hval 0 45 v0 rfl rfl) h0
  obtain ⟨n1, rfl, hn1⟩ := open_arr (hval 1 45 v1 rfl rfl) h1
  have hg : Laid2 W := laid_cell hL
  have walk : Calls Tryd.prog 5 #[pgV (pgB n0), pgV (pgB n1)] W fun e w' => e = .returned (.bool true) ∧ Below W.heap.size W w' := by
    exact best_walk n0 n1 hn0 hn1 _ hg
  refine walk.mono fun e W' ⟨he, hb⟩ => ?_
  subst he
  exact ⟨_, rfl, law_post Tryd.laidOut (by kernel_rfl) rfl (r := 4) (by kernel_rfl) Tryd.underlying4 rfl hW' hb⟩

theorem best_reads (os : Os) {H : Type} (enc : TypeId × Value → H) : ∃ places, DataW.whole enc Tryd.prog ((laidWorld os).forCall (fun _ _ => 0) ⟨#[], #[pgV zeroPg, pgV zeroPg], []⟩).memory Tryd.f5.params.toList Rows.superBestSpec.vars false (#[pgV zeroPg, pgV zeroPg] : Array Value).toList 8 = some ([.agg (List.replicate 128 (.lit (.int .u8 0))), .agg (List.replicate 128 (.lit (.int .u8 0)))], [], places) :=
  ⟨[], by kernel_rfl⟩

set_option maxRecDepth 100000 in
theorem best_lifted (os : Os) (started : os.Started) (H : Type) (enc : TypeId × Value → H) (F : Stop.Interp) :
    ReturnsInHanded {} Tryd.checked os 5 .any ((OpenSpec.ofChange Rows.superBestSpec).preRow enc Tryd.prog Tryd.f5 Rows.superBestRow.domain false Rows.superBestRow.laid) (((OpenSpec.ofChange Rows.superBestSpec).at F).post enc Tryd.prog Tryd.f5 false true false false) := by
  obtain ⟨places, hx⟩ := best_reads os enc
  refine returnsInHanded_of_row (C := Tryd.checked) (s := (OpenSpec.ofChange Rows.superBestSpec)) Tryd.own started (by kernel_rfl) Tryd.func5
    (witness_row_at (enc := enc) (C := Tryd.checked) false (laidWorld os) #[pgV zeroPg, pgV zeroPg] rfl (by kernel_rfl) (by kernel_rfl) (by kernel_rfl)
      (OpenSpec.preRow_of_cond 8 hx (by kernel_rfl) (fun k hk => by cases hk) (by kernel_rfl) (laidWorld_met os _))) ?_
  intro W base args ds gs before hval hW _ _ _ hL _ _
  exact best_contract H enc W base args ds gs before hval hW hL

theorem best_said : Rows.SuperBestSaid :=
  OpenClaim.holds_of_cond 5 Tryd.f5 rfl rfl rfl rfl rfl rfl rfl ⟨rfl, rfl, rfl, rfl, rfl⟩ rfl rfl rfl rfl rfl (by kernel_rfl) Tryd.func5 (by kernel_rfl)
    (of_decide_eq_true (by kernel_rfl)) (by unfold Func.isWrapper; first | (rw [if_pos (by decide +kernel)]; kernel_rfl) | (rw [if_neg (by decide +kernel)]; exact ⟨rfl, rfl⟩))
    (fun os started H enc _ F => by rw [OpenClaim.pre_eq_preRow]; exact best_lifted os started H enc F)

theorem superBest_holds : Rows.SuperBestCardSaid :=
  Claim7.holds_tied_plain_at .later [] _ _ _ _ best_said (fun _ h => by cases h) (by kernel_rfl) (fun _ h => by cases h) superBest_row_tie rfl ⟨rfl, rfl⟩ (by kernel_rfl) rfl (plain_of (by kernel_rfl) Tryd.func5 (by kernel_rfl)) (by kernel_rfl)
#print axioms superBest_holds
end Go.Proofs.YtaolkmlgdhnhaaaDoor
