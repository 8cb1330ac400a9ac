/-
  Proved: SuperGreater, its tied card: for all two superblocks, every place and every byte the law returns true, and the arguments read as before. Conditions: those of the given card (errors.errorType and crc.halved start as the program's text lays them).
-/
import Derived.Test.YtaolkmlgdhnhaaaDoorCloseTwo
import Derived.Test.YtaolkmlgdhnhaaaDoorOpens
import Derived.Test.YtaolkmlgdhnhaaaDoorSbGreater
namespace Go.Proofs.YtaolkmlgdhnhaaaDoor
open Go.ChangeShapes Go.WideShapes Go.ChangeAt Go.RowKit

set_option maxRecDepth 100000 in
theorem greater_contract (H : Type) (enc : TypeId × Value → H) (W : World) (base : Nat) (args : Array Value) (ds gs : List (DataW H)) (before : List MemPlace)
    (hval : ∀ (j : Nat) t v, Tryd.f6.params[j]? = some t → args[j]? = some v → Value.okWide Tryd.prog W .any base t v)
    (hW : DataW.Whole enc Tryd.prog Tryd.f6.params.toList Rows.superGreaterSpec.vars false W args.toList ds gs before) (hL : laidMetH Tryd.prog Rows.superGreaterRow.laid W) :
    Calls Tryd.prog 6 args W fun e W' => ∃ v, e = .returned v ∧ Rows.superGreaterSpec.post enc Tryd.prog Tryd.f6 false true false false W args v W' := by
  have hW' := hW
  obtain ⟨p, q, hA0, hV, rfl, hfz, hnd⟩ := hW
  have hA : DataW.TrodAll enc Tryd.prog W 0 (fun _ => true) true Tryd.f6.params.toList args.toList ds p := hA0
  rw [Tryd.params6] at hA hval
  obtain ⟨v0, vs0, d0, ds0, p0, q0, hargs0, rfl, rfl, h0, r0⟩ := trodAll_cons hA
  obtain ⟨v1, vs1, d1, ds1, p1, q1, hargs1, rfl, rfl, h1, r1⟩ := trodAll_cons r0
  obtain ⟨v2, vs2, d2, ds2, p2, q2, hargs2, rfl, rfl, h2, r2⟩ := trodAll_cons r1
  obtain ⟨v3, vs3, d3, ds3, p3, q3, hargs3, rfl, rfl, h3, r3⟩ := trodAll_cons r2
  obtain ⟨rfl, rfl, rfl⟩ := trodAll_nil r3
  obtain rfl : args = #[v0, v1, v2, v3] := by cases args; simp_all
  obtain ⟨rfl, rfl⟩ := trodVars_none hV
  obtain ⟨s0, rfl, hs0, hr0⟩ := open_sb (hval 0 25 v0 rfl rfl) h0
  obtain ⟨s1, rfl, hs1, hr1⟩ := open_sb (hval 1 25 v1 rfl rfl) h1
  obtain ⟨z2, rfl, hd2, hp2, hw2⟩ := open_int Tryd.underlying5 (hval 2 5 v2 rfl rfl) h2
  obtain ⟨n2, rfl, hn2⟩ := open_u8_nat hw2
  obtain ⟨z3, rfl, hd3, hp3, hw3⟩ := open_int Tryd.underlying5 (hval 3 5 v3 rfl rfl) h3
  obtain ⟨n3, rfl, hn3⟩ := open_u8_nat hw3
  have hg : Laid2 W := laid_cell hL
  have walk : Calls Tryd.prog 6 #[sbV s0, sbV s1, .int .u8 (n2 : Int), .int .u8 (n3 : Int)] W fun e w' => e = .returned (.bool true) ∧ Below W.heap.size W w' := by
    exact greater_walk s0 s1 n2 n3 hs0 hs1 hr0 hr1 hn2 hn3 _ hg
  refine walk.mono fun e W' ⟨he, hb⟩ => ?_
  subst he
  exact ⟨_, rfl, law_post Tryd.laidOut (by kernel_rfl) rfl (r := 4) (by kernel_rfl) Tryd.underlying4 rfl hW' hb⟩

theorem greater_reads (os : Os) {H : Type} (enc : TypeId × Value → H) : ∃ places, DataW.whole enc Tryd.prog ((laidWorld os).forCall (fun _ _ => 0) ⟨#[], #[sbV Sb.zero, sbV Sb.zero, .int .u8 0, .int .u8 0], []⟩).memory Tryd.f6.params.toList Rows.superGreaterSpec.vars false (#[sbV Sb.zero, sbV Sb.zero, .int .u8 0, .int .u8 0] : Array Value).toList 8 = some ([.agg [.lit (.int .u32 0), .lit (.int .i64 0), .agg (List.replicate 30 (.lit (.int .u8 0)))], .agg [.lit (.int .u32 0), .lit (.int .i64 0), .agg (List.replicate 30 (.lit (.int .u8 0)))], .lit (.int .u8 0), .lit (.int .u8 0)], [], places) :=
  ⟨[], by kernel_rfl⟩

set_option maxRecDepth 100000 in
theorem greater_lifted (os : Os) (started : os.Started) (H : Type) (enc : TypeId × Value → H) (F : Stop.Interp) :
    ReturnsInHanded {} Tryd.checked os 6 .any ((OpenSpec.ofChange Rows.superGreaterSpec).preRow enc Tryd.prog Tryd.f6 Rows.superGreaterRow.domain false Rows.superGreaterRow.laid) (((OpenSpec.ofChange Rows.superGreaterSpec).at F).post enc Tryd.prog Tryd.f6 false true false false) := by
  obtain ⟨places, hx⟩ := greater_reads os enc
  refine returnsInHanded_of_row (C := Tryd.checked) (s := (OpenSpec.ofChange Rows.superGreaterSpec)) Tryd.own started (by kernel_rfl) Tryd.func6
    (witness_row_at (enc := enc) (C := Tryd.checked) false (laidWorld os) #[sbV Sb.zero, sbV Sb.zero, .int .u8 0, .int .u8 0] rfl (by kernel_rfl) (by kernel_rfl) (by kernel_rfl)
      (OpenSpec.preRow_of_cond 8 hx (by kernel_rfl) (fun k hk => by cases hk) (by kernel_rfl) (laidWorld_met os _))) ?_
  intro W base args ds gs before hval hW _ _ _ hL _ _
  exact greater_contract H enc W base args ds gs before hval hW hL

theorem greater_said : Rows.SuperGreaterSaid :=
  OpenClaim.holds_of_cond 6 Tryd.f6 rfl rfl rfl rfl rfl rfl rfl ⟨rfl, rfl, rfl, rfl, rfl⟩ rfl rfl rfl rfl rfl (by kernel_rfl) Tryd.func6 (by kernel_rfl)
    (of_decide_eq_true (by kernel_rfl)) (by unfold Func.isWrapper; first | (rw [if_pos (by decide +kernel)]; kernel_rfl) | (rw [if_neg (by decide +kernel)]; exact ⟨rfl, rfl⟩))
    (fun os started H enc _ F => by rw [OpenClaim.pre_eq_preRow]; exact greater_lifted os started H enc F)

theorem superGreater_holds : Rows.SuperGreaterCardSaid :=
  Claim7.holds_tied_plain_at .later [] _ _ _ _ greater_said (fun _ h => by cases h) (by kernel_rfl) (fun _ h => by cases h) superGreater_row_tie rfl ⟨rfl, rfl⟩ (by kernel_rfl) rfl (plain_of (by kernel_rfl) Tryd.func6 (by kernel_rfl)) (by kernel_rfl)
#print axioms superGreater_holds
end Go.Proofs.YtaolkmlgdhnhaaaDoor
