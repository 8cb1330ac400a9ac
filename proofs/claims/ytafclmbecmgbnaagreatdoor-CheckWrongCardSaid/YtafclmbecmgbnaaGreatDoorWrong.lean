/-
  Proved: CheckWrong, its tied card: for all four numbers the law returns true, and the arguments read as before. Conditions: those of the given card (errors.errorType and crc.halved start as the program's text lays them).
-/
import Derived.Test.YtafclmbecmgbnaaGreatDoorCloseTwo
import Derived.Test.YtafclmbecmgbnaaGreatDoorOpen
import Derived.Test.YtafclmbecmgbnaaGreatDoorPgr
import Derived.Test.YtafclmbecmgbnaaGreatDoorChkSoundNil
namespace Go.Proofs.YtafclmbecmgbnaaGreatDoor
open Go.ChangeShapes Go.WideShapes Go.ChangeAt Go.RowKit
set_option maxRecDepth 100000 in
theorem wrong_contract (H : Type) (enc : TypeId × Value → H) (W : World) (base : Nat) (args : Array Value) (ds gs : List (DataW H)) (before : List MemPlace)
  (hval : ∀ (j : Nat) t v, Tryz.f4.params[j]? = some t → args[j]? = some v → Value.okWide Tryz.prog W .any base t v)
  (hW : DataW.Whole enc Tryz.prog Tryz.f4.params.toList Rows.checkWrongSpec.vars false W args.toList ds gs before) (hL : laidMetH Tryz.prog Rows.checkWrongRow.laid W) :
  Calls Tryz.prog 4 args W fun e W' => ∃ v, e = .returned v ∧ Rows.checkWrongSpec.post enc Tryz.prog Tryz.f4 false true false false W args v W' := by
 have hW' := hW
 obtain ⟨p, q, hA0, hV, rfl, hfz, hnd⟩ := hW
 have hA : DataW.TrodAll enc Tryz.prog W 0 (fun _ => true) true Tryz.f4.params.toList args.toList ds p := hA0
 rw [Tryz.params4] at hA hval
 obtain ⟨v0, vs0, d0, ds0, p0, q0, hargs0, rfl, rfl, h0, r0⟩ := trodAll_cons hA
 obtain ⟨v1, vs1, d1, ds1, p1, q1, hargs1, rfl, rfl, h1, r1⟩ := trodAll_cons r0
 obtain ⟨v2, vs2, d2, ds2, p2, q2, hargs2, rfl, rfl, h2, r2⟩ := trodAll_cons r1
 obtain ⟨v3, vs3, d3, ds3, p3, q3, hargs3, rfl, rfl, h3, r3⟩ := trodAll_cons r2
 obtain ⟨rfl, rfl, rfl⟩ := trodAll_nil r3
 obtain rfl : args = #[v0, v1, v2, v3] := by cases args; simp_all
 obtain ⟨rfl, rfl⟩ := trodVars_none hV
 obtain ⟨z0, rfl, hd0, hp0, hw0⟩ := open_int Tryz.underlying5 (hval 0 5 v0 rfl rfl) h0
 obtain ⟨n0, rfl, hn0⟩ := open_u8_nat hw0
 obtain ⟨z1, rfl, hd1, hp1, hw1⟩ := open_int Tryz.underlying5 (hval 1 5 v1 rfl rfl) h1
 obtain ⟨n1, rfl, hn1⟩ := open_u8_nat hw1
 obtain ⟨z2, rfl, hd2, hp2, hw2⟩ := open_int Tryz.underlying5 (hval 2 5 v2 rfl rfl) h2
 obtain ⟨n2, rfl, hn2⟩ := open_u8_nat hw2
 obtain ⟨z3, rfl, hd3, hp3, hw3⟩ := open_int Tryz.underlying5 (hval 3 5 v3 rfl rfl) h3
 obtain ⟨n3, rfl, hn3⟩ := open_u8_nat hw3
 have hg : Laid2 W := laid_cell hL
 have walk : Calls Tryz.prog 4 #[.int .u8 (n0 : Int), .int .u8 (n1 : Int), .int .u8 (n2 : Int), .int .u8 (n3 : Int)] W fun e w' => e = .returned (.bool true) ∧ Below W.heap.size W w' := by
  exact chkWrong_walk pgrSpec n0 n1 n2 n3 hn0 hn1 hn2 hn3 _ hg
 refine walk.mono fun e W' ⟨he, hb⟩ => ?_
 subst he
 exact ⟨_, rfl, law_post Tryz.laidOut (by kernel_rfl) rfl (r := 4) (by kernel_rfl) Tryz.underlying4 rfl hW' hb⟩
theorem wrong_reads (os : Os) {H : Type} (enc : TypeId × Value → H) : ∃ places, DataW.whole enc Tryz.prog ((laidWorld os).forCall (fun _ _ => 0) ⟨#[], #[.int .u8 0, .int .u8 0, .int .u8 0, .int .u8 0], []⟩).memory Tryz.f4.params.toList Rows.checkWrongSpec.vars false (#[.int .u8 0, .int .u8 0, .int .u8 0, .int .u8 0] : Array Value).toList 8 = some ([.lit (.int .u8 0), .lit (.int .u8 0), .lit (.int .u8 0), .lit (.int .u8 0)], [], places) :=
 ⟨[], by kernel_rfl⟩
set_option maxRecDepth 100000 in
theorem wrong_lifted (os : Os) (started : os.Started) (H : Type) (enc : TypeId × Value → H) (F : Stop.Interp) :
  ReturnsInHanded {} Tryz.checked os 4 .any ((OpenSpec.ofChange Rows.checkWrongSpec).preRow enc Tryz.prog Tryz.f4 Rows.checkWrongRow.domain false Rows.checkWrongRow.laid) (((OpenSpec.ofChange Rows.checkWrongSpec).at F).post enc Tryz.prog Tryz.f4 false true false false) := by
 obtain ⟨places, hx⟩ := wrong_reads os enc
 refine returnsInHanded_of_row (C := Tryz.checked) (s := (OpenSpec.ofChange Rows.checkWrongSpec)) Tryz.own started (by kernel_rfl) Tryz.func4
  (witness_row_at (enc := enc) (C := Tryz.checked) false (laidWorld os) #[.int .u8 0, .int .u8 0, .int .u8 0, .int .u8 0] rfl (by kernel_rfl) (by kernel_rfl) (by kernel_rfl)
   (OpenSpec.preRow_of_cond 8 hx (by kernel_rfl) (fun k hk => by cases hk) (by kernel_rfl) (laidWorld_met os _))) ?_
 intro W base args ds gs before hval hW _ _ _ hL _ _
 exact wrong_contract H enc W base args ds gs before hval hW hL
theorem wrong_said : Rows.CheckWrongSaid :=
 OpenClaim.holds_of_cond 4 Tryz.f4 rfl rfl rfl rfl rfl rfl rfl ⟨rfl, rfl, rfl, rfl, rfl⟩ rfl rfl rfl rfl rfl (by kernel_rfl) Tryz.func4 (by kernel_rfl)
  (of_decide_eq_true (by kernel_rfl)) (by unfold Func.isWrapper; first | (rw [if_pos (by decide +kernel)]; kernel_rfl) | (rw [if_neg (by decide +kernel)]; exact ⟨rfl, rfl⟩))
  (fun os started H enc _ F => by rw [OpenClaim.pre_eq_preRow]; exact wrong_lifted os started H enc F)
theorem checkWrong_holds : Rows.CheckWrongCardSaid :=
 Claim7.holds_tied_plain_at .later [] _ _ _ _ wrong_said (fun _ h => by cases h) (by kernel_rfl) (fun _ h => by cases h) checkWrong_row_tie rfl ⟨rfl, rfl⟩ (by kernel_rfl) rfl (plain_of (by kernel_rfl) Tryz.func4 (by kernel_rfl)) (by kernel_rfl)
#print axioms checkWrong_holds
end Go.Proofs.YtafclmbecmgbnaaGreatDoor
