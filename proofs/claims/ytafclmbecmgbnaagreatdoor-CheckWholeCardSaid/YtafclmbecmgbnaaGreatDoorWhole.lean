/-
  Proved: CheckWhole, its tied card: for all lists of acts, every mask and every number torn the law returns true, and the arguments read as before. Conditions: those of the given card (errors.errorType and crc.halved start as the program's text lays them).
-/
import Derived.Test.YtafclmbecmgbnaaGreatDoorCloseTwo
import Derived.Test.YtafclmbecmgbnaaGreatDoorPgr
import Derived.Test.YtafclmbecmgbnaaGreatDoorChkWholeWalk
namespace Go.Proofs.YtafclmbecmgbnaaGreatDoor
open Go.ChangeShapes Go.WideShapes Go.ChangeAt Go.RowKit
set_option maxRecDepth 100000 in
theorem Wb (H : Type) (enc : TypeId × Value → H) (W : World) (base : Nat) (args : Array Value) (ds gs : List (DataW H)) (before : List MemPlace)
  (hval : ∀ (j : Nat) t v, Tryz.f3.params[j]? = some t → args[j]? = some v → Value.okWide Tryz.prog W .any base t v)
  (hW : DataW.Whole enc Tryz.prog Tryz.f3.params.toList Rows.checkWholeSpec.vars false W args.toList ds gs before) (hL : laidMetH Tryz.prog Rows.checkWholeRow.laid W) :
  Calls Tryz.prog 3 args W fun e W' => ∃ v, e = .returned v ∧ Rows.checkWholeSpec.post enc Tryz.prog Tryz.f3 false true false false W args v W' := by
 have hW' := hW
 obtain ⟨p, q, hA0, hV, rfl, hfz, hnd⟩ := hW
 have hA : DataW.TrodAll enc Tryz.prog W 0 (fun _ => true) true Tryz.f3.params.toList args.toList ds p := hA0
 rw [Tryz.params3] at hA hval
 obtain ⟨v0, vs0, d0, ds0, p0, q0, hargs0, rfl, rfl, h0, r0⟩ := trodAll_cons hA
 obtain ⟨v1, vs1, d1, ds1, p1, q1, hargs1, rfl, rfl, h1, r1⟩ := trodAll_cons r0
 obtain ⟨v2, vs2, d2, ds2, p2, q2, hargs2, rfl, rfl, h2, r2⟩ := trodAll_cons r1
 obtain ⟨rfl, rfl, rfl⟩ := trodAll_nil r2
 obtain rfl : args = #[v0, v1, v2] := by cases args; simp_all
 obtain ⟨rfl, rfl⟩ := trodVars_none hV
 obtain ⟨A0, c0, l0, rfl, ha0, hk0, hlc0, hmc0⟩ := zbV (hval 0 22 v0 rfl rfl) h0
 obtain ⟨z1, rfl, hd1, hp1, hw1⟩ := open_int Tryz.underlying23 (hval 1 23 v1 rfl rfl) h1
 obtain ⟨n1, rfl, hn1⟩ := Z1 hw1
 obtain ⟨n2, rfl, hd2, hp2, hw2⟩ := open_int Tryz.underlying3 (hval 2 3 v2 rfl rfl) h2
 have hg : yH W := Q4 hL
 have walk : Calls Tryz.prog 3 #[.slice A0 l0.length c0, .int .u32 (n1 : Int), .int .i64 n2] W fun e w' => e = .returned (.bool true) ∧ Below W.heap.size W w' := by
  exact Wn zc2 n1 n2 hk0 hn1 (Y3 hw2).2 _ ha0 hg
 refine walk.mono fun e W' ⟨he, hb⟩ => ?_
 subst he
 exact ⟨_, rfl, zbz Tryz.laidOut (by kernel_rfl) rfl (r := 4) (by kernel_rfl) Tryz.underlying4 rfl hW' hb⟩
theorem KM (os : Os) {H : Type} (enc : TypeId × Value → H) : ∃ places, DataW.whole enc Tryz.prog ((Yq os).forCall (fun _ _ => 0) ⟨#[], #[.slice none 0 0, .int .u32 0, .int .i64 0], []⟩).memory Tryz.f3.params.toList Rows.checkWholeSpec.vars false (#[.slice none 0 0, .int .u32 0, .int .i64 0] : Array Value).toList 8 = some ([.nil, .lit (.int .u32 0), .lit (.int .i64 0)], [], places) :=
 ⟨[], by kernel_rfl⟩
set_option maxRecDepth 100000 in
theorem VG (os : Os) (started : os.Started) (H : Type) (enc : TypeId × Value → H) (F : Stop.Interp) :
  ReturnsInHanded {} Tryz.checked os 3 .any ((OpenSpec.ofChange Rows.checkWholeSpec).preRow enc Tryz.prog Tryz.f3 Rows.checkWholeRow.domain false Rows.checkWholeRow.laid) (((OpenSpec.ofChange Rows.checkWholeSpec).at F).post enc Tryz.prog Tryz.f3 false true false false) := by
 obtain ⟨places, hx⟩ := KM os enc
 refine returnsInHanded_of_row (C := Tryz.checked) (s := (OpenSpec.ofChange Rows.checkWholeSpec)) Tryz.own started (by kernel_rfl) Tryz.func3
  (witness_row_at (enc := enc) (C := Tryz.checked) false (Yq os) #[.slice none 0 0, .int .u32 0, .int .i64 0] rfl (by kernel_rfl) (by kernel_rfl) (by kernel_rfl)
   (OpenSpec.preRow_of_cond 8 hx (by kernel_rfl) (fun k hk => by cases hk) (by kernel_rfl) (Ws os _))) ?_
 intro W base args ds gs before hval hW _ _ _ hL _ _
 exact Wb H enc W base args ds gs before hval hW hL
theorem J8 : Rows.CheckWholeSaid :=
 OpenClaim.holds_of_cond 3 Tryz.f3 rfl rfl rfl rfl rfl rfl rfl ⟨rfl, rfl, rfl, rfl, rfl⟩ rfl rfl rfl rfl rfl (by kernel_rfl) Tryz.func3 (by kernel_rfl)
  (of_decide_eq_true (by kernel_rfl)) (by unfold Func.isWrapper; first | (rw [if_pos (by decide +kernel)]; kernel_rfl) | (rw [if_neg (by decide +kernel)]; exact ⟨rfl, rfl⟩))
  (fun os started H enc _ F => by rw [OpenClaim.pre_eq_preRow]; exact VG os started H enc F)
theorem checkWhole_holds : Rows.CheckWholeCardSaid :=
 Claim7.holds_tied_plain_at .later [] _ _ _ _ J8 (fun _ h => by cases h) (by kernel_rfl) (fun _ h => by cases h) checkWhole_row_tie rfl ⟨rfl, rfl⟩ (by kernel_rfl) rfl (zbY (by kernel_rfl) Tryz.func3 (by kernel_rfl)) (by kernel_rfl)
#print axioms checkWhole_holds
end Go.Proofs.YtafclmbecmgbnaaGreatDoor
