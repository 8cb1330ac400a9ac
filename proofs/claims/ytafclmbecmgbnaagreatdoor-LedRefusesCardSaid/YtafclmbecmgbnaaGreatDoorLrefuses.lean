/-
  Proved: LedRefuses, its tied card: for every act, every key and every text the law returns true, and the arguments read as before. Conditions: those of the given card (errors.errorType and crc.halved start as the program's text lays them).
-/
import Derived.Test.YtafclmbecmgbnaaGreatDoorCloseTwo
import Derived.Test.YtafclmbecmgbnaaGreatDoorLedRefusesWalk
namespace Go.Proofs.YtafclmbecmgbnaaGreatDoor
open Go.ChangeShapes Go.WideShapes Go.ChangeAt Go.RowKit
set_option maxRecDepth 100000 in
theorem ZS (H : Type) (enc : TypeId × Value → H) (W : World) (base : Nat) (args : Array Value) (ds gs : List (DataW H)) (before : List MemPlace)
  (hval : ∀ (j : Nat) t v, Tryz.f9.params[j]? = some t → args[j]? = some v → Value.okWide Tryz.prog W .any base t v)
  (hW : DataW.Whole enc Tryz.prog Tryz.f9.params.toList Rows.ledRefusesSpec.vars false W args.toList ds gs before) (hL : laidMetH Tryz.prog Rows.ledRefusesRow.laid W) :
  Calls Tryz.prog 9 args W fun e W' => ∃ v, e = .returned v ∧ Rows.ledRefusesSpec.post enc Tryz.prog Tryz.f9 false true false false W args v W' := by
 have hW' := hW
 obtain ⟨p, q, hA0, hV, rfl, hfz, hnd⟩ := hW
 have hA : DataW.TrodAll enc Tryz.prog W 0 (fun _ => true) true Tryz.f9.params.toList args.toList ds p := hA0
 rw [Tryz.params9] at hA hval
 obtain ⟨v0, vs0, d0, ds0, p0, q0, hargs0, rfl, rfl, h0, r0⟩ := trodAll_cons hA
 obtain ⟨v1, vs1, d1, ds1, p1, q1, hargs1, rfl, rfl, h1, r1⟩ := trodAll_cons r0
 obtain ⟨v2, vs2, d2, ds2, p2, q2, hargs2, rfl, rfl, h2, r2⟩ := trodAll_cons r1
 obtain ⟨rfl, rfl, rfl⟩ := trodAll_nil r2
 obtain rfl : args = #[v0, v1, v2] := by cases args; simp_all
 obtain ⟨rfl, rfl⟩ := trodVars_none hV
 obtain ⟨AK0, AN0, ck0, cn0, ks0, ns0, cr0, mask0, torn0, rfl, hk0, hn0, hkb0, hnb0, hm0, ht0⟩ := zbr (hval 0 78 v0 rfl rfl) h0
 obtain ⟨n1, rfl, hd1, hp1, hw1⟩ := open_int Tryz.underlying3 (hval 1 3 v1 rfl rfl) h1
 obtain ⟨s2, rfl, hd2, hp2, hw2⟩ := Go.ChangeMaps.open_string Tryz.underlying9 (hval 2 9 v2 rfl rfl) h2
 have hg : yO W := QG hL
 have walk : Calls Tryz.prog 9 #[zca AK0 AN0 ks0.length ck0 ns0.length cn0 cr0 (mask0 : Int) torn0, .int .i64 n1, .string s2] W fun e w' => e = .returned (.bool true) ∧ Below W.heap.size W w' := by
  exact XH zcx abD cr0 (mask0 : Int) torn0 n1 s2 hk0 hn0 rfl rfl hkb0 hg
 refine walk.mono fun e W' ⟨he, hb⟩ => ?_
 subst he
 exact ⟨_, rfl, za7 Tryz.laidOut (by kernel_rfl) rfl (r := 4) (by kernel_rfl) Tryz.underlying4 rfl hW' hb⟩
theorem XI (os : Os) {H : Type} (enc : TypeId × Value → H) : ∃ places, DataW.whole enc Tryz.prog ((Yj os).forCall (fun _ _ => 0) ⟨#[], #[.agg #[.slice none 0 0, .slice none 0 0, .bool false, .int .u32 0, .int .i64 0], .int .i64 0, .string ⟨#[]⟩], []⟩).memory Tryz.f9.params.toList Rows.ledRefusesSpec.vars false (#[.agg #[.slice none 0 0, .slice none 0 0, .bool false, .int .u32 0, .int .i64 0], .int .i64 0, .string ⟨#[]⟩] : Array Value).toList 8 = some ([.agg [.nil, .nil, .lit (.bool false), .lit (.int .u32 0), .lit (.int .i64 0)], .lit (.int .i64 0), .lit (.string [])], [], places) :=
 ⟨[], by kernel_rfl⟩
set_option maxRecDepth 100000 in
theorem YT (os : Os) (started : os.Started) (H : Type) (enc : TypeId × Value → H) (F : Stop.Interp) :
  ReturnsInHanded {} Tryz.checked os 9 .any ((OpenSpec.ofChange Rows.ledRefusesSpec).preRow enc Tryz.prog Tryz.f9 Rows.ledRefusesRow.domain false Rows.ledRefusesRow.laid) (((OpenSpec.ofChange Rows.ledRefusesSpec).at F).post enc Tryz.prog Tryz.f9 false true false false) := by
 obtain ⟨places, hx⟩ := XI os enc
 refine returnsInHanded_of_row (C := Tryz.checked) (s := (OpenSpec.ofChange Rows.ledRefusesSpec)) Tryz.own started (by kernel_rfl) Tryz.func9
  (witness_row_at (enc := enc) (C := Tryz.checked) false (Yj os) #[.agg #[.slice none 0 0, .slice none 0 0, .bool false, .int .u32 0, .int .i64 0], .int .i64 0, .string ⟨#[]⟩] rfl (by kernel_rfl) (by kernel_rfl) (by kernel_rfl)
   (OpenSpec.preRow_of_cond 8 hx (by kernel_rfl) (fun k hk => by cases hk) (by kernel_rfl) (Wg os _))) ?_
 intro W base args ds gs before hval hW _ _ _ hL _ _
 exact ZS H enc W base args ds gs before hval hW hL
theorem Wi : Rows.LedRefusesSaid :=
 OpenClaim.holds_of_cond 9 Tryz.f9 rfl rfl rfl rfl rfl rfl rfl ⟨rfl, rfl, rfl, rfl, rfl⟩ rfl rfl rfl rfl rfl (by kernel_rfl) Tryz.func9 (by kernel_rfl)
  (of_decide_eq_true (by kernel_rfl)) (by unfold Func.isWrapper; first | (rw [if_pos (by decide +kernel)]; kernel_rfl) | (rw [if_neg (by decide +kernel)]; exact ⟨rfl, rfl⟩))
  (fun os started H enc _ F => by rw [OpenClaim.pre_eq_preRow]; exact YT os started H enc F)
theorem ledRefuses_holds : Rows.LedRefusesCardSaid :=
 Claim7.holds_tied_plain_at .later [] _ _ _ _ Wi (fun _ h => by cases h) (by kernel_rfl) (fun _ h => by cases h) ledRefuses_row_tie rfl ⟨rfl, rfl⟩ (by kernel_rfl) rfl (zbv (by kernel_rfl) Tryz.func9 (by kernel_rfl)) (by kernel_rfl)
#print axioms ledRefuses_holds
end Go.Proofs.YtafclmbecmgbnaaGreatDoor
