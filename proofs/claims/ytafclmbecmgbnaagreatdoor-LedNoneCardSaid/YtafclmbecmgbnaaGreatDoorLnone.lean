/-
  Proved: LedNone, its tied card: for every act and every list of keys the law returns true, and the arguments read as before. Conditions: those of the given card (errors.errorType and crc.halved start as the program's text lays them).
-/
import Derived.Test.YtafclmbecmgbnaaGreatDoorCloseTwo
import Derived.Test.YtafclmbecmgbnaaGreatDoorLedNoneWalk
namespace Go.Proofs.YtafclmbecmgbnaaGreatDoor
open Go.ChangeShapes Go.WideShapes Go.ChangeAt Go.RowKit
set_option maxRecDepth 100000 in
theorem Xr (H : Type) (enc : TypeId × Value → H) (W : World) (base : Nat) (args : Array Value) (ds gs : List (DataW H)) (before : List MemPlace)
  (hval : ∀ (j : Nat) t v, Tryz.f12.params[j]? = some t → args[j]? = some v → Value.okWide Tryz.prog W .any base t v)
  (hW : DataW.Whole enc Tryz.prog Tryz.f12.params.toList Rows.ledNoneSpec.vars false W args.toList ds gs before) (hL : laidMetH Tryz.prog Rows.ledNoneRow.laid W) :
  Calls Tryz.prog 12 args W fun e W' => ∃ v, e = .returned v ∧ Rows.ledNoneSpec.post enc Tryz.prog Tryz.f12 false true false false W args v W' := by
 have hW' := hW
 obtain ⟨p, q, hA0, hV, rfl, hfz, hnd⟩ := hW
 have hA : DataW.TrodAll enc Tryz.prog W 0 (fun _ => true) true Tryz.f12.params.toList args.toList ds p := hA0
 rw [Tryz.params12] at hA hval
 obtain ⟨v0, vs0, d0, ds0, p0, q0, hargs0, rfl, rfl, h0, r0⟩ := trodAll_cons hA
 obtain ⟨v1, vs1, d1, ds1, p1, q1, hargs1, rfl, rfl, h1, r1⟩ := trodAll_cons r0
 obtain ⟨rfl, rfl, rfl⟩ := trodAll_nil r1
 obtain rfl : args = #[v0, v1] := by cases args; simp_all
 obtain ⟨rfl, rfl⟩ := trodVars_none hV
 obtain ⟨AK0, AN0, ck0, cn0, ks0, ns0, cr0, mask0, torn0, rfl, hk0, hn0, hkb0, hnb0, hm0, ht0⟩ := zbh (hval 0 78 v0 rfl rfl) h0
 obtain ⟨A1, c1, z1, rfl, hz1, hzc1, hzm1, hwf1⟩ := QD Tryz.underlying75 Tryz.underlying5 (by kernel_rfl) (hval 1 75 v1 rfl rfl) h1
 obtain ⟨l1, rfl, hl1⟩ := YR (fun _ h => Yy h) z1 hwf1
 have hg : yN W := Qs hL
 have walk : Calls Tryz.prog 12 #[zau AK0 AN0 ks0.length ck0 ns0.length cn0 cr0 (mask0 : Int) torn0, .slice A1 (vp l1).length c1] W fun e w' => e = .returned (.bool true) ∧ Below W.heap.size W w' := by
  rcases Nat.lt_or_ge 10 l1.length with h | h
  ·rw [show (vp l1).length = l1.length by simp [vp]]
   exact WV JJ abD h _ hg
  ·rw [show (vp l1).length = l1.length by simp [vp]]
   exact VD JJ abD cr0 (mask0 : Int) torn0 hk0 hn0 hz1 rfl rfl hkb0 hl1 h hg
 refine walk.mono fun e W' ⟨he, hb⟩ => ?_
 subst he
 exact ⟨_, rfl, zaY Tryz.laidOut (by kernel_rfl) rfl (r := 4) (by kernel_rfl) Tryz.underlying4 rfl hW' hb⟩
theorem VE (os : Os) {H : Type} (enc : TypeId × Value → H) : ∃ places, DataW.whole enc Tryz.prog ((Yc os).forCall (fun _ _ => 0) ⟨#[], #[.agg #[.slice none 0 0, .slice none 0 0, .bool false, .int .u32 0, .int .i64 0], .slice none 0 0], []⟩).memory Tryz.f12.params.toList Rows.ledNoneSpec.vars false (#[.agg #[.slice none 0 0, .slice none 0 0, .bool false, .int .u32 0, .int .i64 0], .slice none 0 0] : Array Value).toList 8 = some ([.agg [.nil, .nil, .lit (.bool false), .lit (.int .u32 0), .lit (.int .i64 0)], .nil], [], places) :=
 ⟨[], by kernel_rfl⟩
set_option maxRecDepth 100000 in
theorem WY (os : Os) (started : os.Started) (H : Type) (enc : TypeId × Value → H) (F : Stop.Interp) :
  ReturnsInHanded {} Tryz.checked os 12 .any ((OpenSpec.ofChange Rows.ledNoneSpec).preRow enc Tryz.prog Tryz.f12 Rows.ledNoneRow.domain false Rows.ledNoneRow.laid) (((OpenSpec.ofChange Rows.ledNoneSpec).at F).post enc Tryz.prog Tryz.f12 false true false false) := by
 obtain ⟨places, hx⟩ := VE os enc
 refine returnsInHanded_of_row (C := Tryz.checked) (s := (OpenSpec.ofChange Rows.ledNoneSpec)) Tryz.own started (by kernel_rfl) Tryz.func12
  (witness_row_at (enc := enc) (C := Tryz.checked) false (Yc os) #[.agg #[.slice none 0 0, .slice none 0 0, .bool false, .int .u32 0, .int .i64 0], .slice none 0 0] rfl (by kernel_rfl) (by kernel_rfl) (by kernel_rfl)
   (OpenSpec.preRow_of_cond 8 hx (by kernel_rfl) (fun k hk => by cases hk) (by kernel_rfl) (XY os _))) ?_
 intro W base args ds gs before hval hW _ _ _ hL _ _
 exact Xr H enc W base args ds gs before hval hW hL
theorem K3 : Rows.LedNoneSaid :=
 OpenClaim.holds_of_cond 12 Tryz.f12 rfl rfl rfl rfl rfl rfl rfl ⟨rfl, rfl, rfl, rfl, rfl⟩ rfl rfl rfl rfl rfl (by kernel_rfl) Tryz.func12 (by kernel_rfl)
  (of_decide_eq_true (by kernel_rfl)) (by unfold Func.isWrapper; first | (rw [if_pos (by decide +kernel)]; kernel_rfl) | (rw [if_neg (by decide +kernel)]; exact ⟨rfl, rfl⟩))
  (fun os started H enc _ F => by rw [OpenClaim.pre_eq_preRow]; exact WY os started H enc F)
theorem ledNone_holds : Rows.LedNoneCardSaid :=
 Claim7.holds_tied_plain_at .later [] _ _ _ _ K3 (fun _ h => by cases h) (by kernel_rfl) (fun _ h => by cases h) ledNone_row_tie rfl ⟨rfl, rfl⟩ (by kernel_rfl) rfl (zbl (by kernel_rfl) Tryz.func12 (by kernel_rfl)) (by kernel_rfl)
#print axioms ledNone_holds
end Go.Proofs.YtafclmbecmgbnaaGreatDoor
