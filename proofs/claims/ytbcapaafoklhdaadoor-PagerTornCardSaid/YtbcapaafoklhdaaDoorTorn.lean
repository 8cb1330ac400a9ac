/-
  Proved: PagerTorn, its tied card: for all two texts, every choice of writes, every number of bytes and either time the law returns true, and the arguments read as before. Conditions: those of the given card (errors.errorType and crc.halved start as the program's text lays them).
-/
import Derived.Test.YtbcapaafoklhdaaDoorCloseTwo
import Derived.Test.YtbcapaafoklhdaaDoorOpens
import Derived.Test.YtbcapaafoklhdaaDoorPgr
import Derived.Test.YtbcapaafoklhdaaDoorPgTorn
namespace Go.Proofs.YtbcapaafoklhdaaDoor
open Go.ChangeShapes Go.WideShapes Go.ChangeAt Go.RowKit

set_option maxRecDepth 100000 in
theorem torn_contract (H : Type) (enc : TypeId × Value → H) (W : World) (base : Nat) (args : Array Value) (ds gs : List (DataW H)) (before : List MemPlace)
    (hval : ∀ (j : Nat) t v, Tryd.f4.params[j]? = some t → args[j]? = some v → Value.okWide Tryd.prog W .any base t v)
    (hW : DataW.Whole enc Tryd.prog Tryd.f4.params.toList Rows.pagerTornSpec.vars false W args.toList ds gs before) (hL : laidMetH Tryd.prog Rows.pagerTornRow.laid W) :
    Calls Tryd.prog 4 args W fun e W' => ∃ v, e = .returned v ∧ Rows.pagerTornSpec.post enc Tryd.prog Tryd.f4 false true false false W args v W' := by
  have hW' := hW
  obtain ⟨p, q, hA0, hV, rfl, hfz, hnd⟩ := hW
  have hA : DataW.TrodAll enc Tryd.prog W 0 (fun _ => true) true Tryd.f4.params.toList args.toList ds p := hA0
  rw [Tryd.params4] at hA hval
  obtain ⟨v0, vs0, d0, ds0, p0, q0, hargs0, rfl, rfl, h0, r0⟩ := trodAll_cons hA
  obtain ⟨v1, vs1, d1, ds1, p1, q1, hargs1, rfl, rfl, h1, r1⟩ := trodAll_cons r0
  obtain ⟨v2, vs2, d2, ds2, p2, q2, hargs2, rfl, rfl, h2, r2⟩ := trodAll_cons r1
  obtain ⟨v3, vs3, d3, ds3, p3, q3, hargs3, rfl, rfl, h3, r3⟩ := trodAll_cons r2
  obtain ⟨v4, vs4, d4, ds4, p4, q4, hargs4, rfl, rfl, h4, r4⟩ := trodAll_cons r3
  obtain ⟨rfl, rfl, rfl⟩ := trodAll_nil r4
  obtain rfl : args = #[v0, v1, v2, v3, v4] := by cases args; simp_all
  obtain ⟨rfl, rfl⟩ := trodVars_none hV
  obtain ⟨s0, rfl, hd0, hp0, hw0⟩ := Go.ChangeMaps.open_string Tryd.underlying9 (hval 0 9 v0 rfl rfl) h0
  obtain ⟨s1, rfl, hd1, hp1, hw1⟩ := Go.ChangeMaps.open_string Tryd.underlying9 (hval 1 9 v1 rfl rfl) h1
  obtain ⟨z2, rfl, hd2, hp2, hw2⟩ := open_int Tryd.underlying35 (hval 2 35 v2 rfl rfl) h2
  obtain ⟨n2, rfl, hn2⟩ := open_u32_nat hw2
  obtain ⟨n3, rfl, hd3, hp3, hw3⟩ := open_int Tryd.underlying3 (hval 3 3 v3 rfl rfl) h3
  obtain ⟨n4, rfl, hd4, hp4⟩ := Go.RowKit.open_bool Tryd.underlying4 (hval 4 4 v4 rfl rfl) h4
  have hg : Laid2 W := laid_cell hL
  have walk : Calls Tryd.prog 4 #[.string s0, .string s1, .int .u32 (n2 : Int), .int .i64 n3, .bool n4] W fun e w' => e = .returned (.bool true) ∧ Below W.heap.size W w' := by
    exact ptorn_walk pgrSpec s0 s1 n2 n3 n4 hn2 (open_i64_bounds hw3).2 _ hg
  refine walk.mono fun e W' ⟨he, hb⟩ => ?_
  subst he
  exact ⟨_, rfl, law_post Tryd.laidOut (by kernel_rfl) rfl (r := 4) (by kernel_rfl) Tryd.underlying4 rfl hW' hb⟩

theorem torn_reads (os : Os) {H : Type} (enc : TypeId × Value → H) : ∃ places, DataW.whole enc Tryd.prog ((laidWorld os).forCall (fun _ _ => 0) ⟨#[], #[.string ⟨#[]⟩, .string ⟨#[]⟩, .int .u32 0, .int .i64 0, .bool false], []⟩).memory Tryd.f4.params.toList Rows.pagerTornSpec.vars false (#[.string ⟨#[]⟩, .string ⟨#[]⟩, .int .u32 0, .int .i64 0, .bool false] : Array Value).toList 8 = some ([.lit (.string []), .lit (.string []), .lit (.int .u32 0), .lit (.int .i64 0), .lit (.bool false)], [], places) :=
  ⟨[], by kernel_rfl⟩

set_option maxRecDepth 100000 in
theorem torn_lifted (os : Os) (started : os.Started) (H : Type) (enc : TypeId × Value → H) (F : Stop.Interp) :
    ReturnsInHanded {} Tryd.checked os 4 .any ((OpenSpec.ofChange Rows.pagerTornSpec).preRow enc Tryd.prog Tryd.f4 Rows.pagerTornRow.domain false Rows.pagerTornRow.laid) (((OpenSpec.ofChange Rows.pagerTornSpec).at F).post enc Tryd.prog Tryd.f4 false true false false) := by
  obtain ⟨places, hx⟩ := torn_reads os enc
  refine returnsInHanded_of_row (C := Tryd.checked) (s := (OpenSpec.ofChange Rows.pagerTornSpec)) Tryd.own started (by kernel_rfl) Tryd.func4
    (witness_row_at (enc := enc) (C := Tryd.checked) false (laidWorld os) #[.string ⟨#[]⟩, .string ⟨#[]⟩, .int .u32 0, .int .i64 0, .bool false] rfl (by kernel_rfl) (by kernel_rfl) (by kernel_rfl)
      (OpenSpec.preRow_of_cond 8 hx (by kernel_rfl) (fun k hk => by cases hk) (by kernel_rfl) (laidWorld_met os _))) ?_
  intro W base args ds gs before hval hW _ _ _ hL _ _
  exact torn_contract H enc W base args ds gs before hval hW hL

theorem torn_said : Rows.PagerTornSaid :=
  OpenClaim.holds_of_cond 4 Tryd.f4 rfl rfl rfl rfl rfl rfl rfl ⟨rfl, rfl, rfl, rfl, rfl⟩ rfl rfl rfl rfl rfl (by kernel_rfl) Tryd.func4 (by kernel_rfl)
    (of_decide_eq_true (by kernel_rfl)) (by unfold Func.isWrapper; first | (rw [if_pos (by decide +kernel)]; kernel_rfl) | (rw [if_neg (by decide +kernel)]; exact ⟨rfl, rfl⟩))
    (fun os started H enc _ F => by rw [OpenClaim.pre_eq_preRow]; exact torn_lifted os started H enc F)

theorem pagerTorn_holds : Rows.PagerTornCardSaid :=
  Claim7.holds_tied_plain_at .later [] _ _ _ _ torn_said (fun _ h => by cases h) (by kernel_rfl) (fun _ h => by cases h) pagerTorn_row_tie rfl ⟨rfl, rfl⟩ (by kernel_rfl) rfl (plain_of (by kernel_rfl) Tryd.func4 (by kernel_rfl)) (by kernel_rfl)
#print axioms pagerTorn_holds
end Go.Proofs.YtbcapaafoklhdaaDoor
