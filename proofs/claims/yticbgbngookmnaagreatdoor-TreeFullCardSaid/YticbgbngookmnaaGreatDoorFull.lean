/-
  Proved: TreeFull, its tied card: for every size of disk and all lists of keys the law returns true, and the arguments read as before. Conditions: those of the given card (errors.errorType and crc.halved start as the program's text lays them).
-/
import Derived.Test.YticbgbngookmnaaGreatDoorCloseTwo
import Derived.Test.YticbgbngookmnaaGreatDoorOpen
import Derived.Test.YticbgbngookmnaaGreatDoorPgr
import Derived.Test.YticbgbngookmnaaGreatDoorTrFullWalk
namespace Go.Proofs.YticbgbngookmnaaGreatDoor
open Go.ChangeShapes Go.WideShapes Go.ChangeAt Go.RowKit

theorem ints_u8 {l : List Nat} (h : ∀ n ∈ l, n < 256) : ∀ u ∈ ints l, 0 ≤ u ∧ u < 256 := fun u hu => by
  unfold ints at hu
  obtain ⟨n, hn, rfl⟩ := List.mem_map.1 hu
  have := h n hn
  omega

set_option maxRecDepth 100000 in
theorem full_contract (H : Type) (enc : TypeId × Value → H) (W : World) (base : Nat) (args : Array Value) (ds gs : List (DataW H)) (before : List MemPlace)
    (hval : ∀ (j : Nat) t v, Tryz.f5.params[j]? = some t → args[j]? = some v → Value.okWide Tryz.prog W .any base t v)
    (hW : DataW.Whole enc Tryz.prog Tryz.f5.params.toList Rows.treeFullSpec.vars false W args.toList ds gs before) (hL : laidMetH Tryz.prog Rows.treeFullRow.laid W) :
    Calls Tryz.prog 5 args W fun e W' => ∃ v, e = .returned v ∧ Rows.treeFullSpec.post enc Tryz.prog Tryz.f5 false true false false W args v W' := by
  have hW' := hW
  obtain ⟨p, q, hA0, hV, rfl, hfz, hnd⟩ := hW
  have hA : DataW.TrodAll enc Tryz.prog W 0 (fun _ => true) true Tryz.f5.params.toList args.toList ds p := hA0
  rw [Tryz.params5] at hA hval
  obtain ⟨v0, vs0, d0, ds0, p0, q0, hargs0, rfl, rfl, h0, r0⟩ := trodAll_cons hA
  obtain ⟨v1, vs1, d1, ds1, p1, q1, hargs1, rfl, rfl, h1, r1⟩ := trodAll_cons r0
  obtain ⟨rfl, rfl, rfl⟩ := trodAll_nil r1
  obtain rfl : args = #[v0, v1] := by cases args; simp_all
  obtain ⟨rfl, rfl⟩ := trodVars_none hV
  obtain ⟨z0, rfl, hd0, hp0, hw0⟩ := open_int Tryz.underlying5 (hval 0 5 v0 rfl rfl) h0
  obtain ⟨n0, rfl, hn0⟩ := open_u8_nat hw0
  obtain ⟨A1, c1, z1, rfl, hz1, hzc1, hzm1, hwf1⟩ := open_nums Tryz.underlying52 Tryz.underlying5 (by kernel_rfl) (hval 1 52 v1 rfl rfl) h1
  obtain ⟨l1, rfl, hl1⟩ := nats_of (fun _ h => open_u8_nat h) z1 hwf1
  have hg : Laid2 W := laid_cell hL
  have walk : Calls Tryz.prog 5 #[.int .u8 (n0 : Int), .slice A1 (ints l1).length c1] W fun e w' => e = .returned (.bool true) ∧ Below W.heap.size W w' := by
    exact tfull_walk pgrSpec n0 hn0 (ints_u8 hl1) _ hz1 hg
  refine walk.mono fun e W' ⟨he, hb⟩ => ?_
  subst he
  exact ⟨_, rfl, law_post Tryz.laidOut (by kernel_rfl) rfl (r := 4) (by kernel_rfl) Tryz.underlying4 rfl hW' hb⟩

theorem full_reads (os : Os) {H : Type} (enc : TypeId × Value → H) : ∃ places, DataW.whole enc Tryz.prog ((laidWorld os).forCall (fun _ _ => 0) ⟨#[], #[.int .u8 0, .slice none 0 0], []⟩).memory Tryz.f5.params.toList Rows.treeFullSpec.vars false (#[.int .u8 0, .slice none 0 0] : Array Value).toList 8 = some ([.lit (.int .u8 0), .nil], [], places) :=
  ⟨[], by kernel_rfl⟩

set_option maxRecDepth 100000 in
theorem full_lifted (os : Os) (started : os.Started) (H : Type) (enc : TypeId × Value → H) (F : Stop.Interp) :
    ReturnsInHanded {} Tryz.checked os 5 .any ((OpenSpec.ofChange Rows.treeFullSpec).preRow enc Tryz.prog Tryz.f5 Rows.treeFullRow.domain false Rows.treeFullRow.laid) (((OpenSpec.ofChange Rows.treeFullSpec).at F).post enc Tryz.prog Tryz.f5 false true false false) := by
  obtain ⟨places, hx⟩ := full_reads os enc
  refine returnsInHanded_of_row (C := Tryz.checked) (s := (OpenSpec.ofChange Rows.treeFullSpec)) Tryz.own started (by kernel_rfl) Tryz.func5
    (witness_row_at (enc := enc) (C := Tryz.checked) false (laidWorld os) #[.int .u8 0, .slice none 0 0] rfl (by kernel_rfl) (by kernel_rfl) (by kernel_rfl)
      (OpenSpec.preRow_of_cond 8 hx (by kernel_rfl) (fun k hk => by cases hk) (by kernel_rfl) (laidWorld_met os _))) ?_
  intro W base args ds gs before hval hW _ _ _ hL _ _
  exact full_contract H enc W base args ds gs before hval hW hL

theorem full_said : Rows.TreeFullSaid :=
  OpenClaim.holds_of_cond 5 Tryz.f5 rfl rfl rfl rfl rfl rfl rfl ⟨rfl, rfl, rfl, rfl, rfl⟩ rfl rfl rfl rfl rfl (by kernel_rfl) Tryz.func5 (by kernel_rfl)
    (of_decide_eq_true (by kernel_rfl)) (by unfold Func.isWrapper; first | (rw [if_pos (by decide +kernel)]; kernel_rfl) | (rw [if_neg (by decide +kernel)]; exact ⟨rfl, rfl⟩))
    (fun os started H enc _ F => by rw [OpenClaim.pre_eq_preRow]; exact full_lifted os started H enc F)

theorem treeFull_holds : Rows.TreeFullCardSaid :=
  Claim7.holds_tied_plain_at .later [] _ _ _ _ full_said (fun _ h => by cases h) (by kernel_rfl) (fun _ h => by cases h) treeFull_row_tie rfl ⟨rfl, rfl⟩ (by kernel_rfl) rfl (plain_of (by kernel_rfl) Tryz.func5 (by kernel_rfl)) (by kernel_rfl)
#print axioms treeFull_holds
end Go.Proofs.YticbgbngookmnaaGreatDoor
