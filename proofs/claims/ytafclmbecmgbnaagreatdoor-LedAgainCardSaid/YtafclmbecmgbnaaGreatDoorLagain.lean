/-
  Proved: LedAgain, its tied card: for every list of acts the law returns true, and the argument reads as before. Conditions: those of the given card (errors.errorType and crc.halved start as the program's text lays them).
-/
import Derived.Test.YtafclmbecmgbnaaGreatDoorCloseTwo
import Derived.Test.YtafclmbecmgbnaaGreatDoorLedAgainWalk
namespace Go.Proofs.YtafclmbecmgbnaaGreatDoor
open Go.ChangeShapes Go.WideShapes Go.ChangeAt Go.RowKit
set_option maxRecDepth 100000 in
theorem Xg (H:Type) (enc:TypeId × Value → H) (W:World) (base:Nat) (args:Array Value) (ds gs:List (DataW H)) (before:List MemPlace)
  (hval:∀ (j:Nat) t v,Tryz.f11.params[j]? = some t → args[j]? = some v → Value.okWide Tryz.prog W .any base t v)
  (hW:DataW.Whole enc Tryz.prog Tryz.f11.params.toList Rows.ledAgainSpec.vars false W args.toList ds gs before) (hL:laidMetH Tryz.prog Rows.ledAgainRow.laid W) :
  Calls Tryz.prog 11 args W fun e W'=>∃ v,e = .returned v ∧ Rows.ledAgainSpec.post enc Tryz.prog Tryz.f11 false true false false W args v W':=by
 have hW':=hW
 obtain ⟨p,q,hA0,hV,rfl,hfz,hnd⟩:=hW
 have hA:DataW.TrodAll enc Tryz.prog W 0 (fun _=>true) true Tryz.f11.params.toList args.toList ds p:=hA0
 rw [Tryz.params11] at hA hval
 obtain ⟨v0,vs0,d0,ds0,p0,q0,hargs0,rfl,rfl,h0,r0⟩:=trodAll_cons hA
 obtain ⟨rfl,rfl,rfl⟩:=trodAll_nil r0
 obtain rfl:args = #[v0]:=by cases args; simp_all
 obtain ⟨rfl,rfl⟩:=trodVars_none hV
 obtain ⟨A0,c0,l0,rfl,ha0,hlc0,hmc0⟩:=J8 (hval 0 67 v0 rfl rfl) h0
 have hg:yC W:=zaC hL
 have walk:Calls Tryz.prog 11 #[.slice A0 l0.length c0] W fun e w'=>e = .returned (.bool true) ∧ Below W.heap.size W w':=by
  exact VJ zdP abD ha0 rfl hg
 refine walk.mono fun e W' ⟨he,hb⟩=>?_
 subst he
 exact ⟨_,rfl,zce Tryz.laidOut (by kernel_rfl) rfl (r:=4) (by kernel_rfl) Tryz.underlying4 rfl hW' hb⟩
theorem VH (os:Os) {H:Type} (enc:TypeId × Value → H):∃ places,DataW.whole enc Tryz.prog ((YF os).forCall (fun _ _=>0) ⟨#[],#[.slice none 0 0],[]⟩).memory Tryz.f11.params.toList Rows.ledAgainSpec.vars false (#[.slice none 0 0]:Array Value).toList 8 = some ([.nil],[],places) :=
 ⟨[],by kernel_rfl⟩
set_option maxRecDepth 100000 in
theorem WD (os:Os) (started:os.Started) (H:Type) (enc:TypeId × Value → H) (F:Stop.Interp) :
  ReturnsInHanded {} Tryz.checked os 11 .any ((OpenSpec.ofChange Rows.ledAgainSpec).preRow enc Tryz.prog Tryz.f11 Rows.ledAgainRow.domain false Rows.ledAgainRow.laid) (((OpenSpec.ofChange Rows.ledAgainSpec).at F).post enc Tryz.prog Tryz.f11 false true false false):=by
 obtain ⟨places,hx⟩:=VH os enc
 refine returnsInHanded_of_row (C:=Tryz.checked) (s:=(OpenSpec.ofChange Rows.ledAgainSpec)) Tryz.own started (by kernel_rfl) Tryz.func11
  (witness_row_at (enc:=enc) (C:=Tryz.checked) false (YF os) #[.slice none 0 0] rfl (by kernel_rfl) (by kernel_rfl) (by kernel_rfl)
   (OpenSpec.preRow_of_cond 8 hx (by kernel_rfl) (fun k hk=>by cases hk) (by kernel_rfl) (WE os _))) ?_
 intro W base args ds gs before hval hW _ _ _ hL _ _
 exact Xg H enc W base args ds gs before hval hW hL
theorem Ky:Rows.LedAgainSaid :=
 OpenClaim.holds_of_cond 11 Tryz.f11 rfl rfl rfl rfl rfl rfl rfl ⟨rfl,rfl,rfl,rfl,rfl⟩ rfl rfl rfl rfl rfl (by kernel_rfl) Tryz.func11 (by kernel_rfl)
  (of_decide_eq_true (by kernel_rfl)) (by unfold Func.isWrapper; first | (rw [if_pos (by decide +kernel)]; kernel_rfl) | (rw [if_neg (by decide +kernel)]; exact ⟨rfl,rfl⟩))
  (fun os started H enc _ F=>by rw [OpenClaim.pre_eq_preRow]; exact WD os started H enc F)
theorem ledAgain_holds:Rows.LedAgainCardSaid :=
 Claim7.holds_tied_plain_at .later [] _ _ _ _ Ky (fun _ h=>by cases h) (by kernel_rfl) (fun _ h=>by cases h) ledAgain_row_tie rfl ⟨rfl,rfl⟩ (by kernel_rfl) rfl (zcE (by kernel_rfl) Tryz.func11 (by kernel_rfl)) (by kernel_rfl)
#print axioms ledAgain_holds
end Go.Proofs.YtafclmbecmgbnaaGreatDoor
