/-
  Proved: LedTorn, its tied card: for every two acts, every mask and every number the law returns true, and the arguments read as before. Conditions: those of the given card (errors.errorType and crc.halved start as the program's text lays them).
-/
import Derived.Test.YtafclmbecmgbnaaGreatDoorCloseTwo
import Derived.Test.YtafclmbecmgbnaaGreatDoorLedTornWalk
namespace Go.Proofs.YtafclmbecmgbnaaGreatDoor
open Go.ChangeShapes Go.WideShapes Go.ChangeAt Go.RowKit
set_option maxRecDepth 100000 in
theorem WB (H:Type) (enc:TypeId × Value → H) (W:World) (base:Nat) (args:Array Value) (ds gs:List (DataW H)) (before:List MemPlace)
  (hval:∀ (j:Nat) t v,Tryz.f8.params[j]? = some t → args[j]? = some v → Value.okWide Tryz.prog W .any base t v)
  (hW:DataW.Whole enc Tryz.prog Tryz.f8.params.toList Rows.ledTornSpec.vars false W args.toList ds gs before) (hL:laidMetH Tryz.prog Rows.ledTornRow.laid W) :
  Calls Tryz.prog 8 args W fun e W'=>∃ v,e = .returned v ∧ Rows.ledTornSpec.post enc Tryz.prog Tryz.f8 false true false false W args v W':=by
 have hW':=hW
 obtain ⟨p,q,hA0,hV,rfl,hfz,hnd⟩:=hW
 have hA:DataW.TrodAll enc Tryz.prog W 0 (fun _=>true) true Tryz.f8.params.toList args.toList ds p:=hA0
 rw [Tryz.params8] at hA hval
 obtain ⟨v0,vs0,d0,ds0,p0,q0,hargs0,rfl,rfl,h0,r0⟩:=trodAll_cons hA
 obtain ⟨v1,vs1,d1,ds1,p1,q1,hargs1,rfl,rfl,h1,r1⟩:=trodAll_cons r0
 obtain ⟨v2,vs2,d2,ds2,p2,q2,hargs2,rfl,rfl,h2,r2⟩:=trodAll_cons r1
 obtain ⟨v3,vs3,d3,ds3,p3,q3,hargs3,rfl,rfl,h3,r3⟩:=trodAll_cons r2
 obtain ⟨rfl,rfl,rfl⟩:=trodAll_nil r3
 obtain rfl:args = #[v0,v1,v2,v3]:=by cases args; simp_all
 obtain ⟨rfl,rfl⟩:=trodVars_none hV
 obtain ⟨AK0,AN0,ck0,cn0,ks0,ns0,cr0,mask0,torn0,rfl,hk0,hn0,hkb0,hnb0,hm0,ht0⟩:=Jn (hval 0 78 v0 rfl rfl) h0
 obtain ⟨AK1,AN1,ck1,cn1,ks1,ns1,cr1,mask1,torn1,rfl,hk1,hn1,hkb1,hnb1,hm1,ht1⟩:=Jn (hval 1 78 v1 rfl rfl) h1
 obtain ⟨z2,rfl,hd2,hp2,hw2⟩:=open_int Tryz.underlying23 (hval 2 23 v2 rfl rfl) h2
 obtain ⟨n2,rfl,hn2⟩:=qr hw2
 obtain ⟨n3,rfl,hd3,hp3,hw3⟩:=open_int Tryz.underlying3 (hval 3 3 v3 rfl rfl) h3
 have hg:yL W:=zbl hL
 have walk:Calls Tryz.prog 8 #[zaQ AK0 AN0 ks0.length ck0 ns0.length cn0 cr0 (mask0:Int) torn0,zaQ AK1 AN1 ks1.length ck1 ns1.length cn1 cr1 (mask1:Int) torn1,.int .u32 (n2:Int),.int .i64 n3] W fun e w'=>e = .returned (.bool true) ∧ Below W.heap.size W w':=by
  exact Je zev abD cr0 cr1 (mask0:Int) torn0 (mask1:Int) torn1 hk0 hn0 hk1 rfl rfl rfl hkb0 hkb1 n2 hn2 n3 (by have:=qH hw3; omega) hg
 refine walk.mono fun e W' ⟨he,hb⟩=>?_
 subst he
 exact ⟨_,rfl,zcY Tryz.laidOut (by kernel_rfl) rfl (r:=4) (by kernel_rfl) Tryz.underlying4 rfl hW' hb⟩
theorem Jg (os:Os) {H:Type} (enc:TypeId × Value → H):∃ places,DataW.whole enc Tryz.prog ((Y6 os).forCall (fun _ _=>0) ⟨#[],#[.agg #[.slice none 0 0,.slice none 0 0,.bool false,.int .u32 0,.int .i64 0],.agg #[.slice none 0 0,.slice none 0 0,.bool false,.int .u32 0,.int .i64 0],.int .u32 0,.int .i64 0],[]⟩).memory Tryz.f8.params.toList Rows.ledTornSpec.vars false (#[.agg #[.slice none 0 0,.slice none 0 0,.bool false,.int .u32 0,.int .i64 0],.agg #[.slice none 0 0,.slice none 0 0,.bool false,.int .u32 0,.int .i64 0],.int .u32 0,.int .i64 0]:Array Value).toList 8 = some ([.agg [.nil,.nil,.lit (.bool false),.lit (.int .u32 0),.lit (.int .i64 0)],.agg [.nil,.nil,.lit (.bool false),.lit (.int .u32 0),.lit (.int .i64 0)],.lit (.int .u32 0),.lit (.int .i64 0)],[],places) :=
 ⟨[],by kernel_rfl⟩
set_option maxRecDepth 100000 in
theorem Kn (os:Os) (started:os.Started) (H:Type) (enc:TypeId × Value → H) (F:Stop.Interp) :
  ReturnsInHanded {} Tryz.checked os 8 .any ((OpenSpec.ofChange Rows.ledTornSpec).preRow enc Tryz.prog Tryz.f8 Rows.ledTornRow.domain false Rows.ledTornRow.laid) (((OpenSpec.ofChange Rows.ledTornSpec).at F).post enc Tryz.prog Tryz.f8 false true false false):=by
 obtain ⟨places,hx⟩:=Jg os enc
 refine returnsInHanded_of_row (C:=Tryz.checked) (s:=(OpenSpec.ofChange Rows.ledTornSpec)) Tryz.own started (by kernel_rfl) Tryz.func8
  (witness_row_at (enc:=enc) (C:=Tryz.checked) false (Y6 os) #[.agg #[.slice none 0 0,.slice none 0 0,.bool false,.int .u32 0,.int .i64 0],.agg #[.slice none 0 0,.slice none 0 0,.bool false,.int .u32 0,.int .i64 0],.int .u32 0,.int .i64 0] rfl (by kernel_rfl) (by kernel_rfl) (by kernel_rfl)
   (OpenSpec.preRow_of_cond 8 hx (by kernel_rfl) (fun k hk=>by cases hk) (by kernel_rfl) (Vb os _))) ?_
 intro W base args ds gs before hval hW _ _ _ hL _ _
 exact WB H enc W base args ds gs before hval hW hL
theorem QF:Rows.LedTornSaid :=
 OpenClaim.holds_of_cond 8 Tryz.f8 rfl rfl rfl rfl rfl rfl rfl ⟨rfl,rfl,rfl,rfl,rfl⟩ rfl rfl rfl rfl rfl (by kernel_rfl) Tryz.func8 (by kernel_rfl)
  (of_decide_eq_true (by kernel_rfl)) (by unfold Func.isWrapper; first | (rw [if_pos (by decide +kernel)]; kernel_rfl) | (rw [if_neg (by decide +kernel)]; exact ⟨rfl,rfl⟩))
  (fun os started H enc _ F=>by rw [OpenClaim.pre_eq_preRow]; exact Kn os started H enc F)
theorem ledTorn_holds:Rows.LedTornCardSaid :=
 Claim7.holds_tied_plain_at .later [] _ _ _ _ QF (fun _ h=>by cases h) (by kernel_rfl) (fun _ h=>by cases h) ledTorn_row_tie rfl ⟨rfl,rfl⟩ (by kernel_rfl) rfl (zdo (by kernel_rfl) Tryz.func8 (by kernel_rfl)) (by kernel_rfl)
#print axioms ledTorn_holds
end Go.Proofs.YtafclmbecmgbnaaGreatDoor
