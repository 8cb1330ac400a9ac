/-
 CloseTwo. Conditions: as each theorem says.
-/
import Derived.Test.YtafclmbecmgbnaaGreatDoorFrames
import Derived.Test.YtafclmbecmgbnaaGreatDoorCards
import Derived.Test.YtafclmbecmgbnaaGreatDoorTie
import Derived.ProofKit
import Derived.OpenShut
import Derived.Deep.DeepHandedRow
import Derived.LaidLaws
import Derived.LaidHandle
set_option maxRecDepth 100000
open Option renaming some -> ze8
namespace Go.Proofs.YtafclmbecmgbnaaGreatDoor
open Go.ChangeShapes Go.WideShapes Go.ChangeAt Go.RowKit
section
variable {H:Type} {enc:TypeId × Value -> H} {P:Program}
theorem Zu (hl:laidOutB P = true) {W W':World} {sp:Nat -> Bool}:∀ {ts:List TypeId} {vs:List Value} {ds:List (DataW H)} {ps:List MemPlace},(∀ t ∈ ts,P.readableRec t = true /\ t < P.types.size) ->
  DataW.TrodAll enc P W 0 (fun _=>true) true ts vs ds ps -> (∀ x ∈ ps,W.sameAt W' x) -> (∀ x ∈ ps,sp x.block = true) -> DataW.TrodAll enc P W' 0 sp true ts vs ds ps
 | [],[],[],_,_,h,_,_=>h
 | t :: ts,v :: vs,d :: ds,ps,ht,h,h1,h2=>by
  obtain ⟨p,q,ha,hb,rfl⟩:=h;exact ⟨p,q,WideElems.Trod_stays hl (ht t (by simp)).1 (ht t (by simp)).2 ha (fun x hx=>h1 x (by simp [hx])) (fun x hx=>h2 x (by simp [hx])),
   Zu hl (fun t' ht'=>ht t' (by simp [ht'])) hb (fun x hx=>h1 x (by simp [hx])) (fun x hx=>h2 x (by simp [hx])),rfl⟩
theorem zce {f:Func} {s:ChangeSpec} {W W':World} {args:Array Value} {ds gs:List (DataW H)} {before:List MemPlace} {r:TypeId}
  (hl:laidOutB P = true) (hrd0:f.params.toList.all (fun t=>P.readableRec t && decide (t < P.types.size)) = true) (hv:s.vars = []) (hrt:f.resultTypes.toList = [r]) (h4:P.underlying r = some .bool)
  (hfn:s.fn H (ds ++ gs) = { results:=[.lit (.bool true)],args:=ds })
  (hW:DataW.Whole enc P f.params.toList s.vars false W args.toList ds gs before) (hb:Below W.1.size W W'):s.post enc P f false true false false W args (.bool true) W':=by
 have hrd:∀ t ∈ f.params.toList,P.readableRec t = true /\ t < P.types.size:=fun t ht=>by simpa using List.all_eq_true.1 hrd0 t ht
 have hlt:∀ p ∈ before,p.block < W.1.size:=fun p hp=>hW.lt p hp
 have hW':=hW;obtain ⟨p,q,hA,hV,rfl,hfz,hnd⟩:=hW;rw [hv] at hV;obtain ⟨rfl,rfl⟩:=trodVars_none hV;have hsz:f.resultTypes.size = 1:=by have:=congrArg List.length hrt; simpa using this
 refine ⟨ds,[],_,[],p,[],hW',?_,?_,?_,hb.frame _,fun h=>by cases h⟩
 ·rw [hfn,hrt,hsz]; exact trodAll_mk1 (shut_bool h4 true)
 ·rw [hfn];exact Zu hl hrd hA (fun x hx=>hb.same (hlt x (by simp [hx]))) (fun x hx=>by simpa using hlt x (by simp [hx]))
 ·rw [hfn,hv]; rfl
end
theorem Tryz.own:ownKnob Tryz.prog.godebug = none:=by kernel_rfl
theorem Tryz.laidOut:laidOutB Tryz.prog = true:=by kernel_rfl
theorem Tryz.et:Tryz.prog.globalNamed "errors.errorType" = some 0:=by kernel_rfl
theorem Tryz.rt:(Tryz.prog.cutTypes.find? (·.1 == "internal/reflectlite.rtype")).map (·.2) = some 227:=by kernel_rfl
theorem Tryz.oneRow:((List.range 298).filter fun t=>Tryz.prog.rowNamed t [101,114,114,111,114]) = [27]:=by kernel_rfl
theorem Tryz.size:Tryz.prog.types.size = 298:=by kernel_rfl
theorem Tryz.halved:Tryz.prog.globalNamed "dynamo/crc.halved" = some 1:=by kernel_rfl
theorem Tryz.halvedType:(Tryz.prog.globals[1]?).map (·.type) = some 221:=by kernel_rfl
theorem Tryz.cellsH:Tryz.prog.cellsOf 221 = 16:=by kernel_rfl
theorem Tryz.cellsW:Tryz.prog.cellsOf 23 = 1:=by kernel_rfl
theorem yu {H:Type} {enc:TypeId × Value -> H} {P:Program} {w:World} {base:Nat} {sp:Nat -> Bool} {held:Bool} {fuel:Nat} {t:TypeId} {k:IntKind} {c:Value} {y:DataW H × List MemPlace}
  (ht:P.underlying t = some (.int k)) (h:DataW.trod enc P w base sp held fuel t [c] = some y):∃ n,c = .int k n /\ y = (.lit (.int k n),[]):=by
 cases fuel with
 | zero=>simp [DataW.trod] at h
 | succ fuel =>
  cases c <;> simp [DataW.trod,ht] at h
  rename_i k' n
  obtain ⟨⟨rfl,_⟩,rfl⟩:=h;exact ⟨n,rfl,rfl⟩
def QN:Array Value:=#[.int .u32 0,.int .u32 498536548,.int .u32 997073096,.int .u32 651767980,.int .u32 1994146192,.int .u32 1802195444,.int .u32 1303535960,.int .u32 1342533948,.int .u32 3988292384,.int .u32 4027552580,.int .u32 3604390888,.int .u32 3412177804,.int .u32 2607071920,.int .u32 2262029012,.int .u32 2685067896,.int .u32 3183342108]
theorem Wz {W:World} (h:laidMet Tryz.prog [("dynamo/crc.halved",Rows.laid_dynamo_crc_halved)] W):W.var? Tryz.prog "dynamo/crc.halved" = some QN:=by
 obtain ⟨ps,⟨g,t,cs,fuel,p,q,hg,ht,hvar,hd,_,_⟩,_⟩:=h;obtain rfl:=ze8.inj (Tryz.halved.symm.trans hg);obtain rfl:=ze8.inj (Tryz.halvedType.symm.trans ht);rw [hvar];congr 1;obtain ⟨l⟩:=cs;cases fuel with
 | zero=>simp [DataW.trod] at hd
 | succ fuel =>
  simp only [DataW.trod,Tryz.underlying221,Tryz.cellsH,Tryz.cellsW] at hd;split at hd
  ·rename_i hl
   obtain ⟨c0,c1,c2,c3,c4,c5,c6,c7,c8,c9,c10,c11,c12,c13,c14,c15,rfl⟩:∃ c0 c1 c2 c3 c4 c5 c6 c7 c8 c9 c10 c11 c12 c13 c14 c15,l = [c0,c1,c2,c3,c4,c5,c6,c7,c8,c9,c10,c11,c12,c13,c14,c15]:=by
    match l,hl with
    | [c0,c1,c2,c3,c4,c5,c6,c7,c8,c9,c10,c11,c12,c13,c14,c15],_=>exact ⟨c0,c1,c2,c3,c4,c5,c6,c7,c8,c9,c10,c11,c12,c13,c14,c15,rfl⟩
   have e:List.range 16 = [0,1,2,3,4,5,6,7,8,9,10,11,12,13,14,15]:=rfl;rw [e] at hd;simp only [Option.map_eq_some_iff,List.mapM_cons,List.mapM_nil,Option.bind_eq_bind,Option.bind_eq_some_iff,Option.pure_def,ze8.injEq] at hd;obtain ⟨xs,⟨y0,h0,_,⟨y1,h1,_,⟨y2,h2,_,⟨y3,h3,_,⟨y4,h4,_,⟨y5,h5,_,⟨y6,h6,_,⟨y7,h7,_,⟨y8,h8,_,⟨y9,h9,_,⟨y10,h10,_,⟨y11,h11,_,⟨y12,h12,_,⟨y13,h13,_,⟨y14,h14,_,⟨y15,h15,_,rfl,rfl⟩,rfl⟩,rfl⟩,rfl⟩,rfl⟩,rfl⟩,rfl⟩,rfl⟩,rfl⟩,rfl⟩,rfl⟩,rfl⟩,rfl⟩,rfl⟩,rfl⟩,rfl⟩,hx⟩:=hd;obtain ⟨n0,rfl,rfl⟩:=yu Tryz.underlying23 h0;obtain ⟨n1,rfl,rfl⟩:=yu Tryz.underlying23 h1;obtain ⟨n2,rfl,rfl⟩:=yu Tryz.underlying23 h2;obtain ⟨n3,rfl,rfl⟩:=yu Tryz.underlying23 h3;obtain ⟨n4,rfl,rfl⟩:=yu Tryz.underlying23 h4;obtain ⟨n5,rfl,rfl⟩:=yu Tryz.underlying23 h5;obtain ⟨n6,rfl,rfl⟩:=yu Tryz.underlying23 h6;obtain ⟨n7,rfl,rfl⟩:=yu Tryz.underlying23 h7;obtain ⟨n8,rfl,rfl⟩:=yu Tryz.underlying23 h8;obtain ⟨n9,rfl,rfl⟩:=yu Tryz.underlying23 h9;obtain ⟨n10,rfl,rfl⟩:=yu Tryz.underlying23 h10;obtain ⟨n11,rfl,rfl⟩:=yu Tryz.underlying23 h11;obtain ⟨n12,rfl,rfl⟩:=yu Tryz.underlying23 h12;obtain ⟨n13,rfl,rfl⟩:=yu Tryz.underlying23 h13;obtain ⟨n14,rfl,rfl⟩:=yu Tryz.underlying23 h14;obtain ⟨n15,rfl,rfl⟩:=yu Tryz.underlying23 h15;simp [Rows.laid_dynamo_crc_halved] at hx;obtain ⟨⟨rfl,rfl,rfl,rfl,rfl,rfl,rfl,rfl,rfl,rfl,rfl,rfl,rfl,rfl,rfl,rfl⟩,_⟩:=hx;rfl
  ·cases hd
theorem zcd {W:World} (h':laidMet Tryz.prog [("dynamo/crc.halved",Rows.laid_dynamo_crc_halved)] W):zM W:=by
 have hv:=Wz h';have hc:∀ k,k < 16 -> W.cell? ⟨1,k,none⟩ = some (.int .u32 (val (Crc.tab k))):=fun k hk=>by
  have e:=World.var?_cell Tryz.halved hv k;rw [e]
  match k,hk with
  | 0,_=>rfl
  | 1,_=>rfl
  | 2,_=>rfl
  | 3,_=>rfl
  | 4,_=>rfl
  | 5,_=>rfl
  | 6,_=>rfl
  | 7,_=>rfl
  | 8,_=>rfl
  | 9,_=>rfl
  | 10,_=>rfl
  | 11,_=>rfl
  | 12,_=>rfl
  | 13,_=>rfl
  | 14,_=>rfl
  | 15,_=>rfl
  | k + 16,h=>exact absurd h (by omega)
 exact ⟨yL (hc 0 (by omega)),hc⟩
theorem zaC {W:World} (h:laidMetH Tryz.prog [("dynamo/crc.halved",Rows.laid_dynamo_crc_halved),("errors.errorType",Rows.laid_errors_errorType)] W):yC W:=by
 have h':laidMet Tryz.prog [("dynamo/crc.halved",Rows.laid_dynamo_crc_halved)] W /\ handlesMet Tryz.prog [("errors.errorType",Rows.laid_errors_errorType)] W:=h;refine ⟨?_,zcd h'.1⟩;obtain ⟨name,u,ty,e1,e2,e3,e4,e5⟩:=h'.2 _ (List.mem_singleton.2 rfl);have en:name = [101,114,114,111,114]:=(ze8.inj e1).symm;subst en;obtain rfl:=ze8.inj (Tryz.rt.symm.trans e2);have hm:ty ∈ (List.range 298).filter fun t=>Tryz.prog.rowNamed t [101,114,114,111,114]:=List.mem_filter.2 ⟨List.mem_range.2 (by rw [<- Tryz.size]; exact e3),e4⟩
 rw [Tryz.oneRow] at hm;obtain rfl:=List.mem_singleton.1 hm;have hh:typeHandle Tryz.prog 27 = .pointer (some ⟨2,27,none⟩):=by kernel_rfl
 rw [hh] at e5;simpa using World.var?_cell Tryz.et e5 0
theorem zcE {name:String} {f0:FuncId} {fn0:Func} (h1:Tryz.prog.funcNamed name = some f0) (h2:Tryz.prog.funcs[f0]? = some fn0) (h3:fn0.params.toList.all (fun t=>!Tryz.prog.wantsStandIn t) = true)
  (f:FuncId) (fn:Func) (hf:Tryz.pinned.checked.prog.funcNamed name = some f) (hfn:Tryz.pinned.checked.prog.funcs[f]? = some fn) :
  true = Tryz.pinned.checked.prog.looks [] /\ ∀ (j:Nat) t,fn.params[j]? = some t -> Tryz.pinned.checked.prog.wantsStandIn t = false:=by
 obtain rfl:f0 = f:=ze8.inj (h1.symm.trans hf);obtain rfl:fn0 = fn:=ze8.inj (h2.symm.trans hfn);refine ⟨by kernel_rfl,fun j t ht=>?_⟩;have hm:t ∈ fn0.params.toList:=by simpa using Array.mem_of_getElem? ht
 have h:Tryz.prog.wantsStandIn t = false:=by simpa using List.all_eq_true.1 h3 t hm
 exact h
noncomputable def YF (os:Os):World :=
 let w0:=World.holding Tryz.prog os ⟨#[],#[],[]⟩
 { w0 with heap:=(w0.1.modify 0 fun
   | .cells _ t frozen=>.cells #[.iface 227 (.agg #[.pointer (some ⟨2,27,none⟩)])] t frozen
   | o=>o).modify 1 fun
   | .cells _ t frozen=>.cells QN t frozen
   | o=>o }
theorem WE (os:Os) (args:Array Value):laidMetH Tryz.prog [("dynamo/crc.halved",Rows.laid_dynamo_crc_halved),("errors.errorType",Rows.laid_errors_errorType)] ((YF os).forCall (fun _ _=>0) ⟨#[],args,[]⟩).memory :=
 laidMetH_of_parts (laidMet_of_run' 8 (by kernel_rfl) (by kernel_rfl)) (by kernel_rfl)
