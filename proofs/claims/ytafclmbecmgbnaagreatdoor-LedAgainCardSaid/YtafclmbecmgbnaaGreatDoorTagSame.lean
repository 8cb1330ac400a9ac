/-
 TagSame. Conditions: as each theorem says.
-/
import Derived.Test.YtafclmbecmgbnaaGreatDoorSm
import Derived.Test.YtafclmbecmgbnaaGreatDoorTagNum
set_option maxHeartbeats 4000000
namespace Go.Proofs.YtafclmbecmgbnaaGreatDoor
open Go.RowKit Go.Extern.Stop Go.Stop Go.Extern
theorem qi {P:Program} (w:World) (d:Nat) {ti tn:TypeId} {ms:Array (String × TypeId)} {i:TypeInfo} {k:IntKind} (a b:Int)
  (hi:P.underlying ti = some (.interface ms)) (hn:P.underlying tn = some (.int k)) (hinfo:P.info? tn = some i) (hcomp:i.comparable = true) :
  (Op.equalIn (d + 2) ti (.iface tn (.int k a)) (.iface tn (.int k b))).run P w = .ok (a == b) w:=by
 simp [Op.equalIn,run_underlying hi,run_underlying hn,typeInfo,hinfo,hcomp]
theorem Yl {P:Program} (w:World) {ti tn:TypeId} {ms:Array (String × TypeId)} {i:TypeInfo} {k:IntKind} (a b:Int)
  (hi:P.underlying ti = some (.interface ms)) (hn:P.underlying tn = some (.int k)) (hinfo:P.info? tn = some i) (hcomp:i.comparable = true) :
  (binOp .eql ti (.iface tn (.int k a)) (.iface tn (.int k b))).run P w = .ok (.bool (a == b)) w:=by
 simp only [binOp];simp [Op.equal,Op.maxDepth,qi w 9998 a b hi hn hinfo hcomp]
theorem Tryz.comp29:(Tryz.prog.info? 109).map (·.comparable) = some true:=by kernel_rfl
theorem Tryz.eq29 (a b:Int) (w:World):(binOp .eql 27 (.iface 109 (.int .i64 a)) (.iface 109 (.int .i64 b))).run Tryz.prog w = .ok (.bool (a == b)) w:=by
 obtain ⟨i,hi,hc⟩:=Option.map_eq_some_iff.1 Tryz.comp29;exact Yl w a b Tryz.underlying27 Tryz.underlying109 hi hc
theorem Tryz.eqTag (v:Value) (b:Int) (w:World):(binOp .eql 27 (.iface 153 v) (.iface 109 (.int .i64 b))).run Tryz.prog w = .ok (.bool false) w :=
 run_eql_iface_types (P:=Tryz.prog) 153 109 v (.int .i64 b) Tryz.underlying27 (by decide) w
theorem Tryz.comparable29 (w:World):(callFunc 222 #[.agg #[.pointer (some ⟨2,109,none⟩)]]).run Tryz.prog w = .ok (.value (.bool true)) w:=by kernel_rfl
theorem Tryz.methodComparable (h:Value) (w:World):(Go.method 398 227 (.agg #[h]) "Comparable").run Tryz.prog w = .ok (222,.agg #[h]) w:=by kernel_rfl
theorem Tryz.noIs29 (v:Value) (xT:TypeId) (w:World):(Instr.typeAssert (.iface 109 v) xT 229 true).run Tryz.prog w = .ok (.tuple #[.nilIface,.bool false]) w:=run_typeAssert_lacksB Tryz.underlying229 (by kernel_rfl) (by kernel_rfl) v xT w
theorem Tryz.noIs36 (v:Value) (xT:TypeId) (w:World):(Instr.typeAssert (.iface 153 v) xT 229 true).run Tryz.prog w = .ok (.tuple #[.nilIface,.bool false]) w:=run_typeAssert_lacksB Tryz.underlying229 (by kernel_rfl) (by kernel_rfl) v xT w
theorem Tryz.noUnwrap29 (v:Value) (xT:TypeId) (w:World):(Instr.typeAssert (.iface 109 v) xT 232 true).run Tryz.prog w = .ok (.tuple #[.nilIface,.bool false]) w:=run_typeAssert_lacksB Tryz.underlying232 (by kernel_rfl) (by kernel_rfl) v xT w
theorem Tryz.noUnwraps29 (v:Value) (xT:TypeId) (w:World):(Instr.typeAssert (.iface 109 v) xT 233 true).run Tryz.prog w = .ok (.tuple #[.nilIface,.bool false]) w:=run_typeAssert_lacksB Tryz.underlying233 (by kernel_rfl) (by kernel_rfl) v xT w
theorem zb9 (m n:Int) (v:Value) (l:List ByteArray) (w:World) (hc:vj w n v l) (r:Bool) (hr:(n == m) = r) :
  Calls Tryz.prog 130 #[v,.iface 109 (.int .i64 m),.bool true] w fun e w'=>e = .returned (.bool r) /\ w = w':=by
 have e1:=Tryz.eqTag;have e2:=Tryz.eq29;have a1:=Tryz.noIs29;have a2:=Tryz.noIs36;have a3:=Tryz.noUnwrap29;have a4:=Tryz.noUnwraps29;have a5:=Tryz.hasUnwrap36;have m1:=Tryz.methodUnwrap;have HC:=Hi hc;clear hc
 go_enter Tryz.func130,Tryz.ntmps130
 go_wp2
 go_loopg [0] (l.length + 1) (fun k v wr=>∃ l',k = l'.length + 1 /\ vj w n v l' /\ w = wr)
 case atStart=>exact ⟨l,rfl,HC.o,rfl⟩
 case round =>
  obtain ⟨l',rfl,hch,rfl⟩:=hrel;cases hch with
  | base =>
   cases r
   ·go_wp2
    go_ret
    exact ⟨rfl,rfl⟩
   ·go_wp2
    go_ret
    exact ⟨rfl,rfl⟩
  | tag b s t x l2 h0 h1 hlt hch2 =>
   have HR:=Hi hr;clear hr;have H2:=Hi hch2;clear hch2;go_wp2_with (go_at_call 216; refine (K9 b _ _ h1).mono ?_; rintro e w' ⟨rfl,rfl⟩)
   go_roundg (l2.length + 1)
   case measure=>simp
   case rel=>exact ⟨l2,rfl,H2.o,rfl⟩
theorem zbr (m n:Int) (v:Value) (l:List ByteArray) (w:World) (hc:vj w n v l) (r:Bool) (hr:(n == m) = r) :
  Calls Tryz.prog 97 #[v,.iface 109 (.int .i64 m)] w fun e w'=>e = .returned (.bool r) /\ w = w':=by
 have tT:=Tryz.typeOf29;have cT:=Tryz.comparable29;have mR:=Tryz.methodComparable;obtain ⟨t,x,rfl⟩:=hc.form;have HC:=Hi (zb9 m n _ l w hc r hr);clear hc hr
 go_enter Tryz.func97,Tryz.ntmps97
 go_wp2_with (go_at_call 130; refine HC.o.mono ?_; rintro e w' ⟨rfl,rfl⟩)
 go_ret
 exact ⟨rfl,rfl⟩
theorem zb5 (w:World):CallsD Tryz.prog 96 #[] .returning w fun e u' w'=>e = .returned (.tuple #[]) /\ u' = .returning /\ w' = w:=by
 refine callsD_of_wpS Tryz.func96 rfl fun c₀ cs hu=>?_
 apply wpS_region;simp [wpOpsS,go_sem,recoverD,hu,Tryz.ntmps96,bodyPostS,results,Tryz.results96];cases c₀
 simp_all
theorem Js (m n:Int) (v:Value) (l:List ByteArray) (w:World) (hc:vj w n v l) (r:Bool) (hr:(n == m) = r) :
  Calls Tryz.prog 58 #[v,.int .i64 m] w fun e w'=>e = .returned (.bool r) /\ w = w':=by
 have hmf:∀ (fn:Fn) (first cap:Array Value) (w:World),(Instr.makeFunc fn first cap).run Tryz.prog w = .ok (.func fn first cap) w:=fun _ _ _ _=>rfl
 have HC:=Hi (zbr m n _ l w hc r hr);clear hc hr
 go_enter_defers Tryz.func58,Tryz.ntmps58
 go_wp2_with (go_at_call 97; refine HC.o.mono ?_; rintro e w' ⟨rfl,rfl⟩);refine leaves_cons (f:=96) (args:=#[]) (by simp) (by simp [go_sem]) ?_;refine (zb5 _).mono ?_;rintro e u' w'' ⟨rfl,rfl,rfl⟩;simp [Leaves,settle,results,Tryz.results58,go_sem]
