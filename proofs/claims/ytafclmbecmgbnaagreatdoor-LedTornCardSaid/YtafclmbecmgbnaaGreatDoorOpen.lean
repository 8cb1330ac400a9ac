/-
 Open. Conditions: as each theorem says.
-/
import Derived.Test.YtafclmbecmgbnaaGreatDoorPacks
import Derived.ProofKit
import Derived.OpenShut
namespace Go.Proofs.YtafclmbecmgbnaaGreatDoor
open Go.ChangeShapes Go.WideShapes Go.ChangeAt Go.RowKit
theorem Jo {n:Int} (h:(Lit.int .u8 n).wf = true):∃ m:Nat,n = (m:Int) /\ m < 256:=by
 have e1:IntKind.u8.min = 0:=rfl;have e2:IntKind.u8.max = 255:=rfl;simp [Lit.wf,e1,e2] at h;exact ⟨n.toNat,by omega,by omega⟩
theorem qr {n:Int} (h:(Lit.int .u32 n).wf = true):∃ m:Nat,n = (m:Int) /\ m < 4294967296:=by
 have e1:IntKind.u32.min = 0:=rfl;have e2:IntKind.u32.max = 4294967295:=rfl;simp [Lit.wf,e1,e2] at h;exact ⟨n.toNat,by omega,by omega⟩
theorem qH {n:Int} (h:(Lit.int .i64 n).wf = true):-9223372036854775808 <= n /\ n <= 9223372036854775807:=by
 have e1:IntKind.i64.min = -9223372036854775808:=rfl;have e2:IntKind.i64.max = 9223372036854775807:=rfl;simp [Lit.wf,e1,e2] at h;omega
theorem Ko {k:IntKind} {b:Nat} (hk:∀ z:Int,(Lit.int k z).wf = true -> ∃ m:Nat,z = (m:Int) /\ m < b):∀ zs:List Int,(∀ z ∈ zs,(Lit.int k z).wf = true) -> ∃ l:List Nat,zs = kU l /\ ∀ n ∈ l,n < b
 | [],_=>⟨[],rfl,by simp⟩
 | z :: r,h=>by
  obtain ⟨l,rfl,hl⟩:=Ko hk r (fun z hz=>h z (by simp [hz]));obtain ⟨m,rfl,hm⟩:=hk z (h z (by simp));exact ⟨m :: l,rfl,fun n hn=>by
   rcases List.mem_cons.1 hn with rfl | hn
   ·exact hm
   ·exact hl n hn⟩
