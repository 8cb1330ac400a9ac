/-
 TagNum. Conditions: as each theorem says.
-/
import Derived.Test.YtafclmbecmgbnaaGreatDoorRows
import Derived.WalkKit
import Derived.WalkSpells
import Derived.WalkLawsBesides
import Derived.LaidEql
import Derived.Stop.Asserts
import Derived.RowKitTokens
import Derived.Deep.LoopGhost
import Derived.Defers
import Derived.Recover
import Derived.Lib.Hide
namespace Go.Proofs.YtafclmbecmgbnaaGreatDoor
open Go.RowKit Go.Extern.Stop Go.Stop Go.Extern
theorem Tryz.typeOf29 (v:Value) (w:World):(callFunc 129 #[.iface 109 v]).run Tryz.prog w = .ok (.value (.iface 227 (.agg #[.pointer (some ⟨2,109,none⟩)]))) w:=by kernel_rfl
theorem Tryz.hasUnwrap36 (v:Value) (xT:TypeId) (w:World):(Instr.typeAssert (.iface 153 v) xT 232 true).run Tryz.prog w = .ok (.tuple #[.iface 153 v,.bool true]) w:=run_typeAssert_hasB Tryz.underlying232 (by kernel_rfl) v xT w
theorem Tryz.methodUnwrap (h:Value) (w:World):(Go.method 398 153 h "Unwrap").run Tryz.prog w = .ok (216,h) w:=by kernel_rfl
inductive vy (w:World) (n:Int):Value -> List ByteArray -> Prop
 | base:vy w n (.iface 109 (.int .i64 n)) []
 | tag (b:Nat) (s:ByteArray) (t:TypeId) (x:Value) (l:List ByteArray):w.cell? ⟨b,0,none⟩ = some (.string s) -> w.cell? ⟨b,1,none⟩ = some (.iface t x) -> b < w.1.size ->
   vy w n (.iface t x) l -> vy w n (.iface 153 (.pointer (some ⟨b,0,none⟩))) (s :: l)
theorem vy.form {w:World} {n:Int} {v:Value} {l:List ByteArray} (h:vy w n v l):∃ t x,v = .iface t x:=by
 cases h <;> exact ⟨_,_,rfl⟩
theorem vy.carry {w w':World} {n:Int} {v:Value} {l:List ByteArray} (h:vy w n v l) {B:Nat} (hB:B = w.1.size) (hb:Below B w w'):vy w' n v l:=by
 subst hB;induction h with
 | base=>exact .base
 | tag b s t x l h0 h1 hlt _ ih=>exact .tag b s t x l ((hb.cell (p:=⟨b,0,none⟩) hlt).trans h0) ((hb.cell (p:=⟨b,1,none⟩) hlt).trans h1) (Nat.lt_of_lt_of_le hlt hb.size) ih
theorem JJ (b:Nat) (v:Value) (w:World) (h1:w.cell? ⟨b,1,none⟩ = some v) :
  Calls Tryz.prog 216 #[.pointer (some ⟨b,0,none⟩)] w fun e w'=>e = .returned v /\ w = w':=by
 go_enter Tryz.func216,Tryz.ntmps216
 go_wp2
 go_ret
 exact ⟨rfl,rfl⟩
theorem yQ {w:World} {p:Addr} {v:Value} (h:w.cell? p = some v):p.block < w.1.size:=by
 rcases Nat.lt_or_ge p.block w.1.size with h1 | h1
 ·exact h1
 ·simp [World.cell?,Array.getElem?_eq_none h1] at h
abbrev Laid (w:World):Prop:=w.cell? ⟨0,0,none⟩ = some (.iface 227 (.agg #[.pointer (some ⟨2,27,none⟩)]))
theorem kp (w:World):Calls Tryz.prog 17 #[.nilIface] w fun e w'=>e = .returned (.int .i64 0) /\ w = w':=by
 go_enter Tryz.func17,Tryz.ntmps17
 go_wp2
 go_ret
 exact ⟨rfl,rfl⟩
theorem V4 (s:ByteArray) (w:World):Calls Tryz.prog 59 #[.string s,.nilIface] w fun e w'=>e = .returned .nilIface /\ w = w':=by
 go_enter Tryz.func59,Tryz.ntmps59
 go_wp2
 go_ret
 exact ⟨rfl,rfl⟩
theorem Wg (s:ByteArray) (t:TypeId) (x:Value) (w:World) :
  Calls Tryz.prog 59 #[.string s,.iface t x] w fun e w'=>e = .returned (.iface 153 (.pointer (some ⟨w.1.size,0,none⟩))) /\ w.alloc (.cells #[.string s,.iface t x] 155) = w':=by
 go_enter Tryz.func59,Tryz.ntmps59
 go_wp2
 go_ret
 exact ⟨rfl,rfl⟩
theorem zaP (s:ByteArray) (n:Int) (v:Value) (l:List ByteArray) (w:World) (hc:vy w n v l) :
  Calls Tryz.prog 59 #[.string s,v] w fun e w'=>e = .returned (.iface 153 (.pointer (some ⟨w.1.size,0,none⟩))) /\ vy w' n (.iface 153 (.pointer (some ⟨w.1.size,0,none⟩))) (s :: l) /\ Below w.1.size w w':=by
 obtain ⟨t,x,rfl⟩:=hc.form;refine (Wg s t x w).mono ?_;rintro e w' ⟨rfl,rfl⟩;have hb:Below w.1.size w (w.alloc (.cells #[.string s,.iface t x] 155)):=(Below.refl _ _).alloc (Nat.le_refl _) _;exact ⟨rfl,.tag _ s t x l (by simp) (by simp) (by simp) (hc.carry rfl hb),hb⟩
theorem Laid.carry {w w':World} (hg:Laid w) (hb:Below w.1.size w w'):Laid w':=(hb.cell (yQ hg)).trans hg
