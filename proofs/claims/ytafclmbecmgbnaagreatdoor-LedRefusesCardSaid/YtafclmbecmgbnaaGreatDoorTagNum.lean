/-
 TagNum. Conditions: as each theorem says.
-/
import Derived.Test.YtafclmbecmgbnaaGreatDoorSm
import Derived.WalkSpells
import Derived.WalkLawsBesides
import Derived.LaidEql
import Derived.Stop.Asserts
import Derived.RowKitTokens
import Derived.Deep.LoopGhost
import Derived.Defers
import Derived.Recover
set_option maxHeartbeats 4000000
open Nat renaming le_refl -> zdH
namespace Go.Proofs.YtafclmbecmgbnaaGreatDoor
open Go.RowKit Go.Extern.Stop Go.Stop Go.Extern
theorem Tryz.typeOf29 (v : Value) (w : World) : (callFunc 129 #[.iface 109 v]).run Tryz.prog w = .ok (.value (.iface 227 (.agg #[.pointer (some ⟨2, 109, none⟩)]))) w := by kernel_rfl
theorem Tryz.typeOf36 (v : Value) (w : World) : (callFunc 129 #[.iface 153 v]).run Tryz.prog w = .ok (.value (.iface 227 (.agg #[.pointer (some ⟨2, 153, none⟩)]))) w := by kernel_rfl
theorem Tryz.valueOf59 (t : Addr) (w : World) : (callFunc 134 #[.iface 158 (.pointer (some t))]).run Tryz.prog w
  = .ok (.value (.agg #[.pointer (some ⟨2, 158, none⟩), .pointer (some ⟨w.1.size, 0, none⟩), .int .u64 150])) (w.alloc (.cells #[.pointer (some t)] 158)) := by kernel_rfl
theorem Tryz.valueOf29 (n : Int) (w : World) : (callFunc 134 #[.iface 109 (.int .i64 n)]).run Tryz.prog w
  = .ok (.value (.agg #[.pointer (some ⟨2, 109, none⟩), .pointer (some ⟨w.1.size, 0, none⟩), .int .u64 130])) (w.alloc (.cells #[.int .i64 n] 109)) := by kernel_rfl
theorem Tryz.type59 (a : Addr) (w : World) : (callFunc 135 #[.agg #[.pointer (some ⟨2, 158, none⟩), .pointer (some a), .int .u64 150]]).run Tryz.prog w = .ok (.value (.iface 227 (.agg #[.pointer (some ⟨2, 158, none⟩)]))) w := by kernel_rfl
theorem Tryz.kind59 (w : World) : (callFunc 211 #[.pointer (some ⟨2, 158, none⟩)]).run Tryz.prog w = .ok (.value (.int .u8 22)) w := by kernel_rfl
theorem Tryz.kind29 (w : World) : (callFunc 211 #[.pointer (some ⟨2, 109, none⟩)]).run Tryz.prog w = .ok (.value (.int .u8 2)) w := by kernel_rfl
theorem Tryz.elem59 (w : World) : (callFunc 223 #[.agg #[.pointer (some ⟨2, 158, none⟩)]]).run Tryz.prog w = .ok (.value (.iface 227 (.agg #[.pointer (some ⟨2, 109, none⟩)]))) w := by kernel_rfl
theorem Tryz.implements29 (w : World) : (callFunc 224 #[.agg #[.pointer (some ⟨2, 109, none⟩)], .iface 227 (.agg #[.pointer (some ⟨2, 27, none⟩)])]).run Tryz.prog w = .ok (.value (.bool true)) w := by kernel_rfl
theorem Tryz.assignable29 (w : World) : (callFunc 221 #[.agg #[.pointer (some ⟨2, 109, none⟩)], .iface 227 (.agg #[.pointer (some ⟨2, 109, none⟩)])]).run Tryz.prog w = .ok (.value (.bool true)) w := by kernel_rfl
theorem Tryz.assignable36 (w : World) : (callFunc 221 #[.agg #[.pointer (some ⟨2, 153, none⟩)], .iface 227 (.agg #[.pointer (some ⟨2, 109, none⟩)])]).run Tryz.prog w = .ok (.value (.bool false)) w := by kernel_rfl
theorem Tryz.methodKind (h : Value) (w : World) : (Go.method 398 227 (.agg #[h]) "Kind").run Tryz.prog w = .ok (211, h) w := by kernel_rfl
theorem Tryz.methodElem (h : Value) (w : World) : (Go.method 398 227 (.agg #[h]) "Elem").run Tryz.prog w = .ok (223, .agg #[h]) w := by kernel_rfl
theorem Tryz.methodImplements (h : Value) (w : World) : (Go.method 398 227 (.agg #[h]) "Implements").run Tryz.prog w = .ok (224, .agg #[h]) w := by kernel_rfl
theorem Tryz.methodAssignableTo (h : Value) (w : World) : (Go.method 398 227 (.agg #[h]) "AssignableTo").run Tryz.prog w = .ok (221, .agg #[h]) w := by kernel_rfl
theorem Tryz.elemOf59 (w : World) : (Rtype.elem? 158).run Tryz.prog w = .ok (some 109) w := by kernel_rfl
theorem Tryz.mk29 (p : Addr) (w : World) : (ReflectliteValue.mk 109 p ReflectliteValue.flagAddr).run Tryz.prog w = .ok (.agg #[.pointer (some ⟨2, 109, none⟩), .pointer (some p), .int .u64 386]) w := by kernel_rfl
theorem Tryz.isNil59_eq (z : Sem Value) (a : Addr) (W : World) :
  (ReflectliteValue.method z ReflectliteValue.isNil #[.agg #[.pointer (some ⟨2, 158, none⟩), .pointer (some a), .int .u64 150]]).run Tryz.prog W = (ReflectliteValue.isNil 158 a 150 22).run Tryz.prog W := by kernel_rfl
theorem Tryz.isNil59 (a p : Addr) (W : World) (ha : W.cell? a = some (.pointer (some p))) :
  (callFunc 136 #[.agg #[.pointer (some ⟨2, 158, none⟩), .pointer (some a), .int .u64 150]]).run Tryz.prog W = .ok (.value (.bool false)) W := by
 rw [@run_callFunc_extern Tryz.prog 136 _ (ReflectliteValue.method (ReflectliteValue.valueError "reflectlite.Value.IsNil" 0) ReflectliteValue.isNil) Tryz.func136 (by kernel_rfl) (by kernel_rfl) (by kernel_rfl) (by kernel_rfl), Tryz.isNil59_eq];simp [ReflectliteValue.isNil, loadVar, isAgg, underlying, Tryz.underlying158, ha, Result.andThen]
theorem Tryz.elemV59_eq (z : Sem Value) (a : Addr) (W : World) :
  (ReflectliteValue.method z ReflectliteValue.elem #[.agg #[.pointer (some ⟨2, 158, none⟩), .pointer (some a), .int .u64 150]]).run Tryz.prog W = (ReflectliteValue.elem 158 a 150 22).run Tryz.prog W := by kernel_rfl
theorem Tryz.elemV59 (a p : Addr) (W : World) (ha : W.cell? a = some (.pointer (some p))) :
  (callFunc 159 #[.agg #[.pointer (some ⟨2, 158, none⟩), .pointer (some a), .int .u64 150]]).run Tryz.prog W
   = .ok (.value (.agg #[.pointer (some ⟨2, 109, none⟩), .pointer (some p), .int .u64 386])) W := by
 rw [@run_callFunc_extern Tryz.prog 159 _ (ReflectliteValue.method (ReflectliteValue.valueError "reflectlite.Value.Elem" 0) ReflectliteValue.elem) Tryz.func159 (by kernel_rfl) (by kernel_rfl) (by kernel_rfl) (by kernel_rfl), Tryz.elemV59_eq];simp [ReflectliteValue.elem, loadVar, isAgg, underlying, Tryz.underlying158, ha, Result.andThen, Tryz.elemOf59, Tryz.mk29]
theorem Tryz.set29_eq (ta b : Addr) (W : World) :
  (ReflectliteValue.set #[.agg #[.pointer (some ⟨2, 109, none⟩), .pointer (some ta), .int .u64 386], .agg #[.pointer (some ⟨2, 109, none⟩), .pointer (some b), .int .u64 130]]).run Tryz.prog W
   = (do storeVar 109 ta (<- loadVar 109 b); pure (Value.tuple #[]) : Sem Value).run Tryz.prog W := by kernel_rfl
theorem Tryz.set29 (ta b : Addr) (n : Int) (old : Value) (W : World) (hb : W.cell? b = some (.int .i64 n)) (ht : W.cell? ta = some old) (hf : W.frozen? ta = false) :
  (callFunc 160 #[.agg #[.pointer (some ⟨2, 109, none⟩), .pointer (some ta), .int .u64 386], .agg #[.pointer (some ⟨2, 109, none⟩), .pointer (some b), .int .u64 130]]).run Tryz.prog W
   = .ok (.value (.tuple #[])) (W.setCell ta (.int .i64 n)) := by
 rw [@run_callFunc_extern Tryz.prog 160 _ ReflectliteValue.set Tryz.func160 (by kernel_rfl) (by kernel_rfl) (by kernel_rfl) (by kernel_rfl), Tryz.set29_eq];simp [loadVar, isAgg, underlying, Tryz.underlying109, hb, Result.andThen, storeVar, Value.cells, storeCells, Addr.add];rw [run_store Tryz.prog W ta _ _ (by rfl)];simp [ht, hf]
theorem Tryz.noAs36 (v : Value) (xT : TypeId) (w : World) : (Instr.typeAssert (.iface 153 v) xT 238 true).run Tryz.prog w = .ok (.tuple #[.nilIface, .bool false]) w := run_typeAssert_lacksB Tryz.underlying238 (by kernel_rfl) (by kernel_rfl) v xT w
theorem Tryz.hasUnwrap36 (v : Value) (xT : TypeId) (w : World) : (Instr.typeAssert (.iface 153 v) xT 232 true).run Tryz.prog w = .ok (.tuple #[.iface 153 v, .bool true]) w := run_typeAssert_hasB Tryz.underlying232 (by kernel_rfl) v xT w
theorem Tryz.methodUnwrap (h : Value) (w : World) : (Go.method 398 153 h "Unwrap").run Tryz.prog w = .ok (216, h) w := by kernel_rfl
inductive xP (w : World) (n : Int) : Value -> List ByteArray -> Prop
 | base : xP w n (.iface 109 (.int .i64 n)) []
 | tag (b : Nat) (s : ByteArray) (t : TypeId) (x : Value) (l : List ByteArray) : w.cell? ⟨b, 0, none⟩ = some (.string s) -> w.cell? ⟨b, 1, none⟩ = some (.iface t x) -> b < w.1.size ->
   xP w n (.iface t x) l -> xP w n (.iface 153 (.pointer (some ⟨b, 0, none⟩))) (s :: l)
theorem xP.form {w : World} {n : Int} {v : Value} {l : List ByteArray} (h : xP w n v l) : ∃ t x, v = .iface t x := by
 cases h <;> exact ⟨_, _, rfl⟩
theorem xP.carry {w w' : World} {n : Int} {v : Value} {l : List ByteArray} (h : xP w n v l) {B : Nat} (hB : B = w.1.size) (hb : Below B w w') : xP w' n v l := by
 subst hB;induction h with
 | base => exact .base
 | tag b s t x l h0 h1 hlt _ ih => exact .tag b s t x l ((hb.cell (p := ⟨b, 0, none⟩) hlt).trans h0) ((hb.cell (p := ⟨b, 1, none⟩) hlt).trans h1) (Nat.lt_of_lt_of_le hlt hb.size) ih
theorem YQ (b : Nat) (v : Value) (w : World) (h1 : w.cell? ⟨b, 1, none⟩ = some v) :
  Calls Tryz.prog 216 #[.pointer (some ⟨b, 0, none⟩)] w fun e w' => e = .returned v /\ w = w' := by
 go_enter Tryz.func216, Tryz.ntmps216
 go_wp2
 go_ret
 exact ⟨rfl, rfl⟩
abbrev zdk (k : Nat) : Value := .agg #[.pointer (some ⟨2, 158, none⟩), .pointer (some ⟨k, 0, none⟩), .int .u64 150]
def zag (B : Nat) (t : Addr) (n : Int) (w : World) (e : Ending) (w' : World) : Prop :=
 e = .returned (.bool true) /\ w'.cell? t = some (.int .i64 n) /\ w'.frozen? t = false /\ Below B w w'
theorem yi {w : World} {p : Addr} {v : Value} (h : w.cell? p = some v) : p.block < w.1.size := by
 rcases Nat.lt_or_ge p.block w.1.size with h1 | h1
 ·exact h1
 ·simp [World.cell?, Array.getElem?_eq_none h1] at h
theorem zaH (B : Nat) (t : Addr) (k : Nat) (old : Value) (n : Int) (v : Value) (l : List ByteArray) (w : World) (hc : xP w n v l) (ha : w.cell? ⟨k, 0, none⟩ = some (.pointer (some t))) (ht : w.cell? t = some old) (hf : w.frozen? t = false)
  (hB : B <= w.1.size) (hBt : B <= t.block) :
  Calls Tryz.prog 137 #[v, .iface 158 (.pointer (some t)), zdk k, .iface 227 (.agg #[.pointer (some ⟨2, 109, none⟩)])] w (zag B t n w) := by
 have hk : k < w.1.size := yi ha;have htl : t.block < w.1.size := yi ht;have tO := Tryz.typeOf29;have tP := Tryz.typeOf36;have mA := Tryz.methodAssignableTo;have a29 := Tryz.assignable29;have a36 := Tryz.assignable36;have v29 := Tryz.valueOf29;have a2 := Tryz.noAs36;have a5 := Tryz.hasUnwrap36;have m1 := Tryz.methodUnwrap;have el := Tryz.elemV59 ⟨k, 0, none⟩ t (w.alloc (.cells #[.pointer (some ⟨2, 158, none⟩), .pointer (some ⟨k, 0, none⟩), .int .u64 150] 199)) (by rw [World.cell?_alloc_lt _ _ ⟨k, 0, none⟩ hk]; exact ha);have st := Tryz.set29 t ⟨w.1.size + 1, 0, none⟩ n old ((w.alloc (.cells #[.pointer (some ⟨2, 158, none⟩), .pointer (some ⟨k, 0, none⟩), .int .u64 150] 199)).alloc (.cells #[.int .i64 n] 109))
  (by rw [World.cell?_alloc_at _ _ _ _ (by simp)]; rfl)
  (by rw [World.cell?_alloc_lt _ _ t (by simp; omega), World.cell?_alloc_lt _ _ t htl]; exact ht)
  (by rw [World.frozen?_alloc_old _ _ t (by simp; omega), World.frozen?_alloc_old _ _ t (Nat.ne_of_lt htl)]; exact hf)
 have HC := Hi (hc.carry rfl ((Below.refl w.1.size w).alloc (zdH _) (.cells #[.pointer (some ⟨2, 158, none⟩), .pointer (some ⟨k, 0, none⟩), .int .u64 150] 199)));clear hc
 go_enter Tryz.func137, Tryz.ntmps137
 go_wp2
 go_loopg [0] (l.length + 1) (fun q v wr => ∃ l', q = l'.length + 1 /\ xP (w.alloc (.cells #[.pointer (some ⟨2, 158, none⟩), .pointer (some ⟨k, 0, none⟩), .int .u64 150] 199)) n v l' /\ wr = w.alloc (.cells #[.pointer (some ⟨2, 158, none⟩), .pointer (some ⟨k, 0, none⟩), .int .u64 150] 199))
 case atStart => exact ⟨l, rfl, HC.o, rfl⟩
 case round =>
  obtain ⟨l', rfl, hch, rfl⟩ := hrel;cases hch with
  | base =>
   go_wp2
   go_ret
   refine ⟨rfl, ?_, ?_, ?_⟩
   ·exact World.cell?_setCell_same' _ _ _ (by rw [World.cell?_alloc_lt _ _ t (by simp; omega), World.cell?_alloc_lt _ _ t htl, ht]; rfl)
   ·simp; rw [World.frozen?_alloc_old _ _ t (by simp; omega), World.frozen?_alloc_old _ _ t (Nat.ne_of_lt htl)]; exact hf
   ·exact (((Below.refl B w).alloc hB _).alloc (by simp; omega) _).setCell hBt _
  | tag b s t' x l2 h0 h1 hlt hch2 =>
   have H2 := Hi hch2;clear hch2;go_wp2_with (go_at_call 216; refine (YQ b _ _ h1).mono ?_; rintro e w' ⟨rfl, rfl⟩)
   go_roundg (l2.length + 1)
   case measure => simp
   case rel => exact ⟨l2, rfl, H2.o, rfl⟩
abbrev Laid (w : World) : Prop := w.cell? ⟨0, 0, none⟩ = some (.iface 227 (.agg #[.pointer (some ⟨2, 27, none⟩)]))
theorem zah (B : Nat) (t : Addr) (old : Value) (n : Int) (v : Value) (l : List ByteArray) (w : World) (hc : xP w n v l) (hg : Laid w) (ht : w.cell? t = some old) (hf : w.frozen? t = false)
  (hB : B <= w.1.size) (hBt : B <= t.block) :
  Calls Tryz.prog 100 #[v, .iface 158 (.pointer (some t))] w (zag B t n w) := by
 have hlt : 0 < w.1.size := yi hg;have htl : t.block < w.1.size := yi ht;have f6 := Tryz.valueOf59;have f7 := Tryz.type59;have mK := Tryz.methodKind;have mE := Tryz.methodElem;have k59 := Tryz.kind59;have k29 := Tryz.kind29;have e59 := Tryz.elem59;have i29 := Tryz.implements29;have mI := Tryz.methodImplements;have n8 := Tryz.isNil59 ⟨w.1.size, 0, none⟩ t ((w.alloc (.cells #[.pointer (some t)] 158)).alloc (.cells #[.pointer (some ⟨2, 158, none⟩), .pointer (some ⟨w.1.size, 0, none⟩), .int .u64 150] 199)) (by simp);have hg2 : ((w.alloc (.cells #[.pointer (some t)] 158)).alloc (.cells #[.pointer (some ⟨2, 158, none⟩), .pointer (some ⟨w.1.size, 0, none⟩), .int .u64 150] 199)).cell? ⟨0, 0, none⟩ = some (.iface 227 (.agg #[.pointer (some ⟨2, 27, none⟩)])) := by
  rw [World.cell?_alloc_lt _ _ ⟨0, 0, none⟩ (by simp), World.cell?_alloc_lt _ _ ⟨0, 0, none⟩ hlt]; exact hg
 have hbw : Below w.1.size w ((w.alloc (.cells #[.pointer (some t)] 158)).alloc (.cells #[.pointer (some ⟨2, 158, none⟩), .pointer (some ⟨w.1.size, 0, none⟩), .int .u64 150] 199)) := ((Below.refl _ _).alloc (zdH _) _).alloc (by simp) _;have HC := Hi (zaH B t w.1.size old n v l _ (hc.carry rfl hbw) (by rw [World.cell?_alloc_lt _ _ ⟨w.1.size, 0, none⟩ (by simp), World.cell?_alloc_at _ _ _ _ (by simp)]; rfl) ((hbw.cell htl).trans ht) ((hbw.frozen htl).trans hf) (by simp; omega) hBt);have HB := Hi hbw;obtain ⟨t0, x0, rfl⟩ := hc.form;clear hc hbw
 go_enter Tryz.func100, Tryz.ntmps100
 go_wp2_with (go_at_call 137; refine HC.o.mono ?_; rintro e w' ⟨rfl, h1, h2, h3⟩)
 go_ret
 exact ⟨rfl, h1, h2, (HB.o.mono hB).trans h3⟩
theorem zc3 (w : World) : CallsD Tryz.prog 99 #[] .returning w fun e u' w' => e = .returned (.tuple #[]) /\ u' = .returning /\ w' = w := by
 refine callsD_of_wpS Tryz.func99 rfl fun c₀ cs hu => ?_
 apply wpS_region;simp [wpOpsS, go_sem, recoverD, hu, Tryz.ntmps99, bodyPostS, results, Tryz.results99];cases c₀
 simp_all
theorem VM (n : Int) (v : Value) (l : List ByteArray) (w : World) (hc : xP w n v l) (hg : Laid w) :
  Calls Tryz.prog 61 #[v] w fun e w' => e = .returned (.tuple #[.int .i64 n, .bool true]) /\ Below w.1.size w w' := by
 have hbw : Below w.1.size w (w.alloc (.cells #[.int .i64 0] 109)) := (Below.refl _ _).alloc (zdH _) _;have HC := Hi (zah w.1.size ⟨w.1.size, 0, none⟩ (.int .i64 0) n v l (w.alloc (.cells #[.int .i64 0] 109)) (hc.carry rfl hbw) ((hbw.cell (yi hg)).trans hg) (by simp) (by simp) (by simp) (zdH _));have HB := Hi hbw;clear hc hbw hg
 go_enter_defers Tryz.func61, Tryz.ntmps61
 go_wp2_with (go_at_call 100; refine HC.o.mono ?_; rintro e w' ⟨rfl, h1, h2, h3⟩);refine leaves_cons (f := 99) (args := #[]) (by simp) (by simp [go_sem]) ?_;refine (zc3 _).mono ?_;rintro e u' w'' ⟨rfl, rfl, rfl⟩;have hb := (HB.o.trans h3).setCell (p := ⟨w.1.size, 0, none⟩) (zdH _) (.int .i64 n);have hcell : (w'.setCell ⟨w.1.size, 0, none⟩ (.int .i64 n)).cell? ⟨w.1.size, 0, none⟩ = some (.int .i64 n) := World.cell?_setCell_same' _ _ _ (by rw [h1]; rfl);simp [Leaves, settle, results, Tryz.results61, go_sem, hcell, hb]
theorem J7 (n : Int) (v : Value) (l : List ByteArray) (w : World) (hc : xP w n v l) (hg : Laid w) :
  Calls Tryz.prog 17 #[v] w fun e w' => e = .returned (.int .i64 n) /\ Below w.1.size w w' := by
 have HC := Hi (VM n v l w hc hg);obtain ⟨t0, x0, rfl⟩ := hc.form;clear hc hg
 go_enter Tryz.func17, Tryz.ntmps17
 go_wp2_with (go_at_call 61; refine HC.o.mono ?_; rintro e w' ⟨rfl, h1⟩)
 go_ret
 exact ⟨rfl, h1⟩
theorem vI (w : World) : Calls Tryz.prog 17 #[.nilIface] w fun e w' => e = .returned (.int .i64 0) /\ w = w' := by
 go_enter Tryz.func17, Tryz.ntmps17
 go_wp2
 go_ret
 exact ⟨rfl, rfl⟩
theorem W1 (s : ByteArray) (w : World) : Calls Tryz.prog 59 #[.string s, .nilIface] w fun e w' => e = .returned .nilIface /\ w = w' := by
 go_enter Tryz.func59, Tryz.ntmps59
 go_wp2
 go_ret
 exact ⟨rfl, rfl⟩
theorem Xl (s : ByteArray) (t : TypeId) (x : Value) (w : World) :
  Calls Tryz.prog 59 #[.string s, .iface t x] w fun e w' => e = .returned (.iface 153 (.pointer (some ⟨w.1.size, 0, none⟩))) /\ w.alloc (.cells #[.string s, .iface t x] 155) = w' := by
 go_enter Tryz.func59, Tryz.ntmps59
 go_wp2
 go_ret
 exact ⟨rfl, rfl⟩
theorem Qc (s : ByteArray) (n : Int) (v : Value) (l : List ByteArray) (w : World) (hc : xP w n v l) :
  Calls Tryz.prog 59 #[.string s, v] w fun e w' => e = .returned (.iface 153 (.pointer (some ⟨w.1.size, 0, none⟩))) /\ xP w' n (.iface 153 (.pointer (some ⟨w.1.size, 0, none⟩))) (s :: l) /\ Below w.1.size w w' := by
 obtain ⟨t, x, rfl⟩ := hc.form;refine (Xl s t x w).mono ?_;rintro e w' ⟨rfl, rfl⟩;have hb : Below w.1.size w (w.alloc (.cells #[.string s, .iface t x] 155)) := (Below.refl _ _).alloc (zdH _) _;exact ⟨rfl, .tag _ s t x l (by simp) (by simp) (by simp) (hc.carry rfl hb), hb⟩
theorem Laid.carry {w w' : World} (hg : Laid w) (hb : Below w.1.size w w') : Laid w' := (hb.cell (yi hg)).trans hg
end Go.Proofs.YtafclmbecmgbnaaGreatDoor
