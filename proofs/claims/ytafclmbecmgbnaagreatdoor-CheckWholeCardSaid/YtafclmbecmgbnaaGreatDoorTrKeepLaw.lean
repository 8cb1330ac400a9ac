/-
 TrKeepLaw. Conditions: as each theorem says.
-/
import Derived.Test.YtafclmbecmgbnaaGreatDoorTrDelModel
import Derived.Test.YtafclmbecmgbnaaGreatDoorTd
import Derived.Test.YtafclmbecmgbnaaGreatDoorRowsOpen
set_option maxRecDepth 100000
namespace Go.Proofs.YtafclmbecmgbnaaGreatDoor
open Go.RowKit
structure Ka where
 what : Nat
 key : Nat
 val : Nat
def Vr (a : Ka) : List Value := [.int .u8 (a.what : Int), .int .u8 (a.key : Int), .int .u32 (a.val : Int)]
structure Ka.Ok (a : Ka) : Prop where
 what : a.what < 256
 key : a.key < 256
 val : a.val < 4294967296
theorem Tryz.kaTy : za3 Tryz.prog 22 35 3 [.int .u8, .int .u8, .int .u32] :=
 ⟨Tryz.underlying22, by kernel_rfl, by kernel_rfl, by kernel_rfl, rfl, fun j kd h => by
  match j, h with
  | 0, h => obtain rfl := Option.some.inj h; exact ⟨⟨"Do", 5, 0, false, "", "", 0⟩, by kernel_rfl, rfl, by kernel_rfl, Tryz.underlying5⟩
  | 1, h => obtain rfl := Option.some.inj h; exact ⟨⟨"Key", 5, 1, false, "", "", 1⟩, by kernel_rfl, rfl, by kernel_rfl, Tryz.underlying5⟩
  | 2, h => obtain rfl := Option.some.inj h; exact ⟨⟨"Val", 23, 2, false, "", "", 4⟩, by kernel_rfl, rfl, by kernel_rfl, Tryz.underlying23⟩
  | j + 3, h => simp at h, by decide⟩
theorem XR : ∀ {rows : List (List Value)}, (∀ r ∈ rows, r.length = 3 /\ ∀ (j : Nat) (kd : xB), [xB.int .u8, .int .u8, .int .u32][j]? = some kd -> ∃ c, r[j]? = some c /\ kd.ok c) -> ∃ l : List Ka, rows = l.map Vr /\ ∀ a ∈ l, a.Ok
 | [], _ => ⟨[], rfl, fun _ h => by cases h⟩
 | r :: rest, h => by
  obtain ⟨l, rfl, hl⟩ := XR (rows := rest) fun x hx => h x (List.mem_cons_of_mem _ hx)
  obtain ⟨hlen, hc⟩ := h r List.mem_cons_self;obtain ⟨c0, e0, n0, rfl, w0⟩ := hc 0 _ rfl;obtain ⟨c1, e1, n1, rfl, w1⟩ := hc 1 _ rfl;obtain ⟨c2, e2, n2, rfl, w2⟩ := hc 2 _ rfl;obtain ⟨m0, rfl, b0⟩ := YR w0;obtain ⟨m1, rfl, b1⟩ := YR w1;obtain ⟨m2, rfl, b2⟩ := Z1 w2
  match r, hlen with
  | [x, y, z], _ =>
   simp only [List.getElem?_cons_zero, List.getElem?_cons_succ, Option.some.injEq] at e0 e1 e2;subst e0 e1 e2;exact ⟨⟨m0, m1, m2⟩ :: l, rfl, fun a ha => by
    rcases List.mem_cons.1 ha with rfl | ha
    ·exact ⟨b0, b1, b2⟩
    ·exact hl a ha⟩
def YD (w : World) (A : Option Addr) (l : List Ka) : Prop := kh w A 3 (l.map Vr)
theorem YD.below {w w' : World} {A : Option Addr} {l : List Ka} (h : YD w A l) (hb : Below w.1.size w w') : YD w' A l := kh.below h hb
theorem YD.at_ {w : World} {A : Option Addr} {l : List Ka} (h : YD w A l) {i : Nat} (hi : i < l.length) : ∃ b o, A = some ⟨b, o, none⟩ /\ b < w.1.size /\ w.cell? ⟨b, o + i * 3, none⟩ = some (.int .u8 (l[i].what : Int)) /\ w.cell? ⟨b, o + i * 3 + 1, none⟩ = some (.int .u8 (l[i].key : Int)) /\ w.cell? ⟨b, o + i * 3 + 2, none⟩ = some (.int .u32 (l[i].val : Int)) := by
 obtain ⟨b, o, e, hlt, hc⟩ := kh.at_ h (i := i) (r := Vr l[i]) (by simp [hi]);exact ⟨b, o, e, hlt, hc 0 _ rfl, hc 1 _ rfl, hc 2 _ rfl⟩
theorem zbV {H : Type} {enc : TypeId × Value -> H} {W : World} {v : Value} {d : DataW H} {ps : List MemPlace} {r : Reach} {b0 : Nat} (hval : Value.okWide Tryz.prog W r b0 22 v)
  (h : DataW.Trod enc Tryz.prog W 0 (fun _ => true) true 22 v d ps) : ∃ (A : Option Addr) (cap : Nat) (l : List Ka), v = .slice A l.length cap /\ YD W A l /\ (∀ a ∈ l, a.Ok) /\ l.length <= cap /\ cap <= maxLen := by
 obtain ⟨A, cap, rows, rfl, h1, h2, h3, h4⟩ := zad Tryz.kaTy hval h;obtain ⟨l, rfl, hl⟩ := XR h2;rw [List.length_map] at h3 ⊢;exact ⟨A, cap, l, rfl, h1, hl, h3, h4⟩
end Go.Proofs.YtafclmbecmgbnaaGreatDoor
