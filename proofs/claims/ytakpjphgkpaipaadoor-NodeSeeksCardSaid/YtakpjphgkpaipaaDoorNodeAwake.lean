/-
  The statements' own awake for layer 9: the document's example. Conditions: the program's calls are as NodeSpec says; errors.errorType is laid.
-/
import Derived.Test.YtakpjphgkpaipaaDoorNodeSpec
import Derived.Test.YtakpjphgkpaipaaDoorNodeSame
namespace Go.Proofs.YtakpjphgkpaipaaDoor
open Go.RowKit

/-- a leaf of the key 5 -/
def leaf5 : Nd := ⟨[5], [⟨#[49, 50, 51, 52, 53, 54, 55, 56, 57, 48, 49, 50]⟩], []⟩
theorem leaf5_right : rightN leaf5 = true := by decide
theorem empty_right : rightN Nd.empty = true := by decide
theorem empty_lay : layN Nd.empty = [0, 0] := by decide
theorem leaf5_at {w : World} {a b : Nat} (ha : w.cell? ⟨a, 0, none⟩ = some (.int .i64 5)) (hb : w.cell? ⟨b, 0, none⟩ = some (.string ⟨#[49, 50, 51, 52, 53, 54, 55, 56, 57, 48, 49, 50]⟩)) : NdIs w ⟨some ⟨a, 0, none⟩, some ⟨b, 0, none⟩, none, 1, 1, 0⟩ leaf5 := by
  refine ⟨fun _ => ⟨⟨a, 0, none⟩, rfl, below_block ha, fun i z hz => ?_⟩, ⟨rfl, fun _ => ⟨⟨b, 0, none⟩, rfl, below_block hb, fun i z hz => ?_⟩⟩, Nums.none_ _ _ _, by decide, by decide, by decide, ?_, ?_, ?_⟩
  · match i with
    | 0 =>
      obtain rfl : (5 : Int) = z := by simpa [leaf5] using hz
      exact ha
    | i + 1 => simp [leaf5] at hz
  · match i with
    | 0 =>
      have e := Option.some.inj hz
      rw [← e]
      exact hb
    | i + 1 => simp [leaf5] at hz
  · intro z hz
    have : z = 5 := by simpa [leaf5] using hz
    omega
  · intro v hv
    obtain rfl : v = ⟨#[49, 50, 51, 52, 53, 54, 55, 56, 57, 48, 49, 50]⟩ := by simpa [leaf5] using hv
    decide
  · intro z hz
    cases hz
theorem Tryd.nodeNone : Tryd.prog.built 32 [] = some #[.slice none 0 0, .slice none 0 0, .slice none 0 0] := by kernel_rfl
theorem Tryd.nodeTwo (x y : Value) : Tryd.prog.built 32 [(0, x), (1, y)] = Instr.fill ((#[(0, 1), (1, 1), (2, 1)] : Array (Nat × Nat))[·]?) #[.slice none 0 0, .slice none 0 0, .slice none 0 0] [(0, x), (1, y)] := by kernel_rfl
theorem built_node2 (A B : Option Addr) (a b ca cb : Nat) : Tryd.prog.built 32 [(0, .slice A a ca), (1, .slice B b cb)] = some #[.slice A a ca, .slice B b cb, .slice none 0 0] := by
  rw [Tryd.nodeTwo]
  rfl
set_option maxRecDepth 100000 in
theorem awake_any (H : NodeSpec) (w : World) (hg : Laid w) : Calls Tryd.prog 8 #[] w fun e w' => e = .returned (.bool true) ∧ Below w.heap.size w w' := by
  have hn0 := Tryd.nodeNone
  have hn2 := built_node2
  have HGK : Hid (∀ w', Below w.heap.size w w' → Laid w') := Lib.hid fun w' h => hg.carry h
  have HG := Lib.hid hg
  clear hg
  go_enter Tryd.func8, Tryd.ntmps8
  go_wp2_with fail
  refine (H.layYes (l := Lay3.none_) (NdIs.empty w) HG.out empty_right).mono ?_
  rw [empty_lay]
  rintro e w1 ⟨rfl, hb⟩
  have HB1 := Lib.hid hb
  clear hb
  go_wp2_with fail
  refine (Num_any 0 .nilIface w1 (.nil _) (HGK.out _ HB1.out)).mono ?_
  rintro e w2 ⟨rfl, hb⟩
  have HB2 := Lib.hid (HB1.out.trans (hb.mono HB1.out.size))
  clear hb
  go_wp2_with fail
  obtain ⟨g, HGG⟩ : ∃ g, Hid (g = w2.heap.size) := ⟨_, Lib.hid rfl⟩
  obtain ⟨w3, HW⟩ : ∃ w3, Hid (w3 = (w2.alloc (.cells #[.int .i64 5] 3)).alloc (.cells #[.string ⟨#[49, 50, 51, 52, 53, 54, 55, 56, 57, 48, 49, 50]⟩] 9)) := ⟨_, Lib.hid rfl⟩
  rw [← HW.out, ← HGG.out]
  have ha : w3.cell? ⟨g, 0, none⟩ = some (.int .i64 5) := by rw [HW.out, HGG.out]; simp
  have hb : w3.cell? ⟨g + 1, 0, none⟩ = some (.string ⟨#[49, 50, 51, 52, 53, 54, 55, 56, 57, 48, 49, 50]⟩) := by rw [HW.out, HGG.out]; simp
  have HB3 : Hid (Below w.heap.size w w3) := Lib.hid (by rw [HW.out]; exact (HB2.out.alloc HB2.out.size _).alloc (by have := HB2.out.size; simp; omega) _)
  refine (H.right (leaf5_at ha hb)).mono ?_
  rw [leaf5_right]
  rintro e w4 ⟨rfl, hb⟩
  have HB4 := Lib.hid (HB3.out.trans (hb.mono HB3.out.size))
  clear hb HW
  go_wp2_with fail
  go_ret
  exact ⟨rfl, HB4.out⟩
end Go.Proofs.YtakpjphgkpaipaaDoor
