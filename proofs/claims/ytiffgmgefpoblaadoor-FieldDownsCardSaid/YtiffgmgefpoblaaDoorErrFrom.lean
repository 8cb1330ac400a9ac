/-
  Errors in memory, for a seat with or without disks: those of a number; those whose tags all lie from a block on; the contracts of tag.Num and tag.Tag for them. Conditions: none beyond the premises of each theorem.
-/
import Derived.Test.YtiffgmgefpoblaaDoorTagNum
import Derived.Test.YtiffgmgefpoblaaDoorNums
namespace Go.Proofs.YtiffgmgefpoblaaDoor
open Go.RowKit

def ErrIs (w : World) (c : Int) (v : Value) : Prop := (c = 0 ∧ v = .nilIface) ∨ ∃ l, Chain w c v l
theorem ErrIs.nil (w : World) : ErrIs w 0 .nilIface := .inl ⟨rfl, rfl⟩
theorem ErrIs.carry {w w' : World} {c : Int} {v : Value} (h : ErrIs w c v) (hb : Below w.heap.size w w') : ErrIs w' c v := by
  rcases h with h | ⟨l, h⟩
  · exact .inl h
  · exact .inr ⟨l, h.carry rfl hb⟩
theorem Num_any (c : Int) (v : Value) (w : World) (h : ErrIs w c v) (hg : Laid w) : Calls Tryd.prog 13 #[v] w fun e w' => e = .returned (.int .i64 c) ∧ Below w.heap.size w w' := by
  rcases h with ⟨rfl, rfl⟩ | ⟨l, h⟩
  · exact (Num_nil w).mono fun _ _ h => ⟨h.1, by rw [← h.2]; exact Below.refl _ _⟩
  · exact Num_chain c v l w h hg
/-- tags around a number, all in blocks from lo on -/
inductive ChainFrom (w : World) (lo : Nat) (c : Int) : Value → Prop
  | base : ChainFrom w lo c (.iface 46 (.int .i64 c))
  | tag (b : Nat) (s : ByteArray) (t : TypeId) (x : Value) : lo ≤ b → b < w.heap.size → w.cell? ⟨b, 0, none⟩ = some (.string s) → w.cell? ⟨b, 1, none⟩ = some (.iface t x) →
      ChainFrom w lo c (.iface t x) → ChainFrom w lo c (.iface 63 (.pointer (some ⟨b, 0, none⟩)))
theorem ChainFrom.form {w : World} {lo : Nat} {c : Int} {v : Value} (h : ChainFrom w lo c v) : ∃ t x, v = .iface t x := by cases h <;> exact ⟨_, _, rfl⟩
theorem ChainFrom.chain {w : World} {lo : Nat} {c : Int} {v : Value} (h : ChainFrom w lo c v) : ∃ l, Chain w c v l := by
  induction h with
  | base => exact ⟨[], .base⟩
  | tag b s t x _ h1 h2 h3 _ ih =>
    obtain ⟨l, hl⟩ := ih
    exact ⟨s :: l, .tag b s t x l h2 h3 h1 hl⟩
theorem ChainFrom.carry {w w' : World} {lo : Nat} {c : Int} {v : Value} (h : ChainFrom w lo c v) (hs : w.heap.size ≤ w'.heap.size) (hb : ∀ b, lo ≤ b → b < w.heap.size → w'.heap[b]? = w.heap[b]?) : ChainFrom w' lo c v := by
  induction h with
  | base => exact .base
  | tag b s t x h0 h1 h2 h3 _ ih =>
    have e := hb b h0 h1
    exact .tag b s t x h0 (Nat.lt_of_lt_of_le h1 hs) ((World.cell?_of_block (w := w) (a := ⟨b, 0, none⟩) e).trans h2) ((World.cell?_of_block (w := w) (a := ⟨b, 1, none⟩) e).trans h3) ih
theorem ChainFrom.mono {w : World} {lo lo' : Nat} {c : Int} {v : Value} (h : ChainFrom w lo c v) (hl : lo' ≤ lo) : ChainFrom w lo' c v := by
  induction h with
  | base => exact .base
  | tag b s t x h0 h1 h2 h3 _ ih => exact .tag b s t x (Nat.le_trans hl h0) h1 h2 h3 ih

/-- an error of this number whose tags lie from block lo on; nil has 0 -/
def ErrFrom (w : World) (lo : Nat) (c : Int) (v : Value) : Prop := (c = 0 ∧ v = .nilIface) ∨ (c ≠ 0 ∧ ChainFrom w lo c v)
theorem ErrFrom.zero {w : World} {lo : Nat} {v : Value} (h : ErrFrom w lo 0 v) : v = .nilIface := by
  rcases h with ⟨_, h⟩ | ⟨h, _⟩
  · exact h
  · exact absurd rfl h
theorem ErrFrom.some {w : World} {lo : Nat} {c : Int} {v : Value} (h : ErrFrom w lo c v) (hc : c ≠ 0) : ∃ t x, v = .iface t x := by
  rcases h with ⟨h, _⟩ | ⟨_, h⟩
  · exact absurd h hc
  · exact h.form
theorem ErrFrom.nil (w : World) (lo : Nat) : ErrFrom w lo 0 .nilIface := .inl ⟨rfl, rfl⟩
theorem ErrFrom.is {w : World} {lo : Nat} {c : Int} {v : Value} (h : ErrFrom w lo c v) : ErrIs w c v := by
  rcases h with h | ⟨_, h⟩
  · exact .inl h
  · exact .inr h.chain
theorem ErrFrom.carry {w w' : World} {lo : Nat} {c : Int} {v : Value} (h : ErrFrom w lo c v) (hs : w.heap.size ≤ w'.heap.size) (hb : ∀ b, lo ≤ b → b < w.heap.size → w'.heap[b]? = w.heap[b]?) : ErrFrom w' lo c v := by
  rcases h with h | ⟨hc, h⟩
  · exact .inl h
  · exact .inr ⟨hc, h.carry hs hb⟩
theorem ErrFrom.below {w w' : World} {lo : Nat} {c : Int} {v : Value} (h : ErrFrom w lo c v) (hb : Below w.heap.size w w') : ErrFrom w' lo c v := h.carry hb.size fun b _ hl => hb.block b hl
theorem ErrFrom.mono {w : World} {lo lo' : Nat} {c : Int} {v : Value} (h : ErrFrom w lo c v) (hl : lo' ≤ lo) : ErrFrom w lo' c v := by
  rcases h with h | ⟨hc, h⟩
  · exact .inl h
  · exact .inr ⟨hc, h.mono hl⟩
/-- a call that answers an error alone, of such memory, and leaves memory as it was -/
def FromPost (c : Int) (lo : Nat) (w : World) (e : Ending) (w' : World) : Prop := ∃ v, e = .returned v ∧ ErrFrom w' lo c v ∧ Below w.heap.size w w'
theorem Tag_from (s : ByteArray) (lo : Nat) (c : Int) (v : Value) (w : World) (h : ErrFrom w lo c v) (hlo : lo ≤ w.heap.size) : Calls Tryd.prog 22 #[.string s, v] w (FromPost c lo w) := by
  rcases h with ⟨rfl, rfl⟩ | ⟨hc, h⟩
  · refine (Tag_nil s w).mono ?_
    rintro e w' ⟨rfl, rfl⟩
    exact ⟨_, rfl, .nil _ _, Below.refl _ _⟩
  · obtain ⟨t, x, rfl⟩ := h.form
    refine (Tag_some s t x w).mono ?_
    rintro e w' ⟨rfl, rfl⟩
    have hb : Below w.heap.size w (w.alloc (.cells #[.string s, .iface t x] 65)) := (Below.refl _ _).alloc (Nat.le_refl _) _
    exact ⟨_, rfl, .inr ⟨hc, .tag _ s t x hlo (by simp) (by simp) (by simp) (h.carry hb.size fun b _ hl => hb.block b hl)⟩, hb⟩
end Go.Proofs.YtiffgmgefpoblaaDoor
