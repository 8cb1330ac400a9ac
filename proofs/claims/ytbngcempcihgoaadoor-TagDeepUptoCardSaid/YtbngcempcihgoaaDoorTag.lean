/-
  The contracts of tag.Tag, of the statements' own helpers tagged and awake, and of tag.Same at nil. Condition of awake: the package variable errors.errorType holds the handle of the type error.
-/
import Derived.Test.YtbngcempcihgoaaDoorAs
namespace Go.Proofs.YtbngcempcihgoaaDoor
open Go.RowKit Go.Extern.Stop Go.Stop Go.Extern

theorem Same_nil (m : Int) (w : World) :
    Calls Tryd.prog 12 #[.nilIface, .int .i64 m] w fun e w' => e = .returned (.bool false) ∧ w = w' := by
  have hmf : ∀ (fn : Fn) (first cap : Array Value) (w : World), (Instr.makeFunc fn first cap).run Tryd.prog w = .ok (.func fn first cap) w := fun _ _ _ _ => rfl
  go_enter_defers Tryd.func12, Tryd.ntmps12
  go_wp2_with (go_at_call 21; refine (Is_nil m _).mono ?_; rintro e w' ⟨rfl, rfl⟩)
  refine leaves_cons (f := 20) (args := #[]) (by simp) (by simp [go_sem]) ?_
  refine (idle20 _).mono ?_
  rintro e u' w'' ⟨rfl, rfl, rfl⟩
  simp [Leaves, settle, results, Tryd.results12, go_sem]

theorem Tag_nil (s : ByteArray) (w : World) : Calls Tryd.prog 13 #[.string s, .nilIface] w fun e w' => e = .returned .nilIface ∧ w = w' := by
  go_enter Tryd.func13, Tryd.ntmps13
  go_wp2
  go_ret
  exact ⟨rfl, rfl⟩

theorem Tag_some (s : ByteArray) (t : TypeId) (x : Value) (w : World) :
    Calls Tryd.prog 13 #[.string s, .iface t x] w fun e w' => e = .returned (.iface 36 (.pointer (some ⟨w.heap.size, 0, none⟩))) ∧ w.alloc (.cells #[.string s, .iface t x] 38) = w' := by
  go_enter Tryd.func13, Tryd.ntmps13
  go_wp2
  go_ret
  exact ⟨rfl, rfl⟩

/-- a tag around a number with tags -/
theorem Tag_chain (s : ByteArray) (n : Int) (v : Value) (l : List ByteArray) (w : World) (hc : Chain w n v l) :
    Calls Tryd.prog 13 #[.string s, v] w fun e w' => e = .returned (.iface 36 (.pointer (some ⟨w.heap.size, 0, none⟩))) ∧ Chain w' n (.iface 36 (.pointer (some ⟨w.heap.size, 0, none⟩))) (s :: l) ∧ Below w.heap.size w w' := by
  obtain ⟨t, x, rfl⟩ := hc.form
  refine (Tag_some s t x w).mono ?_
  rintro e w' ⟨rfl, rfl⟩
  have hb : Below w.heap.size w (w.alloc (.cells #[.string s, .iface t x] 38)) := (Below.refl _ _).alloc (Nat.le_refl _) _
  exact ⟨rfl, .tag _ s t x l (by simp) (by simp) (by simp) (hc.carry rfl hb), hb⟩

set_option maxHeartbeats 4000000 in
theorem awake_any (w : World) (hg : Laid w) : Calls Tryd.prog 9 #[] w fun e w' => e = .returned (.bool true) ∧ Below w.heap.size w w' := by
  have HT := Lib.hid (Tag_chain ⟨#[100, 105, 115, 107]⟩ 7 (.iface 29 (.int .i64 7)) [] w .base)
  have HG := Lib.hid hg
  clear hg
  go_enter Tryd.func9, Tryd.ntmps9
  go_wp2_with fail
  refine HT.out.mono ?_
  rintro e w1 ⟨rfl, hc, hb⟩
  have HN := Lib.hid (Num_chain 7 _ _ w1 hc ((hb.cell (lt_of_cell HG.out)).trans HG.out))
  have HB := Lib.hid hb
  clear hc hb
  go_wp2_with fail
  refine HN.out.mono ?_
  rintro e w2 ⟨rfl, hb2⟩
  have HB2 := Lib.hid hb2
  clear hb2
  go_wp2
  go_ret
  exact ⟨rfl, HB.out.trans (HB2.out.mono HB.out.size)⟩

/-- a slice of strings, nil or not, that lies in memory -/
def Strs (w : World) (A : Option Addr) (len : Nat) (ss : List ByteArray) : Prop :=
  ss.length = len ∧ (0 < len → ∃ a, A = some a ∧ a.block < w.heap.size ∧ ∀ i s, ss[i]? = some s → w.cell? (a.add i) = some (.string s))
theorem block_of_add (a : Addr) (n : Nat) : (a.add n).block = a.block := by unfold Addr.add; split <;> rfl
theorem Strs.carry {w w' : World} {A : Option Addr} {len : Nat} {ss : List ByteArray} (h : Strs w A len ss) (hb : Below w.heap.size w w') : Strs w' A len ss :=
  ⟨h.1, fun hp => by
    obtain ⟨a, e, hlt, hc⟩ := h.2 hp
    exact ⟨a, e, Nat.lt_of_lt_of_le hlt hb.size, fun i s hs => (hb.cell (by rw [block_of_add]; exact hlt)).trans (hc i s hs)⟩⟩

def TaggedPost (n : Int) (ss : List ByteArray) (w : World) (e : Ending) (w' : World) : Prop :=
  ∃ v, e = .returned v ∧ Chain w' n v ss.reverse ∧ Below w.heap.size w w'
def TaggedRel (n : Int) (ss : List ByteArray) (w : World) (g : Nat) (v i : Value) (wr : World) : Prop :=
  ∃ k : Nat, k ≤ ss.length ∧ g = ss.length - k ∧ i = .int .i64 k ∧ Chain wr n v (ss.take k).reverse ∧ Below w.heap.size w wr

set_option maxHeartbeats 4000000 in
theorem tagged_any (n : Int) (A : Option Addr) (len cap : Nat) (ss : List ByteArray) (w : World) (hs : Strs w A len ss) (hlen : len ≤ 1000) :
    Calls Tryd.prog 10 #[.int .i64 n, .slice A len cap] w (TaggedPost n ss w) := by
  have HS := Lib.hid hs
  clear hs
  go_enter Tryd.func10, Tryd.ntmps10
  go_wp2
  go_loopg [5, 6] ss.length (fun g v i wr => TaggedRel n ss w g v i wr)
  case atStart => exact ⟨0, Nat.zero_le _, rfl, rfl, .base, Below.refl _ _⟩
  case round =>
    obtain ⟨k, hk, rfl, rfl, hch, hb⟩ := hrel
    have hl : ss.length = len := HS.out.1
    have hkl : k ≤ len := by omega
    by_cases hlt : k < len
    · obtain ⟨a, rfl, hab, hcell⟩ := HS.out.2 (by omega)
      obtain ⟨s, hsk⟩ : ∃ s, ss[k]? = some s := ⟨_, List.getElem?_eq_getElem (by omega)⟩
      have hc := (hb.cell (p := a.add k) (by rw [block_of_add]; exact hab)).trans (hcell k _ hsk)
      have HT := Lib.hid (Tag_chain s n _ _ wr hch)
      have HB := Lib.hid hb
      have HD := Lib.hid hsk
      have HL := Lib.hid hl
      have HK := Lib.hid hk
      clear hcell hsk hch hb hl hk
      go_wp2_with fail
      refine HT.out.mono ?_
      rintro e w1 ⟨rfl, h1, h2⟩
      have H1 := Lib.hid h1
      have H2 := Lib.hid h2
      clear h1 h2
      go_wp2
      go_roundg (ss.length - (k + 1))
      case measure => have := HL.out; omega
      case rel =>
        refine ⟨k + 1, by have := HL.out; omega, rfl, by go_num, ?_, HB.out.trans (H2.out.mono HB.out.size)⟩
        have e : (ss.take (k + 1)).reverse = s :: (ss.take k).reverse := by rw [List.take_add_one, HD.out]; simp
        rw [e]; exact H1.out
    · have HC := Lib.hid hch
      have HB := Lib.hid hb
      have HL := Lib.hid hl
      clear hch hb hl
      go_wp2
      go_ret
      have e : ss.take k = ss := List.take_of_length_le (by have := HL.out; omega)
      have hc := HC.out
      rw [e] at hc
      exact ⟨_, rfl, hc, HB.out⟩
end Go.Proofs.YtbngcempcihgoaaDoor
