/-
  What is asked of a function that is told cells; the contract of the closure of beside (layer 14). Conditions: none beyond the premises of each theorem.
-/
import Derived.Test.YtiffgmgefpoblaaDoorGridBasic
import Derived.Test.YtiffgmgefpoblaaDoorRegionHead
import Derived.Laws.EntriesVeiled
import Derived.Shelf.Abstract
namespace Go.Proofs.YtiffgmgefpoblaaDoor
open Go.RowKit

/-- cells of another type than numbers, but block lo, lie as they lay -/
def Keeps (lo : Nat) (w w' : World) : Prop := w.heap.size ≤ w'.heap.size ∧ ∀ (b : Nat) (c : Array Value) (t : TypeId) (x : Nat × Nat), b ≠ lo → t ≠ 3 → w.heap[b]? = some (.cells c t x) → w'.heap[b]? = some (.cells c t x)
theorem Keeps.refl (lo : Nat) (w : World) : Keeps lo w w := ⟨Nat.le_refl _, fun _ _ _ _ _ _ h => h⟩
theorem Keeps.trans {lo : Nat} {a b c : World} (h : Keeps lo a b) (k : Keeps lo b c) : Keeps lo a c := ⟨Nat.le_trans h.1 k.1, fun i d t x hi ht h0 => k.2 i d t x hi ht (h.2 i d t x hi ht h0)⟩
/-- a function value that is told cells: what holds when some have been told -/
structure Tells (g : Nat) (lb : Array Value) (lo : Nat) (ok : Nat → Prop) (J : List Nat → World → Prop) : Prop where
  step : ∀ pre n w, J pre w → ok n → pre.length < 4 → Calls Tryd.prog g (#[.int .i64 (n : Int)] ++ lb) w fun e w' => e = .returned (.tuple #[]) ∧ J (pre ++ [n]) w' ∧ Keeps lo w w'
  new : ∀ pre w o, J pre w → J pre (w.alloc o)
  drew : ∀ pre w, J pre w → J pre w.drew
  enter : ∀ args w, (callFunc g args).run Tryd.prog w = .ok (.enter g args) w
/-- a map in a variable -/
def MapAt (w : World) (b : Nat) (W H : Int) (s : ByteArray) : Prop := w.heap[b]? = some (.cells #[.int .i64 W, .int .i64 H, .string s] 30 (0, 0))
theorem MapAt.w_ {w : World} {b : Nat} {W H : Int} {s : ByteArray} (h : MapAt w b W H s) : w.cell? ⟨b, 0, none⟩ = some (.int .i64 W) := by simp [World.cell?, show w.heap[b]? = _ from h]
theorem MapAt.h_ {w : World} {b : Nat} {W H : Int} {s : ByteArray} (h : MapAt w b W H s) : w.cell? ⟨b, 1, none⟩ = some (.int .i64 H) := by simp [World.cell?, show w.heap[b]? = _ from h]
theorem MapAt.s_ {w : World} {b : Nat} {W H : Int} {s : ByteArray} (h : MapAt w b W H s) : w.cell? ⟨b, 2, none⟩ = some (.string s) := by simp [World.cell?, show w.heap[b]? = _ from h]
theorem MapAt.keeps {w w' : World} {b lo : Nat} {W H : Int} {s : ByteArray} (h : MapAt w b W H s) (k : Keeps lo w w') (hb : b ≠ lo) : MapAt w' b W H s := k.2 b _ _ _ hb (by decide) h
theorem MapAt.alloc {w : World} {b : Nat} {W H : Int} {s : ByteArray} (h : MapAt w b W H s) (o : Obj) : MapAt (w.alloc o) b W H s := (Below.heap_alloc _ _ _ (Array.getElem?_eq_some_iff.1 h).1).trans h
theorem MapAt.lt {w : World} {b : Nat} {W H : Int} {s : ByteArray} (h : MapAt w b W H s) : b < w.heap.size := (Array.getElem?_eq_some_iff.1 h).1
theorem MapAt.set {w : World} {b : Nat} {W H : Int} {s : ByteArray} (h : MapAt w b W H s) {c : Nat} (hc : b ≠ c) (v : Value) : MapAt (w.setCell ⟨c, 0, none⟩ v) b W H s := (Below.heap_setCell _ _ _ _ hc).trans h
def FnAt (w : World) (b g : Nat) (lb : Array Value) : Prop := w.heap[b]? = some (.cells #[.func (.func g) #[] lb] 59 (0, 0))
theorem FnAt.cell {w : World} {b g : Nat} {lb : Array Value} (h : FnAt w b g lb) : w.cell? ⟨b, 0, none⟩ = some (.func (.func g) #[] lb) := by simp [World.cell?, show w.heap[b]? = _ from h]
theorem FnAt.keeps {w w' : World} {b lo g : Nat} {lb : Array Value} (h : FnAt w b g lb) (k : Keeps lo w w') (hb : b ≠ lo) : FnAt w' b g lb := k.2 b _ _ _ hb (by decide) h
/-- what is told of one neighbour -/
def toldOf (s : ByteArray) (there : Bool) (k : Nat) : List Nat := if there = true ∧ Grid.openAt s.data.toList k = true then [k] else []
theorem byte_ne (s : ByteArray) (k : Nat) (hk : k < s.size) : ((s[k]).toNat != 35) = Grid.openAt s.data.toList k := by
  rw [Grid.openAt_eq (by rw [Array.length_toList]; exact hk)]
  have e : s[k] = s.data.toList[k]'(by rw [Array.length_toList]; exact hk) := by simp; rfl
  rw [e]
  generalize s.data.toList[k]'_ = c
  rw [Bool.eq_iff_iff]
  simp only [bne_iff_ne, ne_eq]
  exact not_congr ⟨fun h => UInt8.toNat_inj.1 h, fun h => by rw [h]; rfl⟩
theorem byte_ne_int (s : ByteArray) (k : Nat) (hk : k < s.size) : (((s[k]).toNat : Int) != 35) = Grid.openAt s.data.toList k := by
  rw [← byte_ne s k hk, Bool.eq_iff_iff]
  simp only [bne_iff_ne, ne_eq]
  omega
set_option maxRecDepth 100000 in
theorem neigh_any {g : Nat} {lb : Array Value} {lo : Nat} {ok : Nat → Prop} {J : List Nat → World → Prop} (T : Tells g lb lo ok J) {W H : Int} {s : ByteArray} {bm bt : Nat} (pre : List Nat) (w : World) (there : Bool) (n : Int) (k : Nat)
    (hm : MapAt w bm W H s) (ht : FnAt w bt g lb) (hn : there = true → n = (k : Int) ∧ k < s.size ∧ (Grid.openAt s.data.toList k = true → ok k)) (hJ : J pre w) (hp : pre.length < 4) :
    Calls Tryd.prog 40 #[.bool there, .int .i64 n, .pointer (some ⟨bm, 0, none⟩), .pointer (some ⟨bt, 0, none⟩)] w fun e w' => e = .returned (.tuple #[]) ∧ J (pre ++ toldOf s there k) w' ∧ Keeps lo w w' := by
  have c2 := hm.s_
  have c3 := ht.cell
  have HJ := Lib.hid hJ
  clear hm ht hJ
  cases there with
  | false =>
    clear hn c2 c3
    go_enter Tryd.func40, Tryd.ntmps40
    go_wp2_with fail
    go_end0
    exact ⟨rfl, by rw [show toldOf s false k = [] from rfl, List.append_nil]; exact HJ.out, Keeps.refl _ _⟩
  | true =>
    obtain ⟨rfl, hk, ho⟩ := hn rfl
    have HO := Lib.hid ho
    clear ho
    have hb := byte_ne s k hk
    obtain ⟨o, HOP⟩ : ∃ o, Hid (o = Grid.openAt s.data.toList k) := ⟨_, Lib.hid rfl⟩
    rw [← HOP.out] at hb
    have he := T.enter
    go_enter Tryd.func40, Tryd.ntmps40
    cases o with
    | false =>
      go_wp2_with fail
      go_end0
      exact ⟨rfl, by rw [show toldOf s true k = [] from if_neg (fun h => by rw [← HOP.out] at h; cases h.2), List.append_nil]; exact HJ.out, Keeps.refl _ _⟩
    | true =>
      go_wp2_with fail
      refine (T.step pre k w HJ.out (HO.out HOP.out.symm) hp).mono ?_
      rintro e w' ⟨rfl, hj, hkp⟩
      go_wp2_with fail
      go_end0
      exact ⟨rfl, by rw [show toldOf s true k = [k] from if_pos ⟨rfl, HOP.out.symm⟩]; exact hj, hkp⟩
end Go.Proofs.YtiffgmgefpoblaaDoor
