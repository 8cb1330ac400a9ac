/-
  Tx: several texts in one file. Conditions: as each part says.
-/
import Derived.Test.YtafclmbecmgbnaaGreatDoorPacks
import Derived.Shelf.Spec.SlicesInsertGrow
import Derived.Shelf.Slices.Delete
import Derived.Test.YtafclmbecmgbnaaGreatDoorTa
import Derived.Test.YtafclmbecmgbnaaGreatDoorSm
import Derived.Test.YtafclmbecmgbnaaGreatDoorTrModel
import Derived.Test.YtafclmbecmgbnaaGreatDoorTm
/-
 TrShelf. Conditions: as each theorem says.
-/
namespace Go.Proofs.YtafclmbecmgbnaaGreatDoor
open Go.Shelf
def ren21 : Ren := ⟨fun x => match x with | 21 => 143 | 27 => 162 | 28 => 163 | 35 => 176 | 39 => 189 | n => n, fun x => match x with | 22 => 45 | 3 => 3 | 4 => 4 | 0 => 0 | n => n, fun x => x⟩
set_option maxRecDepth 100000 in
theorem lays21 : Lays2.n21 Tryz.prog ren21 where
 mixed := by kernel_rfl
 f21 := by kernel_rfl
 f27 := by kernel_rfl
 f28 := by kernel_rfl
 f35 := by kernel_rfl
 f39 := by kernel_rfl
 t0 := by kernel_rfl
 a0 := fun _ => by kernel_rfl
 z0 := fun _ => by kernel_rfl
 v0 := fun _ => by kernel_rfl
 t3 := by kernel_rfl
 a3 := fun _ => by kernel_rfl
 z3 := fun _ => by kernel_rfl
 v3 := fun _ => by kernel_rfl
 t4 := by kernel_rfl
 a4 := fun _ => by kernel_rfl
 z4 := fun _ => by kernel_rfl
 v4 := fun _ => by kernel_rfl
 t22 := by kernel_rfl
 a22 := fun _ => by kernel_rfl
 z22 := fun _ => by kernel_rfl
 v22 := fun _ => by kernel_rfl
 i3 := by kernel_rfl
def ren22 : Ren := ⟨fun x => match x with | 22 => 144 | 29 => 165 | 30 => 166 | 36 => 177 | 17 => 190 | n => n, fun x => match x with | 24 => 46 | 9 => 9 | 3 => 3 | 4 => 4 | 0 => 0 | n => n, fun x => x⟩
set_option maxRecDepth 100000 in
theorem lays22 : Lays2.n22 Tryz.prog ren22 where
 mixed := by kernel_rfl
 f17 := by kernel_rfl
 f22 := by kernel_rfl
 f29 := by kernel_rfl
 f30 := by kernel_rfl
 f36 := by kernel_rfl
 t0 := by kernel_rfl
 a0 := fun _ => by kernel_rfl
 z0 := fun _ => by kernel_rfl
 v0 := fun _ => by kernel_rfl
 t3 := by kernel_rfl
 a3 := fun _ => by kernel_rfl
 z3 := fun _ => by kernel_rfl
 v3 := fun _ => by kernel_rfl
 t4 := by kernel_rfl
 a4 := fun _ => by kernel_rfl
 z4 := fun _ => by kernel_rfl
 v4 := fun _ => by kernel_rfl
 t9 := by kernel_rfl
 a9 := fun _ => by kernel_rfl
 z9 := fun _ => by kernel_rfl
 v9 := fun _ => by kernel_rfl
 t24 := by kernel_rfl
 a24 := fun _ => by kernel_rfl
 z24 := fun _ => by kernel_rfl
 v24 := fun _ => by kernel_rfl
 i9 := by kernel_rfl
end Go.Proofs.YtafclmbecmgbnaaGreatDoor

/-
 TrRow. Conditions: as each theorem says.
-/
namespace Go.Proofs.YtafclmbecmgbnaaGreatDoor
open Go.RowKit
def VRow (w : World) (g : Nat) (e : TypeId) (l : List Value) : Prop := w.heap[g]? = some (.cells ⟨l⟩ e (0, 0))
theorem VRow.lt {w : World} {g : Nat} {e : TypeId} {l : List Value} (h : VRow w g e l) : g < w.heap.size := (Array.getElem?_eq_some_iff.1 h).1
theorem VRow.cell {w : World} {g : Nat} {e : TypeId} {l : List Value} (h : VRow w g e l) (j : Nat) : w.cell? ⟨g, j, none⟩ = l[j]? := by
 unfold VRow at h
 simp [World.cell?, h]
theorem VRow.frozen {w : World} {g : Nat} {e : TypeId} {l : List Value} (h : VRow w g e l) (j : Nat) : w.frozen? ⟨g, j, none⟩ = false := by
 unfold VRow at h
 simp [World.frozen?, h]
theorem VRow.shape {w : World} {g : Nat} {e : TypeId} {l : List Value} (h : VRow w g e l) : w.shape? g = some (e, l.length) := by
 unfold VRow at h
 simp [World.shape?, h]
theorem VRow.keep {w w' : World} {g : Nat} {e : TypeId} {l : List Value} (h : VRow w g e l) (hb : w'.heap[g]? = w.heap[g]?) : VRow w' g e l := hb.trans h
theorem VRow.setCell {w : World} {g : Nat} {e : TypeId} {l : List Value} (h : VRow w g e l) (j : Nat) (u : Value) : VRow (w.setCell ⟨g, j, none⟩ u) g e (l.set j u) := by
 unfold VRow at *
 rw [heap_setCell_same w g j _ e u h]
 simp
theorem set_take_drop (l : List Value) (o : Nat) (v : Value) (r : List Value) (h : o + (r.length + 1) ≤ l.length) : (l.set o v).take (o + 1) ++ r ++ (l.set o v).drop (o + 1 + r.length) = l.take o ++ (v :: r) ++ l.drop (o + (r.length + 1)) := by
 apply List.ext_getElem?
 intro i
 simp only [List.getElem?_append, List.length_append, List.length_take, List.length_set, List.length_cons, List.getElem?_take, List.getElem?_drop, List.getElem?_set]
 grind
theorem VRow.setCells {w : World} {g : Nat} {e : TypeId} {l : List Value} (h : VRow w g e l) (o : Nat) (vs : List Value) (ho : o + vs.length ≤ l.length) : VRow (w.setCells g o vs) g e (l.take o ++ vs ++ l.drop (o + vs.length)) := by
 induction vs generalizing w l o with
 | nil => simpa [World.setCells] using h
 | cons v r ih =>
  have h2 := h.setCell o v
  have := ih h2 (o + 1) (by simp at ho ⊢; omega)
  rw [set_take_drop l o v r (by simpa using ho)] at this
  exact this
theorem VRow.new (w : World) (l : List Value) (e : TypeId) : VRow (w.alloc (.cells ⟨l⟩ e)) w.heap.size e l := by
 unfold VRow World.alloc
 simp
theorem own_row {w : World} {b : Nat} {e : TypeId} {g n c : Nat} {xs : List Value} (h : w.ownsRow b e 1 (.slice (some ⟨g, 0, none⟩) n c) n xs) : ∃ l, VRow w g e l ∧ l.length = c ∧ l.take n = xs ∧ n ≤ c ∧ c ≤ maxLen ∧ b ≤ g := by
 rcases h.2 with ⟨h1, _⟩ | ⟨g', cap, cur, e1, e2, e3, e4, e5, e6, e7⟩
 ·cases h1
 ·cases e1
  exact ⟨cur.toList, by unfold VRow; rw [e3], by simpa using e6, by simpa using e7, e4, e5, e2⟩
theorem row_own {w : World} {b : Nat} {e : TypeId} {g n c : Nat} {xs l : List Value} (h : VRow w g e l) (hl : l.length = c) (hx : l.take n = xs) (hn : n ≤ c) (hc : c ≤ maxLen) (hb : b ≤ g) : w.ownsRow b e 1 (.slice (some ⟨g, 0, none⟩) n c) n xs := by
 refine ⟨by rw [← hx, List.length_take]; omega, .inr ⟨g, c, ⟨l⟩, rfl, hb, h, hn, hc, by simpa using hl, by simpa using hx⟩⟩
theorem setCells_far (w : World) (g o : Nat) (vs : List Value) {i : Nat} (hi : i ≠ g) : (w.setCells g o vs).heap[i]? = w.heap[i]? := by
 induction vs generalizing w o with
 | nil => rfl
 | cons v r ih => exact (ih (w.setCell ⟨g, o, none⟩ v) (o + 1)).trans (World.heap_setCell_far9 _ _ _ hi)
theorem setCells_size9 (w : World) (g o : Nat) (vs : List Value) : (w.setCells g o vs).heap.size = w.heap.size := by
 induction vs generalizing w o with
 | nil => rfl
 | cons v r ih => exact (ih (w.setCell ⟨g, o, none⟩ v) (o + 1)).trans (World.heap_setCell_size9 _ _ _)
theorem setCells_meta (w : World) (g o : Nat) (vs : List Value) : (w.setCells g o vs).os = w.os ∧ (w.setCells g o vs).tape = w.tape ∧ (w.setCells g o vs).output = w.output := by
 induction vs generalizing w o with
 | nil => exact ⟨rfl, rfl, rfl⟩
 | cons v r ih => exact ih (w.setCell ⟨g, o, none⟩ v) (o + 1)
theorem Turn.setCells {M : Nat → Prop} {w w' : World} (h : Turn M w w') {g : Nat} (hg : M g ∨ w.heap.size ≤ g) (o : Nat) (vs : List Value) : Turn M w (w'.setCells g o vs) := by
 obtain ⟨h1, h2, h3⟩ := setCells_meta w' g o vs
 refine ⟨h1.trans h.os, h2.trans h.tape, h3.trans h.output, by rw [setCells_size9]; exact h.size, fun k hk => ?_⟩
 rw [setCells_far _ _ _ _ (by rintro rfl; rcases hg with hg | hg; exact hk.2 hg; omega)]
 exact h.block k hk
theorem Turn.drew {M : Nat → Prop} {w w' : World} (h : Turn M w w') : Turn M w w'.drew := ⟨h.os, h.tape, h.output, h.size, h.block⟩
theorem Turn.alloc {M : Nat → Prop} {w w' : World} (h : Turn M w w') (o : Obj) : Turn M w (w'.alloc o) :=
 ⟨h.os, h.tape, h.output, Nat.le_trans h.size (by simp), fun k hk => (by
  have h2 := h.size
  have h3 := hk.1
  have : (w'.alloc o).heap[k]? = w'.heap[k]? := ((Below.refl w'.heap.size w').alloc (Nat.le_refl _) o).block k (by omega)
  exact this.trans (h.block k hk))⟩
theorem Turn.refl (M : Nat → Prop) (w : World) : Turn M w w := ⟨rfl, rfl, rfl, Nat.le_refl _, fun _ _ => rfl⟩
structure RowPost (w : World) (b : Nat) (e : TypeId) (A : Option Addr) (xs : List Value) (en : Ending) (w' : World) : Prop where
 out : ∃ A' c', en = .returned (.slice A' xs.length c') ∧ w'.ownsRow b e 1 (.slice A' xs.length c') xs.length xs ∧ ∀ a, A' = some a → A = some a ∨ w.heap.size ≤ a.block
 turn : Turn (fun k => ∃ a, A = some a ∧ a.block = k) w w'
theorem shift_list {α : Type} {l vs : List α} {i n m : Nat} (hi : i ≤ n) (hm : vs.length = m) (hn : n + m ≤ l.length) :
  ((l.take (i + m) ++ (l.take n).drop i ++ l.drop (i + m + ((l.take n).drop i).length)).take i ++ vs ++ (l.take (i + m) ++ (l.take n).drop i ++ l.drop (i + m + ((l.take n).drop i).length)).drop (i + vs.length)).take (n + m) = (l.take n).take i ++ vs ++ (l.take n).drop i := by
 apply List.ext_getElem?
 intro j
 simp only [List.getElem?_append, List.length_append, List.length_take, List.length_drop, List.getElem?_take, List.getElem?_drop]
 grind
theorem grow_list {α : Type} {a vs d z : List α} {i m : Nat} (hi : a.length = i) (hm : vs.length = m) (hz : m + d.length ≤ z.length) :
  (((a ++ z).take i ++ vs ++ (a ++ z).drop (i + vs.length)).take (i + m) ++ d ++ ((a ++ z).take i ++ vs ++ (a ++ z).drop (i + vs.length)).drop (i + m + d.length)).take (i + m + d.length) = a ++ vs ++ d := by
 apply List.ext_getElem?
 intro j
 simp only [List.getElem?_append, List.length_append, List.length_take, List.length_drop, List.getElem?_take, List.getElem?_drop]
 grind
theorem room_list {α : Type} {l vs : List α} {n m : Nat} (hm : vs.length = m) (hn : n + m ≤ l.length) : (l.take n ++ vs ++ l.drop (n + vs.length)).take (n + m) = l.take n ++ vs := by
 apply List.ext_getElem?
 intro j
 simp only [List.getElem?_append, List.length_append, List.length_take, List.getElem?_take, List.getElem?_drop]
 grind
theorem VRow.drew {w : World} {g : Nat} {e : TypeId} {l : List Value} (h : VRow w g e l) : VRow w.drew g e l := h
theorem VRow.made (w : World) (a : Array Value) (e : TypeId) : VRow (w.alloc (.cells a e)) w.heap.size e a.toList := by
 unfold VRow World.alloc
 simp
set_option maxHeartbeats 1000000 in
theorem insInt {w : World} {b : Nat} {A : Option Addr} {n c : Nat} {xs vs lv : List Value} (h : w.ownsRow b 3 1 (.slice A n c) n xs) (h1 : ∀ v ∈ xs, v.oneCell' = true) {i : Nat} (hi : i ≤ n) {vb voff m vc : Nat} {eV : TypeId} (hm : 0 < m) (hvl : vs.length = m)
  (hr : VRow w vb eV lv) (hv : ∀ j v, vs[j]? = some v → lv[voff + j]? = some v) (hv1 : ∀ v ∈ vs, v.oneCell' = true) (hne : ∀ a, A = some a → a.block ≠ vb) (hs : n + m ≤ 1000) (hb : b ≤ w.heap.size) :
  Calls Tryz.prog 143 #[.slice A n c, .int .i64 (i : Int), .slice (some ⟨vb, voff, none⟩) m vc] w (RowPost w b 3 A (xs.take i ++ vs ++ xs.drop i)) := by
 have hxl : xs.length = n := by have := h.1; omega
 have hlen : (xs.take i ++ vs ++ xs.drop i).length = n + m := by simp; omega
 have hvs : ∀ j v, vs[j]? = some v → w.cell? ⟨vb, voff + j, none⟩ = some v := fun j v hj => by rw [hr.cell]; exact hv j v hj
 have hmx : n + m ≤ maxLen := by unfold maxLen; omega
 have hge : ∀ c, n + m ≤ grownCap w (n + m) c 3 := fun c => grownCap_ge w (n + m) c 3
 have hle : ∀ c, grownCap w (n + m) c 3 ≤ maxLen := fun c => grownCap_le_maxLen w (n + m) c 3 hmx
 have hzc : ∀ k, (Builtin.zeroCells (Value.int .i64 0).cells k).toList.length = k := fun k => by rw [Array.length_toList, size_zeroCells]; simp [Value.cells]
 have hnew : ∀ (c' : Nat) (l : List Value) (w' : World), VRow w' w.heap.size 3 l → l.length = c' → l.take (n + m) = xs.take i ++ vs ++ xs.drop i → n + m ≤ c' → c' ≤ maxLen → Turn (fun k => ∃ a, A = some a ∧ a.block = k) w w' →
   RowPost w b 3 A (xs.take i ++ vs ++ xs.drop i) (.returned (.slice (some ⟨w.heap.size, 0, none⟩) (n + m) c')) w' := fun c' l w' hw hc ht hc1 hc2 htn => by
  refine ⟨⟨some ⟨w.heap.size, 0, none⟩, c', by rw [hlen], ?_, fun a ha => .inr (by cases ha; exact Nat.le_refl _)⟩, htn⟩
  rw [hlen]
  exact row_own hw hc ht hc1 hc2 hb
 have hend : i = n → ∀ c' , n + m ≤ c' → c' ≤ maxLen → RowPost w b 3 A (xs.take i ++ vs ++ xs.drop i) (.returned (.slice (some ⟨w.heap.size, 0, none⟩) (n + m) c')) (w.drew.alloc (.cells ((xs ++ vs).toArray ++ Builtin.zeroCells (Value.int .i64 0).cells (c' - (n + m))) 3)) := fun hin c' hc1 hc2 => by
  subst hin
  have ht : xs.take i = xs := List.take_of_length_le (by omega)
  have hd : xs.drop i = [] := List.drop_of_length_le (by omega)
  refine hnew c' _ _ (VRow.made _ _ _) ?_ ?_ hc1 hc2 ((Turn.refl _ w).drew.alloc _)
  ·rw [Array.toList_append, List.length_append, hzc]; simp; omega
  ·rw [Array.toList_append, ht, hd, List.append_nil, List.take_left' (by simp; omega)]
 rcases h.2 with ⟨h2, h3⟩ | ⟨g, cap, cur, e1, _⟩
 ·simp only [Value.slice.injEq] at h2
  obtain ⟨rfl, _, rfl⟩ := h2
  subst h3
  obtain rfl : i = 0 := by omega
  obtain rfl := List.length_eq_zero_iff.1 hxl
  refine (Any2.slices_Insert_int_end_grow lays21 none 0 0 vb voff m vc [] vs w hm (Nat.le_refl _) (by omega) (by omega) rfl hvl (fun _ => rfl) (fun a ha => (by cases ha)) hvs hv1).mono ?_
  rintro e w' ⟨rfl, rfl⟩
  exact hend rfl _ (hge 0) (hle 0)
 ·simp only [Value.slice.injEq] at e1
  obtain ⟨rfl, _, rfl⟩ := e1
  obtain ⟨l, hrow, hll, hlt, hnc, hcm, hbg⟩ := own_row h
  have hgv : vb ≠ g := fun e => hne _ rfl e.symm
  have hcs : ∀ j v, xs[j]? = some v → w.cell? ⟨g, 0 + j, none⟩ = some v := fun j v hj => by
   rw [hrow.cell, Nat.zero_add]
   rw [← hlt, List.getElem?_take] at hj
   split at hj
   ·exact hj
   ·cases hj
  have hold : ∀ (l2 : List Value) (w' : World), VRow w' g 3 l2 → l2.length = c → l2.take (n + m) = xs.take i ++ vs ++ xs.drop i → n + m ≤ c → Turn (fun k => ∃ a, some (⟨g, 0, none⟩ : Addr) = some a ∧ a.block = k) w w' →
    RowPost w b 3 (some ⟨g, 0, none⟩) (xs.take i ++ vs ++ xs.drop i) (.returned (.slice (some ⟨g, 0, none⟩) (n + m) c)) w' := fun l2 w' hw hc ht hc1 htn => by
   refine ⟨⟨some ⟨g, 0, none⟩, c, by rw [hlen], ?_, fun a ha => .inl ha⟩, htn⟩
   rw [hlen]
   exact row_own hw hc ht hc1 hcm hbg
  by_cases hin : i = n
  ·by_cases hroom : n + m ≤ c
   ·subst hin
    refine (Any2.slices_Insert_int_end_room lays21 g 0 i c vb voff m vc vs w hm hroom (by unfold maxLen at hcm; omega) hvl (fun j hj => by rw [hrow.cell, List.getElem?_eq_getElem (by omega)]; rfl) (fun j _ => hrow.frozen _) hvs hv1).mono ?_
    rintro e w' ⟨rfl, rfl⟩
    have hd : xs.drop i = [] := List.drop_of_length_le (by omega)
    have ht : xs.take i = xs := List.take_of_length_le (by omega)
    refine hold _ _ (hrow.setCells (0 + i) vs (by omega)) ?_ ?_ hroom ((Turn.refl _ w).setCells (.inl ⟨_, rfl, rfl⟩) _ _)
    ·simp; omega
    ·rw [Nat.zero_add, room_list hvl (by omega), hlt, hd, ht, List.append_nil]
   ·subst hin
    refine (Any2.slices_Insert_int_end_grow lays21 (some ⟨g, 0, none⟩) i c vb voff m vc xs vs w hm hnc (by omega) (by omega) hxl hvl (fun e => (by cases e)) (fun a ha j v hj => by cases ha; rw [Addr.add_mid]; exact hcs j v hj) hvs hv1).mono ?_
    rintro e w' ⟨rfl, rfl⟩
    exact hend rfl _ (hge c) (hle c)
  ·by_cases hroom : n + m ≤ c
   ·refine (Any2.slices_Insert_int_shift lays21 g 0 n c i vb voff m vc xs vs w (by omega) hm hroom (by unfold maxLen at hcm; omega) hgv hxl hvl hcs (fun j hj => by rw [hrow.cell, List.getElem?_eq_getElem (by omega)]; rfl) (fun j _ => hrow.frozen _) hvs h1 hv1 eV 3 lv.length l.length hr.shape hrow.shape (by omega) (hr.frozen _) (hr.frozen _)).mono ?_
    rintro e w' ⟨rfl, rfl⟩
    have hdl : (xs.drop i).length = n - i := by rw [List.length_drop]; omega
    have hr1 := hrow.drew.setCells (0 + (i + m)) (xs.drop i) (by rw [hdl]; omega)
    have hr2 := hr1.setCells (0 + i) vs (by simp; omega)
    refine hold _ _ hr2 ?_ ?_ hroom ((((Turn.refl _ w).drew).setCells (.inl ⟨_, rfl, rfl⟩) _ _).setCells (.inl ⟨_, rfl, rfl⟩) _ _)
    ·simp; omega
    ·have := shift_list (l := l) (vs := vs) (i := i) (n := n) (m := m) hi hvl (by omega)
     rw [hlt] at this
     simpa only [Nat.zero_add] using this
   ·refine (Any2.slices_Insert_int_grow lays21 g 0 n c i vb voff m vc xs vs w (by omega) hm hnc (by omega) (by omega) hxl hvl hcs hvs h1 hv1).mono ?_
    rintro e w' ⟨rfl, rfl⟩
    have hdl : (xs.drop i).length = n - i := by rw [List.length_drop]; omega
    have hal : (xs.take i).length = i := by rw [List.length_take]; omega
    obtain ⟨zz, hzz⟩ : ∃ zz, zz = (Builtin.zeroCells (Value.int .i64 0).cells (n + m - i)).toList ++ (Builtin.zeroCells (Value.int .i64 0).cells (grownCap w (n + m) c 3 - (n + m))).toList := ⟨_, rfl⟩
    have hzl : zz.length = (n + m - i) + (grownCap w (n + m) c 3 - (n + m)) := by rw [hzz, List.length_append, hzc, hzc]
    have hr0 : VRow (w.alloc (.cells ((xs.take i).toArray ++ Builtin.zeroCells (Value.int .i64 0).cells (n + m - i) ++ Builtin.zeroCells (Value.int .i64 0).cells (grownCap w (n + m) c 3 - (n + m))) 3)) w.heap.size 3 (xs.take i ++ zz) := by
     have := VRow.made w ((xs.take i).toArray ++ Builtin.zeroCells (Value.int .i64 0).cells (n + m - i) ++ Builtin.zeroCells (Value.int .i64 0).cells (grownCap w (n + m) c 3 - (n + m))) 3
     rw [hzz, ← List.append_assoc]
     simpa using this
    have hg := hge c
    have hr1 := hr0.drew.setCells i vs (by rw [List.length_append, hal, hzl]; omega)
    have hr2 := hr1.drew.setCells (i + m) (xs.drop i) (by simp [hzl]; omega)
    refine hnew _ _ _ hr2 ?_ ?_ (hge c) (hle c) ((((Turn.refl _ w).alloc _).drew.setCells (.inr (Nat.le_refl _)) _ _).drew.setCells (.inr (Nat.le_refl _)) _ _)
    ·show _ = grownCap w (n + m) c 3
     simp [hzl]; omega
    ·have := grow_list (a := xs.take i) (vs := vs) (d := xs.drop i) (z := zz) (i := i) (m := m) hal hvl (by rw [hdl, hzl]; omega)
     rwa [show i + m + (xs.drop i).length = n + m by omega] at this ⊢
set_option maxHeartbeats 1000000 in
theorem insStr {w : World} {b : Nat} {A : Option Addr} {n c : Nat} {xs vs lv : List Value} (h : w.ownsRow b 9 1 (.slice A n c) n xs) (h1 : ∀ v ∈ xs, v.oneCell' = true) {i : Nat} (hi : i ≤ n) {vb voff m vc : Nat} {eV : TypeId} (hm : 0 < m) (hvl : vs.length = m)
  (hr : VRow w vb eV lv) (hv : ∀ j v, vs[j]? = some v → lv[voff + j]? = some v) (hv1 : ∀ v ∈ vs, v.oneCell' = true) (hne : ∀ a, A = some a → a.block ≠ vb) (hs : n + m ≤ 1000) (hb : b ≤ w.heap.size) :
  Calls Tryz.prog 144 #[.slice A n c, .int .i64 (i : Int), .slice (some ⟨vb, voff, none⟩) m vc] w (RowPost w b 9 A (xs.take i ++ vs ++ xs.drop i)) := by
 have hxl : xs.length = n := by have := h.1; omega
 have hlen : (xs.take i ++ vs ++ xs.drop i).length = n + m := by simp; omega
 have hvs : ∀ j v, vs[j]? = some v → w.cell? ⟨vb, voff + j, none⟩ = some v := fun j v hj => by rw [hr.cell]; exact hv j v hj
 have hmx : n + m ≤ maxLen := by unfold maxLen; omega
 have hge : ∀ c, n + m ≤ grownCap w (n + m) c 9 := fun c => grownCap_ge w (n + m) c 9
 have hle : ∀ c, grownCap w (n + m) c 9 ≤ maxLen := fun c => grownCap_le_maxLen w (n + m) c 9 hmx
 have hzc : ∀ k, (Builtin.zeroCells (Value.string { data := #[] }).cells k).toList.length = k := fun k => by rw [Array.length_toList, size_zeroCells]; simp [Value.cells]
 have hnew : ∀ (c' : Nat) (l : List Value) (w' : World), VRow w' w.heap.size 9 l → l.length = c' → l.take (n + m) = xs.take i ++ vs ++ xs.drop i → n + m ≤ c' → c' ≤ maxLen → Turn (fun k => ∃ a, A = some a ∧ a.block = k) w w' →
   RowPost w b 9 A (xs.take i ++ vs ++ xs.drop i) (.returned (.slice (some ⟨w.heap.size, 0, none⟩) (n + m) c')) w' := fun c' l w' hw hc ht hc1 hc2 htn => by
  refine ⟨⟨some ⟨w.heap.size, 0, none⟩, c', by rw [hlen], ?_, fun a ha => .inr (by cases ha; exact Nat.le_refl _)⟩, htn⟩
  rw [hlen]
  exact row_own hw hc ht hc1 hc2 hb
 have hend : i = n → ∀ c' , n + m ≤ c' → c' ≤ maxLen → RowPost w b 9 A (xs.take i ++ vs ++ xs.drop i) (.returned (.slice (some ⟨w.heap.size, 0, none⟩) (n + m) c')) (w.drew.alloc (.cells ((xs ++ vs).toArray ++ Builtin.zeroCells (Value.string { data := #[] }).cells (c' - (n + m))) 9)) := fun hin c' hc1 hc2 => by
  subst hin
  have ht : xs.take i = xs := List.take_of_length_le (by omega)
  have hd : xs.drop i = [] := List.drop_of_length_le (by omega)
  refine hnew c' _ _ (VRow.made _ _ _) ?_ ?_ hc1 hc2 ((Turn.refl _ w).drew.alloc _)
  ·rw [Array.toList_append, List.length_append, hzc]; simp; omega
  ·rw [Array.toList_append, ht, hd, List.append_nil, List.take_left' (by simp; omega)]
 rcases h.2 with ⟨h2, h3⟩ | ⟨g, cap, cur, e1, _⟩
 ·simp only [Value.slice.injEq] at h2
  obtain ⟨rfl, _, rfl⟩ := h2
  subst h3
  obtain rfl : i = 0 := by omega
  obtain rfl := List.length_eq_zero_iff.1 hxl
  refine (Any2.slices_Insert_string_end_grow lays22 none 0 0 vb voff m vc [] vs w hm (Nat.le_refl _) (by omega) (by omega) rfl hvl (fun _ => rfl) (fun a ha => (by cases ha)) hvs hv1).mono ?_
  rintro e w' ⟨rfl, rfl⟩
  exact hend rfl _ (hge 0) (hle 0)
 ·simp only [Value.slice.injEq] at e1
  obtain ⟨rfl, _, rfl⟩ := e1
  obtain ⟨l, hrow, hll, hlt, hnc, hcm, hbg⟩ := own_row h
  have hgv : vb ≠ g := fun e => hne _ rfl e.symm
  have hcs : ∀ j v, xs[j]? = some v → w.cell? ⟨g, 0 + j, none⟩ = some v := fun j v hj => by
   rw [hrow.cell, Nat.zero_add]
   rw [← hlt, List.getElem?_take] at hj
   split at hj
   ·exact hj
   ·cases hj
  have hold : ∀ (l2 : List Value) (w' : World), VRow w' g 9 l2 → l2.length = c → l2.take (n + m) = xs.take i ++ vs ++ xs.drop i → n + m ≤ c → Turn (fun k => ∃ a, some (⟨g, 0, none⟩ : Addr) = some a ∧ a.block = k) w w' →
    RowPost w b 9 (some ⟨g, 0, none⟩) (xs.take i ++ vs ++ xs.drop i) (.returned (.slice (some ⟨g, 0, none⟩) (n + m) c)) w' := fun l2 w' hw hc ht hc1 htn => by
   refine ⟨⟨some ⟨g, 0, none⟩, c, by rw [hlen], ?_, fun a ha => .inl ha⟩, htn⟩
   rw [hlen]
   exact row_own hw hc ht hc1 hcm hbg
  by_cases hin : i = n
  ·by_cases hroom : n + m ≤ c
   ·subst hin
    refine (Any2.slices_Insert_string_end_room lays22 g 0 i c vb voff m vc vs w hm hroom (by unfold maxLen at hcm; omega) hvl (fun j hj => by rw [hrow.cell, List.getElem?_eq_getElem (by omega)]; rfl) (fun j _ => hrow.frozen _) hvs hv1).mono ?_
    rintro e w' ⟨rfl, rfl⟩
    have hd : xs.drop i = [] := List.drop_of_length_le (by omega)
    have ht : xs.take i = xs := List.take_of_length_le (by omega)
    refine hold _ _ (hrow.setCells (0 + i) vs (by omega)) ?_ ?_ hroom ((Turn.refl _ w).setCells (.inl ⟨_, rfl, rfl⟩) _ _)
    ·simp; omega
    ·rw [Nat.zero_add, room_list hvl (by omega), hlt, hd, ht, List.append_nil]
   ·subst hin
    refine (Any2.slices_Insert_string_end_grow lays22 (some ⟨g, 0, none⟩) i c vb voff m vc xs vs w hm hnc (by omega) (by omega) hxl hvl (fun e => (by cases e)) (fun a ha j v hj => by cases ha; rw [Addr.add_mid]; exact hcs j v hj) hvs hv1).mono ?_
    rintro e w' ⟨rfl, rfl⟩
    exact hend rfl _ (hge c) (hle c)
  ·by_cases hroom : n + m ≤ c
   ·refine (Any2.slices_Insert_string_shift lays22 g 0 n c i vb voff m vc xs vs w (by omega) hm hroom (by unfold maxLen at hcm; omega) hgv hxl hvl hcs (fun j hj => by rw [hrow.cell, List.getElem?_eq_getElem (by omega)]; rfl) (fun j _ => hrow.frozen _) hvs h1 hv1 eV 9 lv.length l.length hr.shape hrow.shape (by omega) (hr.frozen _) (hr.frozen _)).mono ?_
    rintro e w' ⟨rfl, rfl⟩
    have hdl : (xs.drop i).length = n - i := by rw [List.length_drop]; omega
    have hr1 := hrow.drew.setCells (0 + (i + m)) (xs.drop i) (by rw [hdl]; omega)
    have hr2 := hr1.setCells (0 + i) vs (by simp; omega)
    refine hold _ _ hr2 ?_ ?_ hroom ((((Turn.refl _ w).drew).setCells (.inl ⟨_, rfl, rfl⟩) _ _).setCells (.inl ⟨_, rfl, rfl⟩) _ _)
    ·simp; omega
    ·have := shift_list (l := l) (vs := vs) (i := i) (n := n) (m := m) hi hvl (by omega)
     rw [hlt] at this
     simpa only [Nat.zero_add] using this
   ·refine (Any2.slices_Insert_string_grow lays22 g 0 n c i vb voff m vc xs vs w (by omega) hm hnc (by omega) (by omega) hxl hvl hcs hvs h1 hv1).mono ?_
    rintro e w' ⟨rfl, rfl⟩
    have hdl : (xs.drop i).length = n - i := by rw [List.length_drop]; omega
    have hal : (xs.take i).length = i := by rw [List.length_take]; omega
    obtain ⟨zz, hzz⟩ : ∃ zz, zz = (Builtin.zeroCells (Value.string { data := #[] }).cells (n + m - i)).toList ++ (Builtin.zeroCells (Value.string { data := #[] }).cells (grownCap w (n + m) c 9 - (n + m))).toList := ⟨_, rfl⟩
    have hzl : zz.length = (n + m - i) + (grownCap w (n + m) c 9 - (n + m)) := by rw [hzz, List.length_append, hzc, hzc]
    have hr0 : VRow (w.alloc (.cells ((xs.take i).toArray ++ Builtin.zeroCells (Value.string { data := #[] }).cells (n + m - i) ++ Builtin.zeroCells (Value.string { data := #[] }).cells (grownCap w (n + m) c 9 - (n + m))) 9)) w.heap.size 9 (xs.take i ++ zz) := by
     have := VRow.made w ((xs.take i).toArray ++ Builtin.zeroCells (Value.string { data := #[] }).cells (n + m - i) ++ Builtin.zeroCells (Value.string { data := #[] }).cells (grownCap w (n + m) c 9 - (n + m))) 9
     rw [hzz, ← List.append_assoc]
     simpa using this
    have hg := hge c
    have hr1 := hr0.drew.setCells i vs (by rw [List.length_append, hal, hzl]; omega)
    have hr2 := hr1.drew.setCells (i + m) (xs.drop i) (by simp [hzl]; omega)
    refine hnew _ _ _ hr2 ?_ ?_ (hge c) (hle c) ((((Turn.refl _ w).alloc _).drew.setCells (.inr (Nat.le_refl _)) _ _).drew.setCells (.inr (Nat.le_refl _)) _ _)
    ·show _ = grownCap w (n + m) c 9
     simp [hzl]; omega
    ·have := grow_list (a := xs.take i) (vs := vs) (d := xs.drop i) (z := zz) (i := i) (m := m) hal hvl (by rw [hdl, hzl]; omega)
     rwa [show i + m + (xs.drop i).length = n + m by omega] at this ⊢
end Go.Proofs.YtafclmbecmgbnaaGreatDoor

/-
 TrWith. Conditions: as each theorem says.
-/
namespace Go.Proofs.YtafclmbecmgbnaaGreatDoor
open Go.RowKit
theorem own_turn {w w' : World} {M : Nat → Prop} {b : Nat} {e : TypeId} {v : Value} {n : Nat} {xs : List Value} (h : w.ownsRow b e 1 v n xs) (ht : Turn M w w') (hM : ∀ g, v.ownBlock = some g → ¬ M g) : w'.ownsRow b e 1 v n xs :=
 ownsRow_block h fun g hg => ht.block g ⟨(h.lt g hg).2, hM g hg⟩
theorem vrow_turn {w w' : World} {M : Nat → Prop} {g : Nat} {e : TypeId} {l : List Value} (h : VRow w g e l) (ht : Turn M w w') (hM : ¬ M g) : VRow w' g e l := h.keep (ht.block g ⟨h.lt, hM⟩)
theorem NdBox.turn {w w' : World} {M : Nat → Prop} {p : Nat} {l : Lay3} {x : Nd} (h : NdBox w p l x) (ht : Turn M w w') (hM : ¬ M p) : NdBox w' p l x := h.keep (ht.block p ⟨h.lt, hM⟩)
theorem NdMine.of_own {w : World} {b : Nat} {l : Lay3} {x : Nd} (k : w.ownsRow b 3 1 (.slice l.A x.keys.length l.ca) x.keys.length (x.keys.map (Value.int .i64)))
  (v : w.ownsRow b 9 1 (.slice l.B x.vals.length l.cb) x.vals.length (x.vals.map Value.string)) (c : w.ownsRow b 3 1 (.slice l.C x.kids.length l.cc) x.kids.length (x.kids.map (Value.int .i64)))
  (akv : ∀ a c, l.A = some a → l.B = some c → a.block ≠ c.block) (akc : ∀ a c, l.A = some a → l.C = some c → a.block ≠ c.block) (avc : ∀ a c, l.B = some a → l.C = some c → a.block ≠ c.block)
  (kl : x.keys.length ≤ 100) (vl : x.vals.length ≤ 100) (cl : x.kids.length ≤ 101)
  (kw : ∀ z ∈ x.keys, -9223372036854775808 ≤ z ∧ z ≤ 9223372036854775807) (vw : ∀ v ∈ x.vals, v.size ≤ maxLen) (cw : ∀ z ∈ x.kids, -9223372036854775808 ≤ z ∧ z ≤ 9223372036854775807) : NdMine w b l x := by
 obtain ⟨A, ca, e1, h1⟩ := owned_nums k
 obtain ⟨B, cb, e2, h2⟩ := owned_strs v
 obtain ⟨C, cc, e3, h3⟩ := owned_nums c
 simp only [Value.slice.injEq] at e1 e2 e3
 rw [← e1.1] at h1
 rw [← e2.1] at h2
 rw [← e3.1] at h3
 exact ⟨⟨h1, h2, h3, by unfold maxLen; omega, by unfold maxLen; omega, by unfold maxLen; omega, kw, vw, cw⟩, k, v, c, akv, akc, avc⟩
def NodePost (w : World) (b : Nat) (l : Lay3) (x : Nd) (e : Ending) (w' : World) : Prop :=
 ∃ l', e = .returned (ndV l' x) ∧ NdMine w' b l' x ∧ Turn l.has w w' ∧ ∀ g, l'.has g → l.has g ∨ w.heap.size ≤ g
theorem insKey {w : World} {b : Nat} {A : Option Addr} {c : Nat} {zs : List Int} (h : w.ownsRow b 3 1 (.slice A zs.length c) zs.length (zs.map (Value.int .i64))) {i : Nat} (hi : i ≤ zs.length) {vb : Nat} {z : Int} (hr : VRow w vb 3 [.int .i64 z]) (hne : ∀ a, A = some a → a.block ≠ vb) (hs : zs.length ≤ 900) (hb : b ≤ w.heap.size) :
  Calls Tryz.prog 143 #[.slice A zs.length c, .int .i64 (i : Int), .slice (some ⟨vb, 0, none⟩) 1 1] w fun e w' => ∃ A' c', e = .returned (.slice A' (zs.take i ++ z :: zs.drop i).length c') ∧
   w'.ownsRow b 3 1 (.slice A' (zs.take i ++ z :: zs.drop i).length c') (zs.take i ++ z :: zs.drop i).length ((zs.take i ++ z :: zs.drop i).map (Value.int .i64)) ∧ (∀ a, A' = some a → A = some a ∨ w.heap.size ≤ a.block) ∧ Turn (fun k => ∃ a, A = some a ∧ a.block = k) w w' := by
 have he : (zs.map (Value.int .i64)).take i ++ [.int .i64 z] ++ (zs.map (Value.int .i64)).drop i = (zs.take i ++ z :: zs.drop i).map (Value.int .i64) := by simp [List.map_take, List.map_drop]
 refine (insInt h (by intro v hv; obtain ⟨y, _, rfl⟩ := List.mem_map.1 hv; rfl) hi (vb := vb) (voff := 0) (m := 1) (vc := 1) (vs := [.int .i64 z]) (by decide) rfl hr (by intro j v hj; rwa [Nat.zero_add]) (by intro v hv; obtain rfl := List.mem_singleton.1 hv; rfl) hne (by omega) hb).mono ?_
 rw [he]
 rintro e w' ⟨⟨A', c', rfl, h2, h3⟩, h4⟩
 rw [List.length_map] at h2 ⊢
 exact ⟨A', c', rfl, h2, h3, h4⟩
theorem insVal {w : World} {b : Nat} {A : Option Addr} {c : Nat} {zs : List ByteArray} (h : w.ownsRow b 9 1 (.slice A zs.length c) zs.length (zs.map Value.string)) {i : Nat} (hi : i ≤ zs.length) {vb : Nat} {z : ByteArray} (hr : VRow w vb 9 [.string z]) (hne : ∀ a, A = some a → a.block ≠ vb) (hs : zs.length ≤ 900) (hb : b ≤ w.heap.size) :
  Calls Tryz.prog 144 #[.slice A zs.length c, .int .i64 (i : Int), .slice (some ⟨vb, 0, none⟩) 1 1] w fun e w' => ∃ A' c', e = .returned (.slice A' (zs.take i ++ z :: zs.drop i).length c') ∧
   w'.ownsRow b 9 1 (.slice A' (zs.take i ++ z :: zs.drop i).length c') (zs.take i ++ z :: zs.drop i).length ((zs.take i ++ z :: zs.drop i).map Value.string) ∧ (∀ a, A' = some a → A = some a ∨ w.heap.size ≤ a.block) ∧ Turn (fun k => ∃ a, A = some a ∧ a.block = k) w w' := by
 have he : (zs.map Value.string).take i ++ [.string z] ++ (zs.map Value.string).drop i = (zs.take i ++ z :: zs.drop i).map Value.string := by simp [List.map_take, List.map_drop]
 refine (insStr h (by intro v hv; obtain ⟨y, _, rfl⟩ := List.mem_map.1 hv; rfl) hi (vb := vb) (voff := 0) (m := 1) (vc := 1) (vs := [.string z]) (by decide) rfl hr (by intro j v hj; rwa [Nat.zero_add]) (by intro v hv; obtain rfl := List.mem_singleton.1 hv; rfl) hne (by omega) hb).mono ?_
 rw [he]
 rintro e w' ⟨⟨A', c', rfl, h2, h3⟩, h4⟩
 rw [List.length_map] at h2 ⊢
 exact ⟨A', c', rfl, h2, h3, h4⟩
structure WithS (w : World) (p r q : Nat) (l : Lay3) (x : Nd) (key : Int) (val : ByteArray) (wr : World) : Prop where
 bx : NdBox wr p l x
 c0 : wr.cell? ⟨r, 0, none⟩ = some (.int .i64 key)
 c1 : wr.cell? ⟨r, 1, none⟩ = some (.string val)
 bq : NdBox wr q Lay3.none_ Nd.empty
 fq : ∀ j, wr.frozen? ⟨q, j, none⟩ = false
 turn : Turn l.has w wr
 lw : ∀ g, l.has g → g < w.heap.size
 wp : w.heap.size ≤ p
 wr_ : w.heap.size ≤ r
 wq : w.heap.size ≤ q
theorem WithS.step {w wr w' : World} {p r q : Nat} {l : Lay3} {x : Nd} {key : Int} {val : ByteArray} {M : Nat → Prop} (h : WithS w p r q l x key val wr) (ht : Turn M wr w') (hM : ∀ g, M g → l.has g) : WithS w p r q l x key val w' := by
 have hn : ∀ g, w.heap.size ≤ g → ¬ M g := fun g hg hm => by have := h.lw g (hM g hm); omega
 have hbr := ht.block r ⟨below_block h.c0, hn r h.wr_⟩
 have hbq := ht.block q ⟨h.bq.lt, hn q h.wq⟩
 exact ⟨h.bx.turn ht (hn p h.wp), (World.cell?_of_block (w := wr) (a := ⟨r, 0, none⟩) hbr).trans h.c0, (World.cell?_of_block (w := wr) (a := ⟨r, 1, none⟩) hbr).trans h.c1, h.bq.turn ht (hn q h.wq), fun j => (World.frozen?_of_block (w := wr) (a := ⟨q, j, none⟩) hbq).trans (h.fq j),
  h.turn.trans (ht.more fun k _ hk => .inl (hM k hk)), h.lw, h.wp, h.wr_, h.wq⟩
structure WithR (p r : Nat) (l : Lay3) (x : Nd) (key : Int) (val : ByteArray) (wr : World) : Prop where
 bx : NdBox wr p l x
 c0 : wr.cell? ⟨r, 0, none⟩ = some (.int .i64 key)
 c1 : wr.cell? ⟨r, 1, none⟩ = some (.string val)
theorem WithS.r {w wr : World} {p r q : Nat} {l : Lay3} {x : Nd} {key : Int} {val : ByteArray} (h : WithS w p r q l x key val wr) : WithR p r l x key val wr := ⟨h.bx, h.c0, h.c1⟩
theorem WithR.keep {w w' : World} {p r : Nat} {l : Lay3} {x : Nd} {key : Int} {val : ByteArray} (h : WithR p r l x key val w) (hp : w'.heap[p]? = w.heap[p]?) (hr : w'.heap[r]? = w.heap[r]?) : WithR p r l x key val w' :=
 ⟨h.bx.keep hp, (World.cell?_of_block (w := w) (a := ⟨r, 0, none⟩) hr).trans h.c0, (World.cell?_of_block (w := w) (a := ⟨r, 1, none⟩) hr).trans h.c1⟩
set_option maxRecDepth 100000 in
set_option maxHeartbeats 4000000 in
theorem with_any {w : World} {b : Nat} {l : Lay3} {x : Nd} (h : NdMine w b l x) (hb : b ≤ w.heap.size) (hr : rightN x = true) (hlf : x.kids.length = 0) {key : Int} (hk : -9223372036854775808 ≤ key ∧ key ≤ 9223372036854775807) {val : ByteArray} (hv : val.size ≤ maxLen) :
  Calls Tryz.prog 107 #[ndV l x, .agg #[.int .i64 key, .string val]] w (NodePost w b l (withN x key val)) := by
 obtain ⟨h1k, h7, hsh⟩ := right_parts hr
 have hvl : x.vals.length = x.keys.length := by
  rcases hsh with ⟨_, _, h6⟩ | ⟨_, _, _, _, h8⟩
  ·exact h6
  ·omega
 have hk0 : x.kids = [] := List.length_eq_zero_iff.1 hlf
 obtain ⟨p, HPP⟩ : ∃ p, Hid (p = w.heap.size) := Hy
 obtain ⟨r, HRR⟩ : ∃ r, Hid (r = w.heap.size + 1) := Hy
 obtain ⟨q, HQQ⟩ : ∃ q, Hid (q = r + 1) := Hy
 have HPQ : Hid (p ≠ q ∧ r ≠ q) := Hi (by rw [HQQ.out, HRR.out, HPP.out]; omega)
 obtain ⟨w1, HW1⟩ : ∃ w1, Hid (w1 = ((w.alloc (.cells #[.slice l.A x.keys.length l.ca, .slice l.B x.vals.length l.cb, .slice l.C x.kids.length l.cc] 48)).alloc (.cells #[.int .i64 key, .string val] 97)).alloc (.cells #[.slice none 0 0, .slice none 0 0, .slice none 0 0] 48)) := Hy
 have HB1 : Hid (Below w.heap.size w w1) := Hi (by rw [HW1.out]; exact (((Below.refl _ _).alloc (Nat.le_refl _) _).alloc (by simp) _).alloc (by simp; omega) _)
 have HS1 : Hid (WithS w p r q l x key val w1) := Hi (by
  rw [HW1.out, HPP.out, HQQ.out, HRR.out]
  have hz1 : (w.alloc (.cells #[.slice l.A x.keys.length l.ca, .slice l.B x.vals.length l.cb, .slice l.C x.kids.length l.cc] 48)).heap.size = w.heap.size + 1 := by simp
  have hz2 : ((w.alloc (.cells #[.slice l.A x.keys.length l.ca, .slice l.B x.vals.length l.cb, .slice l.C x.kids.length l.cc] 48)).alloc (.cells #[.int .i64 key, .string val] 97)).heap.size = w.heap.size + 1 + 1 := by simp
  have b1 := (Below.refl (w.heap.size + 1) (w.alloc (.cells #[.slice l.A x.keys.length l.ca, .slice l.B x.vals.length l.cb, .slice l.C x.kids.length l.cc] 48))).alloc (by rw [hz1]; exact Nat.le_refl _) (.cells #[.int .i64 key, .string val] 97)
  have b2 := (Below.refl (w.heap.size + 1 + 1) ((w.alloc (.cells #[.slice l.A x.keys.length l.ca, .slice l.B x.vals.length l.cb, .slice l.C x.kids.length l.cc] 48)).alloc (.cells #[.int .i64 key, .string val] 97))).alloc (by rw [hz2]; exact Nat.le_refl _) (.cells #[.slice none 0 0, .slice none 0 0, .slice none 0 0] 48)
  have e1 := NdBox.new (w := w) (l := l) (x := x) 48
  have e2 := (e1.carry b1 (by omega)).carry b2 (by omega)
  have e3 : ∀ j, j < 2 → ((w.alloc (.cells #[.slice l.A x.keys.length l.ca, .slice l.B x.vals.length l.cb, .slice l.C x.kids.length l.cc] 48)).alloc (.cells #[.int .i64 key, .string val] 97)).cell? ⟨w.heap.size + 1, j, none⟩ = (#[.int .i64 key, .string val] : Array Value)[j]? := fun j _ => by rw [← hz1]; simp
  have e4 := NdBox.new (w := (w.alloc (.cells #[.slice l.A x.keys.length l.ca, .slice l.B x.vals.length l.cb, .slice l.C x.kids.length l.cc] 48)).alloc (.cells #[.int .i64 key, .string val] 97)) (l := Lay3.none_) (x := Nd.empty) 48
  have e5 := frozen_new1 ((w.alloc (.cells #[.slice l.A x.keys.length l.ca, .slice l.B x.vals.length l.cb, .slice l.C x.kids.length l.cc] 48)).alloc (.cells #[.int .i64 key, .string val] 97)) #[.slice none 0 0, .slice none 0 0, .slice none 0 0] 48
  rw [hz2] at e4 e5
  refine ⟨e2, (b2.cell (p := ⟨w.heap.size + 1, 0, none⟩) (by show w.heap.size + 1 < w.heap.size + 1 + 1; omega)).trans (e3 0 (by decide)), (b2.cell (p := ⟨w.heap.size + 1, 1, none⟩) (by show w.heap.size + 1 < w.heap.size + 1 + 1; omega)).trans (e3 1 (by decide)), e4, e5, Turn.of_below (by rw [← HW1.out]; exact HB1.out), fun g hg => (h.lt g hg).2, Nat.le_refl _, by omega, by omega⟩)
 have HM1 : Hid (NdMine w1 b l x) := Hi (h.carry HB1.out)
 have HBW : Hid (b ≤ w.heap.size) := Hi hb
 have HKW := Hi hk
 have HVW := Hi hv
 have HSZ : Hid (x.keys.length ≤ 7 ∧ x.vals.length = x.keys.length ∧ x.kids.length = 0 ∧ x.kids = []) := Hi ⟨h7, hvl, hlf, hk0⟩
 obtain ⟨a, HAA⟩ : ∃ a, Hid (a = (seekN x key).1) := Hy
 obtain ⟨fd, HFD⟩ : ∃ fd, Hid (fd = (seekN x key).2) := Hy
 have HSE : Hid (seekN x key = (less x.keys key, decide (x.keys[less x.keys key]? = some key))) := Hi (by unfold seekN; rw [if_pos hr])
 have HAL : Hid (a ≤ x.keys.length) := Hi (by rw [HAA.out, HSE.out]; exact less_le _ _)
 have HSK := Hi (Seek_any HM1.out.is key)
 rw [← HAA.out, ← HFD.out] at HSK
 have HX' : Hid (withN x key val = if fd = true then ⟨x.keys, x.vals.set a val, x.kids⟩ else ⟨x.keys.take a ++ key :: x.keys.drop a, x.vals.take a ++ val :: x.vals.drop a, []⟩) := Hi (by rw [HFD.out, HAA.out]; rfl)
 obtain ⟨x', HXX⟩ : ∃ x', Hid (x' = withN x key val) := Hy
 rw [← HXX.out] at HX' ⊢
 clear h hb hr hlf hk hv h1k h7 hsh hvl hk0 HXX
 have c0 := HS1.out.c0
 go_enter Tryz.func107, Tryz.ntmps107
 go_upto_region 1 with (fail)
 rw [← HW1.out, ← HRR.out, ← HQQ.out, ← HPP.out]
 clear HW1 HPP HRR HQQ
 go_wp2_with (with_reducible refine stop_at (o := ⟨some 8, _, _, _, _, _⟩) ?_)
 refine wpList_load_nd Tryz.ndProg (by rfl) _ rfl p rfl l x HS1.out.bx ?_
 go_wp2_with fail
 refine HSK.out.mono ?_
 rintro e w2 ⟨rfl, hb⟩
 have HM2 := Hi (HM1.out.carry hb)
 have HS2 : Hid (WithS w p r q l x key val w2) := Hi (HS1.out.step (M := fun _ => False) (Turn.of_below hb) (fun _ h => h.elim))
 clear hb HSK HS1 HM1 c0
 cases fd with
 | true =>
  have HAV : Hid (a < x.vals.length) := Hi (by
   have h := HFD.out
   rw [HSE.out] at h
   have h2 := of_decide_eq_true h.symm
   rw [HSZ.out.2.1]
   have h3 : less x.keys key = a := by rw [HAA.out, HSE.out]
   rw [h3] at h2
   exact (List.getElem?_eq_some_iff.1 h2).1)
  obtain ⟨gv, HGV, hvc, hvm, _, _⟩ := ownsRow_form HM2.out.v (by have := HAV.out; omega)
  have hown := HM2.out.v
  rw [HGV] at hown
  obtain ⟨lv, hrow, hll, hlt, _, _, _⟩ := own_row hown
  have HRO := Hi hrow
  obtain ⟨old, hcv⟩ : ∃ old, w2.cell? ⟨gv, a, none⟩ = some old := ⟨_, by rw [hrow.cell, List.getElem?_eq_getElem (by have := HAV.out; omega)]⟩
  have hfv : w2.frozen? ⟨gv, a, none⟩ = false := hrow.frozen a
  have HST := Hi (hown.stored a (.string val))
  have hal : (a : Int) < (x.vals.length : Int) := by have := HAV.out; omega
  have c1 := HS2.out.bx.c1
  rw [HGV] at c1
  have HGVV := Hi HGV
  have r1 := HS2.out.c1
  have hgp : ¬ gv = p := fun e => by have := HS2.out.lw gv (.inr (.inl ⟨_, HGVV.out, rfl⟩)); have := HS2.out.wp; omega
  clear HGV hvc hvm hown hrow hll hlt
  go_wp2_with (with_reducible refine stop_at (o := ⟨some 21, _, _, _, _, _⟩) ?_)
  obtain ⟨w3, HW3⟩ : ∃ w3, Hid (w3 = w2.setCell ⟨gv, a, none⟩ (.string val)) := Hy
  rw [← HW3.out]
  have HT3 : Hid (Turn l.has w2 w3) := Hi (by
   rw [HW3.out]
   exact (Turn.refl _ w2).setCells (g := gv) (.inl (.inr (.inl ⟨_, HGVV.out, rfl⟩))) a [.string val])
  have HS3 := Hi (HS2.out.step HT3.out (fun _ h => h))
  have HV3 : Hid (w3.ownsRow b 9 1 (.slice l.B x.vals.length l.cb) x.vals.length ((x.vals.set a val).map Value.string)) := Hi (by
   have := HST.out.1
   rw [HW3.out, HGVV.out, List.map_set]
   exact this)
  have HK3 : Hid (w3.ownsRow b 3 1 (.slice l.A x.keys.length l.ca) x.keys.length (x.keys.map (Value.int .i64))) := Hi (own_turn HM2.out.k (M := fun k => gv = k) (by
   rw [HW3.out]; exact (Turn.refl _ w2).setCells (g := gv) (.inl rfl) a [.string val]) (fun g hg e => by
    cases hA : l.A with
    | none => rw [hA] at hg; cases hg
    | some c => rw [hA] at hg; cases hg; exact HM2.out.akv c _ hA HGVV.out e.symm))
  have HC3 : Hid (w3.ownsRow b 3 1 (.slice l.C x.kids.length l.cc) x.kids.length (x.kids.map (Value.int .i64))) := Hi (own_turn HM2.out.c (M := fun k => gv = k) (by
   rw [HW3.out]; exact (Turn.refl _ w2).setCells (g := gv) (.inl rfl) a [.string val]) (fun g hg e => by
    cases hA : l.C with
    | none => rw [hA] at hg; cases hg
    | some c => rw [hA] at hg; cases hg; exact HM2.out.avc _ c HGVV.out hA e))
  have HX3 : Hid (x' = ⟨x.keys, x.vals.set a val, x.kids⟩) := Hi HX'.out
  have HM3 : Hid (NdMine w3 b l x') := Hi (by
   rw [HX3.out]
   refine NdMine.of_own HK3.out (by rw [show (x.vals.set a val).length = x.vals.length from List.length_set ..]; exact HV3.out) HC3.out HM2.out.akv HM2.out.akc HM2.out.avc (by show x.keys.length ≤ 100; have := HSZ.out.1; omega) ?_ ?_ HM2.out.is.kw ?_ HM2.out.is.cw
   ·show (x.vals.set a val).length ≤ 100
    rw [List.length_set]; have := HSZ.out; omega
   ·show x.kids.length ≤ 101
    have := HSZ.out; omega
   ·intro v hv
    rcases List.mem_or_eq_of_mem_set hv with h | h
    ·exact HM2.out.is.vw v h
    ·rw [h]; exact HVW.out)
  clear HST HRO HT3 HS2 HM2 HV3 HK3 HC3 hcv hfv c1 r1 hgp
  refine wpList_load_nd Tryz.ndProg (by rfl) _ rfl p rfl l x HS3.out.bx ?_
  have HBQ := Hi HS3.out.bq
  have f0 := HS3.out.fq 0
  have f1 := HS3.out.fq 1
  have f2 := HS3.out.fq 2
  have d0 := HBQ.out.c0
  have d1 := HBQ.out.c1
  have d2 := HBQ.out.c2
  obtain ⟨w4, HWw4⟩ : ∃ w4, Hid (w4 = ((w3.setCell ⟨q, 0, none⟩ (.slice l.A x.keys.length l.ca)).setCell ⟨q, 1, none⟩ (.slice l.B x.vals.length l.cb)).setCell ⟨q, 2, none⟩ (.slice l.C x.kids.length l.cc)) := Hy
  have HSw4 : Hid (w4 = store3 w3 q l x) := Hi HWw4.out
  have HXw4 : Hid (NdBox w4 q l x) := Hi (by rw [HSw4.out]; exact store3_box HBQ.out)
  go_wp2_with fail
  rw [← HWw4.out]
  refine bodyPost_ret (results_nd Tryz.ndProg rfl _ _ q l x rfl HXw4.out) rfl ?_
  have hnq : ¬ l.has q := fun h => by have := HS3.out.lw q h; have := HS3.out.wq; omega
  refine ⟨l, ?_, ?_, ?_, fun g hg => .inl hg⟩
  ·rw [HX3.out]
   show Ending.returned (ndV l x) = .returned (.agg #[.slice l.A x.keys.length l.ca, .slice l.B (x.vals.set a val).length l.cb, .slice l.C x.kids.length l.cc])
   rw [List.length_set]
  ·rw [HSw4.out]; exact store3_mine HM3.out hnq
  ·have h3 := HS3.out.turn
   rw [HSw4.out]
   exact ⟨h3.os, h3.tape, h3.output, by rw [store3_size]; exact h3.size, fun k hk => (store3_far (by have := HS3.out.wq; omega)).trans (h3.block k hk)⟩
 | false =>
  go_upto_region 5 with (fail)
  refine wp_region_held (S := fun w9 => WithR p r l x key val w9) (by kernel_rfl) ?_
  change wpAnyH _ _ _ _ _ _ _ _ w2.drew
  obtain ⟨wa, HWA⟩ : ∃ wa, Hid (wa = w2.drew) := Hy
  rw [← HWA.out]
  have hdr : Below w2.heap.size w2 wa := by rw [HWA.out]; exact (Below.refl _ _).drew
  have hS : WithS w p r q l x key val wa := HS2.out.step (M := fun _ => False) (Turn.of_below hdr) (fun _ h => h.elim)
  have HKA := Hi (own_turn HM2.out.k (M := fun _ => False) (Turn.of_below hdr) (fun _ _ h => h.elim))
  have HVA := Hi (own_turn HM2.out.v (M := fun _ => False) (Turn.of_below hdr) (fun _ _ h => h.elim))
  have HGE : Hid (w.heap.size ≤ wa.heap.size) := Hi hS.turn.size
  have HLW : Hid (∀ g, l.has g → g < w.heap.size) := Hi hS.lw
  have HNE : Hid (∀ a c, l.A = some a → l.B = some c → a.block ≠ c.block) := Hi HM2.out.akv
  have HIS : Hid (NdIs w2 l x) := Hi HM2.out.is
  clear HWA hdr HS2 HM2
  obtain ⟨ks, HKS⟩ : ∃ ks, Hid (ks = x.keys.take a ++ key :: x.keys.drop a) := Hy
  obtain ⟨vs, HVS⟩ : ∃ vs, Hid (vs = x.vals.take a ++ val :: x.vals.drop a) := Hy
  refine takeK (i := 0) 22 (v := .pointer (some ⟨p, 0, none⟩)) rfl rfl hS.r ?_
  simp only [Act.put, pU]
  refine takeJ (i := 1) 23 (v := .slice l.A x.keys.length l.ca) rfl rfl (.inl ⟨by rfl, fun _ h => by have c0 := h.bx.c0; go_simp⟩) hS.r ?_
  simp only [Act.put, pU]
  refine takeK (i := 2) 24 (v := .int .i64 (a : Int)) rfl rfl hS.r ?_
  simp only [Act.put, pU]
  refine takeK (i := 3) 25 (v := .pointer (some ⟨r, 0, none⟩)) rfl rfl hS.r ?_
  simp only [Act.put, pU]
  refine takeJ (i := 4) 26 (v := .int .i64 key) rfl rfl (.inl ⟨by rfl, fun _ h => by have c0 := h.c0; go_simp⟩) hS.r ?_
  simp only [Act.put, pU]
  refine takeK (i := 7) 29 (v := .pointer (some ⟨p, 1, none⟩)) rfl rfl hS.r ?_
  simp only [Act.put, pU]
  refine takeJ (i := 8) 30 (v := .slice l.B x.vals.length l.cb) rfl rfl (.inl ⟨by rfl, fun _ h => by have c0 := h.bx.c1; go_simp⟩) hS.r ?_
  simp only [Act.put, pU]
  refine takeK (i := 9) 31 (v := .int .i64 (a : Int)) rfl rfl hS.r ?_
  simp only [Act.put, pU]
  refine takeK (i := 10) 32 (v := .pointer (some ⟨r, 1, none⟩)) rfl rfl hS.r ?_
  simp only [Act.put, pU]
  refine takeJ (i := 11) 33 (v := .string val) rfl rfl (.inl ⟨by rfl, fun _ h => by have c0 := h.c1; go_simp⟩) hS.r ?_
  simp only [Act.put, pU]
  refine twoH (i := 5) (j := 12) (oi := ⟨some 27, _, _, _, _, _⟩) (oj := ⟨some 34, _, _, _, _, _⟩) rfl rfl (by kernel_rfl) (fun K hK => ?_) (fun K hK => ?_)
  ·go_simp
   obtain ⟨v1, Hv1⟩ : ∃ v1, Hid (v1 = wa.heap.size) := Hy
   obtain ⟨wb1, HWwb1⟩ : ∃ wb1, Hid (wb1 = wa.alloc (.cells #[.int .i64 key] 3)) := Hy
   rw [← HWwb1.out, ← Hv1.out]
   have ht : Turn (fun _ => False) wa wb1 := by rw [HWwb1.out]; exact (Turn.refl _ _).alloc _
   have HKA := Hi (own_turn HKA.out ht (fun _ _ h => h.elim))
   have HVA := Hi (own_turn HVA.out ht (fun _ _ h => h.elim))
   have HR1 : Hid (VRow wb1 v1 3 [.int .i64 key]) := Hi (by rw [HWwb1.out, Hv1.out]; exact VRow.made _ _ _)
   have HGv1 : Hid (w.heap.size ≤ v1) := Hi (by rw [Hv1.out]; exact hS.turn.size)
   have hS2 := hS.step ht (fun _ h => h.elim)
   have HGE := Hi (Nat.le_trans HGE.out ht.size)
   clear ht hS HWwb1
   refine hK.out _ _ hS2.r ?_
   clear hK K
   have hS := hS2
   clear hS2
   refine twoH (i := 6) (j := 12) (oi := ⟨some 28, _, _, _, _, _⟩) (oj := ⟨some 34, _, _, _, _, _⟩) rfl rfl (by kernel_rfl) (fun K hK => ?_) (fun K hK => ?_)
   ·go_simp
    refine (insKey HKA.out HAL.out HR1.out (fun c e h => by have := HLW.out c.block (.inl ⟨c, e, rfl⟩); have := HGv1.out; omega) (by have := HSZ.out.1; omega) (Nat.le_trans HBW.out HGE.out)).mono ?_
    rintro e wb2 ⟨A2, cA, rfl, hown, hbl, ht⟩
    rw [← HKS.out] at hown ⊢
    clear HKA
    have HKN := Hi hown
    have HKB : Hid (∀ c, A2 = some c → (l.A = some c ∨ (w.heap.size ≤ c.block ∧ q < c.block)) ∧ c.block < wb2.heap.size) := Hi fun c e => ⟨(hbl c e).imp id fun h => ⟨Nat.le_trans HGE.out h, Nat.lt_of_lt_of_le hS.bq.lt h⟩, (hown.lt c.block (by rw [e]; rfl)).2⟩
    have HVA := Hi (own_turn HVA.out ht (fun g hg ⟨c, e1, e2⟩ => by cases hB : l.B with | none => (rw [hB] at hg; cases hg) | some d => (rw [hB] at hg; cases hg; exact HNE.out c d e1 hB e2)))
    have hS2 := hS.step ht (fun _ ⟨c, e1, e2⟩ => .inl ⟨c, e1, e2⟩)
    have HGE := Hi (Nat.le_trans HGE.out ht.size)
    clear ht hS hown hbl HR1
    refine hK.out _ _ hS2.r ?_
    clear hK K
    have hS := hS2
    clear hS2
    refine oneH (i := 12) (oi := ⟨some 34, _, _, _, _, _⟩) rfl (by kernel_rfl) (fun K hK => ?_)
    go_simp
    obtain ⟨v2, Hv2⟩ : ∃ v2, Hid (v2 = wb2.heap.size) := Hy
    obtain ⟨wb3, HWwb3⟩ : ∃ wb3, Hid (wb3 = wb2.alloc (.cells #[.string val] 9)) := Hy
    rw [← HWwb3.out, ← Hv2.out]
    have ht : Turn (fun _ => False) wb2 wb3 := by rw [HWwb3.out]; exact (Turn.refl _ _).alloc _
    have HVA := Hi (own_turn HVA.out ht (fun _ _ h => h.elim))
    have HKN := Hi (own_turn HKN.out ht (fun _ _ h => h.elim))
    have HR2 : Hid (VRow wb3 v2 9 [.string val]) := Hi (by rw [HWwb3.out, Hv2.out]; exact VRow.made _ _ _)
    have HGv2 : Hid (w.heap.size ≤ v2) := Hi (by rw [Hv2.out]; exact hS.turn.size)
    have hS2 := hS.step ht (fun _ h => h.elim)
    have HGE := Hi (Nat.le_trans HGE.out ht.size)
    clear ht hS HWwb3
    refine hK.out _ _ hS2.r ?_
    clear hK K
    have hS := hS2
    clear hS2
    refine oneH (i := 13) (oi := ⟨some 35, _, _, _, _, _⟩) rfl (by kernel_rfl) (fun K hK => ?_)
    go_simp
    refine (insVal HVA.out (by rw [HSZ.out.2.1]; exact HAL.out) HR2.out (fun c e h => by have := HLW.out c.block (.inr (.inl ⟨c, e, rfl⟩)); have := HGv2.out; omega) (by have := HSZ.out; omega) (Nat.le_trans HBW.out HGE.out)).mono ?_
    rintro e wb4 ⟨B2, cB, rfl, hown, hbl, ht⟩
    rw [← HVS.out] at hown ⊢
    clear HVA
    have HVN := Hi hown
    have HKL : Hid (∀ c, A2 = some c → c.block < wb3.heap.size) := Hi fun c e => (HKN.out.lt c.block (by rw [e]; rfl)).2
    have HDD : Hid (∀ c d, A2 = some c → B2 = some d → c.block ≠ d.block) := Hi (fun c d e1 e2 => by
       rcases hbl d e2 with h1 | h1
       ·rcases (HKB.out c e1).1 with h2 | h2
        ·exact HNE.out c d h2 h1
        ·have := HLW.out d.block (.inr (.inl ⟨d, h1, rfl⟩)); omega
       ·have := HKL.out c e1; omega)
    have HVB : Hid (∀ d, B2 = some d → l.B = some d ∨ (w.heap.size ≤ d.block ∧ q < d.block)) := Hi fun d e => (hbl d e).imp id fun h => ⟨Nat.le_trans HGE.out h, Nat.lt_of_lt_of_le hS.bq.lt h⟩
    have HKN := Hi (own_turn HKN.out ht (fun g hg ⟨d, e1, e2⟩ => by cases hA : A2 with | none => (rw [hA] at hg; cases hg) | some c => (rw [hA] at hg; cases hg; rcases (HKB.out c hA).1 with h2 | h2; exact HNE.out c d h2 e1 e2.symm; have := HLW.out d.block (.inr (.inl ⟨d, e1, rfl⟩)); omega)))
    have hS2 := hS.step ht (fun _ ⟨c, e1, e2⟩ => .inr (.inl ⟨c, e1, e2⟩))
    clear ht hS hown hbl HR2
    refine hK.out _ _ hS2.r ?_
    clear hK K
    have hS := hS2
    clear hS2
    refine takeK (i := 14) 36 (v := .agg #[.slice A2 ks.length cA, .slice B2 vs.length cB, .slice none 0 0]) rfl rfl hS.r ?_
    simp only [Act.put, pU]
    refine oneH (i := 15) (oi := ⟨none, _, _, _, _, _⟩) rfl (by kernel_rfl) (fun K hK => ?_)
    have HBQ := Hi hS.bq
    have f0 := hS.fq 0
    have f1 := hS.fq 1
    have f2 := hS.fq 2
    obtain ⟨x2, HX2⟩ : ∃ x2 : Nd, Hid (x2 = ⟨ks, vs, []⟩) := Hy
    have d0 := HBQ.out.c0
    have d1 := HBQ.out.c1
    have d2 := HBQ.out.c2
    obtain ⟨w4, HWw4⟩ : ∃ w4, Hid (w4 = ((wb4.setCell ⟨q, 0, none⟩ (.slice A2 ks.length cA)).setCell ⟨q, 1, none⟩ (.slice B2 vs.length cB)).setCell ⟨q, 2, none⟩ (.slice none 0 0)) := Hy
    have HSw4 : Hid (w4 = store3 wb4 q ⟨A2, B2, none, cA, cB, 0⟩ x2) := Hi (by rw [HX2.out]; exact HWw4.out)
    have HXw4 : Hid (NdBox w4 q ⟨A2, B2, none, cA, cB, 0⟩ x2) := Hi (by rw [HSw4.out]; exact store3_box HBQ.out)
    go_simp
    rw [← HWw4.out]
    have hT4 : Turn (fun k => k = q) wb4 w4 := ⟨by rw [HSw4.out]; rfl, by rw [HSw4.out]; rfl, by rw [HSw4.out]; rfl, by rw [HSw4.out, store3_size]; exact Nat.le_refl _, fun k hk => by rw [HSw4.out]; exact store3_far hk.2⟩
    have HSS := Hi hS
    clear hS
    have hpq : p ≠ q ∧ r ≠ q := HPQ.out
    have hR4 : WithR p r l x key val w4 := HSS.out.r.keep (by rw [HSw4.out]; exact store3_far hpq.1) (by rw [HSw4.out]; exact store3_far hpq.2)
    refine hK.out _ _ hR4 ?_
    clear hK K
    refine wpAnyH_done (by kernel_rfl) ?_ _
    go_wp2_with fail
    refine bodyPost_ret (results_nd Tryz.ndProg rfl _ _ q ⟨A2, B2, none, cA, cB, 0⟩ x2 rfl HXw4.out) rfl ?_
    have hqA : ∀ c, A2 = some c → c.block ≠ q := fun c e h => by
     rcases (HKB.out c e).1 with h3 | h3
     ·have := HLW.out c.block (.inl ⟨c, h3, rfl⟩); have := HSS.out.wq; omega
     ·have := h3.2; omega
    have hqB : ∀ c, B2 = some c → c.block ≠ q := fun c e h => by
     rcases HVB.out c e with h3 | h3
     ·have := HLW.out c.block (.inr (.inl ⟨c, h3, rfl⟩)); have := HSS.out.wq; omega
     ·have := h3.2; omega
    have hx : x' = x2 := by rw [HX'.out, HX2.out, HKS.out, HVS.out]; rfl
    rw [hx]
    refine ⟨_, rfl, ?_, HSS.out.turn.trans (hT4.more fun k _ hk => .inr (by rw [hk]; exact HSS.out.wq)), ?_⟩
    ·rw [HX2.out]
     refine NdMine.of_own (own_turn HKN.out hT4 ?_) (own_turn HVN.out hT4 ?_) (World.ownsRow_nil _ _ _ _) HDD.out (fun _ _ _ h => (by cases h)) (fun _ _ _ h => (by cases h)) ?_ ?_ (Nat.zero_le _) ?_ ?_ (fun z hz => (by cases hz))
     ·intro g hg e
      cases hA : A2 with
      | none => rw [hA] at hg; cases hg
      | some c => rw [hA] at hg; cases hg; exact hqA c hA e
     ·intro g hg e
      cases hA : B2 with
      | none => rw [hA] at hg; cases hg
      | some c => rw [hA] at hg; cases hg; exact hqB c hA e
     ·show ks.length ≤ 100
      rw [HKS.out]; have := HSZ.out; have := HAL.out; simp; omega
     ·show vs.length ≤ 100
      rw [HVS.out]; have := HSZ.out; have := HAL.out; simp; omega
     ·intro z hz
      have hz2 : z ∈ x.keys.take a ++ key :: x.keys.drop a := by rw [← HKS.out]; exact hz
      rcases List.mem_append.1 hz2 with h | h
      ·exact HIS.out.kw z (List.mem_of_mem_take h)
      ·rcases List.mem_cons.1 h with h | h
       ·rw [h]; exact HKW.out
       ·exact HIS.out.kw z (List.mem_of_mem_drop h)
     ·intro z hz
      have hz2 : z ∈ x.vals.take a ++ val :: x.vals.drop a := by rw [← HVS.out]; exact hz
      rcases List.mem_append.1 hz2 with h | h
      ·exact HIS.out.vw z (List.mem_of_mem_take h)
      ·rcases List.mem_cons.1 h with h | h
       ·rw [h]; exact HVW.out
       ·exact HIS.out.vw z (List.mem_of_mem_drop h)
    ·rintro g (⟨c, e, rfl⟩ | ⟨c, e, rfl⟩ | ⟨c, e, rfl⟩)
     ·rcases (HKB.out c e).1 with h3 | h3
      ·exact .inl (.inl ⟨c, h3, rfl⟩)
      ·exact .inr h3.1
     ·rcases HVB.out c e with h3 | h3
      ·exact .inl (.inr (.inl ⟨c, h3, rfl⟩))
      ·exact .inr h3.1
     ·cases e
   ·go_simp
    obtain ⟨v2, Hv2⟩ : ∃ v2, Hid (v2 = wb1.heap.size) := Hy
    obtain ⟨wb2, HWwb2⟩ : ∃ wb2, Hid (wb2 = wb1.alloc (.cells #[.string val] 9)) := Hy
    rw [← HWwb2.out, ← Hv2.out]
    have ht : Turn (fun _ => False) wb1 wb2 := by rw [HWwb2.out]; exact (Turn.refl _ _).alloc _
    have HKA := Hi (own_turn HKA.out ht (fun _ _ h => h.elim))
    have HVA := Hi (own_turn HVA.out ht (fun _ _ h => h.elim))
    have HR1 := Hi (vrow_turn HR1.out ht (fun h => h.elim))
    have HR2 : Hid (VRow wb2 v2 9 [.string val]) := Hi (by rw [HWwb2.out, Hv2.out]; exact VRow.made _ _ _)
    have HGv2 : Hid (w.heap.size ≤ v2) := Hi (by rw [Hv2.out]; exact hS.turn.size)
    have hS2 := hS.step ht (fun _ h => h.elim)
    have HGE := Hi (Nat.le_trans HGE.out ht.size)
    clear ht hS HWwb2
    refine hK.out _ _ hS2.r ?_
    clear hK K
    have hS := hS2
    clear hS2
    refine oneH (i := 6) (oi := ⟨some 28, _, _, _, _, _⟩) rfl (by kernel_rfl) (fun K hK => ?_)
    go_simp
    refine (insKey HKA.out HAL.out HR1.out (fun c e h => by have := HLW.out c.block (.inl ⟨c, e, rfl⟩); have := HGv1.out; omega) (by have := HSZ.out.1; omega) (Nat.le_trans HBW.out HGE.out)).mono ?_
    rintro e wb3 ⟨A2, cA, rfl, hown, hbl, ht⟩
    rw [← HKS.out] at hown ⊢
    clear HKA
    have HKN := Hi hown
    have HKB : Hid (∀ c, A2 = some c → (l.A = some c ∨ (w.heap.size ≤ c.block ∧ q < c.block)) ∧ c.block < wb3.heap.size) := Hi fun c e => ⟨(hbl c e).imp id fun h => ⟨Nat.le_trans HGE.out h, Nat.lt_of_lt_of_le hS.bq.lt h⟩, (hown.lt c.block (by rw [e]; rfl)).2⟩
    have HVA := Hi (own_turn HVA.out ht (fun g hg ⟨c, e1, e2⟩ => by cases hB : l.B with | none => (rw [hB] at hg; cases hg) | some d => (rw [hB] at hg; cases hg; exact HNE.out c d e1 hB e2)))
    have HR2 := Hi (vrow_turn HR2.out ht (fun ⟨c, e1, e2⟩ => by have := HLW.out c.block (.inl ⟨c, e1, rfl⟩); have := HGv2.out; omega))
    have hS2 := hS.step ht (fun _ ⟨c, e1, e2⟩ => .inl ⟨c, e1, e2⟩)
    have HGE := Hi (Nat.le_trans HGE.out ht.size)
    clear ht hS hown hbl HR1
    refine hK.out _ _ hS2.r ?_
    clear hK K
    have hS := hS2
    clear hS2
    refine oneH (i := 13) (oi := ⟨some 35, _, _, _, _, _⟩) rfl (by kernel_rfl) (fun K hK => ?_)
    go_simp
    refine (insVal HVA.out (by rw [HSZ.out.2.1]; exact HAL.out) HR2.out (fun c e h => by have := HLW.out c.block (.inr (.inl ⟨c, e, rfl⟩)); have := HGv2.out; omega) (by have := HSZ.out; omega) (Nat.le_trans HBW.out HGE.out)).mono ?_
    rintro e wb4 ⟨B2, cB, rfl, hown, hbl, ht⟩
    rw [← HVS.out] at hown ⊢
    clear HVA
    have HVN := Hi hown
    have HKL : Hid (∀ c, A2 = some c → c.block < wb3.heap.size) := Hi fun c e => (HKN.out.lt c.block (by rw [e]; rfl)).2
    have HDD : Hid (∀ c d, A2 = some c → B2 = some d → c.block ≠ d.block) := Hi (fun c d e1 e2 => by
       rcases hbl d e2 with h1 | h1
       ·rcases (HKB.out c e1).1 with h2 | h2
        ·exact HNE.out c d h2 h1
        ·have := HLW.out d.block (.inr (.inl ⟨d, h1, rfl⟩)); omega
       ·have := HKL.out c e1; omega)
    have HVB : Hid (∀ d, B2 = some d → l.B = some d ∨ (w.heap.size ≤ d.block ∧ q < d.block)) := Hi fun d e => (hbl d e).imp id fun h => ⟨Nat.le_trans HGE.out h, Nat.lt_of_lt_of_le hS.bq.lt h⟩
    have HKN := Hi (own_turn HKN.out ht (fun g hg ⟨d, e1, e2⟩ => by cases hA : A2 with | none => (rw [hA] at hg; cases hg) | some c => (rw [hA] at hg; cases hg; rcases (HKB.out c hA).1 with h2 | h2; exact HNE.out c d h2 e1 e2.symm; have := HLW.out d.block (.inr (.inl ⟨d, e1, rfl⟩)); omega)))
    have hS2 := hS.step ht (fun _ ⟨c, e1, e2⟩ => .inr (.inl ⟨c, e1, e2⟩))
    clear ht hS hown hbl HR2
    refine hK.out _ _ hS2.r ?_
    clear hK K
    have hS := hS2
    clear hS2
    refine takeK (i := 14) 36 (v := .agg #[.slice A2 ks.length cA, .slice B2 vs.length cB, .slice none 0 0]) rfl rfl hS.r ?_
    simp only [Act.put, pU]
    refine oneH (i := 15) (oi := ⟨none, _, _, _, _, _⟩) rfl (by kernel_rfl) (fun K hK => ?_)
    have HBQ := Hi hS.bq
    have f0 := hS.fq 0
    have f1 := hS.fq 1
    have f2 := hS.fq 2
    obtain ⟨x2, HX2⟩ : ∃ x2 : Nd, Hid (x2 = ⟨ks, vs, []⟩) := Hy
    have d0 := HBQ.out.c0
    have d1 := HBQ.out.c1
    have d2 := HBQ.out.c2
    obtain ⟨w4, HWw4⟩ : ∃ w4, Hid (w4 = ((wb4.setCell ⟨q, 0, none⟩ (.slice A2 ks.length cA)).setCell ⟨q, 1, none⟩ (.slice B2 vs.length cB)).setCell ⟨q, 2, none⟩ (.slice none 0 0)) := Hy
    have HSw4 : Hid (w4 = store3 wb4 q ⟨A2, B2, none, cA, cB, 0⟩ x2) := Hi (by rw [HX2.out]; exact HWw4.out)
    have HXw4 : Hid (NdBox w4 q ⟨A2, B2, none, cA, cB, 0⟩ x2) := Hi (by rw [HSw4.out]; exact store3_box HBQ.out)
    go_simp
    rw [← HWw4.out]
    have hT4 : Turn (fun k => k = q) wb4 w4 := ⟨by rw [HSw4.out]; rfl, by rw [HSw4.out]; rfl, by rw [HSw4.out]; rfl, by rw [HSw4.out, store3_size]; exact Nat.le_refl _, fun k hk => by rw [HSw4.out]; exact store3_far hk.2⟩
    have HSS := Hi hS
    clear hS
    have hpq : p ≠ q ∧ r ≠ q := HPQ.out
    have hR4 : WithR p r l x key val w4 := HSS.out.r.keep (by rw [HSw4.out]; exact store3_far hpq.1) (by rw [HSw4.out]; exact store3_far hpq.2)
    refine hK.out _ _ hR4 ?_
    clear hK K
    refine wpAnyH_done (by kernel_rfl) ?_ _
    go_wp2_with fail
    refine bodyPost_ret (results_nd Tryz.ndProg rfl _ _ q ⟨A2, B2, none, cA, cB, 0⟩ x2 rfl HXw4.out) rfl ?_
    have hqA : ∀ c, A2 = some c → c.block ≠ q := fun c e h => by
     rcases (HKB.out c e).1 with h3 | h3
     ·have := HLW.out c.block (.inl ⟨c, h3, rfl⟩); have := HSS.out.wq; omega
     ·have := h3.2; omega
    have hqB : ∀ c, B2 = some c → c.block ≠ q := fun c e h => by
     rcases HVB.out c e with h3 | h3
     ·have := HLW.out c.block (.inr (.inl ⟨c, h3, rfl⟩)); have := HSS.out.wq; omega
     ·have := h3.2; omega
    have hx : x' = x2 := by rw [HX'.out, HX2.out, HKS.out, HVS.out]; rfl
    rw [hx]
    refine ⟨_, rfl, ?_, HSS.out.turn.trans (hT4.more fun k _ hk => .inr (by rw [hk]; exact HSS.out.wq)), ?_⟩
    ·rw [HX2.out]
     refine NdMine.of_own (own_turn HKN.out hT4 ?_) (own_turn HVN.out hT4 ?_) (World.ownsRow_nil _ _ _ _) HDD.out (fun _ _ _ h => (by cases h)) (fun _ _ _ h => (by cases h)) ?_ ?_ (Nat.zero_le _) ?_ ?_ (fun z hz => (by cases hz))
     ·intro g hg e
      cases hA : A2 with
      | none => rw [hA] at hg; cases hg
      | some c => rw [hA] at hg; cases hg; exact hqA c hA e
     ·intro g hg e
      cases hA : B2 with
      | none => rw [hA] at hg; cases hg
      | some c => rw [hA] at hg; cases hg; exact hqB c hA e
     ·show ks.length ≤ 100
      rw [HKS.out]; have := HSZ.out; have := HAL.out; simp; omega
     ·show vs.length ≤ 100
      rw [HVS.out]; have := HSZ.out; have := HAL.out; simp; omega
     ·intro z hz
      have hz2 : z ∈ x.keys.take a ++ key :: x.keys.drop a := by rw [← HKS.out]; exact hz
      rcases List.mem_append.1 hz2 with h | h
      ·exact HIS.out.kw z (List.mem_of_mem_take h)
      ·rcases List.mem_cons.1 h with h | h
       ·rw [h]; exact HKW.out
       ·exact HIS.out.kw z (List.mem_of_mem_drop h)
     ·intro z hz
      have hz2 : z ∈ x.vals.take a ++ val :: x.vals.drop a := by rw [← HVS.out]; exact hz
      rcases List.mem_append.1 hz2 with h | h
      ·exact HIS.out.vw z (List.mem_of_mem_take h)
      ·rcases List.mem_cons.1 h with h | h
       ·rw [h]; exact HVW.out
       ·exact HIS.out.vw z (List.mem_of_mem_drop h)
    ·rintro g (⟨c, e, rfl⟩ | ⟨c, e, rfl⟩ | ⟨c, e, rfl⟩)
     ·rcases (HKB.out c e).1 with h3 | h3
      ·exact .inl (.inl ⟨c, h3, rfl⟩)
      ·exact .inr h3.1
     ·rcases HVB.out c e with h3 | h3
      ·exact .inl (.inr (.inl ⟨c, h3, rfl⟩))
      ·exact .inr h3.1
     ·cases e
  ·go_simp
   obtain ⟨v2, Hv2⟩ : ∃ v2, Hid (v2 = wa.heap.size) := Hy
   obtain ⟨wb1, HWwb1⟩ : ∃ wb1, Hid (wb1 = wa.alloc (.cells #[.string val] 9)) := Hy
   rw [← HWwb1.out, ← Hv2.out]
   have ht : Turn (fun _ => False) wa wb1 := by rw [HWwb1.out]; exact (Turn.refl _ _).alloc _
   have HKA := Hi (own_turn HKA.out ht (fun _ _ h => h.elim))
   have HVA := Hi (own_turn HVA.out ht (fun _ _ h => h.elim))
   have HR2 : Hid (VRow wb1 v2 9 [.string val]) := Hi (by rw [HWwb1.out, Hv2.out]; exact VRow.made _ _ _)
   have HGv2 : Hid (w.heap.size ≤ v2) := Hi (by rw [Hv2.out]; exact hS.turn.size)
   have hS2 := hS.step ht (fun _ h => h.elim)
   have HGE := Hi (Nat.le_trans HGE.out ht.size)
   clear ht hS HWwb1
   refine hK.out _ _ hS2.r ?_
   clear hK K
   have hS := hS2
   clear hS2
   refine oneH (i := 5) (oi := ⟨some 27, _, _, _, _, _⟩) rfl (by kernel_rfl) (fun K hK => ?_)
   go_simp
   obtain ⟨v1, Hv1⟩ : ∃ v1, Hid (v1 = wb1.heap.size) := Hy
   obtain ⟨wb2, HWwb2⟩ : ∃ wb2, Hid (wb2 = wb1.alloc (.cells #[.int .i64 key] 3)) := Hy
   rw [← HWwb2.out, ← Hv1.out]
   have ht : Turn (fun _ => False) wb1 wb2 := by rw [HWwb2.out]; exact (Turn.refl _ _).alloc _
   have HKA := Hi (own_turn HKA.out ht (fun _ _ h => h.elim))
   have HVA := Hi (own_turn HVA.out ht (fun _ _ h => h.elim))
   have HR2 := Hi (vrow_turn HR2.out ht (fun h => h.elim))
   have HR1 : Hid (VRow wb2 v1 3 [.int .i64 key]) := Hi (by rw [HWwb2.out, Hv1.out]; exact VRow.made _ _ _)
   have HGv1 : Hid (w.heap.size ≤ v1) := Hi (by rw [Hv1.out]; exact hS.turn.size)
   have hS2 := hS.step ht (fun _ h => h.elim)
   have HGE := Hi (Nat.le_trans HGE.out ht.size)
   clear ht hS HWwb2
   refine hK.out _ _ hS2.r ?_
   clear hK K
   have hS := hS2
   clear hS2
   refine oneH (i := 6) (oi := ⟨some 28, _, _, _, _, _⟩) rfl (by kernel_rfl) (fun K hK => ?_)
   go_simp
   refine (insKey HKA.out HAL.out HR1.out (fun c e h => by have := HLW.out c.block (.inl ⟨c, e, rfl⟩); have := HGv1.out; omega) (by have := HSZ.out.1; omega) (Nat.le_trans HBW.out HGE.out)).mono ?_
   rintro e wb3 ⟨A2, cA, rfl, hown, hbl, ht⟩
   rw [← HKS.out] at hown ⊢
   clear HKA
   have HKN := Hi hown
   have HKB : Hid (∀ c, A2 = some c → (l.A = some c ∨ (w.heap.size ≤ c.block ∧ q < c.block)) ∧ c.block < wb3.heap.size) := Hi fun c e => ⟨(hbl c e).imp id fun h => ⟨Nat.le_trans HGE.out h, Nat.lt_of_lt_of_le hS.bq.lt h⟩, (hown.lt c.block (by rw [e]; rfl)).2⟩
   have HVA := Hi (own_turn HVA.out ht (fun g hg ⟨c, e1, e2⟩ => by cases hB : l.B with | none => (rw [hB] at hg; cases hg) | some d => (rw [hB] at hg; cases hg; exact HNE.out c d e1 hB e2)))
   have HR2 := Hi (vrow_turn HR2.out ht (fun ⟨c, e1, e2⟩ => by have := HLW.out c.block (.inl ⟨c, e1, rfl⟩); have := HGv2.out; omega))
   have hS2 := hS.step ht (fun _ ⟨c, e1, e2⟩ => .inl ⟨c, e1, e2⟩)
   have HGE := Hi (Nat.le_trans HGE.out ht.size)
   clear ht hS hown hbl HR1
   refine hK.out _ _ hS2.r ?_
   clear hK K
   have hS := hS2
   clear hS2
   refine oneH (i := 13) (oi := ⟨some 35, _, _, _, _, _⟩) rfl (by kernel_rfl) (fun K hK => ?_)
   go_simp
   refine (insVal HVA.out (by rw [HSZ.out.2.1]; exact HAL.out) HR2.out (fun c e h => by have := HLW.out c.block (.inr (.inl ⟨c, e, rfl⟩)); have := HGv2.out; omega) (by have := HSZ.out; omega) (Nat.le_trans HBW.out HGE.out)).mono ?_
   rintro e wb4 ⟨B2, cB, rfl, hown, hbl, ht⟩
   rw [← HVS.out] at hown ⊢
   clear HVA
   have HVN := Hi hown
   have HKL : Hid (∀ c, A2 = some c → c.block < wb3.heap.size) := Hi fun c e => (HKN.out.lt c.block (by rw [e]; rfl)).2
   have HDD : Hid (∀ c d, A2 = some c → B2 = some d → c.block ≠ d.block) := Hi (fun c d e1 e2 => by
      rcases hbl d e2 with h1 | h1
      ·rcases (HKB.out c e1).1 with h2 | h2
       ·exact HNE.out c d h2 h1
       ·have := HLW.out d.block (.inr (.inl ⟨d, h1, rfl⟩)); omega
      ·have := HKL.out c e1; omega)
   have HVB : Hid (∀ d, B2 = some d → l.B = some d ∨ (w.heap.size ≤ d.block ∧ q < d.block)) := Hi fun d e => (hbl d e).imp id fun h => ⟨Nat.le_trans HGE.out h, Nat.lt_of_lt_of_le hS.bq.lt h⟩
   have HKN := Hi (own_turn HKN.out ht (fun g hg ⟨d, e1, e2⟩ => by cases hA : A2 with | none => (rw [hA] at hg; cases hg) | some c => (rw [hA] at hg; cases hg; rcases (HKB.out c hA).1 with h2 | h2; exact HNE.out c d h2 e1 e2.symm; have := HLW.out d.block (.inr (.inl ⟨d, e1, rfl⟩)); omega)))
   have hS2 := hS.step ht (fun _ ⟨c, e1, e2⟩ => .inr (.inl ⟨c, e1, e2⟩))
   clear ht hS hown hbl HR2
   refine hK.out _ _ hS2.r ?_
   clear hK K
   have hS := hS2
   clear hS2
   refine takeK (i := 14) 36 (v := .agg #[.slice A2 ks.length cA, .slice B2 vs.length cB, .slice none 0 0]) rfl rfl hS.r ?_
   simp only [Act.put, pU]
   refine oneH (i := 15) (oi := ⟨none, _, _, _, _, _⟩) rfl (by kernel_rfl) (fun K hK => ?_)
   have HBQ := Hi hS.bq
   have f0 := hS.fq 0
   have f1 := hS.fq 1
   have f2 := hS.fq 2
   obtain ⟨x2, HX2⟩ : ∃ x2 : Nd, Hid (x2 = ⟨ks, vs, []⟩) := Hy
   have d0 := HBQ.out.c0
   have d1 := HBQ.out.c1
   have d2 := HBQ.out.c2
   obtain ⟨w4, HWw4⟩ : ∃ w4, Hid (w4 = ((wb4.setCell ⟨q, 0, none⟩ (.slice A2 ks.length cA)).setCell ⟨q, 1, none⟩ (.slice B2 vs.length cB)).setCell ⟨q, 2, none⟩ (.slice none 0 0)) := Hy
   have HSw4 : Hid (w4 = store3 wb4 q ⟨A2, B2, none, cA, cB, 0⟩ x2) := Hi (by rw [HX2.out]; exact HWw4.out)
   have HXw4 : Hid (NdBox w4 q ⟨A2, B2, none, cA, cB, 0⟩ x2) := Hi (by rw [HSw4.out]; exact store3_box HBQ.out)
   go_simp
   rw [← HWw4.out]
   have hT4 : Turn (fun k => k = q) wb4 w4 := ⟨by rw [HSw4.out]; rfl, by rw [HSw4.out]; rfl, by rw [HSw4.out]; rfl, by rw [HSw4.out, store3_size]; exact Nat.le_refl _, fun k hk => by rw [HSw4.out]; exact store3_far hk.2⟩
   have HSS := Hi hS
   clear hS
   have hpq : p ≠ q ∧ r ≠ q := HPQ.out
   have hR4 : WithR p r l x key val w4 := HSS.out.r.keep (by rw [HSw4.out]; exact store3_far hpq.1) (by rw [HSw4.out]; exact store3_far hpq.2)
   refine hK.out _ _ hR4 ?_
   clear hK K
   refine wpAnyH_done (by kernel_rfl) ?_ _
   go_wp2_with fail
   refine bodyPost_ret (results_nd Tryz.ndProg rfl _ _ q ⟨A2, B2, none, cA, cB, 0⟩ x2 rfl HXw4.out) rfl ?_
   have hqA : ∀ c, A2 = some c → c.block ≠ q := fun c e h => by
    rcases (HKB.out c e).1 with h3 | h3
    ·have := HLW.out c.block (.inl ⟨c, h3, rfl⟩); have := HSS.out.wq; omega
    ·have := h3.2; omega
   have hqB : ∀ c, B2 = some c → c.block ≠ q := fun c e h => by
    rcases HVB.out c e with h3 | h3
    ·have := HLW.out c.block (.inr (.inl ⟨c, h3, rfl⟩)); have := HSS.out.wq; omega
    ·have := h3.2; omega
   have hx : x' = x2 := by rw [HX'.out, HX2.out, HKS.out, HVS.out]; rfl
   rw [hx]
   refine ⟨_, rfl, ?_, HSS.out.turn.trans (hT4.more fun k _ hk => .inr (by rw [hk]; exact HSS.out.wq)), ?_⟩
   ·rw [HX2.out]
    refine NdMine.of_own (own_turn HKN.out hT4 ?_) (own_turn HVN.out hT4 ?_) (World.ownsRow_nil _ _ _ _) HDD.out (fun _ _ _ h => (by cases h)) (fun _ _ _ h => (by cases h)) ?_ ?_ (Nat.zero_le _) ?_ ?_ (fun z hz => (by cases hz))
    ·intro g hg e
     cases hA : A2 with
     | none => rw [hA] at hg; cases hg
     | some c => rw [hA] at hg; cases hg; exact hqA c hA e
    ·intro g hg e
     cases hA : B2 with
     | none => rw [hA] at hg; cases hg
     | some c => rw [hA] at hg; cases hg; exact hqB c hA e
    ·show ks.length ≤ 100
     rw [HKS.out]; have := HSZ.out; have := HAL.out; simp; omega
    ·show vs.length ≤ 100
     rw [HVS.out]; have := HSZ.out; have := HAL.out; simp; omega
    ·intro z hz
     have hz2 : z ∈ x.keys.take a ++ key :: x.keys.drop a := by rw [← HKS.out]; exact hz
     rcases List.mem_append.1 hz2 with h | h
     ·exact HIS.out.kw z (List.mem_of_mem_take h)
     ·rcases List.mem_cons.1 h with h | h
      ·rw [h]; exact HKW.out
      ·exact HIS.out.kw z (List.mem_of_mem_drop h)
    ·intro z hz
     have hz2 : z ∈ x.vals.take a ++ val :: x.vals.drop a := by rw [← HVS.out]; exact hz
     rcases List.mem_append.1 hz2 with h | h
     ·exact HIS.out.vw z (List.mem_of_mem_take h)
     ·rcases List.mem_cons.1 h with h | h
      ·rw [h]; exact HVW.out
      ·exact HIS.out.vw z (List.mem_of_mem_drop h)
   ·rintro g (⟨c, e, rfl⟩ | ⟨c, e, rfl⟩ | ⟨c, e, rfl⟩)
    ·rcases (HKB.out c e).1 with h3 | h3
     ·exact .inl (.inl ⟨c, h3, rfl⟩)
     ·exact .inr h3.1
    ·rcases HVB.out c e with h3 | h3
     ·exact .inl (.inr (.inl ⟨c, h3, rfl⟩))
     ·exact .inr h3.1
    ·cases e
end Go.Proofs.YtafclmbecmgbnaaGreatDoor

/-
 TrShape. Conditions: as each theorem says.
-/
namespace Go.Proofs.YtafclmbecmgbnaaGreatDoor
open Go.RowKit
theorem withN_shape {x : Nd} (hr : rightN x = true) (hlf : x.kids.length = 0) (key : Int) (val : ByteArray) : NdShape (withN x key val) := by
 obtain ⟨h1, h7, h3⟩ := right_parts hr
 have hv := (right_shape hr).leaf hlf
 unfold withN
 split
 ·exact ⟨fun _ => by simp [hv], fun h => absurd hlf h, by show x.keys.length ≤ 100; omega⟩
 ·refine ⟨fun _ => ?_, fun h => absurd rfl h, ?_⟩
  ·simp only [List.length_append, List.length_take, List.length_cons, List.length_drop]; omega
  ·simp only [List.length_append, List.length_take, List.length_cons, List.length_drop]; omega
theorem partsN_row (x : Nd) : (partsN x).1.length = (partsN x).2.length + 1 := by
 unfold partsN
 split
 ·rfl
 ·split
  ·simp only [List.length_cons, List.length_nil, List.length_take, List.length_drop]; omega
  ·simp only [List.length_cons, List.length_nil, List.length_take, List.length_drop]; omega
theorem partsN_keys_few (x : Nd) : (partsN x).2.length ≤ 1 := by
 have h1 := partsN_row x
 have h2 := partsN_few x
 omega
theorem addAllM_length (n : Nat) (l : List Nd) : ∀ {S S1 : TS} {ks : List Int}, addAllM n S l = (.ok ks, S1) → ks.length = l.length := by
 induction l with
 | nil => intro S S1 ks h; simp only [addAllM, Prod.mk.injEq, Except.ok.injEq] at h; rw [← h.1]; rfl
 | cons y l ih =>
  intro S S1 ks h
  unfold addAllM at h
  cases ha : addM n S y with
  | mk o S2 =>
   rw [ha] at h
   cases o with
   | error c => simp only [Prod.mk.injEq] at h; cases h.1
   | ok k =>
    simp only at h
    cases hb : addAllM n S2 l with
    | mk o2 S3 =>
     rw [hb] at h
     cases o2 with
     | error c => simp only [Prod.mk.injEq] at h; cases h.1
     | ok ks2 =>
      simp only [Prod.mk.injEq, Except.ok.injEq] at h
      rw [← h.1, List.length_cons, List.length_cons, ih hb]
theorem changeM_row {n : Nat} {S S1 : TS} {x : Nd} {old bk ks : List Int} (h : changeM n S x old = (.ok (bk, ks), S1)) : bk = (partsN x).2 ∧ ks.length = bk.length + 1 := by
 unfold changeM at h
 cases ha : addAllM n S (partsN x).1 with
 | mk o S2 =>
  rw [ha] at h
  cases o with
  | error c => simp only [Prod.mk.injEq] at h; cases h.1
  | ok ks2 =>
   simp only at h
   cases hb : dropAllM S2 old with
   | mk c S3 =>
    rw [hb] at h
    simp only at h
    split at h
    ·simp only [Prod.mk.injEq, Except.ok.injEq] at h
     obtain ⟨⟨rfl, rfl⟩, _⟩ := h
     exact ⟨rfl, by rw [addAllM_length n _ ha, partsN_row]⟩
    ·simp only [Prod.mk.injEq] at h; cases h.1
theorem replaceM_shape {n : Nat} {S S1 : TS} {x y z : Nd} {at_ many : Nat} (hr : rightN x = true) (hk : x.kids.length ≠ 0) (hm : 1 ≤ many) (hat : at_ + many ≤ x.kids.length) (h : replaceM n S x at_ many y = (.ok z, S1)) : NdShape z := by
 have h1 := (right_shape hr).inner hk
 have h7 := (right_parts hr).2.1
 unfold replaceM at h
 cases hc : changeM n S y ((x.kids.drop at_).take many) with
 | mk o S2 =>
  rw [hc] at h
  cases o with
  | error c => simp only [Prod.mk.injEq] at h; cases h.1
  | ok r =>
   obtain ⟨bk, ks⟩ := r
   simp only [Prod.mk.injEq, Except.ok.injEq] at h
   obtain ⟨rfl, _⟩ := h
   obtain ⟨h2, h3⟩ := changeM_row hc
   have h4 := partsN_keys_few y
   rw [← h2] at h4
   refine ⟨fun h0 => ?_, fun _ => ⟨rfl, ?_⟩, ?_⟩
   ·simp only [List.length_append, List.length_take, List.length_drop] at h0; omega
   ·simp only [List.length_append, List.length_take, List.length_drop]; omega
   ·simp only [List.length_append, List.length_take, List.length_drop]; omega
theorem putM_shape {n : Nat} {key : Int} {val : ByteArray} (f : Nat) : ∀ {S S1 : TS} {i : Int} {z : Nd}, putM n f S i key val = (.ok z, S1) → NdShape z := by
 induction f with
 | zero => intro S S1 i z h; simp only [putM, Prod.mk.injEq] at h; cases h.1
 | succ f ih =>
  intro S S1 i z h
  unfold putM at h
  cases hl : loadM S i (12 - f : Int) with
  | error c => rw [hl] at h; simp only [Prod.mk.injEq] at h; cases h.1
  | ok x =>
   rw [hl] at h
   simp only at h
   have hr := loadM_right hl
   split at h
   ·rename_i h0
    simp only [Prod.mk.injEq, Except.ok.injEq] at h
    rw [← h.1]
    exact withN_shape hr h0 _ _
   ·rename_i h0
    split at h
    ·simp only [Prod.mk.injEq] at h; cases h.1
    ·rename_i kid S2 hp
     exact replaceM_shape hr h0 (Nat.le_refl _) (kidAtN_lt hr h0 key) h
end Go.Proofs.YtafclmbecmgbnaaGreatDoor
