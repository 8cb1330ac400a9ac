/-
  What is laid is read as it was, and what is read is laid as it stands there. Conditions: none beyond the premises of each theorem.
-/
import Derived.Test.YtoempilmofbhdaaDoorGridLay
namespace Go.Proofs.YtoempilmofbhdaaDoor
open Go Go.RowKit Go.Shelf

def chunks (xs : List UInt8) (a h : Nat) : List (List UInt8) := (List.range h).map (chunkOf xs a)
theorem chunks_lay (xs : List UInt8) (a h : Nat) : Grid.layRows (chunks xs a h) = layOf xs a (List.range h) := by
  unfold Grid.layRows chunks layOf
  rw [List.flatMap_map]
theorem chunks_flat (xs : List UInt8) (a : Nat) : ∀ h, (chunks xs a h).flatten = xs.take (h * a)
  | 0 => by simp [chunks]
  | h + 1 => by
    have ih := chunks_flat xs a h
    unfold chunks at ih ⊢
    rw [List.range_succ, List.map_append, List.flatten_append, ih, Nat.succ_mul, List.take_add]
    simp [chunkOf]
theorem chunks_len {xs : List UInt8} {a h : Nat} (hn : xs.length = a * h) : ∀ r ∈ chunks xs a h, r.length = a := fun r hr => by
  unfold chunks at hr
  obtain ⟨k, hk, rfl⟩ := List.mem_map.1 hr
  exact chunkOf_length hn (List.mem_range.1 hk)
theorem sign_line {c : UInt8} (h : Grid.sign c = true) : c ≠ 10 := by
  intro e; subst e; cases h
/-- what is laid is read as it was -/
theorem parse_lay {a h : Nat} {s : ByteArray} (hr : rightM (a : Int) (h : Int) s = true) : parseM (layOf s.data.toList a (List.range h)) = some (a, h, s.data.toList) := by
  have hr2 := Grid.rightB_iff.1 hr
  obtain ⟨a', h', ha, hh, h1, h8, hh1, hh8, hn, _⟩ := Grid.sized_nat hr2.1
  obtain rfl : a = a' := by omega
  obtain rfl : h = h' := by omega
  clear ha hh
  have hlen := chunks_len hn
  have hfl : (chunks s.data.toList a h).flatten = s.data.toList := by
    rw [chunks_flat, List.take_of_length_le (by rw [hn, Nat.mul_comm]; exact Nat.le_refl _)]
  have hn10 : ∀ r ∈ chunks s.data.toList a h, ∀ c ∈ r, c ≠ 10 := fun r hr c hc => by
    have hm : c ∈ (chunks s.data.toList a h).flatten := List.mem_flatten.2 ⟨r, hr, hc⟩
    rw [hfl] at hm
    exact sign_line (List.all_eq_true.1 hr2.2.1 c hm)
  have hln : (chunks s.data.toList a h).length = h := by unfold chunks; simp
  have hw : wid (chunks s.data.toList a h) = a := by
    obtain ⟨d, rfl⟩ : ∃ d, h = d + 1 := ⟨h - 1, by omega⟩
    unfold wid chunks
    rw [List.range_succ_eq_map]
    simp
    exact chunkOf_length hn (by omega)
  have h72 : (layOf s.data.toList a (List.range h)).length ≤ 72 := by
    rw [layOf_length hn _ (fun k hk => List.mem_range.1 hk), List.length_range]
    exact Nat.mul_le_mul hh8 (show a + 1 ≤ 9 by omega)
  have hrows := Grid.rows_lay hn10
  rw [chunks_lay] at hrows
  have hp := parse_good h72 (rows_lines.1 hrows).1 hn10 (fun r hr => by rw [hlen r hr, hw])
  rw [hp, hw, hln, hfl]
  exact if_pos hr
theorem flat_chunk : ∀ (l : List (List UInt8)) (a k : Nat), (∀ r ∈ l, r.length = a) → (hk : k < l.length) → chunkOf l.flatten a k = l[k]
  | [], _, _, _, hk => by simp at hk
  | r :: l, a, 0, h, _ => by
    have h1 := h r (by simp)
    unfold chunkOf
    simp [← h1]
  | r :: l, a, k + 1, h, hk => by
    have h1 := h r (by simp)
    have ih := flat_chunk l a k (fun x hx => h x (by simp [hx])) (by simpa using hk)
    unfold chunkOf at ih ⊢
    rw [List.flatten_cons, Nat.succ_mul, Nat.add_comm, ← List.drop_drop, List.drop_left' h1, ih]
    rfl
theorem flat_lay {l : List (List UInt8)} {a : Nat} (h : ∀ r ∈ l, r.length = a) : layOf l.flatten a (List.range l.length) = Grid.layRows l := by
  rw [← chunks_lay]
  congr 1
  unfold chunks
  refine List.ext_getElem (by simp) fun i h1 h2 => ?_
  simp
  exact flat_chunk l a i h h2
/-- what is read is laid as it stands there -/
theorem lay_parse {s : List UInt8} {a h : Nat} {c : List UInt8} (e : parseM s = some (a, h, c)) : Grid.rightB (a : Int) (h : Int) c = true ∧ layOf c a (List.range h) = s := by
  unfold parseM at e
  split at e
  · split at e
    · cases e
    · rename_i l hl
      split at e
      · rename_i hc
        cases e
        refine ⟨Grid.rightB_iff.2 hc.2, ?_⟩
        rw [flat_lay fun r hr => hc.1 r hr]
        exact (Grid.rows_some hl).1.symm
      · cases e
  · cases e
theorem ofBytes_list (l : List UInt8) : (ofBytes l).data.toList = l := by simp [ofBytes]
theorem ofBytes_self (s : ByteArray) : ofBytes s.data.toList = s := by simp [ofBytes]
end Go.Proofs.YtoempilmofbhdaaDoor
