/-
  Two lists of items that are held against each other. Conditions: none beyond the premises of each theorem.
-/
import Derived.Test.YtchmdnopgfmpdaaHeapAwake
import Derived.Laws.AppendOwnNone
namespace Go.Proofs.Ytchmdnopgfmpdaa
open Go.RowKit Hp

/-- two slices that read as the same items -/
structure CmpS (B C : Nat) (A1 A2 : Option Addr) (S : List Itm) (w wr : World) : Prop where
  i1 : ItmsAt wr C A1 S
  i2 : ItmsAt wr C A2 S
  below : Below B w wr
theorem CmpS.drew {B C : Nat} {A1 A2 : Option Addr} {S : List Itm} {w wr : World} (h : CmpS B C A1 A2 S w wr) : CmpS B C A1 A2 S w wr.drew := ⟨h.i1, h.i2, h.below.drew⟩
theorem row_carry {w w' : World} {B n : Nat} {v : Value} {xs : List Value} {e : TypeId} {k : Nat} (h : w.ownsRow B e k v n xs) (hb : Below w.heap.size w w') : w'.ownsRow B e k v n xs :=
  h.kept (row := none) ⟨hb.os, hb.tape, hb.output, hb.size, fun k hk _ => hb.block k hk⟩ (by cases v.ownBlock <;> simp)
theorem Array.range_zero9 : Array.range 0 = #[] := rfl
theorem run_empty9 {P : Program} (w : World) (t e : TypeId) (ie : TypeInfo) (hu : P.underlying t = some (.slice e)) (hi : P.info? e = some ie) : (Instr.buildSlice t 0 #[]).run P w = .ok (.slice (some ⟨w.heap.size, 0, none⟩) 0 0) (w.alloc (.cells #[] e)) := by
  simp [Instr.buildSlice, run_underlying hu, sizeOf, typeInfo, hi, newRow, Instr.fill, Array.range_zero9]
/-- an empty slice literal -/
theorem wp_empty9 {P : Program} {w : World} {o : Oper} {a : Act} {K : Act → World → Prop} {Q : Exit → Act → World → Prop} (t e : TypeId) (ie : TypeInfo) (ho : o.op = .buildSlice t 0 #[]) (hu : P.underlying t = some (.slice e)) (hi : P.info? e = some ie)
    (h : K (a.put o.dst (.slice (some ⟨w.heap.size, 0, none⟩) 0 0)) (w.alloc (.cells #[] e))) : Oper.wp P o a w K Q := by
  unfold Oper.wp execOp
  simp only [ho, List.map_toArray, List.map_nil, Sem.run_bind, run_empty9 w t e ie hu hi, Result.andThen_ok]
  exact h
/-- all of a list is appended -/
theorem wp_append_its {P : Program} {w : World} {o : Oper} {a : Act} {K : Act → World → Prop} {Q : Exit → Act → World → Prop} (s x : Operand) (t e : TypeId) (ho : o.op = .call { callee := .builtin .append, args := #[s, x], argTypes := #[t, t] })
    (i : TypeInfo) (z : Value) (ht : P.underlying t = some (.slice e)) (hi : P.info? e = some i) (hz : i.zero = some z) (hsize : i.size = 2) (hby : i.bytes = 16) (hzs : z.cells.size = 2)
    {B C c m : Nat} {v : Value} {X Y : List Itm} {A : Option Addr} (hs : a.eval s = v) (hm : Y.length = m) (hx : a.eval x = .slice A m c) (hA : A = none → c = 0) (hown : w.ownsRow B e 2 v X.length (flat2 X)) (hy : ItmsAt w C A Y) (hlen : X.length + Y.length ≤ 10000) (hB : B ≤ w.heap.size)
    (h : ∀ v' w', w'.ownsRow B e 2 v' (X ++ Y).length (flat2 (X ++ Y)) → w.grownBy w' v.ownBlock → (v'.ownBlock = v.ownBlock ∨ v'.ownBlock = some w.heap.size) → K (a.put o.dst v') w') : Oper.wp P o a w K Q := by
  subst hm
  cases A with
  | none =>
    have h0 : Y = [] := by
      refine List.eq_nil_of_length_eq_zero ?_
      rcases Nat.eq_zero_or_pos Y.length with h1 | h1
      · exact h1
      · obtain ⟨b, o, e1, _⟩ := hy h1
        cases e1
    obtain rfl := hA rfl
    subst h0
    have hrun := run_append_owned_none (P := P) (w := w) B t o.type e i 2 ht hi v _ _ hown
    unfold Oper.wp execOp
    simp only [ho, resolve, invoke, builtin, Sem.run_bind, Sem.run_pure, Result.andThen_ok, List.map_toArray, List.map_cons, List.map_nil, hs, hx, List.length_nil, hrun]
    exact h v w (by rw [List.append_nil]; exact hown) ⟨rfl, rfl, rfl, Nat.le_refl _, fun _ _ _ => rfl⟩ (.inl rfl)
  | some q =>
    have hn : ∀ j u, (flat2 Y)[j]? = some u → w.cell? (q.add j) = some u := fun j u hu => by
      have hj : j < Y.length * 2 := by have := (List.getElem?_eq_some_iff.1 hu).1; rwa [flat2_length] at this
      obtain ⟨b, o2, e1, _, hc⟩ := hy (by omega)
      cases e1
      rw [Addr.add_mid]
      have hk : j / 2 < Y.length := by omega
      rcases Nat.mod_two_eq_zero_or_one j with h2 | h2
      · have e : j = j / 2 * 2 := by omega
        rw [e, flat2_fst hk] at hu
        have := hc (j / 2) hk 0 u hu
        rw [e]
        exact this
      · have e : j = j / 2 * 2 + 1 := by omega
        rw [e, flat2_snd hk] at hu
        have := hc (j / 2) hk 1 u hu
        rw [e]
        exact this
    obtain ⟨v', w', hr, h4, h5, _, h6⟩ := run_append_own_at (P := P) w B t o.type e i z 2 16 ht hi hz hsize hby hzs (by decide) _ _ _ hown q Y.length c (flat2 Y) (flat2_length Y) hn (flat2_one_cell Y) (by unfold maxLen; omega) (by omega) hB
    unfold Oper.wp execOp
    simp only [ho, resolve, invoke, builtin, Sem.run_bind, Sem.run_pure, Result.andThen_ok, List.map_toArray, List.map_cons, List.map_nil, hs, hx, hr]
    exact h v' w' (by rw [flat2_append, List.length_append]; exact h4) h5 h6
end Go.Proofs.Ytchmdnopgfmpdaa
