/-
  The document's own Down (layer 16): neighbours that are nearer, by cost, put in one by one. Conditions: none beyond the premises of each theorem.
-/
import Derived.Test.YtiffgmgefpoblaaDoorFieldAwake
import Derived.Laws.AppendOwnNone
import Derived.BigQuiet
namespace Go.Proofs.YtiffgmgefpoblaaDoor
open Go.RowKit Hp Fld

theorem own_carry7 {w w' : World} {B k n : Nat} {e : TypeId} {v : Value} {xs : List Value} (h : w.ownsRow B e k v n xs) (hb : Below w.heap.size w w') : w'.ownsRow B e k v n xs :=
  h.kept (row := none) ⟨hb.os, hb.tape, hb.output, hb.size, fun k hk _ => hb.block k hk⟩ (by cases v.ownBlock <;> simp)
theorem own_weak7 {w : World} {B C k n : Nat} {e : TypeId} {v : Value} {xs : List Value} (h : w.ownsRow B e k v n xs) (hc : C ≤ B) : w.ownsRow C e k v n xs := by
  obtain ⟨h1, h2⟩ := h
  refine ⟨h1, ?_⟩
  rcases h2 with h2 | ⟨g, cap, cur, h3, h4, h5⟩
  · exact .inl h2
  · exact .inr ⟨g, cap, cur, h3, Nat.le_trans hc h4, h5⟩
/-- what a call owns, as a slice of numbers -/
theorem own_nums7 {w : World} {B : Nat} {v : Value} {l : List Nat} (h : w.ownsRow B 3 1 v l.length (numCells l)) : ∃ A cap, v = .slice A l.length cap ∧ Nums w .i64 A (ints l) ∧ (A = none → cap = 0) ∧ l.length ≤ cap := by
  rcases h.2 with ⟨h1, h2⟩ | ⟨g, cap, _, h1, _, _, h3, _⟩
  · refine ⟨none, 0, by rw [h1, h2], ?_, fun _ => rfl, by omega⟩
    rw [List.length_eq_zero_iff.1 h2]
    exact Nums.none_ _ _ _
  · subst h1
    refine ⟨_, cap, rfl, Nums.own (base := B) (e := 3) (n := l.length) (c := cap) ?_, (fun h => by cases h), h3⟩
    rw [← numCells_ints]
    exact h
/-- a part of a slice of numbers -/
theorem nums_part7 {w : World} {A : Option Addr} {zs : List Int} {lo hi cap : Nat} (h : Nums w .i64 A zs) (h2 : zs.length ≤ cap) (hA : A = none → cap = 0) :
    ∃ A' c', sliced A lo hi cap 1 = .slice A' (hi - lo) c' ∧ Nums w .i64 A' ((zs.take hi).drop lo) ∧ (A' = none → c' = 0) := by
  refine ⟨_, _, rfl, ?_, fun hn => ?_⟩
  · rw [Nat.mul_one]
    exact (h.take hi).drop (by rw [List.length_take]; omega)
  · by_cases e : cap = lo
    · omega
    · rw [if_neg e] at hn
      cases A with
      | none => rw [hA rfl]; omega
      | some a => cases hn
theorem run_empty7 {P : Program} (w : World) (t e : TypeId) (ie : TypeInfo) (hu : P.underlying t = some (.slice e)) (hi : P.info? e = some ie) : (Instr.buildSlice t 0 #[]).run P w = .ok (.slice (some ⟨w.heap.size, 0, none⟩) 0 0) (w.alloc (.cells #[] e)) := by
  have hr : Array.range 0 = #[] := rfl
  simp [Instr.buildSlice, run_underlying hu, sizeOf, typeInfo, hi, newRow, Instr.fill, hr]
theorem wp_empty7 {P : Program} {w : World} {o : Oper} {a : Act} {K : Act → World → Prop} {Q : Exit → Act → World → Prop} (t e : TypeId) (ie : TypeInfo) (ho : o.op = .buildSlice t 0 #[]) (hu : P.underlying t = some (.slice e)) (hi : P.info? e = some ie)
    (h : K (a.put o.dst (.slice (some ⟨w.heap.size, 0, none⟩) 0 0)) (w.alloc (.cells #[] e))) : Oper.wp P o a w K Q := by
  unfold Oper.wp execOp
  simp only [ho, List.map_toArray, List.map_nil, Sem.run_bind, run_empty7 w t e ie hu hi, Result.andThen_ok]
  exact h
/-- all of a list of numbers is appended -/
theorem wp_append_nums7 {P : Program} {w : World} {o : Oper} {a : Act} {K : Act → World → Prop} {Q : Exit → Act → World → Prop} (s x : Operand) (t e : TypeId) (ho : o.op = .call { callee := .builtin .append, args := #[s, x], argTypes := #[t, t] })
    (i : TypeInfo) (z : Value) (ht : P.underlying t = some (.slice e)) (hi : P.info? e = some i) (hz : i.zero = some z) (hsize : i.size = 1) (hby : i.bytes = 8) (hzs : z.cells.size = 1)
    {B c m : Nat} {v : Value} {X Y : List Int} {A : Option Addr} (hs : a.eval s = v) (hm : Y.length = m) (hx : a.eval x = .slice A m c) (hA : A = none → c = 0) (hown : w.ownsRow B e 1 v X.length (rowV X)) (hy : Nums w .i64 A Y) (hlen : X.length + Y.length ≤ 10000) (hB : B ≤ w.heap.size)
    (h : ∀ v' w', w'.ownsRow B e 1 v' (X ++ Y).length (rowV (X ++ Y)) → w.grownBy w' v.ownBlock → (v'.ownBlock = v.ownBlock ∨ v'.ownBlock = some w.heap.size) → K (a.put o.dst v') w') : Oper.wp P o a w K Q := by
  subst hm
  cases A with
  | none =>
    have h0 : Y = [] := by
      refine List.eq_nil_of_length_eq_zero ?_
      rcases Nat.eq_zero_or_pos Y.length with h1 | h1
      · exact h1
      · obtain ⟨b, e1, _⟩ := hy h1
        cases e1
    obtain rfl := hA rfl
    subst h0
    have hrun := run_append_owned_none (P := P) (w := w) B t o.type e i 1 ht hi v _ _ hown
    unfold Oper.wp execOp
    simp only [ho, resolve, invoke, builtin, Sem.run_bind, Sem.run_pure, Result.andThen_ok, List.map_toArray, List.map_cons, List.map_nil, hs, hx, List.length_nil, hrun]
    exact h v w (by rw [List.append_nil]; exact hown) ⟨rfl, rfl, rfl, Nat.le_refl _, fun _ _ _ => rfl⟩ (.inl rfl)
  | some q =>
    have hn : ∀ j u, (rowV Y)[j]? = some u → w.cell? (q.add j) = some u := fun j u hu => by
      have hj : j < Y.length := by have := (List.getElem?_eq_some_iff.1 hu).1; simpa using this
      obtain ⟨a9, e9, _, hc⟩ := hy (by omega)
      cases e9
      have hv := hc j Y[j] (List.getElem?_eq_getElem hj)
      rw [List.getElem?_map, List.getElem?_eq_getElem hj] at hu
      cases hu
      exact hv
    obtain ⟨v', w', hr, h4, h5, _, h6⟩ := run_append_own_at (P := P) w B t o.type e i z 1 8 ht hi hz hsize hby hzs (by decide) _ _ _ hown q Y.length c (rowV Y) (by simp) hn (fun u hu => by obtain ⟨z9, _, rfl⟩ := List.mem_map.1 hu; rfl) (by unfold maxLen; omega) (by omega) hB
    unfold Oper.wp execOp
    simp only [ho, resolve, invoke, builtin, Sem.run_bind, Sem.run_pure, Result.andThen_ok, List.map_toArray, List.map_cons, List.map_nil, hs, hx, hr]
    exact h v' w' (by rw [List.length_append, show rowV (X ++ Y) = rowV X ++ rowV Y from List.map_append]; exact h4) h5 h6
theorem insF_at {F : List Int} {x : Nat} : ∀ {D : List Nat} {k : Nat}, k ≤ D.length → (∀ t, t < k → ∀ h : t < D.length, fat F D[t] ≤ fat F x) → (∀ h : k < D.length, ¬ fat F D[k] ≤ fat F x) → insF F x D = D.take k ++ x :: D.drop k
  | [], k, hk, _, _ => by
    obtain rfl : k = 0 := by simpa using hk
    rfl
  | d :: D, 0, _, _, h2 => by
    unfold insF
    rw [if_neg (show ¬ fat F d ≤ fat F x from h2 (by simp))]
    rfl
  | d :: D, k + 1, hk, h1, h2 => by
    unfold insF
    rw [if_pos (show fat F d ≤ fat F x from h1 0 (by omega) (by simp))]
    simp only [List.take_succ_cons, List.drop_succ_cons, List.cons_append]
    rw [insF_at (by simpa using hk) (fun t ht h => h1 (t + 1) (by omega) (by simpa using h)) (fun h => h2 (by simpa using h))]
/-- those of the first i cells -/
def lowTo (xs : List UInt8) (wd ci : Nat) (F : List Int) (v : Int) (i : Nat) : List Nat := lows F v ((List.range i).filter fun n => Grid.openAt xs n && Grid.beside wd ci n)
theorem lowTo_yes {xs : List UInt8} {wd ci : Nat} {F : List Int} {v : Int} {i : Nat} (h1 : Grid.openAt xs i = true) (h2 : Grid.beside wd ci i = true) (h3 : 0 ≤ fat F i) (h4 : fat F i < v) : lowTo xs wd ci F v (i + 1) = lowTo xs wd ci F v i ++ [i] := by
  unfold lowTo lows
  rw [List.range_succ, List.filter_append, List.filter_append]
  congr 1
  simp [h1, h2, h3, h4]
theorem lowTo_no {xs : List UInt8} {wd ci : Nat} {F : List Int} {v : Int} {i : Nat} (h : ¬ (Grid.openAt xs i = true ∧ Grid.beside wd ci i = true ∧ 0 ≤ fat F i ∧ fat F i < v)) : lowTo xs wd ci F v (i + 1) = lowTo xs wd ci F v i := by
  unfold lowTo lows
  rw [List.range_succ, List.filter_append, List.filter_append]
  have : (List.filter (fun n => decide (0 ≤ fat F n) && decide (fat F n < v)) (List.filter (fun n => Grid.openAt xs n && Grid.beside wd ci n) [i])) = [] := by
    refine List.eq_nil_iff_forall_not_mem.2 fun x hx => ?_
    simp only [List.mem_filter, List.mem_singleton, Bool.and_eq_true, decide_eq_true_eq] at hx
    obtain ⟨⟨rfl, h1, h2⟩, h3, h4⟩ := hx
    exact h ⟨h1, h2, h3, h4⟩
  rw [this, List.append_nil]
theorem byte_wall7 (s : ByteArray) (n : Nat) (hn : n < s.size) : ((s[n].toNat : Int) == 35) = !(Grid.openAt s.data.toList n) := by
  rw [← byte_ne_int s n hn]
  cases h : ((s[n].toNat : Int) == 35) <;> simp [bne, h]
theorem lowTo_length (xs : List UInt8) (wd ci : Nat) (F : List Int) (v : Int) (i : Nat) : (lowTo xs wd ci F v i).length ≤ i := by
  unfold lowTo lows
  refine Nat.le_trans (List.length_filter_le _ _) (Nat.le_trans (List.length_filter_le _ _) ?_)
  rw [List.length_range]
  exact Nat.le_refl _
theorem lowTo_rising (xs : List UInt8) (wd ci : Nat) (F : List Int) (v : Int) (i : Nat) : (lowTo xs wd ci F v i).Pairwise (· < ·) := (List.pairwise_lt_range.filter _).filter _
/-- the memory that the loop holds -/
structure RdI (w0 : World) (C p : Nat) (W H : Int) (s : ByteArray) (A : Option Addr) (F : List Int) (D : List Nat) (u : Value) (w : World) : Prop where
  ref : RefAt w p W H s
  nums : Nums w .i64 A F
  row : w.ownsRow C 3 1 u D.length (numCells D)
  C1 : C ≤ w.heap.size
  C0 : w0.heap.size ≤ C
  below : Below w0.heap.size w0 w
theorem RdI.carry {w0 w w' : World} {C p : Nat} {W H : Int} {s : ByteArray} {A : Option Addr} {F : List Int} {D : List Nat} {u : Value} (h : RdI w0 C p W H s A F D u w) (hb : Below w.heap.size w w') : RdI w0 C p W H s A F D u w' :=
  ⟨h.ref.carry hb, h.nums.carry hb, own_carry7 h.row hb, Nat.le_trans h.C1 hb.size, h.C0, h.below.trans (hb.mono h.below.size)⟩
theorem RdI.drewN {w0 w : World} {C p : Nat} {W H : Int} {s : ByteArray} {A : Option Addr} {F : List Int} {D : List Nat} {u : Value} (h : RdI w0 C p W H s A F D u w) (n : Nat) : RdI w0 C p W H s A F D u (w.drewN n) := h.carry (below_drewN (Below.refl _ _) n)
set_option maxRecDepth 100000 in
set_option maxHeartbeats 4000000 in
theorem RefDown_any {w : World} {A : Option Addr} {cap : Nat} {F : List Int} (W H : Int) (s : ByteArray) (c : Int) (hr : rightM W H s = true) (hz : Nums w .i64 A F) (hfl : F.length ≤ 1000) :
    Calls Tryd.prog 19 #[.agg #[.int .i64 W, .int .i64 H, .string s], .slice A F.length cap, .int .i64 c] w (ListPost (downZ W H s F c) w) := by
  have HRT := Lib.hid hr
  obtain ⟨wd, hgt, e1, e2, ha1, ha8, hb1, hb8, hlen, hs0, hs64⟩ := right_small hr
  subst e1
  subst e2
  have HLE := Lib.hid hlen
  clear hr hb1 hb8 hlen
  obtain ⟨w1, HW1⟩ : ∃ w1, Hid (w1 = w.alloc (.cells #[.int .i64 (wd : Int), .int .i64 (hgt : Int), .string s] 23)) := ⟨_, Lib.hid rfl⟩
  obtain ⟨p, HP⟩ : ∃ p, Hid (p = w.heap.size) := ⟨_, Lib.hid rfl⟩
  have hbw : Below w.heap.size w w1 := by rw [HW1.out]; exact (Below.refl _ _).alloc (Nat.le_refl _) _
  have HR1 : Hid (RefAt w1 p wd hgt s) := Lib.hid (by rw [HW1.out, HP.out]; exact heap_alloc_new w _)
  have HB1 : Hid (Below w.heap.size w w1) := Lib.hid hbw
  have HZ1 : Hid (Nums w1 .i64 A F) := Lib.hid (hz.carry hbw)
  clear hbw hz
  obtain ⟨D, HD⟩ : ∃ D, Hid (D = downZ (wd : Int) (hgt : Int) s F c) := ⟨_, Lib.hid rfl⟩
  rw [← HD.out]
  have NIL : D = [] → ListPost D w (.returned (.slice none 0 0)) w1 := fun h => by
    subst h
    exact ⟨none, 0, rfl, Nums.none_ _ _ _, HB1.out⟩
  have HNIL := Lib.hid NIL
  clear NIL
  obtain ⟨n, HN⟩ : ∃ n, Hid (n = F.length) := ⟨_, Lib.hid rfl⟩
  rw [← HN.out]
  rw [← HN.out] at hfl
  have c0 := HR1.out.w_
  have c2 := HR1.out.s_
  rw [HW1.out, HP.out] at c0 c2
  by_cases hns : n = s.size
  · subst hns
    clear hfl
    have HDE : Hid (D = sortF F (lows F (fat F c.toNat) (nearM (wd : Int) (hgt : Int) s c))) := Lib.hid (by rw [HD.out]; unfold downZ; rw [if_pos HN.out.symm])
    by_cases hc0 : c < 0
    · go_enter Tryd.func19, Tryd.ntmps19
      go_wp2_with fail
      go_ret
      rw [← HW1.out]
      refine HNIL.out ?_
      rw [HDE.out]
      have : nearM (wd : Int) (hgt : Int) s c = [] := by unfold nearM; rw [openM_off (by omega)]; rfl
      rw [this]; rfl
    · by_cases hcn : (s.size : Int) ≤ c
      · go_enter Tryd.func19, Tryd.ntmps19
        go_wp2_with fail
        go_ret
        rw [← HW1.out]
        refine HNIL.out ?_
        rw [HDE.out]
        have : nearM (wd : Int) (hgt : Int) s c = [] := by unfold nearM; rw [openM_off (by omega)]; rfl
        rw [this]; rfl
      · obtain ⟨ci, rfl⟩ : ∃ ci : Nat, c = (ci : Int) := ⟨c.toNat, by omega⟩
        have hcs : ci < s.size := by omega
        clear hc0 hcn
        have hby := byte_wall7 s ci hcs
        obtain ⟨oc, HOC⟩ : ∃ oc, Hid (oc = Grid.openAt s.data.toList ci) := ⟨_, Lib.hid rfl⟩
        rw [← HOC.out] at hby
        obtain ⟨v, HV⟩ : ∃ v, Hid (v = fat F ci) := ⟨_, Lib.hid rfl⟩
        obtain ⟨af, hAF, hfc⟩ := HZ1.out.at_ (fat_eq (F := F) (i := ci) (by rw [← HN.out]; exact hcs))
        subst hAF
        rw [← HV.out] at hfc
        rw [HW1.out] at hfc
        cases oc with
        | false =>
          go_enter Tryd.func19, Tryd.ntmps19
          go_wp2_with fail
          go_ret
          rw [← HW1.out]
          refine HNIL.out ?_
          rw [HDE.out]
          have : nearM (wd : Int) (hgt : Int) s (ci : Int) = [] := by unfold nearM; rw [openM_on hcs, ← HOC.out]; rfl
          rw [this]; rfl
        | true =>
          by_cases hv0 : v < 0
          · go_enter Tryd.func19, Tryd.ntmps19
            go_wp2_with fail
            go_ret
            rw [← HW1.out]
            refine HNIL.out ?_
            rw [HDE.out]
            have : lows F (fat F (ci : Int).toNat) (nearM (wd : Int) (hgt : Int) s (ci : Int)) = [] := List.eq_nil_iff_forall_not_mem.2 fun x hx => by
              have h1 := (mem_lows.1 hx).2
              have h2 := HV.out
              rw [Int.toNat_natCast] at h1
              omega
            rw [this]; rfl
          · have HDL : Hid (D = sortF F (lowTo s.data.toList wd ci F v s.size)) := Lib.hid (by
              rw [HDE.out, Int.toNat_natCast, ← HV.out]
              unfold nearM
              rw [openM_on hcs, ← HOC.out, HRT.out]
              unfold lowTo Grid.nears
              rw [HLE.out, Int.toNat_natCast, Int.toNat_natCast]
              rfl)
            have HCV : Hid (fat F ci = v) := Lib.hid HV.out.symm
            clear HD HDE HV
            go_enter Tryd.func19, Tryd.ntmps19
            go_wp2_with fail
            rw [← HW1.out, ← HP.out]
            obtain ⟨C, HC⟩ : ∃ C, Hid (C = w1.heap.size) := ⟨_, Lib.hid rfl⟩
            have HST : Hid (RdI w C p wd hgt s (some af) F [] (.slice none 0 0) w1) := Lib.hid ⟨HR1.out, HZ1.out, World.ownsRow_nil _ _ _ _, by rw [HC.out]; exact Nat.le_refl _, by rw [HC.out]; exact HB1.out.size, HB1.out⟩
            have HFN : Hid (F.length = s.size) := Lib.hid HN.out.symm
            clear c0 c2 hfc hby HW1 HP HR1 HB1 HZ1 HC HNIL HN hv0
            obtain ⟨ii, hj0, hj1, hj2, hj3⟩ := info_parts Tryd.infoNum
            go_loopw [7, 8] (fun u7 u wr => ∃ i : Nat, u = .int .i64 (i : Int) ∧ i ≤ s.size ∧ RdI w C p wd hgt s (some af) F (sortF F (lowTo s.data.toList wd ci F v i)) u7 wr) (fun _ u _ => s.size - (intOf u).toNat)
            case atStart => exact ⟨0, rfl, Nat.zero_le _, HST.out⟩
            case round =>
              clear HST
              obtain ⟨i, rfl, hi, hrd⟩ := hrel
              have HRD := Lib.hid hrd
              clear hrd
              by_cases hil : i < s.size
              · have hby := byte_wall7 s i hil
                obtain ⟨oi, HOI⟩ : ∃ oi, Hid (oi = Grid.openAt s.data.toList i) := ⟨_, Lib.hid rfl⟩
                rw [← HOI.out] at hby
                obtain ⟨x, HX⟩ : ∃ x, Hid (x = fat F i) := ⟨_, Lib.hid rfl⟩
                obtain ⟨af1, h9, r0⟩ := HRD.out.nums.at_ (fat_eq (F := F) (i := i) (by rw [HFN.out]; exact hil))
                cases h9
                obtain ⟨af2, h9, r1⟩ := HRD.out.nums.at_ (fat_eq (F := F) (i := ci) (by rw [HFN.out]; exact hcs))
                cases h9
                rw [← HX.out] at r0
                rw [HCV.out] at r1
                have c0 := HRD.out.ref.w_
                have c2 := HRD.out.ref.s_
                obtain ⟨E, HE⟩ : ∃ E, Hid (E = sortF F (lowTo s.data.toList wd ci F v i)) := ⟨_, Lib.hid rfl⟩
                rw [← HE.out] at HRD
                go_wp2_with fail
                refine wp_region_held (S := fun w9 => w9.cell? ⟨p, 0, none⟩ = some (.int .i64 (wd : Int)) ∧ w9.cell? ⟨p, 2, none⟩ = some (.string s) ∧ w9.cell? (af.add i) = some (.int .i64 x) ∧ w9.cell? (af.add ci) = some (.int .i64 v)) (by kernel_rfl) ?_
                change wpAnyH _ _ _ _ _ _ _ _ wr.drew
                obtain ⟨wa, HWA⟩ : ∃ wa, Hid (wa = wr.drew) := ⟨_, Lib.hid rfl⟩
                rw [← HWA.out]
                have hS : wa.cell? ⟨p, 0, none⟩ = some (.int .i64 (wd : Int)) ∧ wa.cell? ⟨p, 2, none⟩ = some (.string s) ∧ wa.cell? (af.add i) = some (.int .i64 x) ∧ wa.cell? (af.add ci) = some (.int .i64 v) := by rw [HWA.out]; exact ⟨c0, c2, r0, r1⟩
                have HRA : Hid (RdI w C p wd hgt s (some af) F E u7 wa) := Lib.hid (by rw [HWA.out]; exact HRD.out.carry (Below.refl _ _).drew)
                clear HWA HRD c0 c2 r0 r1
                obtain ⟨bs, HBS⟩ : ∃ bs, Hid (bs = Grid.beside wd ci i) := ⟨_, Lib.hid rfl⟩
                have hbc := Lib.hid (RefBeside_any wd ci i ha1 ha8 (by omega) (by omega))
                rw [← HBS.out] at hbc
                have NO : ∀ w9, RdI w C p wd hgt s (some af) F E u7 w9 → ¬ (Grid.openAt s.data.toList i = true ∧ Grid.beside wd ci i = true ∧ 0 ≤ fat F i ∧ fat F i < v) → RdI w C p wd hgt s (some af) F (sortF F (lowTo s.data.toList wd ci F v (i + 1))) u7 w9 := fun w9 h1 h2 => by rw [lowTo_no h2, ← HE.out]; exact h1
                have HNO := Lib.hid NO
                clear NO
                cases oi with
                | false =>
                  refine takeH (i := 0) 47 (v := .pointer (some ⟨p, 2, none⟩)) rfl (by kernel_rfl) (by kernel_rfl) (by kernel_rfl) rfl (fun _ _ _ h => h) (.inl ⟨by rfl, fun _ _ => by go_simp⟩) hS ?_
                  simp only [Act.put, List.setIfInBounds_toArray, List.set_cons_zero, List.set_cons_succ]
                  refine takeH (i := 1) 48 (v := .string s) rfl (by kernel_rfl) (by kernel_rfl) (by kernel_rfl) rfl (fun _ _ _ h => h) (.inl ⟨by rfl, fun _ h => by have s1 := h.2.1; go_simp⟩) hS ?_
                  simp only [Act.put, List.setIfInBounds_toArray, List.set_cons_zero, List.set_cons_succ]
                  refine takeH (i := 2) 49 (v := .int .i64 (i : Int)) rfl (by kernel_rfl) (by kernel_rfl) (by kernel_rfl) rfl (fun _ _ _ h => h) (.inl ⟨by rfl, fun _ _ => by go_simp⟩) hS ?_
                  simp only [Act.put, List.setIfInBounds_toArray, List.set_cons_zero, List.set_cons_succ]
                  refine takeH (i := 3) 50 (v := .int .u8 ((s[i]'hil).toNat : Int)) rfl (by kernel_rfl) (by kernel_rfl) (by kernel_rfl) rfl (fun _ _ _ h => h) (.inl ⟨by rfl, fun _ _ => by go_simp⟩) hS ?_
                  simp only [Act.put, List.setIfInBounds_toArray, List.set_cons_zero, List.set_cons_succ]
                  refine takeH (i := 4) 51 (v := .bool true) rfl (by kernel_rfl) (by kernel_rfl) (by kernel_rfl) rfl (fun _ _ _ h => h) (.inl ⟨by rfl, fun _ _ => by go_simp⟩) hS ?_
                  simp only [Act.put, List.setIfInBounds_toArray, List.set_cons_zero, List.set_cons_succ]
                  refine takeH (i := 5) 52 (v := .bool true) rfl (by kernel_rfl) (by kernel_rfl) (by kernel_rfl) rfl (fun _ _ _ h => h) (.inl ⟨by rfl, fun _ _ => by go_simp⟩) hS ?_
                  simp only [Act.put, List.setIfInBounds_toArray, List.set_cons_zero, List.set_cons_succ]
                  refine takeH (i := 6) 53 (v := undef) rfl (by kernel_rfl) (by kernel_rfl) (by kernel_rfl) rfl (fun _ _ _ h => h) (.inr ⟨by rfl, rfl⟩) hS ?_
                  simp only [Act.put, List.setIfInBounds_toArray, List.set_cons_zero, List.set_cons_succ]
                  refine takeH (i := 7) 54 (v := undef) rfl (by kernel_rfl) (by kernel_rfl) (by kernel_rfl) rfl (fun _ _ _ h => h) (.inr ⟨by rfl, rfl⟩) hS ?_
                  simp only [Act.put, List.setIfInBounds_toArray, List.set_cons_zero, List.set_cons_succ]
                  refine takeH (i := 8) 55 (v := undef) rfl (by kernel_rfl) (by kernel_rfl) (by kernel_rfl) rfl (fun _ _ _ h => h) (.inr ⟨by rfl, rfl⟩) hS ?_
                  simp only [Act.put, List.setIfInBounds_toArray, List.set_cons_zero, List.set_cons_succ]
                  refine takeH (i := 9) 56 (v := undef) rfl (by kernel_rfl) (by kernel_rfl) (by kernel_rfl) rfl (fun _ _ _ h => h) (.inr ⟨by rfl, rfl⟩) hS ?_
                  simp only [Act.put, List.setIfInBounds_toArray, List.set_cons_zero, List.set_cons_succ]
                  refine takeH (i := 10) 57 (v := undef) rfl (by kernel_rfl) (by kernel_rfl) (by kernel_rfl) rfl (fun _ _ _ h => h) (.inr ⟨by rfl, rfl⟩) hS ?_
                  simp only [Act.put, List.setIfInBounds_toArray, List.set_cons_zero, List.set_cons_succ]
                  refine takeH (i := 11) 58 (v := undef) rfl (by kernel_rfl) (by kernel_rfl) (by kernel_rfl) rfl (fun _ _ _ h => h) (.inr ⟨by rfl, rfl⟩) hS ?_
                  simp only [Act.put, List.setIfInBounds_toArray, List.set_cons_zero, List.set_cons_succ]
                  refine takeH (i := 12) 59 (v := .bool true) rfl (by kernel_rfl) (by kernel_rfl) (by kernel_rfl) rfl (fun _ _ _ h => h) (.inl ⟨by rfl, fun _ _ => by go_simp⟩) hS ?_
                  simp only [Act.put, List.setIfInBounds_toArray, List.set_cons_zero, List.set_cons_succ]
                  refine takeH (i := 13) 60 (v := .bool true) rfl (by kernel_rfl) (by kernel_rfl) (by kernel_rfl) rfl (fun _ _ _ h => h) (.inl ⟨by rfl, fun _ _ => by go_simp⟩) hS ?_
                  simp only [Act.put, List.setIfInBounds_toArray, List.set_cons_zero, List.set_cons_succ]
                  refine takeH (i := 14) 61 (v := undef) rfl (by kernel_rfl) (by kernel_rfl) (by kernel_rfl) rfl (fun _ _ _ h => h) (.inr ⟨by rfl, rfl⟩) hS ?_
                  simp only [Act.put, List.setIfInBounds_toArray, List.set_cons_zero, List.set_cons_succ]
                  refine takeH (i := 15) 62 (v := undef) rfl (by kernel_rfl) (by kernel_rfl) (by kernel_rfl) rfl (fun _ _ _ h => h) (.inr ⟨by rfl, rfl⟩) hS ?_
                  simp only [Act.put, List.setIfInBounds_toArray, List.set_cons_zero, List.set_cons_succ]
                  refine takeH (i := 16) 63 (v := undef) rfl (by kernel_rfl) (by kernel_rfl) (by kernel_rfl) rfl (fun _ _ _ h => h) (.inr ⟨by rfl, rfl⟩) hS ?_
                  simp only [Act.put, List.setIfInBounds_toArray, List.set_cons_zero, List.set_cons_succ]
                  refine takeH (i := 17) 64 (v := undef) rfl (by kernel_rfl) (by kernel_rfl) (by kernel_rfl) rfl (fun _ _ _ h => h) (.inr ⟨by rfl, rfl⟩) hS ?_
                  simp only [Act.put, List.setIfInBounds_toArray, List.set_cons_zero, List.set_cons_succ]
                  refine takeH (i := 18) 65 (v := undef) rfl (by kernel_rfl) (by kernel_rfl) (by kernel_rfl) rfl (fun _ _ _ h => h) (.inr ⟨by rfl, rfl⟩) hS ?_
                  simp only [Act.put, List.setIfInBounds_toArray, List.set_cons_zero, List.set_cons_succ]
                  refine takeH (i := 19) 66 (v := .bool true) rfl (by kernel_rfl) (by kernel_rfl) (by kernel_rfl) rfl (fun _ _ _ h => h) (.inl ⟨by rfl, fun _ _ => by go_simp⟩) hS ?_
                  simp only [Act.put, List.setIfInBounds_toArray, List.set_cons_zero, List.set_cons_succ]
                  refine takeH (i := 20) 67 (v := .bool true) rfl (by kernel_rfl) (by kernel_rfl) (by kernel_rfl) rfl (fun _ _ _ h => h) (.inl ⟨by rfl, fun _ _ => by go_simp⟩) hS ?_
                  simp only [Act.put, List.setIfInBounds_toArray, List.set_cons_zero, List.set_cons_succ]
                  refine takeH (i := 21) 68 (v := undef) rfl (by kernel_rfl) (by kernel_rfl) (by kernel_rfl) rfl (fun _ _ _ h => h) (.inr ⟨by rfl, rfl⟩) hS ?_
                  simp only [Act.put, List.setIfInBounds_toArray, List.set_cons_zero, List.set_cons_succ]
                  refine takeH (i := 22) 69 (v := undef) rfl (by kernel_rfl) (by kernel_rfl) (by kernel_rfl) rfl (fun _ _ _ h => h) (.inr ⟨by rfl, rfl⟩) hS ?_
                  simp only [Act.put, List.setIfInBounds_toArray, List.set_cons_zero, List.set_cons_succ]
                  refine takeH (i := 23) 70 (v := undef) rfl (by kernel_rfl) (by kernel_rfl) (by kernel_rfl) rfl (fun _ _ _ h => h) (.inr ⟨by rfl, rfl⟩) hS ?_
                  simp only [Act.put, List.setIfInBounds_toArray, List.set_cons_zero, List.set_cons_succ]
                  refine takeH (i := 24) 71 (v := undef) rfl (by kernel_rfl) (by kernel_rfl) (by kernel_rfl) rfl (fun _ _ _ h => h) (.inr ⟨by rfl, rfl⟩) hS ?_
                  simp only [Act.put, List.setIfInBounds_toArray, List.set_cons_zero, List.set_cons_succ]
                  refine takeH (i := 25) 72 (v := undef) rfl (by kernel_rfl) (by kernel_rfl) (by kernel_rfl) rfl (fun _ _ _ h => h) (.inr ⟨by rfl, rfl⟩) hS ?_
                  simp only [Act.put, List.setIfInBounds_toArray, List.set_cons_zero, List.set_cons_succ]
                  refine takeH (i := 26) 73 (v := undef) rfl (by kernel_rfl) (by kernel_rfl) (by kernel_rfl) rfl (fun _ _ _ h => h) (.inr ⟨by rfl, rfl⟩) hS ?_
                  simp only [Act.put, List.setIfInBounds_toArray, List.set_cons_zero, List.set_cons_succ]
                  refine takeH (i := 27) 74 (v := undef) rfl (by kernel_rfl) (by kernel_rfl) (by kernel_rfl) rfl (fun _ _ _ h => h) (.inr ⟨by rfl, rfl⟩) hS ?_
                  simp only [Act.put, List.setIfInBounds_toArray, List.set_cons_zero, List.set_cons_succ]
                  refine takeH (i := 28) 75 (v := undef) rfl (by kernel_rfl) (by kernel_rfl) (by kernel_rfl) rfl (fun _ _ _ h => h) (.inr ⟨by rfl, rfl⟩) hS ?_
                  simp only [Act.put, List.setIfInBounds_toArray, List.set_cons_zero, List.set_cons_succ]
                  refine takeH (i := 29) 76 (v := undef) rfl (by kernel_rfl) (by kernel_rfl) (by kernel_rfl) rfl (fun _ _ _ h => h) (.inr ⟨by rfl, rfl⟩) hS ?_
                  simp only [Act.put, List.setIfInBounds_toArray, List.set_cons_zero, List.set_cons_succ]
                  refine takeH (i := 30) 77 (v := .bool true) rfl (by kernel_rfl) (by kernel_rfl) (by kernel_rfl) rfl (fun _ _ _ h => h) (.inl ⟨by rfl, fun _ _ => by go_simp⟩) hS ?_
                  simp only [Act.put, List.setIfInBounds_toArray, List.set_cons_zero, List.set_cons_succ]
                  refine wpAnyH_done (by kernel_rfl) ?_ _
                  clear hS hby
                  go_wp2_with fail
                  go_roundw
                  case rel => exact ⟨i + 1, by go_num, hil, HNO.out _ HRA.out (fun h => by rw [← HOI.out] at h; cases h.1)⟩
                  case measure => simp [intOf]; omega
                | true =>
                  cases bs with
                  | false =>
                    refine takeH (i := 0) 47 (v := .pointer (some ⟨p, 2, none⟩)) rfl (by kernel_rfl) (by kernel_rfl) (by kernel_rfl) rfl (fun _ _ _ h => h) (.inl ⟨by rfl, fun _ _ => by go_simp⟩) hS ?_
                    simp only [Act.put, List.setIfInBounds_toArray, List.set_cons_zero, List.set_cons_succ]
                    refine takeH (i := 1) 48 (v := .string s) rfl (by kernel_rfl) (by kernel_rfl) (by kernel_rfl) rfl (fun _ _ _ h => h) (.inl ⟨by rfl, fun _ h => by have s1 := h.2.1; go_simp⟩) hS ?_
                    simp only [Act.put, List.setIfInBounds_toArray, List.set_cons_zero, List.set_cons_succ]
                    refine takeH (i := 2) 49 (v := .int .i64 (i : Int)) rfl (by kernel_rfl) (by kernel_rfl) (by kernel_rfl) rfl (fun _ _ _ h => h) (.inl ⟨by rfl, fun _ _ => by go_simp⟩) hS ?_
                    simp only [Act.put, List.setIfInBounds_toArray, List.set_cons_zero, List.set_cons_succ]
                    refine takeH (i := 3) 50 (v := .int .u8 ((s[i]'hil).toNat : Int)) rfl (by kernel_rfl) (by kernel_rfl) (by kernel_rfl) rfl (fun _ _ _ h => h) (.inl ⟨by rfl, fun _ _ => by go_simp⟩) hS ?_
                    simp only [Act.put, List.setIfInBounds_toArray, List.set_cons_zero, List.set_cons_succ]
                    refine takeH (i := 4) 51 (v := .bool false) rfl (by kernel_rfl) (by kernel_rfl) (by kernel_rfl) rfl (fun _ _ _ h => h) (.inl ⟨by rfl, fun _ _ => by go_simp⟩) hS ?_
                    simp only [Act.put, List.setIfInBounds_toArray, List.set_cons_zero, List.set_cons_succ]
                    refine takeH (i := 5) 52 (v := .bool false) rfl (by kernel_rfl) (by kernel_rfl) (by kernel_rfl) rfl (fun _ _ _ h => h) (.inl ⟨by rfl, fun _ _ => by go_simp⟩) hS ?_
                    simp only [Act.put, List.setIfInBounds_toArray, List.set_cons_zero, List.set_cons_succ]
                    refine takeH (i := 6) 53 (v := .pointer (some ⟨p, 0, none⟩)) rfl (by kernel_rfl) (by kernel_rfl) (by kernel_rfl) rfl (fun _ _ _ h => h) (.inl ⟨by rfl, fun _ _ => by go_simp⟩) hS ?_
                    simp only [Act.put, List.setIfInBounds_toArray, List.set_cons_zero, List.set_cons_succ]
                    refine takeH (i := 7) 54 (v := .int .i64 (wd : Int)) rfl (by kernel_rfl) (by kernel_rfl) (by kernel_rfl) rfl (fun _ _ _ h => h) (.inl ⟨by rfl, fun _ h => by have s0 := h.1; go_simp⟩) hS ?_
                    simp only [Act.put, List.setIfInBounds_toArray, List.set_cons_zero, List.set_cons_succ]
                    refine takeH (i := 8) 55 (v := .int .i64 (ci : Int)) rfl (by kernel_rfl) (by kernel_rfl) (by kernel_rfl) rfl (fun _ _ _ h => h) (.inl ⟨by rfl, fun _ _ => by go_simp⟩) hS ?_
                    simp only [Act.put, List.setIfInBounds_toArray, List.set_cons_zero, List.set_cons_succ]
                    refine takeH (i := 9) 56 (v := .int .i64 (i : Int)) rfl (by kernel_rfl) (by kernel_rfl) (by kernel_rfl) rfl (fun _ _ _ h => h) (.inl ⟨by rfl, fun _ _ => by go_simp⟩) hS ?_
                    simp only [Act.put, List.setIfInBounds_toArray, List.set_cons_zero, List.set_cons_succ]
                    refine oneH (i := 10) (oi := ⟨some 57, _, _, _, _, _⟩) rfl (by kernel_rfl) (fun K hK => ?_)
                    rw [if_pos (by rfl)]
                    go_simp
                    refine (hbc.out wa).mono ?_
                    rintro e wb ⟨rfl, hbb⟩
                    have HRb : Hid (RdI w C p wd hgt s (some af) F E u7 wb) := Lib.hid (HRA.out.carry hbb)
                    have hS2 : wb.cell? ⟨p, 0, none⟩ = some (.int .i64 (wd : Int)) ∧ wb.cell? ⟨p, 2, none⟩ = some (.string s) ∧ wb.cell? (af.add i) = some (.int .i64 x) ∧ wb.cell? (af.add ci) = some (.int .i64 v) := ⟨(hbb.cell (below_block hS.1)).trans hS.1, (hbb.cell (below_block hS.2.1)).trans hS.2.1, (hbb.cell (below_block hS.2.2.1)).trans hS.2.2.1, (hbb.cell (below_block hS.2.2.2)).trans hS.2.2.2⟩
                    refine hK.out _ _ hS2 ?_
                    clear hK K hS HRA hbb hbc
                    have hS := hS2
                    clear hS2
                    refine takeH (i := 11) 58 (v := .bool true) rfl (by kernel_rfl) (by kernel_rfl) (by kernel_rfl) rfl (fun _ _ _ h => h) (.inl ⟨by rfl, fun _ _ => by go_simp⟩) hS ?_
                    simp only [Act.put, List.setIfInBounds_toArray, List.set_cons_zero, List.set_cons_succ]
                    refine takeH (i := 12) 59 (v := .bool true) rfl (by kernel_rfl) (by kernel_rfl) (by kernel_rfl) rfl (fun _ _ _ h => h) (.inl ⟨by rfl, fun _ _ => by go_simp⟩) hS ?_
                    simp only [Act.put, List.setIfInBounds_toArray, List.set_cons_zero, List.set_cons_succ]
                    refine takeH (i := 13) 60 (v := .bool true) rfl (by kernel_rfl) (by kernel_rfl) (by kernel_rfl) rfl (fun _ _ _ h => h) (.inl ⟨by rfl, fun _ _ => by go_simp⟩) hS ?_
                    simp only [Act.put, List.setIfInBounds_toArray, List.set_cons_zero, List.set_cons_succ]
                    refine takeH (i := 14) 61 (v := undef) rfl (by kernel_rfl) (by kernel_rfl) (by kernel_rfl) rfl (fun _ _ _ h => h) (.inr ⟨by rfl, rfl⟩) hS ?_
                    simp only [Act.put, List.setIfInBounds_toArray, List.set_cons_zero, List.set_cons_succ]
                    refine takeH (i := 15) 62 (v := undef) rfl (by kernel_rfl) (by kernel_rfl) (by kernel_rfl) rfl (fun _ _ _ h => h) (.inr ⟨by rfl, rfl⟩) hS ?_
                    simp only [Act.put, List.setIfInBounds_toArray, List.set_cons_zero, List.set_cons_succ]
                    refine takeH (i := 16) 63 (v := undef) rfl (by kernel_rfl) (by kernel_rfl) (by kernel_rfl) rfl (fun _ _ _ h => h) (.inr ⟨by rfl, rfl⟩) hS ?_
                    simp only [Act.put, List.setIfInBounds_toArray, List.set_cons_zero, List.set_cons_succ]
                    refine takeH (i := 17) 64 (v := undef) rfl (by kernel_rfl) (by kernel_rfl) (by kernel_rfl) rfl (fun _ _ _ h => h) (.inr ⟨by rfl, rfl⟩) hS ?_
                    simp only [Act.put, List.setIfInBounds_toArray, List.set_cons_zero, List.set_cons_succ]
                    refine takeH (i := 18) 65 (v := undef) rfl (by kernel_rfl) (by kernel_rfl) (by kernel_rfl) rfl (fun _ _ _ h => h) (.inr ⟨by rfl, rfl⟩) hS ?_
                    simp only [Act.put, List.setIfInBounds_toArray, List.set_cons_zero, List.set_cons_succ]
                    refine takeH (i := 19) 66 (v := .bool true) rfl (by kernel_rfl) (by kernel_rfl) (by kernel_rfl) rfl (fun _ _ _ h => h) (.inl ⟨by rfl, fun _ _ => by go_simp⟩) hS ?_
                    simp only [Act.put, List.setIfInBounds_toArray, List.set_cons_zero, List.set_cons_succ]
                    refine takeH (i := 20) 67 (v := .bool true) rfl (by kernel_rfl) (by kernel_rfl) (by kernel_rfl) rfl (fun _ _ _ h => h) (.inl ⟨by rfl, fun _ _ => by go_simp⟩) hS ?_
                    simp only [Act.put, List.setIfInBounds_toArray, List.set_cons_zero, List.set_cons_succ]
                    refine takeH (i := 21) 68 (v := undef) rfl (by kernel_rfl) (by kernel_rfl) (by kernel_rfl) rfl (fun _ _ _ h => h) (.inr ⟨by rfl, rfl⟩) hS ?_
                    simp only [Act.put, List.setIfInBounds_toArray, List.set_cons_zero, List.set_cons_succ]
                    refine takeH (i := 22) 69 (v := undef) rfl (by kernel_rfl) (by kernel_rfl) (by kernel_rfl) rfl (fun _ _ _ h => h) (.inr ⟨by rfl, rfl⟩) hS ?_
                    simp only [Act.put, List.setIfInBounds_toArray, List.set_cons_zero, List.set_cons_succ]
                    refine takeH (i := 23) 70 (v := undef) rfl (by kernel_rfl) (by kernel_rfl) (by kernel_rfl) rfl (fun _ _ _ h => h) (.inr ⟨by rfl, rfl⟩) hS ?_
                    simp only [Act.put, List.setIfInBounds_toArray, List.set_cons_zero, List.set_cons_succ]
                    refine takeH (i := 24) 71 (v := undef) rfl (by kernel_rfl) (by kernel_rfl) (by kernel_rfl) rfl (fun _ _ _ h => h) (.inr ⟨by rfl, rfl⟩) hS ?_
                    simp only [Act.put, List.setIfInBounds_toArray, List.set_cons_zero, List.set_cons_succ]
                    refine takeH (i := 25) 72 (v := undef) rfl (by kernel_rfl) (by kernel_rfl) (by kernel_rfl) rfl (fun _ _ _ h => h) (.inr ⟨by rfl, rfl⟩) hS ?_
                    simp only [Act.put, List.setIfInBounds_toArray, List.set_cons_zero, List.set_cons_succ]
                    refine takeH (i := 26) 73 (v := undef) rfl (by kernel_rfl) (by kernel_rfl) (by kernel_rfl) rfl (fun _ _ _ h => h) (.inr ⟨by rfl, rfl⟩) hS ?_
                    simp only [Act.put, List.setIfInBounds_toArray, List.set_cons_zero, List.set_cons_succ]
                    refine takeH (i := 27) 74 (v := undef) rfl (by kernel_rfl) (by kernel_rfl) (by kernel_rfl) rfl (fun _ _ _ h => h) (.inr ⟨by rfl, rfl⟩) hS ?_
                    simp only [Act.put, List.setIfInBounds_toArray, List.set_cons_zero, List.set_cons_succ]
                    refine takeH (i := 28) 75 (v := undef) rfl (by kernel_rfl) (by kernel_rfl) (by kernel_rfl) rfl (fun _ _ _ h => h) (.inr ⟨by rfl, rfl⟩) hS ?_
                    simp only [Act.put, List.setIfInBounds_toArray, List.set_cons_zero, List.set_cons_succ]
                    refine takeH (i := 29) 76 (v := undef) rfl (by kernel_rfl) (by kernel_rfl) (by kernel_rfl) rfl (fun _ _ _ h => h) (.inr ⟨by rfl, rfl⟩) hS ?_
                    simp only [Act.put, List.setIfInBounds_toArray, List.set_cons_zero, List.set_cons_succ]
                    refine takeH (i := 30) 77 (v := .bool true) rfl (by kernel_rfl) (by kernel_rfl) (by kernel_rfl) rfl (fun _ _ _ h => h) (.inl ⟨by rfl, fun _ _ => by go_simp⟩) hS ?_
                    simp only [Act.put, List.setIfInBounds_toArray, List.set_cons_zero, List.set_cons_succ]
                    refine wpAnyH_done (by kernel_rfl) ?_ _
                    clear hS hby
                    go_wp2_with fail
                    go_roundw
                    case rel => exact ⟨i + 1, by go_num, hil, HNO.out _ HRb.out (fun h => by rw [← HBS.out] at h; cases h.2.1)⟩
                    case measure => simp [intOf]; omega
                  | true =>
                    by_cases hx0 : x < 0
                    · refine takeH (i := 0) 47 (v := .pointer (some ⟨p, 2, none⟩)) rfl (by kernel_rfl) (by kernel_rfl) (by kernel_rfl) rfl (fun _ _ _ h => h) (.inl ⟨by rfl, fun _ _ => by go_simp⟩) hS ?_
                      simp only [Act.put, List.setIfInBounds_toArray, List.set_cons_zero, List.set_cons_succ]
                      refine takeH (i := 1) 48 (v := .string s) rfl (by kernel_rfl) (by kernel_rfl) (by kernel_rfl) rfl (fun _ _ _ h => h) (.inl ⟨by rfl, fun _ h => by have s1 := h.2.1; go_simp⟩) hS ?_
                      simp only [Act.put, List.setIfInBounds_toArray, List.set_cons_zero, List.set_cons_succ]
                      refine takeH (i := 2) 49 (v := .int .i64 (i : Int)) rfl (by kernel_rfl) (by kernel_rfl) (by kernel_rfl) rfl (fun _ _ _ h => h) (.inl ⟨by rfl, fun _ _ => by go_simp⟩) hS ?_
                      simp only [Act.put, List.setIfInBounds_toArray, List.set_cons_zero, List.set_cons_succ]
                      refine takeH (i := 3) 50 (v := .int .u8 ((s[i]'hil).toNat : Int)) rfl (by kernel_rfl) (by kernel_rfl) (by kernel_rfl) rfl (fun _ _ _ h => h) (.inl ⟨by rfl, fun _ _ => by go_simp⟩) hS ?_
                      simp only [Act.put, List.setIfInBounds_toArray, List.set_cons_zero, List.set_cons_succ]
                      refine takeH (i := 4) 51 (v := .bool false) rfl (by kernel_rfl) (by kernel_rfl) (by kernel_rfl) rfl (fun _ _ _ h => h) (.inl ⟨by rfl, fun _ _ => by go_simp⟩) hS ?_
                      simp only [Act.put, List.setIfInBounds_toArray, List.set_cons_zero, List.set_cons_succ]
                      refine takeH (i := 5) 52 (v := .bool false) rfl (by kernel_rfl) (by kernel_rfl) (by kernel_rfl) rfl (fun _ _ _ h => h) (.inl ⟨by rfl, fun _ _ => by go_simp⟩) hS ?_
                      simp only [Act.put, List.setIfInBounds_toArray, List.set_cons_zero, List.set_cons_succ]
                      refine takeH (i := 6) 53 (v := .pointer (some ⟨p, 0, none⟩)) rfl (by kernel_rfl) (by kernel_rfl) (by kernel_rfl) rfl (fun _ _ _ h => h) (.inl ⟨by rfl, fun _ _ => by go_simp⟩) hS ?_
                      simp only [Act.put, List.setIfInBounds_toArray, List.set_cons_zero, List.set_cons_succ]
                      refine takeH (i := 7) 54 (v := .int .i64 (wd : Int)) rfl (by kernel_rfl) (by kernel_rfl) (by kernel_rfl) rfl (fun _ _ _ h => h) (.inl ⟨by rfl, fun _ h => by have s0 := h.1; go_simp⟩) hS ?_
                      simp only [Act.put, List.setIfInBounds_toArray, List.set_cons_zero, List.set_cons_succ]
                      refine takeH (i := 8) 55 (v := .int .i64 (ci : Int)) rfl (by kernel_rfl) (by kernel_rfl) (by kernel_rfl) rfl (fun _ _ _ h => h) (.inl ⟨by rfl, fun _ _ => by go_simp⟩) hS ?_
                      simp only [Act.put, List.setIfInBounds_toArray, List.set_cons_zero, List.set_cons_succ]
                      refine takeH (i := 9) 56 (v := .int .i64 (i : Int)) rfl (by kernel_rfl) (by kernel_rfl) (by kernel_rfl) rfl (fun _ _ _ h => h) (.inl ⟨by rfl, fun _ _ => by go_simp⟩) hS ?_
                      simp only [Act.put, List.setIfInBounds_toArray, List.set_cons_zero, List.set_cons_succ]
                      refine oneH (i := 10) (oi := ⟨some 57, _, _, _, _, _⟩) rfl (by kernel_rfl) (fun K hK => ?_)
                      rw [if_pos (by rfl)]
                      go_simp
                      refine (hbc.out wa).mono ?_
                      rintro e wb ⟨rfl, hbb⟩
                      have HRb : Hid (RdI w C p wd hgt s (some af) F E u7 wb) := Lib.hid (HRA.out.carry hbb)
                      have hS2 : wb.cell? ⟨p, 0, none⟩ = some (.int .i64 (wd : Int)) ∧ wb.cell? ⟨p, 2, none⟩ = some (.string s) ∧ wb.cell? (af.add i) = some (.int .i64 x) ∧ wb.cell? (af.add ci) = some (.int .i64 v) := ⟨(hbb.cell (below_block hS.1)).trans hS.1, (hbb.cell (below_block hS.2.1)).trans hS.2.1, (hbb.cell (below_block hS.2.2.1)).trans hS.2.2.1, (hbb.cell (below_block hS.2.2.2)).trans hS.2.2.2⟩
                      refine hK.out _ _ hS2 ?_
                      clear hK K hS HRA hbb hbc
                      have hS := hS2
                      clear hS2
                      refine takeH (i := 11) 58 (v := .bool false) rfl (by kernel_rfl) (by kernel_rfl) (by kernel_rfl) rfl (fun _ _ _ h => h) (.inl ⟨by rfl, fun _ _ => by go_simp⟩) hS ?_
                      simp only [Act.put, List.setIfInBounds_toArray, List.set_cons_zero, List.set_cons_succ]
                      refine takeH (i := 12) 59 (v := .bool false) rfl (by kernel_rfl) (by kernel_rfl) (by kernel_rfl) rfl (fun _ _ _ h => h) (.inl ⟨by rfl, fun _ _ => by go_simp⟩) hS ?_
                      simp only [Act.put, List.setIfInBounds_toArray, List.set_cons_zero, List.set_cons_succ]
                      refine takeH (i := 13) 60 (v := .bool false) rfl (by kernel_rfl) (by kernel_rfl) (by kernel_rfl) rfl (fun _ _ _ h => h) (.inl ⟨by rfl, fun _ _ => by go_simp⟩) hS ?_
                      simp only [Act.put, List.setIfInBounds_toArray, List.set_cons_zero, List.set_cons_succ]
                      refine takeH (i := 14) 61 (v := .slice (some af) s.size cap) rfl (by kernel_rfl) (by kernel_rfl) (by kernel_rfl) rfl (fun _ _ _ h => h) (.inl ⟨by rfl, fun _ _ => by go_simp⟩) hS ?_
                      simp only [Act.put, List.setIfInBounds_toArray, List.set_cons_zero, List.set_cons_succ]
                      refine takeH (i := 15) 62 (v := .int .i64 (i : Int)) rfl (by kernel_rfl) (by kernel_rfl) (by kernel_rfl) rfl (fun _ _ _ h => h) (.inl ⟨by rfl, fun _ _ => by go_simp⟩) hS ?_
                      simp only [Act.put, List.setIfInBounds_toArray, List.set_cons_zero, List.set_cons_succ]
                      refine takeH (i := 16) 63 (v := .pointer (some (af.add i))) rfl (by kernel_rfl) (by kernel_rfl) (by kernel_rfl) rfl (fun _ _ _ h => h) (.inl ⟨by rfl, fun _ _ => by go_simp⟩) hS ?_
                      simp only [Act.put, List.setIfInBounds_toArray, List.set_cons_zero, List.set_cons_succ]
                      refine takeH (i := 17) 64 (v := .int .i64 x) rfl (by kernel_rfl) (by kernel_rfl) (by kernel_rfl) rfl (fun _ _ _ h => h) (.inl ⟨by rfl, fun _ h => by have s2 := h.2.2.1; go_simp⟩) hS ?_
                      simp only [Act.put, List.setIfInBounds_toArray, List.set_cons_zero, List.set_cons_succ]
                      refine takeH (i := 18) 65 (v := .bool true) rfl (by kernel_rfl) (by kernel_rfl) (by kernel_rfl) rfl (fun _ _ _ h => h) (.inl ⟨by rfl, fun _ _ => by go_simp⟩) hS ?_
                      simp only [Act.put, List.setIfInBounds_toArray, List.set_cons_zero, List.set_cons_succ]
                      refine takeH (i := 19) 66 (v := .bool true) rfl (by kernel_rfl) (by kernel_rfl) (by kernel_rfl) rfl (fun _ _ _ h => h) (.inl ⟨by rfl, fun _ _ => by go_simp⟩) hS ?_
                      simp only [Act.put, List.setIfInBounds_toArray, List.set_cons_zero, List.set_cons_succ]
                      refine takeH (i := 20) 67 (v := .bool true) rfl (by kernel_rfl) (by kernel_rfl) (by kernel_rfl) rfl (fun _ _ _ h => h) (.inl ⟨by rfl, fun _ _ => by go_simp⟩) hS ?_
                      simp only [Act.put, List.setIfInBounds_toArray, List.set_cons_zero, List.set_cons_succ]
                      refine takeH (i := 21) 68 (v := undef) rfl (by kernel_rfl) (by kernel_rfl) (by kernel_rfl) rfl (fun _ _ _ h => h) (.inr ⟨by rfl, rfl⟩) hS ?_
                      simp only [Act.put, List.setIfInBounds_toArray, List.set_cons_zero, List.set_cons_succ]
                      refine takeH (i := 22) 69 (v := undef) rfl (by kernel_rfl) (by kernel_rfl) (by kernel_rfl) rfl (fun _ _ _ h => h) (.inr ⟨by rfl, rfl⟩) hS ?_
                      simp only [Act.put, List.setIfInBounds_toArray, List.set_cons_zero, List.set_cons_succ]
                      refine takeH (i := 23) 70 (v := undef) rfl (by kernel_rfl) (by kernel_rfl) (by kernel_rfl) rfl (fun _ _ _ h => h) (.inr ⟨by rfl, rfl⟩) hS ?_
                      simp only [Act.put, List.setIfInBounds_toArray, List.set_cons_zero, List.set_cons_succ]
                      refine takeH (i := 24) 71 (v := undef) rfl (by kernel_rfl) (by kernel_rfl) (by kernel_rfl) rfl (fun _ _ _ h => h) (.inr ⟨by rfl, rfl⟩) hS ?_
                      simp only [Act.put, List.setIfInBounds_toArray, List.set_cons_zero, List.set_cons_succ]
                      refine takeH (i := 25) 72 (v := undef) rfl (by kernel_rfl) (by kernel_rfl) (by kernel_rfl) rfl (fun _ _ _ h => h) (.inr ⟨by rfl, rfl⟩) hS ?_
                      simp only [Act.put, List.setIfInBounds_toArray, List.set_cons_zero, List.set_cons_succ]
                      refine takeH (i := 26) 73 (v := undef) rfl (by kernel_rfl) (by kernel_rfl) (by kernel_rfl) rfl (fun _ _ _ h => h) (.inr ⟨by rfl, rfl⟩) hS ?_
                      simp only [Act.put, List.setIfInBounds_toArray, List.set_cons_zero, List.set_cons_succ]
                      refine takeH (i := 27) 74 (v := undef) rfl (by kernel_rfl) (by kernel_rfl) (by kernel_rfl) rfl (fun _ _ _ h => h) (.inr ⟨by rfl, rfl⟩) hS ?_
                      simp only [Act.put, List.setIfInBounds_toArray, List.set_cons_zero, List.set_cons_succ]
                      refine takeH (i := 28) 75 (v := undef) rfl (by kernel_rfl) (by kernel_rfl) (by kernel_rfl) rfl (fun _ _ _ h => h) (.inr ⟨by rfl, rfl⟩) hS ?_
                      simp only [Act.put, List.setIfInBounds_toArray, List.set_cons_zero, List.set_cons_succ]
                      refine takeH (i := 29) 76 (v := undef) rfl (by kernel_rfl) (by kernel_rfl) (by kernel_rfl) rfl (fun _ _ _ h => h) (.inr ⟨by rfl, rfl⟩) hS ?_
                      simp only [Act.put, List.setIfInBounds_toArray, List.set_cons_zero, List.set_cons_succ]
                      refine takeH (i := 30) 77 (v := .bool true) rfl (by kernel_rfl) (by kernel_rfl) (by kernel_rfl) rfl (fun _ _ _ h => h) (.inl ⟨by rfl, fun _ _ => by go_simp⟩) hS ?_
                      simp only [Act.put, List.setIfInBounds_toArray, List.set_cons_zero, List.set_cons_succ]
                      refine wpAnyH_done (by kernel_rfl) ?_ _
                      clear hS hby
                      go_wp2_with fail
                      go_roundw
                      case rel => exact ⟨i + 1, by go_num, hil, HNO.out _ HRb.out (fun h => by have h1 := h.2.2.1; rw [← HX.out] at h1; omega)⟩
                      case measure => simp [intOf]; omega
                    · by_cases hxv : v ≤ x
                      · refine takeH (i := 0) 47 (v := .pointer (some ⟨p, 2, none⟩)) rfl (by kernel_rfl) (by kernel_rfl) (by kernel_rfl) rfl (fun _ _ _ h => h) (.inl ⟨by rfl, fun _ _ => by go_simp⟩) hS ?_
                        simp only [Act.put, List.setIfInBounds_toArray, List.set_cons_zero, List.set_cons_succ]
                        refine takeH (i := 1) 48 (v := .string s) rfl (by kernel_rfl) (by kernel_rfl) (by kernel_rfl) rfl (fun _ _ _ h => h) (.inl ⟨by rfl, fun _ h => by have s1 := h.2.1; go_simp⟩) hS ?_
                        simp only [Act.put, List.setIfInBounds_toArray, List.set_cons_zero, List.set_cons_succ]
                        refine takeH (i := 2) 49 (v := .int .i64 (i : Int)) rfl (by kernel_rfl) (by kernel_rfl) (by kernel_rfl) rfl (fun _ _ _ h => h) (.inl ⟨by rfl, fun _ _ => by go_simp⟩) hS ?_
                        simp only [Act.put, List.setIfInBounds_toArray, List.set_cons_zero, List.set_cons_succ]
                        refine takeH (i := 3) 50 (v := .int .u8 ((s[i]'hil).toNat : Int)) rfl (by kernel_rfl) (by kernel_rfl) (by kernel_rfl) rfl (fun _ _ _ h => h) (.inl ⟨by rfl, fun _ _ => by go_simp⟩) hS ?_
                        simp only [Act.put, List.setIfInBounds_toArray, List.set_cons_zero, List.set_cons_succ]
                        refine takeH (i := 4) 51 (v := .bool false) rfl (by kernel_rfl) (by kernel_rfl) (by kernel_rfl) rfl (fun _ _ _ h => h) (.inl ⟨by rfl, fun _ _ => by go_simp⟩) hS ?_
                        simp only [Act.put, List.setIfInBounds_toArray, List.set_cons_zero, List.set_cons_succ]
                        refine takeH (i := 5) 52 (v := .bool false) rfl (by kernel_rfl) (by kernel_rfl) (by kernel_rfl) rfl (fun _ _ _ h => h) (.inl ⟨by rfl, fun _ _ => by go_simp⟩) hS ?_
                        simp only [Act.put, List.setIfInBounds_toArray, List.set_cons_zero, List.set_cons_succ]
                        refine takeH (i := 6) 53 (v := .pointer (some ⟨p, 0, none⟩)) rfl (by kernel_rfl) (by kernel_rfl) (by kernel_rfl) rfl (fun _ _ _ h => h) (.inl ⟨by rfl, fun _ _ => by go_simp⟩) hS ?_
                        simp only [Act.put, List.setIfInBounds_toArray, List.set_cons_zero, List.set_cons_succ]
                        refine takeH (i := 7) 54 (v := .int .i64 (wd : Int)) rfl (by kernel_rfl) (by kernel_rfl) (by kernel_rfl) rfl (fun _ _ _ h => h) (.inl ⟨by rfl, fun _ h => by have s0 := h.1; go_simp⟩) hS ?_
                        simp only [Act.put, List.setIfInBounds_toArray, List.set_cons_zero, List.set_cons_succ]
                        refine takeH (i := 8) 55 (v := .int .i64 (ci : Int)) rfl (by kernel_rfl) (by kernel_rfl) (by kernel_rfl) rfl (fun _ _ _ h => h) (.inl ⟨by rfl, fun _ _ => by go_simp⟩) hS ?_
                        simp only [Act.put, List.setIfInBounds_toArray, List.set_cons_zero, List.set_cons_succ]
                        refine takeH (i := 9) 56 (v := .int .i64 (i : Int)) rfl (by kernel_rfl) (by kernel_rfl) (by kernel_rfl) rfl (fun _ _ _ h => h) (.inl ⟨by rfl, fun _ _ => by go_simp⟩) hS ?_
                        simp only [Act.put, List.setIfInBounds_toArray, List.set_cons_zero, List.set_cons_succ]
                        refine oneH (i := 10) (oi := ⟨some 57, _, _, _, _, _⟩) rfl (by kernel_rfl) (fun K hK => ?_)
                        rw [if_pos (by rfl)]
                        go_simp
                        refine (hbc.out wa).mono ?_
                        rintro e wb ⟨rfl, hbb⟩
                        have HRb : Hid (RdI w C p wd hgt s (some af) F E u7 wb) := Lib.hid (HRA.out.carry hbb)
                        have hS2 : wb.cell? ⟨p, 0, none⟩ = some (.int .i64 (wd : Int)) ∧ wb.cell? ⟨p, 2, none⟩ = some (.string s) ∧ wb.cell? (af.add i) = some (.int .i64 x) ∧ wb.cell? (af.add ci) = some (.int .i64 v) := ⟨(hbb.cell (below_block hS.1)).trans hS.1, (hbb.cell (below_block hS.2.1)).trans hS.2.1, (hbb.cell (below_block hS.2.2.1)).trans hS.2.2.1, (hbb.cell (below_block hS.2.2.2)).trans hS.2.2.2⟩
                        refine hK.out _ _ hS2 ?_
                        clear hK K hS HRA hbb hbc
                        have hS := hS2
                        clear hS2
                        refine takeH (i := 11) 58 (v := .bool false) rfl (by kernel_rfl) (by kernel_rfl) (by kernel_rfl) rfl (fun _ _ _ h => h) (.inl ⟨by rfl, fun _ _ => by go_simp⟩) hS ?_
                        simp only [Act.put, List.setIfInBounds_toArray, List.set_cons_zero, List.set_cons_succ]
                        refine takeH (i := 12) 59 (v := .bool false) rfl (by kernel_rfl) (by kernel_rfl) (by kernel_rfl) rfl (fun _ _ _ h => h) (.inl ⟨by rfl, fun _ _ => by go_simp⟩) hS ?_
                        simp only [Act.put, List.setIfInBounds_toArray, List.set_cons_zero, List.set_cons_succ]
                        refine takeH (i := 13) 60 (v := .bool false) rfl (by kernel_rfl) (by kernel_rfl) (by kernel_rfl) rfl (fun _ _ _ h => h) (.inl ⟨by rfl, fun _ _ => by go_simp⟩) hS ?_
                        simp only [Act.put, List.setIfInBounds_toArray, List.set_cons_zero, List.set_cons_succ]
                        refine takeH (i := 14) 61 (v := .slice (some af) s.size cap) rfl (by kernel_rfl) (by kernel_rfl) (by kernel_rfl) rfl (fun _ _ _ h => h) (.inl ⟨by rfl, fun _ _ => by go_simp⟩) hS ?_
                        simp only [Act.put, List.setIfInBounds_toArray, List.set_cons_zero, List.set_cons_succ]
                        refine takeH (i := 15) 62 (v := .int .i64 (i : Int)) rfl (by kernel_rfl) (by kernel_rfl) (by kernel_rfl) rfl (fun _ _ _ h => h) (.inl ⟨by rfl, fun _ _ => by go_simp⟩) hS ?_
                        simp only [Act.put, List.setIfInBounds_toArray, List.set_cons_zero, List.set_cons_succ]
                        refine takeH (i := 16) 63 (v := .pointer (some (af.add i))) rfl (by kernel_rfl) (by kernel_rfl) (by kernel_rfl) rfl (fun _ _ _ h => h) (.inl ⟨by rfl, fun _ _ => by go_simp⟩) hS ?_
                        simp only [Act.put, List.setIfInBounds_toArray, List.set_cons_zero, List.set_cons_succ]
                        refine takeH (i := 17) 64 (v := .int .i64 x) rfl (by kernel_rfl) (by kernel_rfl) (by kernel_rfl) rfl (fun _ _ _ h => h) (.inl ⟨by rfl, fun _ h => by have s2 := h.2.2.1; go_simp⟩) hS ?_
                        simp only [Act.put, List.setIfInBounds_toArray, List.set_cons_zero, List.set_cons_succ]
                        refine takeH (i := 18) 65 (v := .bool false) rfl (by kernel_rfl) (by kernel_rfl) (by kernel_rfl) rfl (fun _ _ _ h => h) (.inl ⟨by rfl, fun _ _ => by go_simp⟩) hS ?_
                        simp only [Act.put, List.setIfInBounds_toArray, List.set_cons_zero, List.set_cons_succ]
                        refine takeH (i := 19) 66 (v := .bool false) rfl (by kernel_rfl) (by kernel_rfl) (by kernel_rfl) rfl (fun _ _ _ h => h) (.inl ⟨by rfl, fun _ _ => by go_simp⟩) hS ?_
                        simp only [Act.put, List.setIfInBounds_toArray, List.set_cons_zero, List.set_cons_succ]
                        refine takeH (i := 20) 67 (v := .bool false) rfl (by kernel_rfl) (by kernel_rfl) (by kernel_rfl) rfl (fun _ _ _ h => h) (.inl ⟨by rfl, fun _ _ => by go_simp⟩) hS ?_
                        simp only [Act.put, List.setIfInBounds_toArray, List.set_cons_zero, List.set_cons_succ]
                        refine takeH (i := 21) 68 (v := .slice (some af) s.size cap) rfl (by kernel_rfl) (by kernel_rfl) (by kernel_rfl) rfl (fun _ _ _ h => h) (.inl ⟨by rfl, fun _ _ => by go_simp⟩) hS ?_
                        simp only [Act.put, List.setIfInBounds_toArray, List.set_cons_zero, List.set_cons_succ]
                        refine takeH (i := 22) 69 (v := .int .i64 (i : Int)) rfl (by kernel_rfl) (by kernel_rfl) (by kernel_rfl) rfl (fun _ _ _ h => h) (.inl ⟨by rfl, fun _ _ => by go_simp⟩) hS ?_
                        simp only [Act.put, List.setIfInBounds_toArray, List.set_cons_zero, List.set_cons_succ]
                        refine takeH (i := 23) 70 (v := .pointer (some (af.add i))) rfl (by kernel_rfl) (by kernel_rfl) (by kernel_rfl) rfl (fun _ _ _ h => h) (.inl ⟨by rfl, fun _ _ => by go_simp⟩) hS ?_
                        simp only [Act.put, List.setIfInBounds_toArray, List.set_cons_zero, List.set_cons_succ]
                        refine takeH (i := 24) 71 (v := .int .i64 x) rfl (by kernel_rfl) (by kernel_rfl) (by kernel_rfl) rfl (fun _ _ _ h => h) (.inl ⟨by rfl, fun _ h => by have s2 := h.2.2.1; go_simp⟩) hS ?_
                        simp only [Act.put, List.setIfInBounds_toArray, List.set_cons_zero, List.set_cons_succ]
                        refine takeH (i := 25) 72 (v := .slice (some af) s.size cap) rfl (by kernel_rfl) (by kernel_rfl) (by kernel_rfl) rfl (fun _ _ _ h => h) (.inl ⟨by rfl, fun _ _ => by go_simp⟩) hS ?_
                        simp only [Act.put, List.setIfInBounds_toArray, List.set_cons_zero, List.set_cons_succ]
                        refine takeH (i := 26) 73 (v := .int .i64 (ci : Int)) rfl (by kernel_rfl) (by kernel_rfl) (by kernel_rfl) rfl (fun _ _ _ h => h) (.inl ⟨by rfl, fun _ _ => by go_simp⟩) hS ?_
                        simp only [Act.put, List.setIfInBounds_toArray, List.set_cons_zero, List.set_cons_succ]
                        refine takeH (i := 27) 74 (v := .pointer (some (af.add ci))) rfl (by kernel_rfl) (by kernel_rfl) (by kernel_rfl) rfl (fun _ _ _ h => h) (.inl ⟨by rfl, fun _ _ => by go_simp⟩) hS ?_
                        simp only [Act.put, List.setIfInBounds_toArray, List.set_cons_zero, List.set_cons_succ]
                        refine takeH (i := 28) 75 (v := .int .i64 v) rfl (by kernel_rfl) (by kernel_rfl) (by kernel_rfl) rfl (fun _ _ _ h => h) (.inl ⟨by rfl, fun _ h => by have s3 := h.2.2.2; go_simp⟩) hS ?_
                        simp only [Act.put, List.setIfInBounds_toArray, List.set_cons_zero, List.set_cons_succ]
                        refine takeH (i := 29) 76 (v := .bool true) rfl (by kernel_rfl) (by kernel_rfl) (by kernel_rfl) rfl (fun _ _ _ h => h) (.inl ⟨by rfl, fun _ _ => by go_simp⟩) hS ?_
                        simp only [Act.put, List.setIfInBounds_toArray, List.set_cons_zero, List.set_cons_succ]
                        refine takeH (i := 30) 77 (v := .bool true) rfl (by kernel_rfl) (by kernel_rfl) (by kernel_rfl) rfl (fun _ _ _ h => h) (.inl ⟨by rfl, fun _ _ => by go_simp⟩) hS ?_
                        simp only [Act.put, List.setIfInBounds_toArray, List.set_cons_zero, List.set_cons_succ]
                        refine wpAnyH_done (by kernel_rfl) ?_ _
                        clear hS hby
                        go_wp2_with fail
                        go_roundw
                        case rel => exact ⟨i + 1, by go_num, hil, HNO.out _ HRb.out (fun h => by have h1 := h.2.2.2; rw [← HX.out] at h1; omega)⟩
                        case measure => simp [intOf]; omega
                      · refine takeH (i := 0) 47 (v := .pointer (some ⟨p, 2, none⟩)) rfl (by kernel_rfl) (by kernel_rfl) (by kernel_rfl) rfl (fun _ _ _ h => h) (.inl ⟨by rfl, fun _ _ => by go_simp⟩) hS ?_
                        simp only [Act.put, List.setIfInBounds_toArray, List.set_cons_zero, List.set_cons_succ]
                        refine takeH (i := 1) 48 (v := .string s) rfl (by kernel_rfl) (by kernel_rfl) (by kernel_rfl) rfl (fun _ _ _ h => h) (.inl ⟨by rfl, fun _ h => by have s1 := h.2.1; go_simp⟩) hS ?_
                        simp only [Act.put, List.setIfInBounds_toArray, List.set_cons_zero, List.set_cons_succ]
                        refine takeH (i := 2) 49 (v := .int .i64 (i : Int)) rfl (by kernel_rfl) (by kernel_rfl) (by kernel_rfl) rfl (fun _ _ _ h => h) (.inl ⟨by rfl, fun _ _ => by go_simp⟩) hS ?_
                        simp only [Act.put, List.setIfInBounds_toArray, List.set_cons_zero, List.set_cons_succ]
                        refine takeH (i := 3) 50 (v := .int .u8 ((s[i]'hil).toNat : Int)) rfl (by kernel_rfl) (by kernel_rfl) (by kernel_rfl) rfl (fun _ _ _ h => h) (.inl ⟨by rfl, fun _ _ => by go_simp⟩) hS ?_
                        simp only [Act.put, List.setIfInBounds_toArray, List.set_cons_zero, List.set_cons_succ]
                        refine takeH (i := 4) 51 (v := .bool false) rfl (by kernel_rfl) (by kernel_rfl) (by kernel_rfl) rfl (fun _ _ _ h => h) (.inl ⟨by rfl, fun _ _ => by go_simp⟩) hS ?_
                        simp only [Act.put, List.setIfInBounds_toArray, List.set_cons_zero, List.set_cons_succ]
                        refine takeH (i := 5) 52 (v := .bool false) rfl (by kernel_rfl) (by kernel_rfl) (by kernel_rfl) rfl (fun _ _ _ h => h) (.inl ⟨by rfl, fun _ _ => by go_simp⟩) hS ?_
                        simp only [Act.put, List.setIfInBounds_toArray, List.set_cons_zero, List.set_cons_succ]
                        refine takeH (i := 6) 53 (v := .pointer (some ⟨p, 0, none⟩)) rfl (by kernel_rfl) (by kernel_rfl) (by kernel_rfl) rfl (fun _ _ _ h => h) (.inl ⟨by rfl, fun _ _ => by go_simp⟩) hS ?_
                        simp only [Act.put, List.setIfInBounds_toArray, List.set_cons_zero, List.set_cons_succ]
                        refine takeH (i := 7) 54 (v := .int .i64 (wd : Int)) rfl (by kernel_rfl) (by kernel_rfl) (by kernel_rfl) rfl (fun _ _ _ h => h) (.inl ⟨by rfl, fun _ h => by have s0 := h.1; go_simp⟩) hS ?_
                        simp only [Act.put, List.setIfInBounds_toArray, List.set_cons_zero, List.set_cons_succ]
                        refine takeH (i := 8) 55 (v := .int .i64 (ci : Int)) rfl (by kernel_rfl) (by kernel_rfl) (by kernel_rfl) rfl (fun _ _ _ h => h) (.inl ⟨by rfl, fun _ _ => by go_simp⟩) hS ?_
                        simp only [Act.put, List.setIfInBounds_toArray, List.set_cons_zero, List.set_cons_succ]
                        refine takeH (i := 9) 56 (v := .int .i64 (i : Int)) rfl (by kernel_rfl) (by kernel_rfl) (by kernel_rfl) rfl (fun _ _ _ h => h) (.inl ⟨by rfl, fun _ _ => by go_simp⟩) hS ?_
                        simp only [Act.put, List.setIfInBounds_toArray, List.set_cons_zero, List.set_cons_succ]
                        refine oneH (i := 10) (oi := ⟨some 57, _, _, _, _, _⟩) rfl (by kernel_rfl) (fun K hK => ?_)
                        rw [if_pos (by rfl)]
                        go_simp
                        refine (hbc.out wa).mono ?_
                        rintro e wb ⟨rfl, hbb⟩
                        have HRb : Hid (RdI w C p wd hgt s (some af) F E u7 wb) := Lib.hid (HRA.out.carry hbb)
                        have hS2 : wb.cell? ⟨p, 0, none⟩ = some (.int .i64 (wd : Int)) ∧ wb.cell? ⟨p, 2, none⟩ = some (.string s) ∧ wb.cell? (af.add i) = some (.int .i64 x) ∧ wb.cell? (af.add ci) = some (.int .i64 v) := ⟨(hbb.cell (below_block hS.1)).trans hS.1, (hbb.cell (below_block hS.2.1)).trans hS.2.1, (hbb.cell (below_block hS.2.2.1)).trans hS.2.2.1, (hbb.cell (below_block hS.2.2.2)).trans hS.2.2.2⟩
                        refine hK.out _ _ hS2 ?_
                        clear hK K hS HRA hbb hbc
                        have hS := hS2
                        clear hS2
                        refine takeH (i := 11) 58 (v := .bool false) rfl (by kernel_rfl) (by kernel_rfl) (by kernel_rfl) rfl (fun _ _ _ h => h) (.inl ⟨by rfl, fun _ _ => by go_simp⟩) hS ?_
                        simp only [Act.put, List.setIfInBounds_toArray, List.set_cons_zero, List.set_cons_succ]
                        refine takeH (i := 12) 59 (v := .bool false) rfl (by kernel_rfl) (by kernel_rfl) (by kernel_rfl) rfl (fun _ _ _ h => h) (.inl ⟨by rfl, fun _ _ => by go_simp⟩) hS ?_
                        simp only [Act.put, List.setIfInBounds_toArray, List.set_cons_zero, List.set_cons_succ]
                        refine takeH (i := 13) 60 (v := .bool false) rfl (by kernel_rfl) (by kernel_rfl) (by kernel_rfl) rfl (fun _ _ _ h => h) (.inl ⟨by rfl, fun _ _ => by go_simp⟩) hS ?_
                        simp only [Act.put, List.setIfInBounds_toArray, List.set_cons_zero, List.set_cons_succ]
                        refine takeH (i := 14) 61 (v := .slice (some af) s.size cap) rfl (by kernel_rfl) (by kernel_rfl) (by kernel_rfl) rfl (fun _ _ _ h => h) (.inl ⟨by rfl, fun _ _ => by go_simp⟩) hS ?_
                        simp only [Act.put, List.setIfInBounds_toArray, List.set_cons_zero, List.set_cons_succ]
                        refine takeH (i := 15) 62 (v := .int .i64 (i : Int)) rfl (by kernel_rfl) (by kernel_rfl) (by kernel_rfl) rfl (fun _ _ _ h => h) (.inl ⟨by rfl, fun _ _ => by go_simp⟩) hS ?_
                        simp only [Act.put, List.setIfInBounds_toArray, List.set_cons_zero, List.set_cons_succ]
                        refine takeH (i := 16) 63 (v := .pointer (some (af.add i))) rfl (by kernel_rfl) (by kernel_rfl) (by kernel_rfl) rfl (fun _ _ _ h => h) (.inl ⟨by rfl, fun _ _ => by go_simp⟩) hS ?_
                        simp only [Act.put, List.setIfInBounds_toArray, List.set_cons_zero, List.set_cons_succ]
                        refine takeH (i := 17) 64 (v := .int .i64 x) rfl (by kernel_rfl) (by kernel_rfl) (by kernel_rfl) rfl (fun _ _ _ h => h) (.inl ⟨by rfl, fun _ h => by have s2 := h.2.2.1; go_simp⟩) hS ?_
                        simp only [Act.put, List.setIfInBounds_toArray, List.set_cons_zero, List.set_cons_succ]
                        refine takeH (i := 18) 65 (v := .bool false) rfl (by kernel_rfl) (by kernel_rfl) (by kernel_rfl) rfl (fun _ _ _ h => h) (.inl ⟨by rfl, fun _ _ => by go_simp⟩) hS ?_
                        simp only [Act.put, List.setIfInBounds_toArray, List.set_cons_zero, List.set_cons_succ]
                        refine takeH (i := 19) 66 (v := .bool false) rfl (by kernel_rfl) (by kernel_rfl) (by kernel_rfl) rfl (fun _ _ _ h => h) (.inl ⟨by rfl, fun _ _ => by go_simp⟩) hS ?_
                        simp only [Act.put, List.setIfInBounds_toArray, List.set_cons_zero, List.set_cons_succ]
                        refine takeH (i := 20) 67 (v := .bool false) rfl (by kernel_rfl) (by kernel_rfl) (by kernel_rfl) rfl (fun _ _ _ h => h) (.inl ⟨by rfl, fun _ _ => by go_simp⟩) hS ?_
                        simp only [Act.put, List.setIfInBounds_toArray, List.set_cons_zero, List.set_cons_succ]
                        refine takeH (i := 21) 68 (v := .slice (some af) s.size cap) rfl (by kernel_rfl) (by kernel_rfl) (by kernel_rfl) rfl (fun _ _ _ h => h) (.inl ⟨by rfl, fun _ _ => by go_simp⟩) hS ?_
                        simp only [Act.put, List.setIfInBounds_toArray, List.set_cons_zero, List.set_cons_succ]
                        refine takeH (i := 22) 69 (v := .int .i64 (i : Int)) rfl (by kernel_rfl) (by kernel_rfl) (by kernel_rfl) rfl (fun _ _ _ h => h) (.inl ⟨by rfl, fun _ _ => by go_simp⟩) hS ?_
                        simp only [Act.put, List.setIfInBounds_toArray, List.set_cons_zero, List.set_cons_succ]
                        refine takeH (i := 23) 70 (v := .pointer (some (af.add i))) rfl (by kernel_rfl) (by kernel_rfl) (by kernel_rfl) rfl (fun _ _ _ h => h) (.inl ⟨by rfl, fun _ _ => by go_simp⟩) hS ?_
                        simp only [Act.put, List.setIfInBounds_toArray, List.set_cons_zero, List.set_cons_succ]
                        refine takeH (i := 24) 71 (v := .int .i64 x) rfl (by kernel_rfl) (by kernel_rfl) (by kernel_rfl) rfl (fun _ _ _ h => h) (.inl ⟨by rfl, fun _ h => by have s2 := h.2.2.1; go_simp⟩) hS ?_
                        simp only [Act.put, List.setIfInBounds_toArray, List.set_cons_zero, List.set_cons_succ]
                        refine takeH (i := 25) 72 (v := .slice (some af) s.size cap) rfl (by kernel_rfl) (by kernel_rfl) (by kernel_rfl) rfl (fun _ _ _ h => h) (.inl ⟨by rfl, fun _ _ => by go_simp⟩) hS ?_
                        simp only [Act.put, List.setIfInBounds_toArray, List.set_cons_zero, List.set_cons_succ]
                        refine takeH (i := 26) 73 (v := .int .i64 (ci : Int)) rfl (by kernel_rfl) (by kernel_rfl) (by kernel_rfl) rfl (fun _ _ _ h => h) (.inl ⟨by rfl, fun _ _ => by go_simp⟩) hS ?_
                        simp only [Act.put, List.setIfInBounds_toArray, List.set_cons_zero, List.set_cons_succ]
                        refine takeH (i := 27) 74 (v := .pointer (some (af.add ci))) rfl (by kernel_rfl) (by kernel_rfl) (by kernel_rfl) rfl (fun _ _ _ h => h) (.inl ⟨by rfl, fun _ _ => by go_simp⟩) hS ?_
                        simp only [Act.put, List.setIfInBounds_toArray, List.set_cons_zero, List.set_cons_succ]
                        refine takeH (i := 28) 75 (v := .int .i64 v) rfl (by kernel_rfl) (by kernel_rfl) (by kernel_rfl) rfl (fun _ _ _ h => h) (.inl ⟨by rfl, fun _ h => by have s3 := h.2.2.2; go_simp⟩) hS ?_
                        simp only [Act.put, List.setIfInBounds_toArray, List.set_cons_zero, List.set_cons_succ]
                        refine takeH (i := 29) 76 (v := .bool false) rfl (by kernel_rfl) (by kernel_rfl) (by kernel_rfl) rfl (fun _ _ _ h => h) (.inl ⟨by rfl, fun _ _ => by go_simp⟩) hS ?_
                        simp only [Act.put, List.setIfInBounds_toArray, List.set_cons_zero, List.set_cons_succ]
                        refine takeH (i := 30) 77 (v := .bool false) rfl (by kernel_rfl) (by kernel_rfl) (by kernel_rfl) rfl (fun _ _ _ h => h) (.inl ⟨by rfl, fun _ _ => by go_simp⟩) hS ?_
                        simp only [Act.put, List.setIfInBounds_toArray, List.set_cons_zero, List.set_cons_succ]
                        refine wpAnyH_done (by kernel_rfl) ?_ _
                        have HYES : Hid (sortF F (lowTo s.data.toList wd ci F v (i + 1)) = insF F i E) := Lib.hid (by
                          rw [lowTo_yes HOI.out.symm HBS.out.symm (by rw [← HX.out]; omega) (by rw [← HX.out]; omega), sortF_snoc, ← HE.out])
                        have HEL : Hid (E.length ≤ 64 ∧ ∀ d ∈ E, d < s.size) := Lib.hid (by
                          have hp := (sortF_spec F _ (lowTo_rising s.data.toList wd ci F v i)).1
                          rw [HE.out]
                          refine ⟨?_, fun d hd => ?_⟩
                          · rw [hp.length_eq]; exact Nat.le_trans (lowTo_length _ _ _ _ _ _) (by omega)
                          · have h1 := hp.mem_iff.1 hd
                            unfold lowTo at h1
                            have h2 := (List.mem_filter.1 (mem_lows.1 h1).1).1
                            rw [List.mem_range] at h2
                            omega)
                        clear hS hby HNO
                        go_wp2_with fail
                        go_loopw [9] (fun u wr2 => ∃ k : Nat, u = .int .i64 (k : Int) ∧ k ≤ E.length ∧ (∀ t, t < k → ∀ h : t < E.length, fat F E[t] ≤ fat F i) ∧ RdI w C p wd hgt s (some af) F E u7 wr2) (fun u _ => E.length - (intOf u).toNat)
                        case atStart => exact ⟨0, rfl, Nat.zero_le _, fun t ht => by omega, HRb.out⟩
                        case round =>
                          clear HRb
                          obtain ⟨k, rfl, hk, hle, hrd⟩ := hrel
                          have HLS := Lib.hid hle
                          have HRD := Lib.hid hrd
                          have HK := Lib.hid hk
                          clear hle hrd hk
                          obtain ⟨A7, cap7, hu, hn7, hA7, hc7⟩ := own_nums7 HRD.out.row
                          have HU := Lib.hid hu
                          have HN7 := Lib.hid hn7
                          have HA7 := Lib.hid hA7
                          have HC7 := Lib.hid hc7
                          clear hn7 hA7 hc7
                          obtain ⟨af1, h9, r0⟩ := HRD.out.nums.at_ (fat_eq (F := F) (i := i) (by rw [HFN.out]; exact hil))
                          cases h9
                          rw [← HX.out] at r0
                          have FIN : ∀ wz, RdI w C p wd hgt s (some af) F E u7 wz → (∀ h : k < E.length, ¬ fat F E[k] ≤ fat F i) → ∀ v9 w9, w9.ownsRow wz.heap.size 3 1 v9 ((([] ++ ints (E.take k)) ++ [(i : Int)]) ++ ints (E.drop k)).length (rowV ((([] ++ ints (E.take k)) ++ [(i : Int)]) ++ ints (E.drop k))) → Below wz.heap.size wz w9 → RdI w C p wd hgt s (some af) F (sortF F (lowTo s.data.toList wd ci F v (i + 1))) v9 w9 := fun wz hz1 hz2 v9 w9 ho hb => by
                            have hc := hz1.carry hb
                            refine ⟨hc.ref, hc.nums, ?_, hc.C1, hc.C0, hc.below⟩
                            rw [HYES.out, insF_at HK.out HLS.out hz2]
                            have e9 : (([] ++ ints (E.take k)) ++ [(i : Int)]) ++ ints (E.drop k) = ints (E.take k ++ i :: E.drop k) := by simp [ints]
                            rw [e9, ints_length] at ho
                            rw [numCells_ints]
                            exact own_weak7 ho hz1.C1
                          have HFI := Lib.hid FIN
                          clear FIN
                          by_cases hkl : k < E.length
                          · obtain ⟨d, HDK⟩ : ∃ d, Hid (d = E[k]) := ⟨_, Lib.hid rfl⟩
                            obtain ⟨a7, h9, r1⟩ := HN7.out.at_ (ints_at hkl)
                            subst h9
                            rw [← HDK.out] at r1
                            have hds : d < s.size := HEL.out.2 d (by rw [HDK.out]; exact List.getElem_mem hkl)
                            obtain ⟨y, HY⟩ : ∃ y, Hid (y = fat F d) := ⟨_, Lib.hid rfl⟩
                            obtain ⟨af1, h9, r2⟩ := HRD.out.nums.at_ (fat_eq (F := F) (i := d) (by rw [HFN.out]; exact hds))
                            cases h9
                            rw [← HY.out] at r2
                            have hel := HEL.out.1
                            subst hu
                            by_cases hyx : y ≤ x
                            · go_wp2_with fail
                              go_quiet (fail)
                              go_wp2_with fail
                              go_roundw
                              case rel => exact ⟨k + 1, by go_num, hkl, fun t ht h => by
                                by_cases e : t = k
                                · subst e; rw [← HDK.out, ← HY.out, ← HX.out]; exact hyx
                                · exact HLS.out t (by omega) h, HRD.out.drewN nq⟩
                              case measure => simp [intOf]; omega
                            · go_wp2_with fail
                              go_quiet (fail)
                              obtain ⟨wz, HWZ⟩ : ∃ wz, Hid (wz = wr.drewN nq) := ⟨_, Lib.hid rfl⟩
                              rw [← HWZ.out]
                              have HRZ : Hid (RdI w C p wd hgt s (some af) F E (.slice (some a7) E.length cap7) wz) := Lib.hid (by rw [HWZ.out]; exact HRD.out.drewN nq)
                              have HNZ : Hid (Nums wz .i64 (some a7) (ints E)) := Lib.hid (by rw [HWZ.out]; exact HN7.out)
                              have HSTOP : Hid (∀ h : k < E.length, ¬ fat F E[k] ≤ fat F i) := Lib.hid (fun h => by rw [← HDK.out, ← HY.out, ← HX.out]; omega)
                              clear HWZ HRD HN7 r0 r1 r2
                              go_wp2_with fail
                              obtain ⟨A1, c1, e1, i1, n1⟩ := nums_part7 (lo := 0) (hi := k) (cap := cap7) HNZ.out (by rw [ints_length]; exact HC7.out) HA7.out
                              obtain ⟨A2, c2, e2, i2, n2⟩ := nums_part7 (lo := k) (hi := E.length) (cap := cap7) HNZ.out (by rw [ints_length]; exact HC7.out) HA7.out
                              rw [List.drop_zero, ints_take] at i1
                              rw [Nat.sub_zero] at e1
                              rw [ints_take, List.take_length, ints_drop] at i2
                              have HSE : Hid (sliced (some a7) 0 k cap7 1 = .slice A1 k c1 ∧ sliced (some a7) k E.length cap7 1 = .slice A2 (E.length - k) c2) := Lib.hid ⟨e1, e2⟩
                              have HNN : Hid ((A1 = none → c1 = 0) ∧ (A2 = none → c2 = 0)) := Lib.hid ⟨n1, n2⟩
                              have HI1 := Lib.hid i1
                              have HI2 := Lib.hid i2
                              have HLK : Hid ((ints (E.take k)).length = k ∧ (ints (E.drop k)).length = E.length - k ∧ k ≤ 64 ∧ E.length ≤ 64) := Lib.hid (by have := HEL.out.1; have := HK.out; rw [ints_length, ints_length, List.length_take, List.length_drop]; omega)
                              have hkc : (k : Int) ≤ (cap7 : Int) := by have := HC7.out; have := HK.out; omega
                              have hec : (E.length : Int) ≤ (cap7 : Int) := by have := HC7.out; omega
                              have hke : (k : Int) ≤ (E.length : Int) := by have := HK.out; omega
                              clear e1 e2 i1 i2 n1 n2
                              obtain ⟨B, HBB⟩ : ∃ B, Hid (B = wz.heap.size) := ⟨_, Lib.hid rfl⟩
                              refine wp_region_held (S := fun w9 => B ≤ w9.heap.size) (by kernel_rfl) ?_
                              change wpAnyH _ _ _ _ _ _ _ _ wz.drew
                              obtain ⟨wa, HWA⟩ : ∃ wa, Hid (wa = wz.drew) := ⟨_, Lib.hid rfl⟩
                              rw [← HWA.out]
                              have hS : B ≤ wa.heap.size := by rw [HWA.out, HBB.out]; exact Nat.le_refl _
                              have HBwa : Hid (Below B wz wa) := Lib.hid (by rw [HWA.out]; exact (Below.refl _ _).drew)
                              clear HWA
                              refine takeH (i := 1) 99 (v := .slice (some a7) E.length cap7) rfl (by kernel_rfl) (by kernel_rfl) (by kernel_rfl) rfl (fun _ _ _ h => h) (.inl ⟨by rfl, fun _ _ => by go_simp⟩) hS ?_
                              simp only [Act.put, List.setIfInBounds_toArray, List.set_cons_zero, List.set_cons_succ]
                              refine takeH (i := 2) 100 (v := .int .i64 (k : Int)) rfl (by kernel_rfl) (by kernel_rfl) (by kernel_rfl) rfl (fun _ _ _ h => h) (.inl ⟨by rfl, fun _ _ => by go_simp⟩) hS ?_
                              simp only [Act.put, List.setIfInBounds_toArray, List.set_cons_zero, List.set_cons_succ]
                              refine takeH (i := 5) 103 (v := .int .i64 (i : Int)) rfl (by kernel_rfl) (by kernel_rfl) (by kernel_rfl) rfl (fun _ _ _ h => h) (.inl ⟨by rfl, fun _ _ => by go_simp⟩) hS ?_
                              simp only [Act.put, List.setIfInBounds_toArray, List.set_cons_zero, List.set_cons_succ]
                              refine takeH (i := 8) 106 (v := .slice (some a7) E.length cap7) rfl (by kernel_rfl) (by kernel_rfl) (by kernel_rfl) rfl (fun _ _ _ h => h) (.inl ⟨by rfl, fun _ _ => by go_simp⟩) hS ?_
                              simp only [Act.put, List.setIfInBounds_toArray, List.set_cons_zero, List.set_cons_succ]
                              refine takeH (i := 9) 107 (v := .int .i64 (k : Int)) rfl (by kernel_rfl) (by kernel_rfl) (by kernel_rfl) rfl (fun _ _ _ h => h) (.inl ⟨by rfl, fun _ _ => by go_simp⟩) hS ?_
                              simp only [Act.put, List.setIfInBounds_toArray, List.set_cons_zero, List.set_cons_succ]
                              refine takeH (i := 3) 101 (v := .slice A1 k c1) rfl (by kernel_rfl) (by kernel_rfl) (by kernel_rfl) rfl (fun _ _ _ h => h) (.inl ⟨by rfl, fun _ _ => by rw [← HSE.out.1]; go_simp⟩) hS ?_
                              simp only [Act.put, List.setIfInBounds_toArray, List.set_cons_zero, List.set_cons_succ]
                              refine takeH (i := 10) 108 (v := .slice A2 (E.length - k) c2) rfl (by kernel_rfl) (by kernel_rfl) (by kernel_rfl) rfl (fun _ _ _ h => h) (.inl ⟨by rfl, fun _ _ => by rw [← HSE.out.2]; go_simp⟩) hS ?_
                              simp only [Act.put, List.setIfInBounds_toArray, List.set_cons_zero, List.set_cons_succ]
                              refine twoH (i := 0) (j := 6) (oi := ⟨some 98, _, _, _, _, _⟩) (oj := ⟨some 104, _, _, _, _, _⟩) rfl rfl (by kernel_rfl) (fun K hK => ?_) (fun K hK => ?_)
                              · rw [if_pos (by rfl)]
                                refine wp_empty7 _ 3 ii rfl Tryd.underlying24 hj0 ?_
                                obtain ⟨wb, HW⟩ : ∃ wb, Hid (wb = wa.alloc (.cells #[] 3)) := ⟨_, Lib.hid rfl⟩
                                obtain ⟨v0, HV⟩ : ∃ v0, Hid (v0 = Value.slice (some ⟨wa.heap.size, 0, none⟩) 0 0) := ⟨_, Lib.hid rfl⟩
                                rw [← HW.out, ← HV.out]
                                have hb : Below wa.heap.size wa wb := by rw [HW.out]; exact (Below.refl _ _).alloc (Nat.le_refl _) _
                                have HOv0 : Hid (wb.ownsRow B 3 1 v0 ([] : List Int).length (rowV [])) := Lib.hid (by rw [HW.out, HV.out]; exact World.ownsRow_made wa #[] 0 hS (by unfold maxLen; omega) rfl)
                                have HBwb : Hid (Below B wz wb) := Lib.hid (HBwa.out.trans (hb.mono hS))
                                have hS2 : B ≤ wb.heap.size := Nat.le_trans hS hb.size
                                refine hK.out _ _ hS2 ?_
                                clear hK K hS hb HW HV
                                have hS := hS2
                                clear hS2
                                simp only [Act.put, List.setIfInBounds_toArray, List.set_cons_zero, List.set_cons_succ]
                                refine twoH (i := 4) (j := 6) (oi := ⟨some 102, _, _, _, _, _⟩) (oj := ⟨some 104, _, _, _, _, _⟩) rfl rfl (by kernel_rfl) (fun K hK => ?_) (fun K hK => ?_)
                                · rw [if_pos (by rfl)]
                                  refine wp_append_nums7 _ _ 24 3 rfl ii _ Tryd.underlying24 hj0 hj1 hj2 hj3 rfl (X := []) (Y := (ints (E.take k))) rfl (HLK.out.1) rfl HNN.out.1 HOv0.out (HI1.out.carry (by rw [← HBB.out]; exact HBwb.out)) (by have := HLK.out; rw [List.length_nil]; omega) hS ?_
                                  intro v3 wc hown hgrow hat
                                  have HOv3 := Lib.hid hown
                                  have hb : Below B wb wc := (Below.refl _ _).grown hgrow hS (fun k hk => (HOv0.out.lt k hk).1)
                                  have HBwc : Hid (Below B wz wc) := Lib.hid (HBwb.out.trans (hb))
                                  have hS2 : B ≤ wc.heap.size := Nat.le_trans hS hb.size
                                  refine hK.out _ _ hS2 ?_
                                  clear hK K hS hown hgrow hat HOv0
                                  have hS := hS2
                                  clear hS2 hb
                                  simp only [Act.put, List.setIfInBounds_toArray, List.set_cons_zero, List.set_cons_succ]
                                  refine oneH (i := 6) (oi := ⟨some 104, _, _, _, _, _⟩) rfl (by kernel_rfl) (fun K hK => ?_)
                                  rw [if_pos (by rfl)]
                                  refine wp_nums 24 3 .i64 1 _ rfl [(i : Int)] Tryd.underlying24 oneInt7 (by kernel_rfl) rfl (by decide) (by decide) rfl ?_
                                  intro wd2 gl hge hnn hbn
                                  have HLit : Hid (Nums wd2 .i64 (some ⟨gl, 0, none⟩) [(i : Int)]) := Lib.hid hnn.out
                                  have HGL : Hid (gl < wd2.heap.size) := Lib.hid (by obtain ⟨a9, e9, h9, _⟩ := hnn.out (by simp); cases e9; exact h9)
                                  have HNL : Hid (v3.ownBlock ≠ some gl) := Lib.hid (fun e => by have := (HOv3.out.lt gl e).2; have := hge.out; omega)
                                  have HO2 := Lib.hid (own_carry7 HOv3.out hbn.out)
                                  clear HOv3
                                  have HOv3 := HO2
                                  clear HO2
                                  have HBwd2 : Hid (Below B wz wd2) := Lib.hid (HBwc.out.trans (hbn.out.mono hS))
                                  have hS2 : B ≤ wd2.heap.size := Nat.le_trans hS hbn.out.size
                                  refine hK.out _ _ hS2 ?_
                                  clear hK K hS hge hnn hbn
                                  have hS := hS2
                                  clear hS2
                                  simp only [Act.put, List.setIfInBounds_toArray, List.set_cons_zero, List.set_cons_succ]
                                  refine oneH (i := 7) (oi := ⟨some 105, _, _, _, _, _⟩) rfl (by kernel_rfl) (fun K hK => ?_)
                                  rw [if_pos (by rfl)]
                                  refine wp_append_nums7 _ _ 24 3 rfl ii _ Tryd.underlying24 hj0 hj1 hj2 hj3 rfl (X := ([] ++ ints (E.take k))) (Y := [(i : Int)]) rfl (rfl) rfl (fun h => by cases h) HOv3.out HLit.out (by have := HLK.out; rw [List.length_append, List.length_nil, List.length_singleton]; omega) hS ?_
                                  intro v4 wx hown hgrow hat
                                  have HOv4 := Lib.hid hown
                                  have hb : Below B wd2 wx := (Below.refl _ _).grown hgrow hS (fun k hk => (HOv3.out.lt k hk).1)
                                  have HBwx : Hid (Below B wz wx) := Lib.hid (HBwd2.out.trans (hb))
                                  have hS2 : B ≤ wx.heap.size := Nat.le_trans hS hb.size
                                  refine hK.out _ _ hS2 ?_
                                  clear hK K hS hown hgrow hat HOv3
                                  have hS := hS2
                                  clear hS2 hb
                                  simp only [Act.put, List.setIfInBounds_toArray, List.set_cons_zero, List.set_cons_succ]
                                  refine oneH (i := 11) (oi := ⟨some 109, _, _, _, _, _⟩) rfl (by kernel_rfl) (fun K hK => ?_)
                                  rw [if_pos (by rfl)]
                                  refine wp_append_nums7 _ _ 24 3 rfl ii _ Tryd.underlying24 hj0 hj1 hj2 hj3 rfl (X := (([] ++ ints (E.take k)) ++ [(i : Int)])) (Y := (ints (E.drop k))) rfl (HLK.out.2.1) rfl HNN.out.2 HOv4.out (HI2.out.carry (by rw [← HBB.out]; exact HBwx.out)) (by have := HLK.out; rw [List.length_append, List.length_append, List.length_nil, List.length_singleton]; omega) hS ?_
                                  intro v5 wy hown hgrow hat
                                  have HOv5 := Lib.hid hown
                                  have hb : Below B wx wy := (Below.refl _ _).grown hgrow hS (fun k hk => (HOv4.out.lt k hk).1)
                                  have HBwy : Hid (Below B wz wy) := Lib.hid (HBwx.out.trans (hb))
                                  have hS2 : B ≤ wy.heap.size := Nat.le_trans hS hb.size
                                  refine hK.out _ _ hS2 ?_
                                  clear hK K hS hown hgrow hat HOv4
                                  have hS := hS2
                                  clear hS2 hb
                                  simp only [Act.put, List.setIfInBounds_toArray, List.set_cons_zero, List.set_cons_succ]
                                  refine takeH (i := 12) 7 (v := v5) rfl (by kernel_rfl) (by kernel_rfl) (by kernel_rfl) rfl (fun _ _ _ h => h) (.inl ⟨by rfl, fun _ _ => by go_simp⟩) hS ?_
                                  simp only [Act.put, List.setIfInBounds_toArray, List.set_cons_zero, List.set_cons_succ]
                                  refine wpAnyH_done (by kernel_rfl) ?_ _
                                  have HEND : Hid (RdI w C p wd hgt s (some af) F (sortF F (lowTo s.data.toList wd ci F v (i + 1))) v5 wy) := Lib.hid (HFI.out wz HRZ.out HSTOP.out v5 wy (by rw [← HBB.out]; exact HOv5.out) (by rw [← HBB.out]; exact HBwy.out))
                                  clear hS
                                  go_wp2_with fail
                                  go_roundw
                                  case rel => exact ⟨i + 1, by go_num, hil, HEND.out⟩
                                  case measure => simp [intOf]; omega
                                · rw [if_pos (by rfl)]
                                  refine wp_nums 24 3 .i64 1 _ rfl [(i : Int)] Tryd.underlying24 oneInt7 (by kernel_rfl) rfl (by decide) (by decide) rfl ?_
                                  intro wc gl hge hnn hbn
                                  have HLit : Hid (Nums wc .i64 (some ⟨gl, 0, none⟩) [(i : Int)]) := Lib.hid hnn.out
                                  have HGL : Hid (gl < wc.heap.size) := Lib.hid (by obtain ⟨a9, e9, h9, _⟩ := hnn.out (by simp); cases e9; exact h9)
                                  have HNL : Hid (v0.ownBlock ≠ some gl) := Lib.hid (fun e => by have := (HOv0.out.lt gl e).2; have := hge.out; omega)
                                  have HO2 := Lib.hid (own_carry7 HOv0.out hbn.out)
                                  clear HOv0
                                  have HOv0 := HO2
                                  clear HO2
                                  have HBwc : Hid (Below B wz wc) := Lib.hid (HBwb.out.trans (hbn.out.mono hS))
                                  have hS2 : B ≤ wc.heap.size := Nat.le_trans hS hbn.out.size
                                  refine hK.out _ _ hS2 ?_
                                  clear hK K hS hge hnn hbn
                                  have hS := hS2
                                  clear hS2
                                  simp only [Act.put, List.setIfInBounds_toArray, List.set_cons_zero, List.set_cons_succ]
                                  refine oneH (i := 4) (oi := ⟨some 102, _, _, _, _, _⟩) rfl (by kernel_rfl) (fun K hK => ?_)
                                  rw [if_pos (by rfl)]
                                  refine wp_append_nums7 _ _ 24 3 rfl ii _ Tryd.underlying24 hj0 hj1 hj2 hj3 rfl (X := []) (Y := (ints (E.take k))) rfl (HLK.out.1) rfl HNN.out.1 HOv0.out (HI1.out.carry (by rw [← HBB.out]; exact HBwc.out)) (by have := HLK.out; rw [List.length_nil]; omega) hS ?_
                                  intro v3 wd2 hown hgrow hat
                                  have HOv3 := Lib.hid hown
                                  have hb : Below B wc wd2 := (Below.refl _ _).grown hgrow hS (fun k hk => (HOv0.out.lt k hk).1)
                                  have HL2 : Hid (Nums wd2 .i64 (some ⟨gl, 0, none⟩) [(i : Int)]) := Lib.hid (fun hp => by
                                    obtain ⟨a9, e9, h9, hc9⟩ := HLit.out hp
                                    cases e9
                                    have hbk := hgrow.block gl HGL.out (fun e => HNL.out e.symm)
                                    refine ⟨_, rfl, Nat.lt_of_lt_of_le h9 hgrow.size, fun t z hz => ?_⟩
                                    rw [← hc9 t z hz]
                                    exact World.cell?_of_block (by rw [block_of_add]; exact hbk))
                                  have HNL2 : Hid (v3.ownBlock ≠ some gl) := Lib.hid (by
                                    rcases hat with h | h
                                    · rw [h]; exact HNL.out
                                    · rw [h]; intro e; have := Option.some.inj e; have := HGL.out; omega)
                                  have HGL2 : Hid (gl < wd2.heap.size) := Lib.hid (Nat.lt_of_lt_of_le HGL.out hgrow.size)
                                  clear HLit HNL HGL
                                  have HLit := HL2
                                  have HNL := HNL2
                                  have HGL := HGL2
                                  clear HL2 HNL2 HGL2
                                  have HBwd2 : Hid (Below B wz wd2) := Lib.hid (HBwc.out.trans (hb))
                                  have hS2 : B ≤ wd2.heap.size := Nat.le_trans hS hb.size
                                  refine hK.out _ _ hS2 ?_
                                  clear hK K hS hown hgrow hat HOv0
                                  have hS := hS2
                                  clear hS2 hb
                                  simp only [Act.put, List.setIfInBounds_toArray, List.set_cons_zero, List.set_cons_succ]
                                  refine oneH (i := 7) (oi := ⟨some 105, _, _, _, _, _⟩) rfl (by kernel_rfl) (fun K hK => ?_)
                                  rw [if_pos (by rfl)]
                                  refine wp_append_nums7 _ _ 24 3 rfl ii _ Tryd.underlying24 hj0 hj1 hj2 hj3 rfl (X := ([] ++ ints (E.take k))) (Y := [(i : Int)]) rfl (rfl) rfl (fun h => by cases h) HOv3.out HLit.out (by have := HLK.out; rw [List.length_append, List.length_nil, List.length_singleton]; omega) hS ?_
                                  intro v4 wx hown hgrow hat
                                  have HOv4 := Lib.hid hown
                                  have hb : Below B wd2 wx := (Below.refl _ _).grown hgrow hS (fun k hk => (HOv3.out.lt k hk).1)
                                  have HBwx : Hid (Below B wz wx) := Lib.hid (HBwd2.out.trans (hb))
                                  have hS2 : B ≤ wx.heap.size := Nat.le_trans hS hb.size
                                  refine hK.out _ _ hS2 ?_
                                  clear hK K hS hown hgrow hat HOv3
                                  have hS := hS2
                                  clear hS2 hb
                                  simp only [Act.put, List.setIfInBounds_toArray, List.set_cons_zero, List.set_cons_succ]
                                  refine oneH (i := 11) (oi := ⟨some 109, _, _, _, _, _⟩) rfl (by kernel_rfl) (fun K hK => ?_)
                                  rw [if_pos (by rfl)]
                                  refine wp_append_nums7 _ _ 24 3 rfl ii _ Tryd.underlying24 hj0 hj1 hj2 hj3 rfl (X := (([] ++ ints (E.take k)) ++ [(i : Int)])) (Y := (ints (E.drop k))) rfl (HLK.out.2.1) rfl HNN.out.2 HOv4.out (HI2.out.carry (by rw [← HBB.out]; exact HBwx.out)) (by have := HLK.out; rw [List.length_append, List.length_append, List.length_nil, List.length_singleton]; omega) hS ?_
                                  intro v5 wy hown hgrow hat
                                  have HOv5 := Lib.hid hown
                                  have hb : Below B wx wy := (Below.refl _ _).grown hgrow hS (fun k hk => (HOv4.out.lt k hk).1)
                                  have HBwy : Hid (Below B wz wy) := Lib.hid (HBwx.out.trans (hb))
                                  have hS2 : B ≤ wy.heap.size := Nat.le_trans hS hb.size
                                  refine hK.out _ _ hS2 ?_
                                  clear hK K hS hown hgrow hat HOv4
                                  have hS := hS2
                                  clear hS2 hb
                                  simp only [Act.put, List.setIfInBounds_toArray, List.set_cons_zero, List.set_cons_succ]
                                  refine takeH (i := 12) 7 (v := v5) rfl (by kernel_rfl) (by kernel_rfl) (by kernel_rfl) rfl (fun _ _ _ h => h) (.inl ⟨by rfl, fun _ _ => by go_simp⟩) hS ?_
                                  simp only [Act.put, List.setIfInBounds_toArray, List.set_cons_zero, List.set_cons_succ]
                                  refine wpAnyH_done (by kernel_rfl) ?_ _
                                  have HEND : Hid (RdI w C p wd hgt s (some af) F (sortF F (lowTo s.data.toList wd ci F v (i + 1))) v5 wy) := Lib.hid (HFI.out wz HRZ.out HSTOP.out v5 wy (by rw [← HBB.out]; exact HOv5.out) (by rw [← HBB.out]; exact HBwy.out))
                                  clear hS
                                  go_wp2_with fail
                                  go_roundw
                                  case rel => exact ⟨i + 1, by go_num, hil, HEND.out⟩
                                  case measure => simp [intOf]; omega
                              · rw [if_pos (by rfl)]
                                refine wp_nums 24 3 .i64 1 _ rfl [(i : Int)] Tryd.underlying24 oneInt7 (by kernel_rfl) rfl (by decide) (by decide) rfl ?_
                                intro wb gl hge hnn hbn
                                have HLit : Hid (Nums wb .i64 (some ⟨gl, 0, none⟩) [(i : Int)]) := Lib.hid hnn.out
                                have HGL : Hid (gl < wb.heap.size) := Lib.hid (by obtain ⟨a9, e9, h9, _⟩ := hnn.out (by simp); cases e9; exact h9)
                                have HBwb : Hid (Below B wz wb) := Lib.hid (HBwa.out.trans (hbn.out.mono hS))
                                have hS2 : B ≤ wb.heap.size := Nat.le_trans hS hbn.out.size
                                refine hK.out _ _ hS2 ?_
                                clear hK K hS hge hnn hbn
                                have hS := hS2
                                clear hS2
                                simp only [Act.put, List.setIfInBounds_toArray, List.set_cons_zero, List.set_cons_succ]
                                refine oneH (i := 0) (oi := ⟨some 98, _, _, _, _, _⟩) rfl (by kernel_rfl) (fun K hK => ?_)
                                rw [if_pos (by rfl)]
                                refine wp_empty7 _ 3 ii rfl Tryd.underlying24 hj0 ?_
                                obtain ⟨wc, HW⟩ : ∃ wc, Hid (wc = wb.alloc (.cells #[] 3)) := ⟨_, Lib.hid rfl⟩
                                obtain ⟨v0, HV⟩ : ∃ v0, Hid (v0 = Value.slice (some ⟨wb.heap.size, 0, none⟩) 0 0) := ⟨_, Lib.hid rfl⟩
                                rw [← HW.out, ← HV.out]
                                have hb : Below wb.heap.size wb wc := by rw [HW.out]; exact (Below.refl _ _).alloc (Nat.le_refl _) _
                                have HOv0 : Hid (wc.ownsRow B 3 1 v0 ([] : List Int).length (rowV [])) := Lib.hid (by rw [HW.out, HV.out]; exact World.ownsRow_made wb #[] 0 hS (by unfold maxLen; omega) rfl)
                                have HNL2 : Hid (v0.ownBlock ≠ some gl) := Lib.hid (by rw [HV.out]; intro e; have := own_inj e; have := HGL.out; omega)
                                have HL2 := Lib.hid (HLit.out.carry hb)
                                have HGL2 : Hid (gl < wc.heap.size) := Lib.hid (Nat.lt_of_lt_of_le HGL.out hb.size)
                                clear HLit HGL
                                have HLit := HL2
                                have HGL := HGL2
                                have HNL := HNL2
                                clear HL2 HGL2 HNL2
                                have HBwc : Hid (Below B wz wc) := Lib.hid (HBwb.out.trans (hb.mono hS))
                                have hS2 : B ≤ wc.heap.size := Nat.le_trans hS hb.size
                                refine hK.out _ _ hS2 ?_
                                clear hK K hS hb HW HV
                                have hS := hS2
                                clear hS2
                                simp only [Act.put, List.setIfInBounds_toArray, List.set_cons_zero, List.set_cons_succ]
                                refine oneH (i := 4) (oi := ⟨some 102, _, _, _, _, _⟩) rfl (by kernel_rfl) (fun K hK => ?_)
                                rw [if_pos (by rfl)]
                                refine wp_append_nums7 _ _ 24 3 rfl ii _ Tryd.underlying24 hj0 hj1 hj2 hj3 rfl (X := []) (Y := (ints (E.take k))) rfl (HLK.out.1) rfl HNN.out.1 HOv0.out (HI1.out.carry (by rw [← HBB.out]; exact HBwc.out)) (by have := HLK.out; rw [List.length_nil]; omega) hS ?_
                                intro v3 wd2 hown hgrow hat
                                have HOv3 := Lib.hid hown
                                have hb : Below B wc wd2 := (Below.refl _ _).grown hgrow hS (fun k hk => (HOv0.out.lt k hk).1)
                                have HL2 : Hid (Nums wd2 .i64 (some ⟨gl, 0, none⟩) [(i : Int)]) := Lib.hid (fun hp => by
                                  obtain ⟨a9, e9, h9, hc9⟩ := HLit.out hp
                                  cases e9
                                  have hbk := hgrow.block gl HGL.out (fun e => HNL.out e.symm)
                                  refine ⟨_, rfl, Nat.lt_of_lt_of_le h9 hgrow.size, fun t z hz => ?_⟩
                                  rw [← hc9 t z hz]
                                  exact World.cell?_of_block (by rw [block_of_add]; exact hbk))
                                have HNL2 : Hid (v3.ownBlock ≠ some gl) := Lib.hid (by
                                  rcases hat with h | h
                                  · rw [h]; exact HNL.out
                                  · rw [h]; intro e; have := Option.some.inj e; have := HGL.out; omega)
                                have HGL2 : Hid (gl < wd2.heap.size) := Lib.hid (Nat.lt_of_lt_of_le HGL.out hgrow.size)
                                clear HLit HNL HGL
                                have HLit := HL2
                                have HNL := HNL2
                                have HGL := HGL2
                                clear HL2 HNL2 HGL2
                                have HBwd2 : Hid (Below B wz wd2) := Lib.hid (HBwc.out.trans (hb))
                                have hS2 : B ≤ wd2.heap.size := Nat.le_trans hS hb.size
                                refine hK.out _ _ hS2 ?_
                                clear hK K hS hown hgrow hat HOv0
                                have hS := hS2
                                clear hS2 hb
                                simp only [Act.put, List.setIfInBounds_toArray, List.set_cons_zero, List.set_cons_succ]
                                refine oneH (i := 7) (oi := ⟨some 105, _, _, _, _, _⟩) rfl (by kernel_rfl) (fun K hK => ?_)
                                rw [if_pos (by rfl)]
                                refine wp_append_nums7 _ _ 24 3 rfl ii _ Tryd.underlying24 hj0 hj1 hj2 hj3 rfl (X := ([] ++ ints (E.take k))) (Y := [(i : Int)]) rfl (rfl) rfl (fun h => by cases h) HOv3.out HLit.out (by have := HLK.out; rw [List.length_append, List.length_nil, List.length_singleton]; omega) hS ?_
                                intro v4 wx hown hgrow hat
                                have HOv4 := Lib.hid hown
                                have hb : Below B wd2 wx := (Below.refl _ _).grown hgrow hS (fun k hk => (HOv3.out.lt k hk).1)
                                have HBwx : Hid (Below B wz wx) := Lib.hid (HBwd2.out.trans (hb))
                                have hS2 : B ≤ wx.heap.size := Nat.le_trans hS hb.size
                                refine hK.out _ _ hS2 ?_
                                clear hK K hS hown hgrow hat HOv3
                                have hS := hS2
                                clear hS2 hb
                                simp only [Act.put, List.setIfInBounds_toArray, List.set_cons_zero, List.set_cons_succ]
                                refine oneH (i := 11) (oi := ⟨some 109, _, _, _, _, _⟩) rfl (by kernel_rfl) (fun K hK => ?_)
                                rw [if_pos (by rfl)]
                                refine wp_append_nums7 _ _ 24 3 rfl ii _ Tryd.underlying24 hj0 hj1 hj2 hj3 rfl (X := (([] ++ ints (E.take k)) ++ [(i : Int)])) (Y := (ints (E.drop k))) rfl (HLK.out.2.1) rfl HNN.out.2 HOv4.out (HI2.out.carry (by rw [← HBB.out]; exact HBwx.out)) (by have := HLK.out; rw [List.length_append, List.length_append, List.length_nil, List.length_singleton]; omega) hS ?_
                                intro v5 wy hown hgrow hat
                                have HOv5 := Lib.hid hown
                                have hb : Below B wx wy := (Below.refl _ _).grown hgrow hS (fun k hk => (HOv4.out.lt k hk).1)
                                have HBwy : Hid (Below B wz wy) := Lib.hid (HBwx.out.trans (hb))
                                have hS2 : B ≤ wy.heap.size := Nat.le_trans hS hb.size
                                refine hK.out _ _ hS2 ?_
                                clear hK K hS hown hgrow hat HOv4
                                have hS := hS2
                                clear hS2 hb
                                simp only [Act.put, List.setIfInBounds_toArray, List.set_cons_zero, List.set_cons_succ]
                                refine takeH (i := 12) 7 (v := v5) rfl (by kernel_rfl) (by kernel_rfl) (by kernel_rfl) rfl (fun _ _ _ h => h) (.inl ⟨by rfl, fun _ _ => by go_simp⟩) hS ?_
                                simp only [Act.put, List.setIfInBounds_toArray, List.set_cons_zero, List.set_cons_succ]
                                refine wpAnyH_done (by kernel_rfl) ?_ _
                                have HEND : Hid (RdI w C p wd hgt s (some af) F (sortF F (lowTo s.data.toList wd ci F v (i + 1))) v5 wy) := Lib.hid (HFI.out wz HRZ.out HSTOP.out v5 wy (by rw [← HBB.out]; exact HOv5.out) (by rw [← HBB.out]; exact HBwy.out))
                                clear hS
                                go_wp2_with fail
                                go_roundw
                                case rel => exact ⟨i + 1, by go_num, hil, HEND.out⟩
                                case measure => simp [intOf]; omega
                          · have hke : k = E.length := by have := HK.out; omega
                            subst hke
                            subst hu
                            have HSTOP : Hid (∀ h : E.length < E.length, ¬ fat F E[E.length] ≤ fat F i) := Lib.hid (fun h => absurd h (Nat.lt_irrefl _))
                            go_wp2_with fail
                            refine wp_region_held (S := fun _ => True) (by kernel_rfl) ?_
                            change wpAnyH _ _ _ _ _ _ _ _ wr.drew
                            obtain ⟨wz, HWZ⟩ : ∃ wz, Hid (wz = wr.drew) := ⟨_, Lib.hid rfl⟩
                            rw [← HWZ.out]
                            have hS : True := trivial
                            have HRZ : Hid (RdI w C p wd hgt s (some af) F E (.slice A7 E.length cap7) wz) := Lib.hid (by rw [HWZ.out]; exact HRD.out.carry (Below.refl _ _).drew)
                            have HNZ : Hid (Nums wz .i64 A7 (ints E)) := Lib.hid (by rw [HWZ.out]; exact HN7.out)
                            clear HWZ HRD HN7 r0
                            refine takeH (i := 0) 78 (v := .int .i64 (E.length : Int)) rfl (by kernel_rfl) (by kernel_rfl) (by kernel_rfl) rfl (fun _ _ _ h => h) (.inl ⟨by rfl, fun _ _ => by go_simp⟩) hS ?_
                            simp only [Act.put, List.setIfInBounds_toArray, List.set_cons_zero, List.set_cons_succ]
                            refine takeH (i := 1) 79 (v := .slice A7 E.length cap7) rfl (by kernel_rfl) (by kernel_rfl) (by kernel_rfl) rfl (fun _ _ _ h => h) (.inl ⟨by rfl, fun _ _ => by go_simp⟩) hS ?_
                            simp only [Act.put, List.setIfInBounds_toArray, List.set_cons_zero, List.set_cons_succ]
                            refine takeH (i := 2) 80 (v := .int .i64 (E.length : Int)) rfl (by kernel_rfl) (by kernel_rfl) (by kernel_rfl) rfl (fun _ _ _ h => h) (.inl ⟨by rfl, fun _ _ => by go_simp⟩) hS ?_
                            simp only [Act.put, List.setIfInBounds_toArray, List.set_cons_zero, List.set_cons_succ]
                            refine takeH (i := 3) 81 (v := .bool false) rfl (by kernel_rfl) (by kernel_rfl) (by kernel_rfl) rfl (fun _ _ _ h => h) (.inl ⟨by rfl, fun _ _ => by go_simp⟩) hS ?_
                            simp only [Act.put, List.setIfInBounds_toArray, List.set_cons_zero, List.set_cons_succ]
                            refine takeH (i := 4) 82 (v := .bool false) rfl (by kernel_rfl) (by kernel_rfl) (by kernel_rfl) rfl (fun _ _ _ h => h) (.inl ⟨by rfl, fun _ _ => by go_simp⟩) hS ?_
                            simp only [Act.put, List.setIfInBounds_toArray, List.set_cons_zero, List.set_cons_succ]
                            refine takeH (i := 5) 83 (v := undef) rfl (by kernel_rfl) (by kernel_rfl) (by kernel_rfl) rfl (fun _ _ _ h => h) (.inr ⟨by rfl, rfl⟩) hS ?_
                            simp only [Act.put, List.setIfInBounds_toArray, List.set_cons_zero, List.set_cons_succ]
                            refine takeH (i := 6) 84 (v := undef) rfl (by kernel_rfl) (by kernel_rfl) (by kernel_rfl) rfl (fun _ _ _ h => h) (.inr ⟨by rfl, rfl⟩) hS ?_
                            simp only [Act.put, List.setIfInBounds_toArray, List.set_cons_zero, List.set_cons_succ]
                            refine takeH (i := 7) 85 (v := undef) rfl (by kernel_rfl) (by kernel_rfl) (by kernel_rfl) rfl (fun _ _ _ h => h) (.inr ⟨by rfl, rfl⟩) hS ?_
                            simp only [Act.put, List.setIfInBounds_toArray, List.set_cons_zero, List.set_cons_succ]
                            refine takeH (i := 8) 86 (v := undef) rfl (by kernel_rfl) (by kernel_rfl) (by kernel_rfl) rfl (fun _ _ _ h => h) (.inr ⟨by rfl, rfl⟩) hS ?_
                            simp only [Act.put, List.setIfInBounds_toArray, List.set_cons_zero, List.set_cons_succ]
                            refine takeH (i := 9) 87 (v := undef) rfl (by kernel_rfl) (by kernel_rfl) (by kernel_rfl) rfl (fun _ _ _ h => h) (.inr ⟨by rfl, rfl⟩) hS ?_
                            simp only [Act.put, List.setIfInBounds_toArray, List.set_cons_zero, List.set_cons_succ]
                            refine takeH (i := 10) 88 (v := undef) rfl (by kernel_rfl) (by kernel_rfl) (by kernel_rfl) rfl (fun _ _ _ h => h) (.inr ⟨by rfl, rfl⟩) hS ?_
                            simp only [Act.put, List.setIfInBounds_toArray, List.set_cons_zero, List.set_cons_succ]
                            refine takeH (i := 11) 89 (v := undef) rfl (by kernel_rfl) (by kernel_rfl) (by kernel_rfl) rfl (fun _ _ _ h => h) (.inr ⟨by rfl, rfl⟩) hS ?_
                            simp only [Act.put, List.setIfInBounds_toArray, List.set_cons_zero, List.set_cons_succ]
                            refine takeH (i := 12) 90 (v := undef) rfl (by kernel_rfl) (by kernel_rfl) (by kernel_rfl) rfl (fun _ _ _ h => h) (.inr ⟨by rfl, rfl⟩) hS ?_
                            simp only [Act.put, List.setIfInBounds_toArray, List.set_cons_zero, List.set_cons_succ]
                            refine takeH (i := 13) 91 (v := undef) rfl (by kernel_rfl) (by kernel_rfl) (by kernel_rfl) rfl (fun _ _ _ h => h) (.inr ⟨by rfl, rfl⟩) hS ?_
                            simp only [Act.put, List.setIfInBounds_toArray, List.set_cons_zero, List.set_cons_succ]
                            refine takeH (i := 14) 92 (v := undef) rfl (by kernel_rfl) (by kernel_rfl) (by kernel_rfl) rfl (fun _ _ _ h => h) (.inr ⟨by rfl, rfl⟩) hS ?_
                            simp only [Act.put, List.setIfInBounds_toArray, List.set_cons_zero, List.set_cons_succ]
                            refine takeH (i := 15) 93 (v := undef) rfl (by kernel_rfl) (by kernel_rfl) (by kernel_rfl) rfl (fun _ _ _ h => h) (.inr ⟨by rfl, rfl⟩) hS ?_
                            simp only [Act.put, List.setIfInBounds_toArray, List.set_cons_zero, List.set_cons_succ]
                            refine takeH (i := 16) 94 (v := undef) rfl (by kernel_rfl) (by kernel_rfl) (by kernel_rfl) rfl (fun _ _ _ h => h) (.inr ⟨by rfl, rfl⟩) hS ?_
                            simp only [Act.put, List.setIfInBounds_toArray, List.set_cons_zero, List.set_cons_succ]
                            refine takeH (i := 17) 95 (v := .bool false) rfl (by kernel_rfl) (by kernel_rfl) (by kernel_rfl) rfl (fun _ _ _ h => h) (.inl ⟨by rfl, fun _ _ => by go_simp⟩) hS ?_
                            simp only [Act.put, List.setIfInBounds_toArray, List.set_cons_zero, List.set_cons_succ]
                            refine wpAnyH_done (by kernel_rfl) ?_ _
                            clear hS
                            go_wp2_with fail
                            obtain ⟨A1, c1, e1, i1, n1⟩ := nums_part7 (lo := 0) (hi := E.length) (cap := cap7) HNZ.out (by rw [ints_length]; exact HC7.out) HA7.out
                            obtain ⟨A2, c2, e2, i2, n2⟩ := nums_part7 (lo := E.length) (hi := E.length) (cap := cap7) HNZ.out (by rw [ints_length]; exact HC7.out) HA7.out
                            rw [List.drop_zero, ints_take] at i1
                            rw [Nat.sub_zero] at e1
                            rw [ints_take, List.take_length, ints_drop] at i2
                            have HSE : Hid (sliced A7 0 E.length cap7 1 = .slice A1 E.length c1 ∧ sliced A7 E.length E.length cap7 1 = .slice A2 (E.length - E.length) c2) := Lib.hid ⟨e1, e2⟩
                            have HNN : Hid ((A1 = none → c1 = 0) ∧ (A2 = none → c2 = 0)) := Lib.hid ⟨n1, n2⟩
                            have HI1 := Lib.hid i1
                            have HI2 := Lib.hid i2
                            have HLK : Hid ((ints (E.take E.length)).length = E.length ∧ (ints (E.drop E.length)).length = E.length - E.length ∧ E.length ≤ 64 ∧ E.length ≤ 64) := Lib.hid (by have := HEL.out.1; have := HK.out; rw [ints_length, ints_length, List.length_take, List.length_drop]; omega)
                            have hkc : (E.length : Int) ≤ (cap7 : Int) := by have := HC7.out; have := HK.out; omega
                            have hec : (E.length : Int) ≤ (cap7 : Int) := by have := HC7.out; omega
                            have hke : (E.length : Int) ≤ (E.length : Int) := by have := HK.out; omega
                            clear e1 e2 i1 i2 n1 n2
                            obtain ⟨B, HBB⟩ : ∃ B, Hid (B = wz.heap.size) := ⟨_, Lib.hid rfl⟩
                            refine wp_region_held (S := fun w9 => B ≤ w9.heap.size) (by kernel_rfl) ?_
                            change wpAnyH _ _ _ _ _ _ _ _ wz.drew
                            obtain ⟨wa, HWA⟩ : ∃ wa, Hid (wa = wz.drew) := ⟨_, Lib.hid rfl⟩
                            rw [← HWA.out]
                            have hS : B ≤ wa.heap.size := by rw [HWA.out, HBB.out]; exact Nat.le_refl _
                            have HBwa : Hid (Below B wz wa) := Lib.hid (by rw [HWA.out]; exact (Below.refl _ _).drew)
                            clear HWA
                            refine takeH (i := 1) 99 (v := .slice A7 E.length cap7) rfl (by kernel_rfl) (by kernel_rfl) (by kernel_rfl) rfl (fun _ _ _ h => h) (.inl ⟨by rfl, fun _ _ => by go_simp⟩) hS ?_
                            simp only [Act.put, List.setIfInBounds_toArray, List.set_cons_zero, List.set_cons_succ]
                            refine takeH (i := 2) 100 (v := .int .i64 (E.length : Int)) rfl (by kernel_rfl) (by kernel_rfl) (by kernel_rfl) rfl (fun _ _ _ h => h) (.inl ⟨by rfl, fun _ _ => by go_simp⟩) hS ?_
                            simp only [Act.put, List.setIfInBounds_toArray, List.set_cons_zero, List.set_cons_succ]
                            refine takeH (i := 5) 103 (v := .int .i64 (i : Int)) rfl (by kernel_rfl) (by kernel_rfl) (by kernel_rfl) rfl (fun _ _ _ h => h) (.inl ⟨by rfl, fun _ _ => by go_simp⟩) hS ?_
                            simp only [Act.put, List.setIfInBounds_toArray, List.set_cons_zero, List.set_cons_succ]
                            refine takeH (i := 8) 106 (v := .slice A7 E.length cap7) rfl (by kernel_rfl) (by kernel_rfl) (by kernel_rfl) rfl (fun _ _ _ h => h) (.inl ⟨by rfl, fun _ _ => by go_simp⟩) hS ?_
                            simp only [Act.put, List.setIfInBounds_toArray, List.set_cons_zero, List.set_cons_succ]
                            refine takeH (i := 9) 107 (v := .int .i64 (E.length : Int)) rfl (by kernel_rfl) (by kernel_rfl) (by kernel_rfl) rfl (fun _ _ _ h => h) (.inl ⟨by rfl, fun _ _ => by go_simp⟩) hS ?_
                            simp only [Act.put, List.setIfInBounds_toArray, List.set_cons_zero, List.set_cons_succ]
                            refine takeH (i := 3) 101 (v := .slice A1 E.length c1) rfl (by kernel_rfl) (by kernel_rfl) (by kernel_rfl) rfl (fun _ _ _ h => h) (.inl ⟨by rfl, fun _ _ => by rw [← HSE.out.1]; go_simp⟩) hS ?_
                            simp only [Act.put, List.setIfInBounds_toArray, List.set_cons_zero, List.set_cons_succ]
                            refine takeH (i := 10) 108 (v := .slice A2 (E.length - E.length) c2) rfl (by kernel_rfl) (by kernel_rfl) (by kernel_rfl) rfl (fun _ _ _ h => h) (.inl ⟨by rfl, fun _ _ => by rw [← HSE.out.2]; go_simp⟩) hS ?_
                            simp only [Act.put, List.setIfInBounds_toArray, List.set_cons_zero, List.set_cons_succ]
                            refine twoH (i := 0) (j := 6) (oi := ⟨some 98, _, _, _, _, _⟩) (oj := ⟨some 104, _, _, _, _, _⟩) rfl rfl (by kernel_rfl) (fun K hK => ?_) (fun K hK => ?_)
                            · rw [if_pos (by rfl)]
                              refine wp_empty7 _ 3 ii rfl Tryd.underlying24 hj0 ?_
                              obtain ⟨wb, HW⟩ : ∃ wb, Hid (wb = wa.alloc (.cells #[] 3)) := ⟨_, Lib.hid rfl⟩
                              obtain ⟨v0, HV⟩ : ∃ v0, Hid (v0 = Value.slice (some ⟨wa.heap.size, 0, none⟩) 0 0) := ⟨_, Lib.hid rfl⟩
                              rw [← HW.out, ← HV.out]
                              have hb : Below wa.heap.size wa wb := by rw [HW.out]; exact (Below.refl _ _).alloc (Nat.le_refl _) _
                              have HOv0 : Hid (wb.ownsRow B 3 1 v0 ([] : List Int).length (rowV [])) := Lib.hid (by rw [HW.out, HV.out]; exact World.ownsRow_made wa #[] 0 hS (by unfold maxLen; omega) rfl)
                              have HBwb : Hid (Below B wz wb) := Lib.hid (HBwa.out.trans (hb.mono hS))
                              have hS2 : B ≤ wb.heap.size := Nat.le_trans hS hb.size
                              refine hK.out _ _ hS2 ?_
                              clear hK K hS hb HW HV
                              have hS := hS2
                              clear hS2
                              simp only [Act.put, List.setIfInBounds_toArray, List.set_cons_zero, List.set_cons_succ]
                              refine twoH (i := 4) (j := 6) (oi := ⟨some 102, _, _, _, _, _⟩) (oj := ⟨some 104, _, _, _, _, _⟩) rfl rfl (by kernel_rfl) (fun K hK => ?_) (fun K hK => ?_)
                              · rw [if_pos (by rfl)]
                                refine wp_append_nums7 _ _ 24 3 rfl ii _ Tryd.underlying24 hj0 hj1 hj2 hj3 rfl (X := []) (Y := (ints (E.take E.length))) rfl (HLK.out.1) rfl HNN.out.1 HOv0.out (HI1.out.carry (by rw [← HBB.out]; exact HBwb.out)) (by have := HLK.out; rw [List.length_nil]; omega) hS ?_
                                intro v3 wc hown hgrow hat
                                have HOv3 := Lib.hid hown
                                have hb : Below B wb wc := (Below.refl _ _).grown hgrow hS (fun k hk => (HOv0.out.lt k hk).1)
                                have HBwc : Hid (Below B wz wc) := Lib.hid (HBwb.out.trans (hb))
                                have hS2 : B ≤ wc.heap.size := Nat.le_trans hS hb.size
                                refine hK.out _ _ hS2 ?_
                                clear hK K hS hown hgrow hat HOv0
                                have hS := hS2
                                clear hS2 hb
                                simp only [Act.put, List.setIfInBounds_toArray, List.set_cons_zero, List.set_cons_succ]
                                refine oneH (i := 6) (oi := ⟨some 104, _, _, _, _, _⟩) rfl (by kernel_rfl) (fun K hK => ?_)
                                rw [if_pos (by rfl)]
                                refine wp_nums 24 3 .i64 1 _ rfl [(i : Int)] Tryd.underlying24 oneInt7 (by kernel_rfl) rfl (by decide) (by decide) rfl ?_
                                intro wd2 gl hge hnn hbn
                                have HLit : Hid (Nums wd2 .i64 (some ⟨gl, 0, none⟩) [(i : Int)]) := Lib.hid hnn.out
                                have HGL : Hid (gl < wd2.heap.size) := Lib.hid (by obtain ⟨a9, e9, h9, _⟩ := hnn.out (by simp); cases e9; exact h9)
                                have HNL : Hid (v3.ownBlock ≠ some gl) := Lib.hid (fun e => by have := (HOv3.out.lt gl e).2; have := hge.out; omega)
                                have HO2 := Lib.hid (own_carry7 HOv3.out hbn.out)
                                clear HOv3
                                have HOv3 := HO2
                                clear HO2
                                have HBwd2 : Hid (Below B wz wd2) := Lib.hid (HBwc.out.trans (hbn.out.mono hS))
                                have hS2 : B ≤ wd2.heap.size := Nat.le_trans hS hbn.out.size
                                refine hK.out _ _ hS2 ?_
                                clear hK K hS hge hnn hbn
                                have hS := hS2
                                clear hS2
                                simp only [Act.put, List.setIfInBounds_toArray, List.set_cons_zero, List.set_cons_succ]
                                refine oneH (i := 7) (oi := ⟨some 105, _, _, _, _, _⟩) rfl (by kernel_rfl) (fun K hK => ?_)
                                rw [if_pos (by rfl)]
                                refine wp_append_nums7 _ _ 24 3 rfl ii _ Tryd.underlying24 hj0 hj1 hj2 hj3 rfl (X := ([] ++ ints (E.take E.length))) (Y := [(i : Int)]) rfl (rfl) rfl (fun h => by cases h) HOv3.out HLit.out (by have := HLK.out; rw [List.length_append, List.length_nil, List.length_singleton]; omega) hS ?_
                                intro v4 wx hown hgrow hat
                                have HOv4 := Lib.hid hown
                                have hb : Below B wd2 wx := (Below.refl _ _).grown hgrow hS (fun k hk => (HOv3.out.lt k hk).1)
                                have HBwx : Hid (Below B wz wx) := Lib.hid (HBwd2.out.trans (hb))
                                have hS2 : B ≤ wx.heap.size := Nat.le_trans hS hb.size
                                refine hK.out _ _ hS2 ?_
                                clear hK K hS hown hgrow hat HOv3
                                have hS := hS2
                                clear hS2 hb
                                simp only [Act.put, List.setIfInBounds_toArray, List.set_cons_zero, List.set_cons_succ]
                                refine oneH (i := 11) (oi := ⟨some 109, _, _, _, _, _⟩) rfl (by kernel_rfl) (fun K hK => ?_)
                                rw [if_pos (by rfl)]
                                refine wp_append_nums7 _ _ 24 3 rfl ii _ Tryd.underlying24 hj0 hj1 hj2 hj3 rfl (X := (([] ++ ints (E.take E.length)) ++ [(i : Int)])) (Y := (ints (E.drop E.length))) rfl (HLK.out.2.1) rfl HNN.out.2 HOv4.out (HI2.out.carry (by rw [← HBB.out]; exact HBwx.out)) (by have := HLK.out; rw [List.length_append, List.length_append, List.length_nil, List.length_singleton]; omega) hS ?_
                                intro v5 wy hown hgrow hat
                                have HOv5 := Lib.hid hown
                                have hb : Below B wx wy := (Below.refl _ _).grown hgrow hS (fun k hk => (HOv4.out.lt k hk).1)
                                have HBwy : Hid (Below B wz wy) := Lib.hid (HBwx.out.trans (hb))
                                have hS2 : B ≤ wy.heap.size := Nat.le_trans hS hb.size
                                refine hK.out _ _ hS2 ?_
                                clear hK K hS hown hgrow hat HOv4
                                have hS := hS2
                                clear hS2 hb
                                simp only [Act.put, List.setIfInBounds_toArray, List.set_cons_zero, List.set_cons_succ]
                                refine takeH (i := 12) 7 (v := v5) rfl (by kernel_rfl) (by kernel_rfl) (by kernel_rfl) rfl (fun _ _ _ h => h) (.inl ⟨by rfl, fun _ _ => by go_simp⟩) hS ?_
                                simp only [Act.put, List.setIfInBounds_toArray, List.set_cons_zero, List.set_cons_succ]
                                refine wpAnyH_done (by kernel_rfl) ?_ _
                                have HEND : Hid (RdI w C p wd hgt s (some af) F (sortF F (lowTo s.data.toList wd ci F v (i + 1))) v5 wy) := Lib.hid (HFI.out wz HRZ.out HSTOP.out v5 wy (by rw [← HBB.out]; exact HOv5.out) (by rw [← HBB.out]; exact HBwy.out))
                                clear hS
                                go_wp2_with fail
                                go_roundw
                                case rel => exact ⟨i + 1, by go_num, hil, HEND.out⟩
                                case measure => simp [intOf]; omega
                              · rw [if_pos (by rfl)]
                                refine wp_nums 24 3 .i64 1 _ rfl [(i : Int)] Tryd.underlying24 oneInt7 (by kernel_rfl) rfl (by decide) (by decide) rfl ?_
                                intro wc gl hge hnn hbn
                                have HLit : Hid (Nums wc .i64 (some ⟨gl, 0, none⟩) [(i : Int)]) := Lib.hid hnn.out
                                have HGL : Hid (gl < wc.heap.size) := Lib.hid (by obtain ⟨a9, e9, h9, _⟩ := hnn.out (by simp); cases e9; exact h9)
                                have HNL : Hid (v0.ownBlock ≠ some gl) := Lib.hid (fun e => by have := (HOv0.out.lt gl e).2; have := hge.out; omega)
                                have HO2 := Lib.hid (own_carry7 HOv0.out hbn.out)
                                clear HOv0
                                have HOv0 := HO2
                                clear HO2
                                have HBwc : Hid (Below B wz wc) := Lib.hid (HBwb.out.trans (hbn.out.mono hS))
                                have hS2 : B ≤ wc.heap.size := Nat.le_trans hS hbn.out.size
                                refine hK.out _ _ hS2 ?_
                                clear hK K hS hge hnn hbn
                                have hS := hS2
                                clear hS2
                                simp only [Act.put, List.setIfInBounds_toArray, List.set_cons_zero, List.set_cons_succ]
                                refine oneH (i := 4) (oi := ⟨some 102, _, _, _, _, _⟩) rfl (by kernel_rfl) (fun K hK => ?_)
                                rw [if_pos (by rfl)]
                                refine wp_append_nums7 _ _ 24 3 rfl ii _ Tryd.underlying24 hj0 hj1 hj2 hj3 rfl (X := []) (Y := (ints (E.take E.length))) rfl (HLK.out.1) rfl HNN.out.1 HOv0.out (HI1.out.carry (by rw [← HBB.out]; exact HBwc.out)) (by have := HLK.out; rw [List.length_nil]; omega) hS ?_
                                intro v3 wd2 hown hgrow hat
                                have HOv3 := Lib.hid hown
                                have hb : Below B wc wd2 := (Below.refl _ _).grown hgrow hS (fun k hk => (HOv0.out.lt k hk).1)
                                have HL2 : Hid (Nums wd2 .i64 (some ⟨gl, 0, none⟩) [(i : Int)]) := Lib.hid (fun hp => by
                                  obtain ⟨a9, e9, h9, hc9⟩ := HLit.out hp
                                  cases e9
                                  have hbk := hgrow.block gl HGL.out (fun e => HNL.out e.symm)
                                  refine ⟨_, rfl, Nat.lt_of_lt_of_le h9 hgrow.size, fun t z hz => ?_⟩
                                  rw [← hc9 t z hz]
                                  exact World.cell?_of_block (by rw [block_of_add]; exact hbk))
                                have HNL2 : Hid (v3.ownBlock ≠ some gl) := Lib.hid (by
                                  rcases hat with h | h
                                  · rw [h]; exact HNL.out
                                  · rw [h]; intro e; have := Option.some.inj e; have := HGL.out; omega)
                                have HGL2 : Hid (gl < wd2.heap.size) := Lib.hid (Nat.lt_of_lt_of_le HGL.out hgrow.size)
                                clear HLit HNL HGL
                                have HLit := HL2
                                have HNL := HNL2
                                have HGL := HGL2
                                clear HL2 HNL2 HGL2
                                have HBwd2 : Hid (Below B wz wd2) := Lib.hid (HBwc.out.trans (hb))
                                have hS2 : B ≤ wd2.heap.size := Nat.le_trans hS hb.size
                                refine hK.out _ _ hS2 ?_
                                clear hK K hS hown hgrow hat HOv0
                                have hS := hS2
                                clear hS2 hb
                                simp only [Act.put, List.setIfInBounds_toArray, List.set_cons_zero, List.set_cons_succ]
                                refine oneH (i := 7) (oi := ⟨some 105, _, _, _, _, _⟩) rfl (by kernel_rfl) (fun K hK => ?_)
                                rw [if_pos (by rfl)]
                                refine wp_append_nums7 _ _ 24 3 rfl ii _ Tryd.underlying24 hj0 hj1 hj2 hj3 rfl (X := ([] ++ ints (E.take E.length))) (Y := [(i : Int)]) rfl (rfl) rfl (fun h => by cases h) HOv3.out HLit.out (by have := HLK.out; rw [List.length_append, List.length_nil, List.length_singleton]; omega) hS ?_
                                intro v4 wx hown hgrow hat
                                have HOv4 := Lib.hid hown
                                have hb : Below B wd2 wx := (Below.refl _ _).grown hgrow hS (fun k hk => (HOv3.out.lt k hk).1)
                                have HBwx : Hid (Below B wz wx) := Lib.hid (HBwd2.out.trans (hb))
                                have hS2 : B ≤ wx.heap.size := Nat.le_trans hS hb.size
                                refine hK.out _ _ hS2 ?_
                                clear hK K hS hown hgrow hat HOv3
                                have hS := hS2
                                clear hS2 hb
                                simp only [Act.put, List.setIfInBounds_toArray, List.set_cons_zero, List.set_cons_succ]
                                refine oneH (i := 11) (oi := ⟨some 109, _, _, _, _, _⟩) rfl (by kernel_rfl) (fun K hK => ?_)
                                rw [if_pos (by rfl)]
                                refine wp_append_nums7 _ _ 24 3 rfl ii _ Tryd.underlying24 hj0 hj1 hj2 hj3 rfl (X := (([] ++ ints (E.take E.length)) ++ [(i : Int)])) (Y := (ints (E.drop E.length))) rfl (HLK.out.2.1) rfl HNN.out.2 HOv4.out (HI2.out.carry (by rw [← HBB.out]; exact HBwx.out)) (by have := HLK.out; rw [List.length_append, List.length_append, List.length_nil, List.length_singleton]; omega) hS ?_
                                intro v5 wy hown hgrow hat
                                have HOv5 := Lib.hid hown
                                have hb : Below B wx wy := (Below.refl _ _).grown hgrow hS (fun k hk => (HOv4.out.lt k hk).1)
                                have HBwy : Hid (Below B wz wy) := Lib.hid (HBwx.out.trans (hb))
                                have hS2 : B ≤ wy.heap.size := Nat.le_trans hS hb.size
                                refine hK.out _ _ hS2 ?_
                                clear hK K hS hown hgrow hat HOv4
                                have hS := hS2
                                clear hS2 hb
                                simp only [Act.put, List.setIfInBounds_toArray, List.set_cons_zero, List.set_cons_succ]
                                refine takeH (i := 12) 7 (v := v5) rfl (by kernel_rfl) (by kernel_rfl) (by kernel_rfl) rfl (fun _ _ _ h => h) (.inl ⟨by rfl, fun _ _ => by go_simp⟩) hS ?_
                                simp only [Act.put, List.setIfInBounds_toArray, List.set_cons_zero, List.set_cons_succ]
                                refine wpAnyH_done (by kernel_rfl) ?_ _
                                have HEND : Hid (RdI w C p wd hgt s (some af) F (sortF F (lowTo s.data.toList wd ci F v (i + 1))) v5 wy) := Lib.hid (HFI.out wz HRZ.out HSTOP.out v5 wy (by rw [← HBB.out]; exact HOv5.out) (by rw [← HBB.out]; exact HBwy.out))
                                clear hS
                                go_wp2_with fail
                                go_roundw
                                case rel => exact ⟨i + 1, by go_num, hil, HEND.out⟩
                                case measure => simp [intOf]; omega
                            · rw [if_pos (by rfl)]
                              refine wp_nums 24 3 .i64 1 _ rfl [(i : Int)] Tryd.underlying24 oneInt7 (by kernel_rfl) rfl (by decide) (by decide) rfl ?_
                              intro wb gl hge hnn hbn
                              have HLit : Hid (Nums wb .i64 (some ⟨gl, 0, none⟩) [(i : Int)]) := Lib.hid hnn.out
                              have HGL : Hid (gl < wb.heap.size) := Lib.hid (by obtain ⟨a9, e9, h9, _⟩ := hnn.out (by simp); cases e9; exact h9)
                              have HBwb : Hid (Below B wz wb) := Lib.hid (HBwa.out.trans (hbn.out.mono hS))
                              have hS2 : B ≤ wb.heap.size := Nat.le_trans hS hbn.out.size
                              refine hK.out _ _ hS2 ?_
                              clear hK K hS hge hnn hbn
                              have hS := hS2
                              clear hS2
                              simp only [Act.put, List.setIfInBounds_toArray, List.set_cons_zero, List.set_cons_succ]
                              refine oneH (i := 0) (oi := ⟨some 98, _, _, _, _, _⟩) rfl (by kernel_rfl) (fun K hK => ?_)
                              rw [if_pos (by rfl)]
                              refine wp_empty7 _ 3 ii rfl Tryd.underlying24 hj0 ?_
                              obtain ⟨wc, HW⟩ : ∃ wc, Hid (wc = wb.alloc (.cells #[] 3)) := ⟨_, Lib.hid rfl⟩
                              obtain ⟨v0, HV⟩ : ∃ v0, Hid (v0 = Value.slice (some ⟨wb.heap.size, 0, none⟩) 0 0) := ⟨_, Lib.hid rfl⟩
                              rw [← HW.out, ← HV.out]
                              have hb : Below wb.heap.size wb wc := by rw [HW.out]; exact (Below.refl _ _).alloc (Nat.le_refl _) _
                              have HOv0 : Hid (wc.ownsRow B 3 1 v0 ([] : List Int).length (rowV [])) := Lib.hid (by rw [HW.out, HV.out]; exact World.ownsRow_made wb #[] 0 hS (by unfold maxLen; omega) rfl)
                              have HNL2 : Hid (v0.ownBlock ≠ some gl) := Lib.hid (by rw [HV.out]; intro e; have := own_inj e; have := HGL.out; omega)
                              have HL2 := Lib.hid (HLit.out.carry hb)
                              have HGL2 : Hid (gl < wc.heap.size) := Lib.hid (Nat.lt_of_lt_of_le HGL.out hb.size)
                              clear HLit HGL
                              have HLit := HL2
                              have HGL := HGL2
                              have HNL := HNL2
                              clear HL2 HGL2 HNL2
                              have HBwc : Hid (Below B wz wc) := Lib.hid (HBwb.out.trans (hb.mono hS))
                              have hS2 : B ≤ wc.heap.size := Nat.le_trans hS hb.size
                              refine hK.out _ _ hS2 ?_
                              clear hK K hS hb HW HV
                              have hS := hS2
                              clear hS2
                              simp only [Act.put, List.setIfInBounds_toArray, List.set_cons_zero, List.set_cons_succ]
                              refine oneH (i := 4) (oi := ⟨some 102, _, _, _, _, _⟩) rfl (by kernel_rfl) (fun K hK => ?_)
                              rw [if_pos (by rfl)]
                              refine wp_append_nums7 _ _ 24 3 rfl ii _ Tryd.underlying24 hj0 hj1 hj2 hj3 rfl (X := []) (Y := (ints (E.take E.length))) rfl (HLK.out.1) rfl HNN.out.1 HOv0.out (HI1.out.carry (by rw [← HBB.out]; exact HBwc.out)) (by have := HLK.out; rw [List.length_nil]; omega) hS ?_
                              intro v3 wd2 hown hgrow hat
                              have HOv3 := Lib.hid hown
                              have hb : Below B wc wd2 := (Below.refl _ _).grown hgrow hS (fun k hk => (HOv0.out.lt k hk).1)
                              have HL2 : Hid (Nums wd2 .i64 (some ⟨gl, 0, none⟩) [(i : Int)]) := Lib.hid (fun hp => by
                                obtain ⟨a9, e9, h9, hc9⟩ := HLit.out hp
                                cases e9
                                have hbk := hgrow.block gl HGL.out (fun e => HNL.out e.symm)
                                refine ⟨_, rfl, Nat.lt_of_lt_of_le h9 hgrow.size, fun t z hz => ?_⟩
                                rw [← hc9 t z hz]
                                exact World.cell?_of_block (by rw [block_of_add]; exact hbk))
                              have HNL2 : Hid (v3.ownBlock ≠ some gl) := Lib.hid (by
                                rcases hat with h | h
                                · rw [h]; exact HNL.out
                                · rw [h]; intro e; have := Option.some.inj e; have := HGL.out; omega)
                              have HGL2 : Hid (gl < wd2.heap.size) := Lib.hid (Nat.lt_of_lt_of_le HGL.out hgrow.size)
                              clear HLit HNL HGL
                              have HLit := HL2
                              have HNL := HNL2
                              have HGL := HGL2
                              clear HL2 HNL2 HGL2
                              have HBwd2 : Hid (Below B wz wd2) := Lib.hid (HBwc.out.trans (hb))
                              have hS2 : B ≤ wd2.heap.size := Nat.le_trans hS hb.size
                              refine hK.out _ _ hS2 ?_
                              clear hK K hS hown hgrow hat HOv0
                              have hS := hS2
                              clear hS2 hb
                              simp only [Act.put, List.setIfInBounds_toArray, List.set_cons_zero, List.set_cons_succ]
                              refine oneH (i := 7) (oi := ⟨some 105, _, _, _, _, _⟩) rfl (by kernel_rfl) (fun K hK => ?_)
                              rw [if_pos (by rfl)]
                              refine wp_append_nums7 _ _ 24 3 rfl ii _ Tryd.underlying24 hj0 hj1 hj2 hj3 rfl (X := ([] ++ ints (E.take E.length))) (Y := [(i : Int)]) rfl (rfl) rfl (fun h => by cases h) HOv3.out HLit.out (by have := HLK.out; rw [List.length_append, List.length_nil, List.length_singleton]; omega) hS ?_
                              intro v4 wx hown hgrow hat
                              have HOv4 := Lib.hid hown
                              have hb : Below B wd2 wx := (Below.refl _ _).grown hgrow hS (fun k hk => (HOv3.out.lt k hk).1)
                              have HBwx : Hid (Below B wz wx) := Lib.hid (HBwd2.out.trans (hb))
                              have hS2 : B ≤ wx.heap.size := Nat.le_trans hS hb.size
                              refine hK.out _ _ hS2 ?_
                              clear hK K hS hown hgrow hat HOv3
                              have hS := hS2
                              clear hS2 hb
                              simp only [Act.put, List.setIfInBounds_toArray, List.set_cons_zero, List.set_cons_succ]
                              refine oneH (i := 11) (oi := ⟨some 109, _, _, _, _, _⟩) rfl (by kernel_rfl) (fun K hK => ?_)
                              rw [if_pos (by rfl)]
                              refine wp_append_nums7 _ _ 24 3 rfl ii _ Tryd.underlying24 hj0 hj1 hj2 hj3 rfl (X := (([] ++ ints (E.take E.length)) ++ [(i : Int)])) (Y := (ints (E.drop E.length))) rfl (HLK.out.2.1) rfl HNN.out.2 HOv4.out (HI2.out.carry (by rw [← HBB.out]; exact HBwx.out)) (by have := HLK.out; rw [List.length_append, List.length_append, List.length_nil, List.length_singleton]; omega) hS ?_
                              intro v5 wy hown hgrow hat
                              have HOv5 := Lib.hid hown
                              have hb : Below B wx wy := (Below.refl _ _).grown hgrow hS (fun k hk => (HOv4.out.lt k hk).1)
                              have HBwy : Hid (Below B wz wy) := Lib.hid (HBwx.out.trans (hb))
                              have hS2 : B ≤ wy.heap.size := Nat.le_trans hS hb.size
                              refine hK.out _ _ hS2 ?_
                              clear hK K hS hown hgrow hat HOv4
                              have hS := hS2
                              clear hS2 hb
                              simp only [Act.put, List.setIfInBounds_toArray, List.set_cons_zero, List.set_cons_succ]
                              refine takeH (i := 12) 7 (v := v5) rfl (by kernel_rfl) (by kernel_rfl) (by kernel_rfl) rfl (fun _ _ _ h => h) (.inl ⟨by rfl, fun _ _ => by go_simp⟩) hS ?_
                              simp only [Act.put, List.setIfInBounds_toArray, List.set_cons_zero, List.set_cons_succ]
                              refine wpAnyH_done (by kernel_rfl) ?_ _
                              have HEND : Hid (RdI w C p wd hgt s (some af) F (sortF F (lowTo s.data.toList wd ci F v (i + 1))) v5 wy) := Lib.hid (HFI.out wz HRZ.out HSTOP.out v5 wy (by rw [← HBB.out]; exact HOv5.out) (by rw [← HBB.out]; exact HBwy.out))
                              clear hS
                              go_wp2_with fail
                              go_roundw
                              case rel => exact ⟨i + 1, by go_num, hil, HEND.out⟩
                              case measure => simp [intOf]; omega
              · obtain rfl : i = s.size := by omega
                rw [← HDL.out] at HRD
                obtain ⟨A9, cap9, hu, hn9, _⟩ := own_nums7 HRD.out.row
                subst hu
                have HNN := Lib.hid hn9
                clear hn9
                go_wp2_with fail
                go_ret
                exact ⟨A9, cap9, rfl, HNN.out, HRD.out.below⟩
  · go_enter Tryd.func19, Tryd.ntmps19
    go_wp2_with fail
    go_ret
    rw [← HW1.out]
    refine HNIL.out ?_
    rw [HD.out]
    unfold downZ
    rw [if_neg (by rw [← HN.out]; exact hns)]
end Go.Proofs.YtiffgmgefpoblaaDoor
