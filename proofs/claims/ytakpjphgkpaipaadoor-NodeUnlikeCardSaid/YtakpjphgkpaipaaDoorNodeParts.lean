/-
  The walk of the statement NodeParts: it answers true, and no memory that was there has turned. Conditions: the program's calls are as NodeSpec says; errors.errorType is laid.
-/
import Derived.Test.YtakpjphgkpaipaaDoorNodeBack
namespace Go.Proofs.YtakpjphgkpaipaaDoor
open Go.RowKit

structure Caps (l : Lay3) (x : Nd) : Prop where
  a : x.keys.length ≤ l.ca
  b : x.vals.length ≤ l.cb
  c : x.kids.length ≤ l.cc
  am : l.ca ≤ maxLen
  bm : l.cb ≤ maxLen
  cm : l.cc ≤ maxLen
/-- a part of a slice of numbers, of strings -/
theorem nums_part {w : World} {A : Option Addr} {zs : List Int} {cap lo hi : Nat} (h : Nums w .i64 A zs) (h1 : lo ≤ hi) (h2 : hi ≤ zs.length) (h3 : zs.length ≤ cap) :
    ∃ A', sliced A lo hi cap 1 = .slice A' ((zs.take hi).drop lo).length (cap - lo) ∧ Nums w .i64 A' ((zs.take hi).drop lo) := by
  have hl : ((zs.take hi).drop lo).length = hi - lo := by rw [List.length_drop, List.length_take]; omega
  refine ⟨_, by unfold sliced; rw [hl], fun hp => ?_⟩
  rw [hl] at hp
  obtain ⟨a, rfl, hb, hc⟩ := h (by omega)
  rw [if_neg (by omega)]
  refine ⟨a.add (lo * 1), rfl, by rw [block_of_add]; exact hb, fun i z hz => ?_⟩
  rw [Addr.add_add]
  rw [List.getElem?_drop] at hz
  have hi2 : lo + i < hi := by
    rcases Nat.lt_or_ge (lo + i) hi with h | h
    · exact h
    · rw [List.getElem?_take, if_neg (by omega)] at hz; cases hz
  rw [List.getElem?_take, if_pos hi2] at hz
  rw [Nat.mul_one]
  exact hc (lo + i) z hz
theorem strs_part {w : World} {A : Option Addr} {ss : List ByteArray} {cap lo hi : Nat} (h : Strs w A ss.length ss) (h1 : lo ≤ hi) (h2 : hi ≤ ss.length) (h3 : ss.length ≤ cap) :
    ∃ A', sliced A lo hi cap 1 = .slice A' ((ss.take hi).drop lo).length (cap - lo) ∧ Strs w A' ((ss.take hi).drop lo).length ((ss.take hi).drop lo) := by
  have hl : ((ss.take hi).drop lo).length = hi - lo := by rw [List.length_drop, List.length_take]; omega
  refine ⟨_, by unfold sliced; rw [hl], rfl, fun hp => ?_⟩
  rw [hl] at hp
  obtain ⟨a, rfl, hb, hc⟩ := h.2 (by omega)
  rw [if_neg (by omega)]
  refine ⟨a.add (lo * 1), rfl, by rw [block_of_add]; exact hb, fun i z hz => ?_⟩
  rw [Addr.add_add]
  rw [List.getElem?_drop] at hz
  have hi2 : lo + i < hi := by
    rcases Nat.lt_or_ge (lo + i) hi with h | h
    · exact h
    · rw [List.getElem?_take, if_neg (by omega)] at hz; cases hz
  rw [List.getElem?_take, if_pos hi2] at hz
  rw [Nat.mul_one]
  exact hc (lo + i) z hz
/-- a node of parts -/
theorem part_is {w : World} {l : Lay3} {x : Nd} (h : NdIs w l x) {A B C : Option Addr} {ks : List Int} {vs : List ByteArray} {cs : List Int} {ca cb cc : Nat} (hk : Nums w .i64 A ks) (hv : Strs w B vs.length vs) (hc : Nums w .i64 C cs)
    (h1 : ks.length ≤ x.keys.length) (h2 : vs.length ≤ maxLen) (h3 : cs.length ≤ x.kids.length) (m1 : ∀ z ∈ ks, z ∈ x.keys) (m2 : ∀ v ∈ vs, v.size ≤ maxLen) (m3 : ∀ z ∈ cs, z ∈ x.kids) : NdIs w ⟨A, B, C, ca, cb, cc⟩ ⟨ks, vs, cs⟩ :=
  ⟨hk, hv, hc, Nat.le_trans h1 h.kl, h2, Nat.le_trans h3 h.cl, fun z hz => h.kw z (m1 z hz), m2, fun z hz => h.cw z (m3 z hz)⟩
theorem mem_part {α : Type} {zs : List α} {lo hi : Nat} {z : α} (h : z ∈ (zs.take hi).drop lo) : z ∈ zs := List.mem_of_mem_take (List.mem_of_mem_drop h)
theorem len_part {α : Type} (zs : List α) (lo hi : Nat) : ((zs.take hi).drop lo).length ≤ zs.length := by rw [List.length_drop, List.length_take]; omega
theorem Tryd.nodeKids (x y : Value) : Tryd.prog.built 32 [(0, x), (2, y)] = Instr.fill ((#[(0, 1), (1, 1), (2, 1)] : Array (Nat × Nat))[·]?) #[.slice none 0 0, .slice none 0 0, .slice none 0 0] [(0, x), (2, y)] := by kernel_rfl
theorem built_node_kids (A C : Option Addr) (a c ca cc : Nat) : Tryd.prog.built 32 [(0, .slice A a ca), (2, .slice C c cc)] = some #[.slice A a ca, .slice none 0 0, .slice C c cc] := by
  rw [Tryd.nodeKids]
  rfl
/-- a literal yields its cells in whatever world -/
theorem yieldsIf_built2 {P : Program} {ops : Array Oper} {S : World → Prop} {op : Oper} {a : Act} (hw : Region.wanted op (yielded ops a.tmps) = true) (t : TypeId) (i j : Nat) (x y : Operand) (ho : op.op = .build t #[(i, x), (j, y)]) (u v : Value) (c : Array Value)
    (hx : a.eval x = u) (hy : a.eval y = v) (hb : P.built t [(i, u), (j, v)] = some c) : YieldsIf P ops S op (.agg c) a :=
  .inl ⟨hw, fun w _ => by
    unfold execOp
    simp only [ho, List.map_toArray, List.map_cons, List.map_nil, hx, hy, Sem.run_bind, run_build w t #[(i, u), (j, v)] c hb, Result.andThen_ok]
    rfl⟩
theorem yieldsIf_built3 {P : Program} {ops : Array Oper} {S : World → Prop} {op : Oper} {a : Act} (hw : Region.wanted op (yielded ops a.tmps) = true) (t : TypeId) (x y z : Operand) (ho : op.op = .build t #[(0, x), (1, y), (2, z)]) (u v s : Value) (c : Array Value)
    (hx : a.eval x = u) (hy : a.eval y = v) (hz : a.eval z = s) (hb : P.built t [(0, u), (1, v), (2, s)] = some c) : YieldsIf P ops S op (.agg c) a :=
  .inl ⟨hw, fun w _ => by
    unfold execOp
    simp only [ho, List.map_toArray, List.map_cons, List.map_nil, hx, hy, hz, Sem.run_bind, run_build w t #[(0, u), (1, v), (2, s)] c hb, Result.andThen_ok]
    rfl⟩
theorem strs_made (w : World) (n i : Nat) (hi : i < n) : (w.alloc (.cells (madeCells #[Value.string ⟨#[]⟩] (n * 1)) 9)).cell? ((⟨w.heap.size, 0, none⟩ : Addr).add i) = some (.string ⟨#[]⟩) := by
  have hb : (w.alloc (.cells (madeCells #[Value.string ⟨#[]⟩] (n * 1)) 9)).heap[w.heap.size]? = some (.cells (madeCells #[Value.string ⟨#[]⟩] (n * 1)) 9 (0, 0)) := heap_alloc_last w _
  have e : ((⟨w.heap.size, 0, none⟩ : Addr).add i) = ⟨w.heap.size, 0 + i, none⟩ := Addr.add_mid _ _ _
  rw [e, cell_of_row _ _ _ _ _ _ hb, Nat.zero_add, ← Array.getElem?_toList, toList_madeCells_one, List.getElem?_replicate, if_pos (by omega)]
theorem Tryd.infoStr9 : (Tryd.prog.info? 9).map (fun i => (i.zero, i.size, i.bytes)) = some (some (.string ⟨#[]⟩), 1, 16) := by kernel_rfl
set_option maxRecDepth 100000 in
set_option maxHeartbeats 4000000 in
theorem nparts_walk (H : NodeSpec) {w : World} {l : Lay3} {x : Nd} (h : NdIs w l x) (hcap : Caps l x) (cut : Nat) (hcut : cut < 256) (hg : Laid w) :
    Calls Tryd.prog 7 #[ndV l x, .int .u8 (cut : Int)] w fun e w' => e = .returned (.bool true) ∧ Below w.heap.size w w' := by
  obtain ⟨A, B, C, ca, cb, cc⟩ := l
  obtain ⟨p, HP⟩ : ∃ p, Hid (p = w.heap.size) := ⟨_, Lib.hid rfl⟩
  obtain ⟨w1, HW⟩ : ∃ w1, Hid (w1 = w.alloc (.cells #[.slice A x.keys.length ca, .slice B x.vals.length cb, .slice C x.kids.length cc] 25)) := ⟨_, Lib.hid rfl⟩
  have HS : Hid (BoxS w p ⟨A, B, C, ca, cb, cc⟩ x w1) := Lib.hid (by
    rw [HW.out, HP.out]
    exact ⟨NdBox.new (l := ⟨A, B, C, ca, cb, cc⟩) (x := x) _, (Below.refl _ _).alloc (Nat.le_refl _) _⟩)
  have HN : Hid (∀ w', Below w.heap.size w w' → NdIs w' ⟨A, B, C, ca, cb, cc⟩ x) := Lib.hid fun w' hb => h.carry hb
  have HGK : Hid (∀ w', Below w.heap.size w w' → Laid w') := Lib.hid fun w' hb => hg.carry hb
  have HAW : Hid (∀ w', Below w.heap.size w w' → Calls Tryd.prog 8 #[] w' fun e w'' => e = .returned (.bool true) ∧ Below w'.heap.size w' w'') := Lib.hid fun w' hb => awake_any H w' (HGK.out _ hb)
  obtain ⟨fa, HFA⟩ : ∃ f : Int, Hid (f = fewZ x) := ⟨_, Lib.hid rfl⟩
  have hfa : fa = 0 ∨ fa = 1 := by rw [HFA.out]; unfold fewZ; split <;> simp
  obtain ⟨r, HR⟩ : ∃ r, Hid (r = rightN x) := ⟨_, Lib.hid rfl⟩
  obtain ⟨n, HNN⟩ : ∃ n, Hid (n = x.keys.length) := ⟨_, Lib.hid rfl⟩
  have HCAP := Lib.hid hcap
  have HCUT := Lib.hid hcut
  clear h hg hcap hcut
  go_enter Tryd.func7, Tryd.ntmps7
  go_upto_region 1 with (fail)
  rw [← HW.out, ← HP.out]
  clear HW
  go_wp2_with fail
  refine (HAW.out w1 HS.out.below).mono ?_
  rintro e w2 ⟨rfl, hb⟩
  have HS2 := Lib.hid (HS.out.carry hb)
  clear hb HS
  go_wp2_with (with_reducible refine stop_at (o := ⟨some 9, _, _, _, _, _⟩) ?_)
  refine wpList_load_nd Tryd.ndRef (by rfl) _ rfl p rfl ⟨A, B, C, ca, cb, cc⟩ x HS2.out.a ?_
  go_wp2_with fail
  refine (Few_any (HN.out _ HS2.out.below)).mono ?_
  rw [← HFA.out]
  rintro e w3 ⟨rfl, hb⟩
  have HS3 := Lib.hid (HS2.out.carry hb)
  clear hb HS2
  rcases hfa with rfl | rfl
  · go_wp2_with fail
    refine (HAW.out _ HS3.out.below).mono ?_
    rintro e w9 ⟨rfl, hb⟩
    have HB9 := Lib.hid (HS3.out.below.trans (hb.mono HS3.out.below.size))
    clear hb
    go_wp2_with fail
    go_ret
    exact ⟨rfl, HB9.out⟩
  · go_wp2_with (with_reducible refine stop_at (o := ⟨some 14, _, _, _, _, _⟩) ?_)
    refine wpList_load_nd Tryd.ndRef (by rfl) _ rfl p rfl ⟨A, B, C, ca, cb, cc⟩ x HS3.out.a ?_
    go_wp2_with fail
    refine (RefRight_any (HN.out _ HS3.out.below)).mono ?_
    rw [← HR.out]
    rintro e w4 ⟨rfl, hb⟩
    have HS4 := Lib.hid (HS3.out.carry hb)
    clear hb HS3
    cases r with
    | false =>
      go_wp2_with fail
      refine (HAW.out _ HS4.out.below).mono ?_
      rintro e w9 ⟨rfl, hb⟩
      have HB9 := Lib.hid (HS4.out.below.trans (hb.mono HS4.out.below.size))
      clear hb
      go_wp2_with fail
      go_ret
      exact ⟨rfl, HB9.out⟩
    | true =>
      have p0 : w4.cell? ⟨p, 0, none⟩ = some (.slice A x.keys.length ca) := HS4.out.a.c0
      have p2 : w4.cell? ⟨p, 2, none⟩ = some (.slice C x.kids.length cc) := HS4.out.a.c2
      rw [← HNN.out] at p0
      have HFW := Lib.hid (right_few HR.out.symm)
      have hn7 : n ≤ 7 := by rw [HNN.out]; exact HFW.out.keys
      have hcu := HCUT.out
      obtain ⟨k, HK⟩ : ∃ k : Nat, Hid ((cut : Int) % ((n : Int) + 1) = (k : Int)) := ⟨((cut : Int) % ((n : Int) + 1)).toNat, Lib.hid (by have := Int.emod_nonneg (cut : Int) (show (n : Int) + 1 ≠ 0 by omega); omega)⟩
      have HKN : Hid (k ≤ n) := Lib.hid (by have := HK.out; have := Int.emod_lt_of_pos (cut : Int) (show (0 : Int) < (n : Int) + 1 by omega); omega)
      go_upto_region 4 with (fail)
      rw [HK.out]
      clear hcu p0
      obtain ⟨n2, HN2⟩ : ∃ n2, Hid (n2 = x.kids.length) := ⟨_, Lib.hid rfl⟩
      rw [← HN2.out] at p2
      have hkn : k ≤ n := HKN.out
      have hca : n ≤ ca := by rw [HNN.out]; exact HCAP.out.a
      have hkca : k ≤ ca := by omega
      by_cases hk0 : n2 = 0
      · have hk0' : (n2 : Int) = 0 := by omega
        have HKIDS : Hid (x.kids = []) := Lib.hid (List.length_eq_zero_iff.1 (by rw [← HN2.out]; exact hk0))
        have hvn : x.vals.length = n := by
          rcases (right_parts HR.out.symm).2.2 with ⟨_, _, h⟩ | ⟨h, _⟩
          · rw [h, HNN.out]
          · exact absurd HKIDS.out h
        have hcb : n ≤ cb := by rw [← hvn]; exact HCAP.out.b
        have hkcb : k ≤ cb := by omega
        obtain ⟨P1, P2⟩ : Hid (rightN ⟨x.keys.take k, x.vals.take k, []⟩ = true) ∧ Hid (rightN ⟨x.keys.drop k, x.vals.drop k, []⟩ = true) := ⟨Lib.hid (leaf_parts HR.out.symm HKIDS.out k).1, Lib.hid (leaf_parts HR.out.symm HKIDS.out k).2⟩
        have HVN := Lib.hid hvn
        clear hk0
        go_upto_region 5 with (fail)
        clear p2 hvn
        obtain ⟨vA, HVA⟩ : ∃ v, Hid (v = sliced A 0 k ca 1) := ⟨_, Lib.hid rfl⟩
        obtain ⟨vB, HVB⟩ : ∃ v, Hid (v = sliced B 0 k cb 1) := ⟨_, Lib.hid rfl⟩
        obtain ⟨vC, HVC⟩ : ∃ v, Hid (v = sliced A k n ca 1) := ⟨_, Lib.hid rfl⟩
        obtain ⟨vD, HVD⟩ : ∃ v, Hid (v = sliced B k n cb 1) := ⟨_, Lib.hid rfl⟩
        have hb1 : Tryd.prog.built 32 [(0, vA), (1, vB)] = some #[vA, vB, .slice none 0 0] := by rw [HVA.out, HVB.out]; exact built_node2 _ _ _ _ _ _
        have hb2 : Tryd.prog.built 32 [(0, vC), (1, vD)] = some #[vC, vD, .slice none 0 0] := by rw [HVC.out, HVD.out]; exact built_node2 _ _ _ _ _ _
        refine wp_region_held (S := BoxS w p ⟨A, B, C, ca, cb, cc⟩ x) (by kernel_rfl) ?_
        change wpAnyH _ _ _ _ _ _ _ _ w4.drew
        obtain ⟨wa, HWA⟩ : ∃ wa, Hid (wa = w4.drew) := ⟨_, Lib.hid rfl⟩
        rw [← HWA.out]
        have hS : BoxS w p ⟨A, B, C, ca, cb, cc⟩ x wa := by rw [HWA.out]; exact HS4.out.carry (Below.refl _ _).drew
        clear HWA HS4
        refine takeH (i := 0) 30 (v := .pointer (some ⟨p, 0, none⟩)) rfl (by kernel_rfl) (by kernel_rfl) (by kernel_rfl) rfl (fun _ _ _ h => h) (.inl ⟨by rfl, fun _ _ => by go_simp⟩) hS ?_
        simp only [Act.put, List.setIfInBounds_toArray, List.set_cons_zero, List.set_cons_succ]
        refine takeH (i := 1) 31 (v := .slice A n ca) rfl (by kernel_rfl) (by kernel_rfl) (by kernel_rfl) rfl (fun _ _ _ h => h) (.inl ⟨by rfl, fun _ h => by have c0 : _ = some (Value.slice A x.keys.length ca) := h.a.c0; rw [← HNN.out] at c0; go_simp⟩) hS ?_
        simp only [Act.put, List.setIfInBounds_toArray, List.set_cons_zero, List.set_cons_succ]
        refine takeH (i := 2) 32 (v := .int .i64 (k : Int)) rfl (by kernel_rfl) (by kernel_rfl) (by kernel_rfl) rfl (fun _ _ _ h => h) (.inl ⟨by rfl, fun _ _ => by go_simp⟩) hS ?_
        simp only [Act.put, List.setIfInBounds_toArray, List.set_cons_zero, List.set_cons_succ]
        refine takeH (i := 3) 33 (v := vA) rfl (by kernel_rfl) (by kernel_rfl) (by kernel_rfl) rfl (fun _ _ _ h => h) (.inl ⟨by rfl, fun _ _ => by rw [HVA.out]; go_simp⟩) hS ?_
        simp only [Act.put, List.setIfInBounds_toArray, List.set_cons_zero, List.set_cons_succ]
        refine takeH (i := 4) 34 (v := .pointer (some ⟨p, 1, none⟩)) rfl (by kernel_rfl) (by kernel_rfl) (by kernel_rfl) rfl (fun _ _ _ h => h) (.inl ⟨by rfl, fun _ _ => by go_simp⟩) hS ?_
        simp only [Act.put, List.setIfInBounds_toArray, List.set_cons_zero, List.set_cons_succ]
        refine takeH (i := 5) 35 (v := .slice B n cb) rfl (by kernel_rfl) (by kernel_rfl) (by kernel_rfl) rfl (fun _ _ _ h => h) (.inl ⟨by rfl, fun _ h => by have c0 : _ = some (Value.slice B x.vals.length cb) := h.a.c1; rw [HVN.out] at c0; go_simp⟩) hS ?_
        simp only [Act.put, List.setIfInBounds_toArray, List.set_cons_zero, List.set_cons_succ]
        refine takeH (i := 6) 36 (v := .int .i64 (k : Int)) rfl (by kernel_rfl) (by kernel_rfl) (by kernel_rfl) rfl (fun _ _ _ h => h) (.inl ⟨by rfl, fun _ _ => by go_simp⟩) hS ?_
        simp only [Act.put, List.setIfInBounds_toArray, List.set_cons_zero, List.set_cons_succ]
        refine takeH (i := 7) 37 (v := vB) rfl (by kernel_rfl) (by kernel_rfl) (by kernel_rfl) rfl (fun _ _ _ h => h) (.inl ⟨by rfl, fun _ _ => by rw [HVB.out]; go_simp⟩) hS ?_
        simp only [Act.put, List.setIfInBounds_toArray, List.set_cons_zero, List.set_cons_succ]
        refine takeH (i := 8) 38 (v := .agg #[vA, vB, .slice none 0 0]) rfl (by kernel_rfl) (by kernel_rfl) (by kernel_rfl) rfl (fun _ _ _ h => h) (yieldsIf_built2 (by rfl) _ 0 1 _ _ rfl vA vB _ rfl rfl hb1) hS ?_
        simp only [Act.put, List.setIfInBounds_toArray, List.set_cons_zero, List.set_cons_succ]
        refine oneH (i := 9) (oi := ⟨some 39, _, _, _, _, _⟩) rfl (by kernel_rfl) (fun K hK => ?_)
        go_simp
        have hN := HN.out _ hS.below
        obtain ⟨A1, e1, n1⟩ := nums_part (lo := 0) (hi := k) hN.keys (by omega) (by rw [← HNN.out]; omega) (by rw [← HNN.out]; exact hca)
        obtain ⟨B1, e2, s1⟩ := strs_part (lo := 0) (hi := k) hN.vals (by omega) (by rw [HVN.out]; omega) (by rw [HVN.out]; exact hcb)
        rw [← HVA.out] at e1
        rw [← HVB.out] at e2
        have hcall := H.right (l := ⟨A1, B1, none, ca - 0, cb - 0, 0⟩) (x := ⟨(x.keys.take k).drop 0, (x.vals.take k).drop 0, []⟩) (part_is hN n1 s1 (Nums.none_ _ _ none) (len_part _ _ _) (Nat.le_trans (len_part _ _ _) hN.vl) (Nat.zero_le _) (fun z hz => mem_part hz) (fun v hv => hN.vw v (mem_part hv)) (fun z hz => by cases hz))
        rw [show rightN ⟨(x.keys.take k).drop 0, (x.vals.take k).drop 0, []⟩ = true by rw [List.drop_zero, List.drop_zero]; exact P1.out] at hcall
        rw [show ndV ⟨A1, B1, none, ca - 0, cb - 0, 0⟩ ⟨(x.keys.take k).drop 0, (x.vals.take k).drop 0, []⟩ = .agg #[vA, vB, .slice none 0 0] by rw [e1, e2]; rfl] at hcall
        clear hN n1 s1 e1 e2
        refine hcall.mono ?_
        clear hcall
        rintro e wn ⟨rfl, hb⟩
        have hS2 := hS.carry hb
        clear hb hS
        refine hK.out _ _ hS2 ?_
        clear hK K
        have hS := hS2
        clear hS2
        refine takeH (i := 10) 40 (v := .bool true) rfl (by kernel_rfl) (by kernel_rfl) (by kernel_rfl) rfl (fun _ _ _ h => h) (.inl ⟨by rfl, fun _ _ => by go_simp⟩) hS ?_
        simp only [Act.put, List.setIfInBounds_toArray, List.set_cons_zero, List.set_cons_succ]
        refine takeH (i := 11) 41 (v := .pointer (some ⟨p, 0, none⟩)) rfl (by kernel_rfl) (by kernel_rfl) (by kernel_rfl) rfl (fun _ _ _ h => h) (.inl ⟨by rfl, fun _ _ => by go_simp⟩) hS ?_
        simp only [Act.put, List.setIfInBounds_toArray, List.set_cons_zero, List.set_cons_succ]
        refine takeH (i := 12) 42 (v := .slice A n ca) rfl (by kernel_rfl) (by kernel_rfl) (by kernel_rfl) rfl (fun _ _ _ h => h) (.inl ⟨by rfl, fun _ h => by have c0 : _ = some (Value.slice A x.keys.length ca) := h.a.c0; rw [← HNN.out] at c0; go_simp⟩) hS ?_
        simp only [Act.put, List.setIfInBounds_toArray, List.set_cons_zero, List.set_cons_succ]
        refine takeH (i := 13) 43 (v := .int .i64 (k : Int)) rfl (by kernel_rfl) (by kernel_rfl) (by kernel_rfl) rfl (fun _ _ _ h => h) (.inl ⟨by rfl, fun _ _ => by go_simp⟩) hS ?_
        simp only [Act.put, List.setIfInBounds_toArray, List.set_cons_zero, List.set_cons_succ]
        refine takeH (i := 14) 44 (v := vC) rfl (by kernel_rfl) (by kernel_rfl) (by kernel_rfl) rfl (fun _ _ _ h => h) (.inl ⟨by rfl, fun _ _ => by rw [HVC.out]; go_simp⟩) hS ?_
        simp only [Act.put, List.setIfInBounds_toArray, List.set_cons_zero, List.set_cons_succ]
        refine takeH (i := 15) 45 (v := .pointer (some ⟨p, 1, none⟩)) rfl (by kernel_rfl) (by kernel_rfl) (by kernel_rfl) rfl (fun _ _ _ h => h) (.inl ⟨by rfl, fun _ _ => by go_simp⟩) hS ?_
        simp only [Act.put, List.setIfInBounds_toArray, List.set_cons_zero, List.set_cons_succ]
        refine takeH (i := 16) 46 (v := .slice B n cb) rfl (by kernel_rfl) (by kernel_rfl) (by kernel_rfl) rfl (fun _ _ _ h => h) (.inl ⟨by rfl, fun _ h => by have c0 : _ = some (Value.slice B x.vals.length cb) := h.a.c1; rw [HVN.out] at c0; go_simp⟩) hS ?_
        simp only [Act.put, List.setIfInBounds_toArray, List.set_cons_zero, List.set_cons_succ]
        refine takeH (i := 17) 47 (v := .int .i64 (k : Int)) rfl (by kernel_rfl) (by kernel_rfl) (by kernel_rfl) rfl (fun _ _ _ h => h) (.inl ⟨by rfl, fun _ _ => by go_simp⟩) hS ?_
        simp only [Act.put, List.setIfInBounds_toArray, List.set_cons_zero, List.set_cons_succ]
        refine takeH (i := 18) 48 (v := vD) rfl (by kernel_rfl) (by kernel_rfl) (by kernel_rfl) rfl (fun _ _ _ h => h) (.inl ⟨by rfl, fun _ _ => by rw [HVD.out]; go_simp⟩) hS ?_
        simp only [Act.put, List.setIfInBounds_toArray, List.set_cons_zero, List.set_cons_succ]
        refine takeH (i := 19) 49 (v := .agg #[vC, vD, .slice none 0 0]) rfl (by kernel_rfl) (by kernel_rfl) (by kernel_rfl) rfl (fun _ _ _ h => h) (yieldsIf_built2 (by rfl) _ 0 1 _ _ rfl vC vD _ rfl rfl hb2) hS ?_
        simp only [Act.put, List.setIfInBounds_toArray, List.set_cons_zero, List.set_cons_succ]
        refine oneH (i := 20) (oi := ⟨some 50, _, _, _, _, _⟩) rfl (by kernel_rfl) (fun K hK => ?_)
        rw [if_pos (by rfl)]
        go_simp
        have hN := HN.out _ hS.below
        obtain ⟨A1, e1, n1⟩ := nums_part (lo := k) (hi := n) hN.keys (by omega) (by rw [← HNN.out]; omega) (by rw [← HNN.out]; exact hca)
        obtain ⟨B1, e2, s1⟩ := strs_part (lo := k) (hi := n) hN.vals (by omega) (by rw [HVN.out]; omega) (by rw [HVN.out]; exact hcb)
        rw [← HVC.out] at e1
        rw [← HVD.out] at e2
        have hcall := H.right (l := ⟨A1, B1, none, ca - k, cb - k, 0⟩) (x := ⟨(x.keys.take n).drop k, (x.vals.take n).drop k, []⟩) (part_is hN n1 s1 (Nums.none_ _ _ none) (len_part _ _ _) (Nat.le_trans (len_part _ _ _) hN.vl) (Nat.zero_le _) (fun z hz => mem_part hz) (fun v hv => hN.vw v (mem_part hv)) (fun z hz => by cases hz))
        rw [show rightN ⟨(x.keys.take n).drop k, (x.vals.take n).drop k, []⟩ = true by rw [show x.keys.take n = x.keys by rw [HNN.out, List.take_length], show x.vals.take n = x.vals by rw [← HVN.out, List.take_length]]; exact P2.out] at hcall
        rw [show ndV ⟨A1, B1, none, ca - k, cb - k, 0⟩ ⟨(x.keys.take n).drop k, (x.vals.take n).drop k, []⟩ = .agg #[vC, vD, .slice none 0 0] by rw [e1, e2]; rfl] at hcall
        clear hN n1 s1 e1 e2
        refine hcall.mono ?_
        clear hcall
        rintro e wn ⟨rfl, hb⟩
        have hS2 := hS.carry hb
        clear hb hS
        refine hK.out _ _ hS2 ?_
        clear hK K
        have hS := hS2
        clear hS2
        refine takeH (i := 21) 51 (v := .bool true) rfl (by kernel_rfl) (by kernel_rfl) (by kernel_rfl) rfl (fun _ _ _ h => h) (.inl ⟨by rfl, fun _ _ => by go_simp⟩) hS ?_
        simp only [Act.put, List.setIfInBounds_toArray, List.set_cons_zero, List.set_cons_succ]
        refine takeH (i := 22) 4 (v := .bool true) rfl (by kernel_rfl) (by kernel_rfl) (by kernel_rfl) rfl (fun _ _ _ h => h) (.inl ⟨by rfl, fun _ _ => by go_simp⟩) hS ?_
        simp only [Act.put, List.setIfInBounds_toArray, List.set_cons_zero, List.set_cons_succ]
        refine wpAnyH_done (by kernel_rfl) ?_ _
        go_wp2_with fail
        go_ret
        exact ⟨rfl, hS.below⟩
      · have hk0' : ¬ (n2 : Int) = 0 := by omega
        have HKIDS : Hid (x.kids ≠ []) := Lib.hid fun e => hk0 (by rw [HN2.out, e]; rfl)
        have hnk : x.kids.length = n + 1 ∧ 1 ≤ n := by
          rcases (right_parts HR.out.symm).2.2 with ⟨h, _⟩ | ⟨_, _, _, h1, h2⟩
          · exact absurd h HKIDS.out
          · rw [HNN.out]; exact ⟨h2, h1⟩
        have hn1 : 1 ≤ n := hnk.2
        have hcc : n + 1 ≤ cc := by rw [← hnk.1]; exact HCAP.out.c
        obtain ⟨m, HM1⟩ : ∃ m, Hid (m = k + 1) := ⟨_, Lib.hid rfl⟩
        have hmc : m ≤ cc := by rw [HM1.out]; omega
        have hmn : m ≤ n + 1 := by rw [HM1.out]; omega
        have hkw : IntKind.i64.wrap ((k : Int) + 1) = (m : Int) := by rw [HM1.out, IntKind.wrap_i64]; omega
        have HNK := Lib.hid hnk.1
        obtain ⟨kb, HKB⟩ : ∃ kb, Hid (kb = decide (0 < k)) := ⟨_, Lib.hid rfl⟩
        have P1 : Hid (rightN ⟨x.keys.take k, [], x.kids.take m⟩ = kb) := Lib.hid (by rw [HKB.out, HM1.out]; exact inner_parts HR.out.symm HKIDS.out (by rw [← HNN.out]; exact HKN.out))
        have hkb : decide (0 < k) = kb := HKB.out.symm
        clear hk0 hnk
        go_upto_region 6 with (fail)
        clear p2
        obtain ⟨vA, HVA⟩ : ∃ v, Hid (v = sliced A 0 k ca 1) := ⟨_, Lib.hid rfl⟩
        obtain ⟨vC, HVC⟩ : ∃ v, Hid (v = sliced C 0 m cc 1) := ⟨_, Lib.hid rfl⟩
        have hb1 : Tryd.prog.built 32 [(0, vA), (2, vC)] = some #[vA, .slice none 0 0, vC] := by rw [HVA.out, HVC.out]; exact built_node_kids _ _ _ _ _ _
        have hbt := built_node
        obtain ⟨i0, hi0, hz0, hz1, hz2⟩ := info_parts Tryd.infoStr9
        obtain ⟨Ms, HMs⟩ : ∃ Ms, Hid (Ms = madeCells #[Value.string ⟨#[]⟩] (n * 1)) := ⟨_, Lib.hid rfl⟩
        have hmk : ∀ w', (Instr.makeSlice 23 (.int .i64 (n : Int)) (.int .i64 (n : Int))).run Tryd.prog w' = .ok (.slice (some ⟨w'.heap.size, 0, none⟩) n n) (w'.alloc (.cells Ms 9)) := fun w' => by
          have := run_make (P := Tryd.prog) w' 23 9 i0 _ Tryd.underlying23 hi0 hz0 .i64 .i64 n n (Int.natCast_nonneg n) (Int.le_refl _) (by rw [hz2]; omega) (by omega)
          rw [this, HMs.out, hz1]
          rfl
        clear hi0 hz0 hz1 hz2
        refine wp_region_held (S := BoxS w p ⟨A, B, C, ca, cb, cc⟩ x) (by kernel_rfl) ?_
        change wpAnyH _ _ _ _ _ _ _ _ w4.drew
        obtain ⟨wa, HWA⟩ : ∃ wa, Hid (wa = w4.drew) := ⟨_, Lib.hid rfl⟩
        rw [← HWA.out]
        have hS : BoxS w p ⟨A, B, C, ca, cb, cc⟩ x wa := by rw [HWA.out]; exact HS4.out.carry (Below.refl _ _).drew
        clear HWA HS4
        refine takeH (i := 0) 52 (v := .pointer (some ⟨p, 0, none⟩)) rfl (by kernel_rfl) (by kernel_rfl) (by kernel_rfl) rfl (fun _ _ _ h => h) (.inl ⟨by rfl, fun _ _ => by go_simp⟩) hS ?_
        simp only [Act.put, List.setIfInBounds_toArray, List.set_cons_zero, List.set_cons_succ]
        refine takeH (i := 1) 53 (v := .slice A n ca) rfl (by kernel_rfl) (by kernel_rfl) (by kernel_rfl) rfl (fun _ _ _ h => h) (.inl ⟨by rfl, fun _ h => by have c0 : _ = some (Value.slice A x.keys.length ca) := h.a.c0; rw [← HNN.out] at c0; go_simp⟩) hS ?_
        simp only [Act.put, List.setIfInBounds_toArray, List.set_cons_zero, List.set_cons_succ]
        refine takeH (i := 2) 54 (v := .int .i64 (k : Int)) rfl (by kernel_rfl) (by kernel_rfl) (by kernel_rfl) rfl (fun _ _ _ h => h) (.inl ⟨by rfl, fun _ _ => by go_simp⟩) hS ?_
        simp only [Act.put, List.setIfInBounds_toArray, List.set_cons_zero, List.set_cons_succ]
        refine takeH (i := 3) 55 (v := vA) rfl (by kernel_rfl) (by kernel_rfl) (by kernel_rfl) rfl (fun _ _ _ h => h) (.inl ⟨by rfl, fun _ _ => by rw [HVA.out]; go_simp⟩) hS ?_
        simp only [Act.put, List.setIfInBounds_toArray, List.set_cons_zero, List.set_cons_succ]
        refine takeH (i := 4) 56 (v := .pointer (some ⟨p, 2, none⟩)) rfl (by kernel_rfl) (by kernel_rfl) (by kernel_rfl) rfl (fun _ _ _ h => h) (.inl ⟨by rfl, fun _ _ => by go_simp⟩) hS ?_
        simp only [Act.put, List.setIfInBounds_toArray, List.set_cons_zero, List.set_cons_succ]
        refine takeH (i := 5) 57 (v := .slice C n2 cc) rfl (by kernel_rfl) (by kernel_rfl) (by kernel_rfl) rfl (fun _ _ _ h => h) (.inl ⟨by rfl, fun _ h => by have c0 : _ = some (Value.slice C x.kids.length cc) := h.a.c2; rw [← HN2.out] at c0; go_simp⟩) hS ?_
        simp only [Act.put, List.setIfInBounds_toArray, List.set_cons_zero, List.set_cons_succ]
        refine takeH (i := 6) 58 (v := .int .i64 (k : Int)) rfl (by kernel_rfl) (by kernel_rfl) (by kernel_rfl) rfl (fun _ _ _ h => h) (.inl ⟨by rfl, fun _ _ => by go_simp⟩) hS ?_
        simp only [Act.put, List.setIfInBounds_toArray, List.set_cons_zero, List.set_cons_succ]
        refine takeH (i := 7) 59 (v := .int .i64 (m : Int)) rfl (by kernel_rfl) (by kernel_rfl) (by kernel_rfl) rfl (fun _ _ _ h => h) (.inl ⟨by rfl, fun _ _ => by go_simp⟩) hS ?_
        simp only [Act.put, List.setIfInBounds_toArray, List.set_cons_zero, List.set_cons_succ]
        refine takeH (i := 8) 60 (v := vC) rfl (by kernel_rfl) (by kernel_rfl) (by kernel_rfl) rfl (fun _ _ _ h => h) (.inl ⟨by rfl, fun _ _ => by rw [HVC.out]; go_simp⟩) hS ?_
        simp only [Act.put, List.setIfInBounds_toArray, List.set_cons_zero, List.set_cons_succ]
        refine takeH (i := 9) 61 (v := .agg #[vA, .slice none 0 0, vC]) rfl (by kernel_rfl) (by kernel_rfl) (by kernel_rfl) rfl (fun _ _ _ h => h) (yieldsIf_built2 (by rfl) _ 0 2 _ _ rfl vA vC _ rfl rfl hb1) hS ?_
        simp only [Act.put, List.setIfInBounds_toArray, List.set_cons_zero, List.set_cons_succ]
        refine takeH (i := 11) 63 (v := .int .i64 (k : Int)) rfl (by kernel_rfl) (by kernel_rfl) (by kernel_rfl) rfl (fun _ _ _ h => h) (.inl ⟨by rfl, fun _ _ => by go_simp⟩) hS ?_
        simp only [Act.put, List.setIfInBounds_toArray, List.set_cons_zero, List.set_cons_succ]
        refine takeH (i := 12) 64 (v := .bool kb) rfl (by kernel_rfl) (by kernel_rfl) (by kernel_rfl) rfl (fun _ _ _ h => h) (.inl ⟨by rfl, fun _ _ => by go_simp⟩) hS ?_
        simp only [Act.put, List.setIfInBounds_toArray, List.set_cons_zero, List.set_cons_succ]
        refine oneH (i := 10) (oi := ⟨some 62, _, _, _, _, _⟩) rfl (by kernel_rfl) (fun K hK => ?_)
        go_simp
        have hN := HN.out _ hS.below
        obtain ⟨A1, e1, n1⟩ := nums_part (lo := 0) (hi := k) hN.keys (by omega) (by rw [← HNN.out]; omega) (by rw [← HNN.out]; exact hca)
        obtain ⟨C1, e2, s1⟩ := nums_part (lo := 0) (hi := m) hN.kids (by omega) (by rw [HNK.out]; omega) (by rw [HNK.out]; exact hcc)
        rw [← HVA.out] at e1
        rw [← HVC.out] at e2
        have hcall := H.right (l := ⟨A1, none, C1, ca - 0, 0, cc - 0⟩) (x := ⟨(x.keys.take k).drop 0, [], (x.kids.take m).drop 0⟩) (part_is hN n1 (Strs.none_ _ none) s1 (len_part _ _ _) (Nat.zero_le _) (len_part _ _ _) (fun z hz => mem_part hz) (fun v hv => by cases hv) (fun z hz => mem_part hz))
        rw [show rightN ⟨(x.keys.take k).drop 0, [], (x.kids.take m).drop 0⟩ = kb by rw [List.drop_zero, List.drop_zero]; exact P1.out] at hcall
        rw [show ndV ⟨A1, none, C1, ca - 0, 0, cc - 0⟩ ⟨(x.keys.take k).drop 0, [], (x.kids.take m).drop 0⟩ = .agg #[vA, .slice none 0 0, vC] by rw [e1, e2]; rfl] at hcall
        clear hN n1 s1 e1 e2
        refine hcall.mono ?_
        clear hcall
        rintro e wn ⟨rfl, hb⟩
        have hS2 := hS.carry hb
        clear hb hS
        refine hK.out _ _ hS2 ?_
        clear hK K
        have hS := hS2
        clear hS2
        refine takeH (i := 13) 65 (v := .bool true) rfl (by kernel_rfl) (by kernel_rfl) (by kernel_rfl) rfl (fun _ _ _ h => h) (.inl ⟨by rfl, fun _ _ => by go_simp⟩) hS ?_
        simp only [Act.put, List.setIfInBounds_toArray, List.set_cons_zero, List.set_cons_succ]
        refine takeH (i := 14) 66 (v := .bool true) rfl (by kernel_rfl) (by kernel_rfl) (by kernel_rfl) rfl (fun _ _ _ h => h) (.inl ⟨by rfl, fun _ _ => by go_simp⟩) hS ?_
        simp only [Act.put, List.setIfInBounds_toArray, List.set_cons_zero, List.set_cons_succ]
        refine takeH (i := 15) 67 (v := .pointer (some ⟨p, 0, none⟩)) rfl (by kernel_rfl) (by kernel_rfl) (by kernel_rfl) rfl (fun _ _ _ h => h) (.inl ⟨by rfl, fun _ _ => by go_simp⟩) hS ?_
        simp only [Act.put, List.setIfInBounds_toArray, List.set_cons_zero, List.set_cons_succ]
        refine takeH (i := 16) 68 (v := .slice A n ca) rfl (by kernel_rfl) (by kernel_rfl) (by kernel_rfl) rfl (fun _ _ _ h => h) (.inl ⟨by rfl, fun _ h => by have c0 : _ = some (Value.slice A x.keys.length ca) := h.a.c0; rw [← HNN.out] at c0; go_simp⟩) hS ?_
        simp only [Act.put, List.setIfInBounds_toArray, List.set_cons_zero, List.set_cons_succ]
        refine takeH (i := 17) 69 (v := .pointer (some ⟨p, 0, none⟩)) rfl (by kernel_rfl) (by kernel_rfl) (by kernel_rfl) rfl (fun _ _ _ h => h) (.inl ⟨by rfl, fun _ _ => by go_simp⟩) hS ?_
        simp only [Act.put, List.setIfInBounds_toArray, List.set_cons_zero, List.set_cons_succ]
        refine takeH (i := 18) 70 (v := .slice A n ca) rfl (by kernel_rfl) (by kernel_rfl) (by kernel_rfl) rfl (fun _ _ _ h => h) (.inl ⟨by rfl, fun _ h => by have c0 : _ = some (Value.slice A x.keys.length ca) := h.a.c0; rw [← HNN.out] at c0; go_simp⟩) hS ?_
        simp only [Act.put, List.setIfInBounds_toArray, List.set_cons_zero, List.set_cons_succ]
        refine takeH (i := 19) 71 (v := .int .i64 (n : Int)) rfl (by kernel_rfl) (by kernel_rfl) (by kernel_rfl) rfl (fun _ _ _ h => h) (.inl ⟨by rfl, fun _ _ => by go_simp⟩) hS ?_
        simp only [Act.put, List.setIfInBounds_toArray, List.set_cons_zero, List.set_cons_succ]
        refine takeH (i := 21) 73 (v := .pointer (some ⟨p, 2, none⟩)) rfl (by kernel_rfl) (by kernel_rfl) (by kernel_rfl) rfl (fun _ _ _ h => h) (.inl ⟨by rfl, fun _ _ => by go_simp⟩) hS ?_
        simp only [Act.put, List.setIfInBounds_toArray, List.set_cons_zero, List.set_cons_succ]
        refine takeH (i := 22) 74 (v := .slice C n2 cc) rfl (by kernel_rfl) (by kernel_rfl) (by kernel_rfl) rfl (fun _ _ _ h => h) (.inl ⟨by rfl, fun _ h => by have c0 : _ = some (Value.slice C x.kids.length cc) := h.a.c2; rw [← HN2.out] at c0; go_simp⟩) hS ?_
        simp only [Act.put, List.setIfInBounds_toArray, List.set_cons_zero, List.set_cons_succ]
        refine oneH (i := 20) (oi := ⟨some 72, _, _, _, _, _⟩) rfl (by kernel_rfl) (fun K hK => ?_)
        rw [if_pos (by rfl)]
        go_simp
        obtain ⟨g, HG⟩ : ∃ g, Hid (g = wn.heap.size) := ⟨_, Lib.hid rfl⟩
        obtain ⟨wm, HWM⟩ : ∃ wm, Hid (wm = wn.alloc (.cells Ms 9)) := ⟨_, Lib.hid rfl⟩
        rw [← HG.out, ← HWM.out]
        have hbm : Below wn.heap.size wn wm := by rw [HWM.out]; exact (Below.refl _ _).alloc (Nat.le_refl _) _
        have hS2 := hS.carry hbm
        have HST : Hid (Strs wm (some ⟨g, 0, none⟩) n (List.replicate n ⟨#[]⟩)) := Lib.hid ⟨by simp, fun _ => ⟨⟨g, 0, none⟩, rfl, by rw [HWM.out, HG.out]; simp, fun i s hs => by
          rw [List.getElem?_replicate] at hs
          split at hs
          · obtain rfl := Option.some.inj hs
            rw [HWM.out, HG.out, HMs.out]
            exact strs_made wn n i (by assumption)
          · cases hs⟩⟩
        clear hbm hS HWM HG
        refine hK.out _ _ hS2 ?_
        clear hK K
        have hS := hS2
        clear hS2
        refine takeH (i := 23) 75 (v := .agg #[.slice A n ca, .slice (some ⟨g, 0, none⟩) n n, .slice C n2 cc]) rfl (by kernel_rfl) (by kernel_rfl) (by kernel_rfl) rfl (fun _ _ _ h => h) (yieldsIf_built3 (by rfl) _ _ _ _ rfl (.slice A n ca) (.slice (some ⟨g, 0, none⟩) n n) (.slice C n2 cc) _ rfl rfl rfl (built_node _ _ _ _ _ _ _ _ _)) hS ?_
        simp only [Act.put, List.setIfInBounds_toArray, List.set_cons_zero, List.set_cons_succ]
        refine oneH (i := 24) (oi := ⟨some 76, _, _, _, _, _⟩) rfl (by kernel_rfl) (fun K hK => ?_)
        rw [if_pos (by rfl)]
        go_simp
        have hN := HN.out _ hS.below
        have hcall := H.right (l := ⟨A, some ⟨g, 0, none⟩, C, ca, n, cc⟩) (x := ⟨x.keys, List.replicate n ⟨#[]⟩, x.kids⟩) (part_is hN hN.keys (by rw [List.length_replicate]; exact HST.out) hN.kids (Nat.le_refl _) (by rw [List.length_replicate]; unfold maxLen; omega) (Nat.le_refl _) (fun z hz => hz) (fun v hv => by rw [(List.mem_replicate.1 hv).2]; decide) (fun z hz => hz))
        rw [inner_vals HKIDS.out (by intro e; have := congrArg List.length e; simp at this; omega)] at hcall
        rw [show ndV ⟨A, some ⟨g, 0, none⟩, C, ca, n, cc⟩ ⟨x.keys, List.replicate n ⟨#[]⟩, x.kids⟩ = .agg #[.slice A n ca, .slice (some ⟨g, 0, none⟩) n n, .slice C n2 cc] by show Value.agg #[.slice A x.keys.length ca, .slice (some ⟨g, 0, none⟩) (List.replicate n _).length n, .slice C x.kids.length cc] = _; rw [List.length_replicate, ← HNN.out, ← HN2.out]] at hcall
        clear hN
        refine hcall.mono ?_
        clear hcall
        rintro e wn ⟨rfl, hb⟩
        have hS2 := hS.carry hb
        clear hb hS
        refine hK.out _ _ hS2 ?_
        clear hK K
        have hS := hS2
        clear hS2
        refine takeH (i := 25) 77 (v := .bool true) rfl (by kernel_rfl) (by kernel_rfl) (by kernel_rfl) rfl (fun _ _ _ h => h) (.inl ⟨by rfl, fun _ _ => by go_simp⟩) hS ?_
        simp only [Act.put, List.setIfInBounds_toArray, List.set_cons_zero, List.set_cons_succ]
        refine takeH (i := 26) 78 (v := .bool true) rfl (by kernel_rfl) (by kernel_rfl) (by kernel_rfl) rfl (fun _ _ _ h => h) (.inl ⟨by rfl, fun _ _ => by go_simp⟩) hS ?_
        simp only [Act.put, List.setIfInBounds_toArray, List.set_cons_zero, List.set_cons_succ]
        refine takeH (i := 27) 4 (v := .bool true) rfl (by kernel_rfl) (by kernel_rfl) (by kernel_rfl) rfl (fun _ _ _ h => h) (.inl ⟨by rfl, fun _ _ => by go_simp⟩) hS ?_
        simp only [Act.put, List.setIfInBounds_toArray, List.set_cons_zero, List.set_cons_succ]
        refine wpAnyH_done (by kernel_rfl) ?_ _
        go_wp2_with fail
        go_ret
        exact ⟨rfl, hS.below⟩
end Go.Proofs.YtakpjphgkpaipaaDoor
