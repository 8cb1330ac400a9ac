/-
  The contract of the document's own Read for layer 9. Conditions: none beyond the premises of each theorem.
-/
import Derived.Test.YtakpjphgkpaipaaDoorNodeGrow
namespace Go.Proofs.YtakpjphgkpaipaaDoor
open Go.RowKit

theorem Tryd.infoStr9 : (Tryd.prog.info? 9).map (fun i => (i.zero, i.size, i.bytes)) = some (some (.string ⟨#[]⟩), 1, 16) := by kernel_rfl
theorem Tryd.infoInt9 : (Tryd.prog.info? 3).map (fun i => (i.zero, i.size, i.bytes)) = some (some (.int .i64 0), 1, 8) := by kernel_rfl
theorem keysR_succ (k : Nat) (r : List UInt8) : keysR (k + 1) r = keysR k r ++ [(num ((r.drop (4 * k)).take 4) : Int)] := by
  unfold keysR
  rw [List.range_succ, List.map_append]
  rfl
theorem keysR_length (k : Nat) (r : List UInt8) : (keysR k r).length = k := by simp [keysR]
/-- the first i values of k keys -/
def valsP (k i : Nat) (r : List UInt8) : List ByteArray := (List.range i).map fun j => ⟨((r.drop (4 * k + 12 * j)).take 12).toArray⟩
theorem valsP_succ (k i : Nat) (r : List UInt8) : valsP k (i + 1) r = valsP k i r ++ [⟨((r.drop (4 * k + 12 * i)).take 12).toArray⟩] := by
  unfold valsP
  rw [List.range_succ, List.map_append]
  rfl
theorem valsP_length (k i : Nat) (r : List UInt8) : (valsP k i r).length = i := by simp [valsP]
theorem ext_list (s : ByteArray) (a b : Nat) : (s.extract a b).data.toList = (s.data.toList.drop a).take (b - a) := by
  rw [ByteArray.data_extract, Array.toList_extract]
theorem Tryd.refNodeNone : Tryd.prog.built 25 [] = some #[.slice none 0 0, .slice none 0 0, .slice none 0 0] := by kernel_rfl
theorem nums_setCell {w : World} {A : Option Addr} {zs : List Int} {p : Nat} (h : Nums w .i64 A zs) (hA : ∀ a, A = some a → p ≠ a.block) (j : Nat) (u : Value) : Nums (w.setCell ⟨p, j, none⟩ u) .i64 A zs := fun hp => by
  obtain ⟨a, e, hb, hc⟩ := h hp
  exact ⟨a, e, by rw [World.heap_setCell_size9]; exact hb, fun i z hz => (World.cell?_setCell_other _ _ _ _ (fun e2 => hA a e (by have := congrArg Addr.block e2; rw [block_of_add] at this; exact this))).trans (hc i z hz)⟩
theorem strs_setCell {w : World} {A : Option Addr} {n : Nat} {ss : List ByteArray} {p : Nat} (h : Strs w A n ss) (hA : ∀ a, A = some a → p ≠ a.block) (j : Nat) (u : Value) : Strs (w.setCell ⟨p, j, none⟩ u) A n ss := ⟨h.1, fun hp => by
  obtain ⟨a, e, hb, hc⟩ := h.2 hp
  exact ⟨a, e, by rw [World.heap_setCell_size9]; exact hb, fun i z hz => (World.cell?_setCell_other _ _ _ _ (fun e2 => hA a e (by have := congrArg Addr.block e2; rw [block_of_add] at this; exact this))).trans (hc i z hz)⟩⟩
theorem NdIs.setCell {w : World} {l : Lay3} {x : Nd} {p : Nat} (h : NdIs w l x) (hA : ∀ a, l.A = some a → p ≠ a.block) (hB : ∀ a, l.B = some a → p ≠ a.block) (hC : ∀ a, l.C = some a → p ≠ a.block) (j : Nat) (u : Value) : NdIs (w.setCell ⟨p, j, none⟩ u) l x :=
  ⟨nums_setCell h.keys hA j u, strs_setCell h.vals hB j u, nums_setCell h.kids hC j u, h.kl, h.vl, h.cl, h.kw, h.vw, h.cw⟩
theorem grown_is {w : World} {x : Nd} {leaf : Bool} {k : Nat} {r : List UInt8} (hx : x = nodeR leaf k r) (hk : k ≤ 7) (hr : r.length ≤ 200) {A B C : Option Addr} {ca cb cc : Nat} (h1 : Nums w .i64 A x.keys) (h2 : Strs w B x.vals.length x.vals) (h3 : Nums w .i64 C x.kids) : NdIs w ⟨A, B, C, ca, cb, cc⟩ x := by
  refine ⟨h1, h2, h3, ?_, ?_, ?_, ?_, ?_, ?_⟩
  · rw [hx]
    show (keysR k r).length ≤ maxLen
    rw [keysR_length]; unfold maxLen; omega
  · rw [hx]
    show (if leaf = true then valsR k r else []).length ≤ maxLen
    split
    · simp [valsR]; unfold maxLen; omega
    · exact Nat.zero_le _
  · rw [hx]
    show (if leaf = true then [] else kidsR k r).length ≤ maxLen
    split
    · exact Nat.zero_le _
    · simp [kidsR]; unfold maxLen; omega
  · rw [hx]
    intro z hz
    obtain ⟨i, _, rfl⟩ := List.mem_map.1 (show z ∈ keysR k r from hz)
    have := num_lt ((r.drop (4 * i)).take 4)
    have h4 : ((r.drop (4 * i)).take 4).length ≤ 4 := by rw [List.length_take]; omega
    have h5 : 256 ^ ((r.drop (4 * i)).take 4).length ≤ 256 ^ 4 := Nat.pow_le_pow_right (by decide) h4
    have h6 : (256 : Nat) ^ 4 = 4294967296 := by decide
    omega
  · rw [hx]
    intro v hv
    have hv2 : v ∈ (if leaf = true then valsR k r else []) := hv
    split at hv2
    · obtain ⟨i, _, rfl⟩ := List.mem_map.1 hv2
      show (((r.drop (4 * k + 12 * i)).take 12).toArray).size ≤ maxLen
      simp
      unfold maxLen
      omega
    · cases hv2
  · rw [hx]
    intro z hz
    have hz2 : z ∈ (if leaf = true then [] else kidsR k r) := hz
    split at hz2
    · cases hz2
    · obtain ⟨c, _, rfl⟩ := List.mem_map.1 hz2
      have := c.toNat_lt
      omega
/-- how much of a node was read -/
def partN (leaf : Bool) (k i : Nat) (r : List UInt8) : Nd := ⟨keysR i r, if leaf then valsP k i r else [], []⟩
/-- an inner node, of whose children j were read -/
def partK (k j : Nat) (r : List UInt8) : Nd := ⟨keysR k r, [], ((r.drop (4 * k)).take j).map fun c => (c.toNat : Int)⟩
def KidsRel (w : World) (p q b k : Nat) (r : List UInt8) (i : Value) (wr : World) : Prop := ∃ j : Nat, j ≤ k + 1 ∧ i = .int .i64 (2 + 4 * (k : Int) + (j : Int)) ∧ ∃ kv vv cv, Grow w p q b kv vv cv (partK k j r) wr
def NdReadRel (w : World) (p q b k : Nat) (r : List UInt8) (leaf : Bool) (i : Value) (wr : World) : Prop := ∃ j : Nat, j ≤ k ∧ i = .int .i64 (j : Int) ∧ ∃ kv vv cv, Grow w p q b kv vv cv (partN leaf k j r) wr
/-- what Read answers of a text whose head may be -/
def RefReadPost (w : World) (x : Nd) (e : Ending) (w' : World) : Prop :=
  ∃ l, e = .returned (.tuple #[ndV l (if rightN x = true then x else Nd.empty), .bool (rightN x)]) ∧ NdIs w' l (if rightN x = true then x else Nd.empty) ∧ Below w.heap.size w w'
set_option maxRecDepth 100000 in
set_option maxHeartbeats 4000000 in
theorem RefRead_leaf (s : ByteArray) (w : World) (k : Nat) (c1 : UInt8) (h2 : 1 < s.size) (e0 : s[0]'(by omega) = 0) (e1 : s[1]'(by omega) = c1) (hk : c1.toNat = k) (hk7 : k ≤ 7) (hsz : s.size = 2 + 16 * k) :
    Calls Tryd.prog 19 #[.string s] w (RefReadPost w (nodeR true k (s.data.toList.drop 2))) := by
  have hz := Tryd.zeroRefNode
  obtain ⟨ii, hi0, hi1, hi2, hi3⟩ := info_parts Tryd.infoInt9
  obtain ⟨is, hs0, hs1, hs2, hs3⟩ := info_parts Tryd.infoStr9
  obtain ⟨P, HPP⟩ : ∃ P, Hid (P = RefReadPost w (nodeR true k (s.data.toList.drop 2))) := ⟨_, Lib.hid rfl⟩
  rw [← HPP.out]
  obtain ⟨r, HRR⟩ : ∃ r, Hid (r = s.data.toList.drop 2) := ⟨_, Lib.hid rfl⟩
  obtain ⟨n, hn⟩ : ∃ n, s.size = n := ⟨_, rfl⟩
  have hsn : (n : Int) = 2 + 16 * (k : Int) := by omega
  have HSZ : Hid (n = 2 + 16 * k) := Lib.hid (by omega)
  have hl : ¬ (n : Int) < 2 := by omega
  have h1n : (1 : Int) < (n : Int) := by omega
  have h0n : 0 < n := by omega
  have hc1 : ¬ (7 : Int) < (k : Int) := by omega
  obtain ⟨p, HP⟩ : ∃ p, Hid (p = w.heap.size) := ⟨_, Lib.hid rfl⟩
  obtain ⟨q, HQ⟩ : ∃ q, Hid (q = p + 1) := ⟨_, Lib.hid rfl⟩
  obtain ⟨b, HB⟩ : ∃ b, Hid (b = q + 1) := ⟨_, Lib.hid rfl⟩
  obtain ⟨w1, HW⟩ : ∃ w1, Hid (w1 = (w.alloc (.cells #[.slice none 0 0, .slice none 0 0, .slice none 0 0] 25)).alloc (.cells #[.slice none 0 0, .slice none 0 0, .slice none 0 0] 25)) := ⟨_, Lib.hid rfl⟩
  have HG1 : Hid (Grow w p q b (.slice none 0 0) (.slice none 0 0) (.slice none 0 0) Nd.empty w1) := Lib.hid (by
    rw [HW.out, HB.out, HQ.out, HP.out]
    refine ⟨⟨by simp [Lay3.none_, Nd.empty], by simp [Lay3.none_, Nd.empty], by simp [Lay3.none_, Nd.empty]⟩, by simp, by simp, by simp, fun j => by simp, fun j => by simp, World.ownsRow_nil _ _ _ _, World.ownsRow_nil _ _ _ _, World.ownsRow_nil _ _ _ _, (fun g hg => by cases hg), (fun g hg => by cases hg), (fun g hg => by cases hg), Nat.le_refl _, by omega, by omega, by simp, ((Below.refl _ _).alloc (Nat.le_refl _) _).alloc (by simp) _⟩)
  clear hsz
  go_enter Tryd.func19, Tryd.ntmps19
  go_upto_region 2 with (fail)
  rw [← HW.out, ← HP.out, ← HQ.out]
  clear HW HP HQ HB
  go_wp2_with fail
  go_loopw [7] (fun i wr => NdReadRel w p q b k r true i wr) (fun i _ => k - (intOf i).toNat)
  case atStart => exact ⟨0, Nat.zero_le _, rfl, _, _, _, HG1.out⟩
  case round =>
    obtain ⟨i, hi, rfl, kv, vv, cv, hgr⟩ := hrel
    have HGR := Lib.hid hgr
    clear hgr HG1
    obtain ⟨x, HX⟩ : ∃ x, Hid (x = partN true k i r) := ⟨_, Lib.hid rfl⟩
    have HXK : Hid (x.keys.length = i ∧ x.vals.length = i) := Lib.hid (by rw [HX.out]; exact ⟨keysR_length _ _, valsP_length _ _ _⟩)
    rw [← HX.out] at HGR
    by_cases hlt : i < k
    · have hik : x.keys.length ≤ 7 := by rw [HXK.out.1]; omega
      obtain ⟨a, HA⟩ : ∃ a, Hid (a = 2 + 4 * i) := ⟨_, Lib.hid rfl⟩
      have hw4 : IntKind.i64.wrap (4 * (i : Int)) = 4 * (i : Int) := by rw [IntKind.wrap_i64]; omega
      have hw5 : IntKind.i64.wrap (2 + 4 * (i : Int)) = (a : Int) := by rw [HA.out, IntKind.wrap_i64]; omega
      have han : a ≤ n := by rw [HA.out, HSZ.out]; omega
      have han2 : (a : Int) ≤ 2 + 16 * (k : Int) := by rw [HA.out]; omega
      obtain ⟨t, HT⟩ : ∃ t, Hid (t = s.extract a s.size) := ⟨_, Lib.hid rfl⟩
      have HTL : Hid (t.data.toList = r.drop (4 * i)) := Lib.hid (by
        rw [HT.out, ext_list, HRR.out, HA.out, List.drop_drop, List.take_of_length_le (by rw [List.length_drop, Array.length_toList]; exact Nat.le_refl _)])
      have htz : 4 ≤ t.size := by
        rw [HT.out, ByteArray.size_extract, hn, HA.out, HSZ.out]
        omega
      obtain ⟨z, HZ⟩ : ∃ z : Int, Hid (z = ((num (t.data.toList.take 4) : Nat) : Int)) := ⟨_, Lib.hid rfl⟩
      have HZ2 : Hid (keysR (i + 1) r = x.keys ++ [z]) := Lib.hid (by rw [keysR_succ, HZ.out, HTL.out, HX.out]; rfl)
      go_upto_region 13 with (fail)
      refine wp_region_head (fun w9 => w9.cell? ⟨q, 0, none⟩ = some kv) 11 (by kernel_rfl) (by kernel_rfl) (fun wa HWA => ?_)
      have hS : wa.cell? ⟨q, 0, none⟩ = some kv := by rw [HWA.out]; exact HGR.out.c0
      have hq : q < wa.heap.size := by rw [HWA.out]; exact Nat.lt_of_lt_of_le HGR.out.qb HGR.out.sz
      have HBA : Hid (Below wr.heap.size wr wa) := Lib.hid (by rw [HWA.out]; exact (Below.refl _ _).drew)
      clear HWA
      refine takeH (i := 0) 48 (v := .pointer (some ⟨q, 0, none⟩)) rfl (by kernel_rfl) (by kernel_rfl) (by kernel_rfl) rfl (fun _ _ _ h => h) (.inl ⟨by rfl, fun _ _ => by go_simp⟩) hS ?_
      simp only [Act.put, List.setIfInBounds_toArray, List.set_cons_zero, List.set_cons_succ]
      refine takeH (i := 1) 49 (v := kv) rfl (by kernel_rfl) (by kernel_rfl) (by kernel_rfl) rfl (fun _ _ _ h => h) (.inl ⟨by rfl, fun _ h => by have c0 := h; go_simp⟩) hS ?_
      simp only [Act.put, List.setIfInBounds_toArray, List.set_cons_zero, List.set_cons_succ]
      refine takeH (i := 2) 50 (v := .string s) rfl (by kernel_rfl) (by kernel_rfl) (by kernel_rfl) rfl (fun _ _ _ h => h) (.inl ⟨by rfl, fun _ _ => by go_simp⟩) hS ?_
      simp only [Act.put, List.setIfInBounds_toArray, List.set_cons_zero, List.set_cons_succ]
      refine takeH (i := 3) 51 (v := .int .i64 (i : Int)) rfl (by kernel_rfl) (by kernel_rfl) (by kernel_rfl) rfl (fun _ _ _ h => h) (.inl ⟨by rfl, fun _ _ => by go_simp⟩) hS ?_
      simp only [Act.put, List.setIfInBounds_toArray, List.set_cons_zero, List.set_cons_succ]
      refine takeH (i := 4) 52 (v := .int .i64 (4 * (i : Int))) rfl (by kernel_rfl) (by kernel_rfl) (by kernel_rfl) rfl (fun _ _ _ h => h) (.inl ⟨by rfl, fun _ _ => by go_simp⟩) hS ?_
      simp only [Act.put, List.setIfInBounds_toArray, List.set_cons_zero, List.set_cons_succ]
      refine takeH (i := 5) 53 (v := .int .i64 (a : Int)) rfl (by kernel_rfl) (by kernel_rfl) (by kernel_rfl) rfl (fun _ _ _ h => h) (.inl ⟨by rfl, fun _ _ => by go_simp⟩) hS ?_
      simp only [Act.put, List.setIfInBounds_toArray, List.set_cons_zero, List.set_cons_succ]
      refine takeH (i := 6) 54 (v := .string t) rfl (by kernel_rfl) (by kernel_rfl) (by kernel_rfl) rfl (fun _ _ _ h => h) (.inl ⟨by rfl, fun _ _ => by rw [HT.out]; go_simp⟩) hS ?_
      simp only [Act.put, List.setIfInBounds_toArray, List.set_cons_zero, List.set_cons_succ]
      refine oneH (i := 7) (oi := ⟨some 55, _, _, _, _, _⟩) rfl (by kernel_rfl) (fun K hK => ?_)
      go_simp
      refine (RefGet_nat t 4 _ (by decide) htz).mono ?_
      rw [← HZ.out]
      rintro e wn ⟨rfl, rfl⟩
      refine hK.out _ _ hS ?_
      clear hK K
      try simp only [Act.put, List.setIfInBounds_toArray, List.set_cons_zero, List.set_cons_succ]
      refine oneH (i := 8) (oi := ⟨some 56, _, _, _, _, _⟩) rfl (by kernel_rfl) (fun K hK => ?_)
      go_simp
      obtain ⟨g5, HG5⟩ : ∃ g5, Hid (g5 = wa.heap.size) := ⟨_, Lib.hid rfl⟩
      obtain ⟨w5, HW5⟩ : ∃ w5, Hid (w5 = World.alloc wa (.cells #[.int .i64 z] 3)) := ⟨_, Lib.hid rfl⟩
      rw [← HG5.out, ← HW5.out]
      have hb5 : Below wa.heap.size wa w5 := by rw [HW5.out]; exact (Below.refl _ _).alloc (Nat.le_refl _) _
      have HB5 : Hid (Below wr.heap.size wr w5) := Lib.hid (HBA.out.trans (hb5.mono HBA.out.size))
      have hS2 : w5.cell? ⟨q, 0, none⟩ = some kv := (hb5.cell (p := ⟨q, 0, none⟩) hq).trans hS
      have hn5 : ∀ (j : Nat) u, ([.int .i64 z] : List Value)[j]? = some u → w5.cell? ((⟨g5, 0, none⟩ : Addr).add j) = some u := by rw [HW5.out, HG5.out]; exact World.news_of_block (cs := #[.int .i64 z]) (heap_alloc_last wa _)
      have HGW := Lib.hid (HGR.out.carry HB5.out)
      have hq5 : q < w5.heap.size := Nat.lt_of_lt_of_le hq hb5.size
      clear HW5 HG5 hb5 hS
      refine hK.out _ _ hS2 ?_
      clear hK K
      have hS := hS2
      clear hS2
      try simp only [Act.put, List.setIfInBounds_toArray, List.set_cons_zero, List.set_cons_succ]
      refine oneH (i := 9) rfl (by kernel_rfl) (fun K hK => ?_)
      refine step_append_lies _ rfl _ _ _ rfl b 3 ii _ 1 8 Tryd.underlying22 hi0 hi1 hi2 hi3 rfl (by decide) kv x.keys.length (x.keys.map (Value.int .i64)) rfl HGW.out.k ⟨g5, 0, none⟩ 1 1 [.int .i64 z] rfl rfl hn5 (fun u hu => by rw [List.mem_singleton.1 hu]; rfl) (by decide) (by unfold maxLen; omega) (by omega) (HGW.out.sz) w5.heap.size rfl ?_
      intro gg cap w6 hown hgrow hat _
      have hrow : kv.ownBlock ≠ some q := fun e => by
        have := (HGW.out.k.lt q e).1
        have := HGW.out.qb
        omega
      have hS2 : w6.cell? ⟨q, 0, none⟩ = some kv := (hgrow.cell_far _ hq5 (Ne.symm hrow)).trans hS
      have hfz : w6.frozen? ⟨q, 0, none⟩ = false := (hgrow.frozen_far _ hq5 (Ne.symm hrow)).trans (HGW.out.fz 0)
      have HPU := Lib.hid (HGW.out.push0 (Below.refl _ _) hgrow hown hat (Nat.le_refl _))
      clear hown hgrow hat hrow hS hn5 hq5
      refine hK.out _ _ hS2 ?_
      clear hK K
      have hS := hS2
      clear hS2
      try simp only [Act.put, List.setIfInBounds_toArray]
      refine takeH (i := 10) 58 (v := .pointer (some ⟨q, 0, none⟩)) rfl (by kernel_rfl) (by kernel_rfl) (by kernel_rfl) rfl (fun _ _ _ h => h) (.inl ⟨by rfl, fun _ _ => by go_simp⟩) hS ?_
      simp only [Act.put]
      refine wpAnyH_done (by kernel_rfl) ?_ _
      unfold HeadPost
      simp only [List.drop_succ_cons, List.drop_zero]
      obtain ⟨w7, HW7⟩ : ∃ w7, Hid (w7 = w6.setCell ⟨q, 0, none⟩ (.slice (some ⟨gg, 0, none⟩) (x.keys.length + 1) cap)) := ⟨_, Lib.hid rfl⟩
      obtain ⟨y, HY⟩ : ∃ y : Nd, Hid (y = ⟨x.keys ++ [z], x.vals, x.kids⟩) := ⟨_, Lib.hid rfl⟩
      have HGY : Hid (Grow w p q b (.slice (some ⟨gg, 0, none⟩) (x.keys.length + 1) cap) vv cv y w7) := Lib.hid (by rw [HW7.out, HY.out]; exact HPU.out)
      have hyl : y.vals.length ≤ 7 := by rw [HY.out]; show x.vals.length ≤ 7; rw [HXK.out.2]; omega
      obtain ⟨a2, HA2⟩ : ∃ a2, Hid (a2 = 2 + 4 * k + 12 * i) := ⟨_, Lib.hid rfl⟩
      obtain ⟨c2, HC2⟩ : ∃ c2, Hid (c2 = 2 + 4 * k + 12 * i + 12) := ⟨_, Lib.hid rfl⟩
      have hv1 : IntKind.i64.wrap (4 * (k : Int)) = 4 * (k : Int) := by rw [IntKind.wrap_i64]; omega
      have hv2 : IntKind.i64.wrap (2 + 4 * (k : Int)) = 2 + 4 * (k : Int) := by rw [IntKind.wrap_i64]; omega
      have hv3 : IntKind.i64.wrap (12 * (i : Int)) = 12 * (i : Int) := by rw [IntKind.wrap_i64]; omega
      have hv4 : IntKind.i64.wrap (2 + 4 * (k : Int) + 12 * (i : Int)) = (a2 : Int) := by rw [HA2.out, IntKind.wrap_i64]; omega
      have hv5 : IntKind.i64.wrap ((a2 : Int) + 12) = (c2 : Int) := by rw [HA2.out, HC2.out, IntKind.wrap_i64]; omega
      have hac : a2 ≤ c2 := by rw [HA2.out, HC2.out]; omega
      have hcn : c2 ≤ n := by rw [HC2.out, HSZ.out]; omega
      have hcn2 : (c2 : Int) ≤ 2 + 16 * (k : Int) := by rw [HC2.out]; omega
      obtain ⟨v0, HT2⟩ : ∃ v0, Hid (v0 = s.extract a2 c2) := ⟨_, Lib.hid rfl⟩
      have HV2 : Hid (valsP k (i + 1) r = y.vals ++ [v0]) := Lib.hid (by
        have e : v0 = ⟨((r.drop (4 * k + 12 * i)).take 12).toArray⟩ := by
          have := ext_list s a2 c2
          apply ByteArray.ext
          apply Array.toList_inj.1
          rw [HT2.out, this, HRR.out, List.drop_drop, HA2.out, HC2.out]
          congr 1
          · omega
          · congr 1; omega
        rw [valsP_succ, e, HY.out, HX.out]
        rfl)
      clear HGR HBA HB5 HGW HPU
      go_upto_region 15 with (fail)
      rw [← HW7.out]
      refine wp_region_head (fun w10 => w10.cell? ⟨q, 1, none⟩ = some vv) 20 (by kernel_rfl) (by kernel_rfl) (fun wa HWA => ?_)
      have hS : wa.cell? ⟨q, 1, none⟩ = some vv := by rw [HWA.out]; exact HGY.out.c1
      have hq : q < wa.heap.size := by rw [HWA.out]; exact Nat.lt_of_lt_of_le HGY.out.qb HGY.out.sz
      have HBA : Hid (Below w7.heap.size w7 wa) := Lib.hid (by rw [HWA.out]; exact (Below.refl _ _).drew)
      clear HWA
      refine takeH (i := 0) 62 (v := .pointer (some ⟨q, 1, none⟩)) rfl (by kernel_rfl) (by kernel_rfl) (by kernel_rfl) rfl (fun _ _ _ h => h) (.inl ⟨by rfl, fun _ _ => by go_simp⟩) hS ?_
      simp only [Act.put, List.setIfInBounds_toArray, List.set_cons_zero, List.set_cons_succ]
      refine takeH (i := 1) 63 (v := vv) rfl (by kernel_rfl) (by kernel_rfl) (by kernel_rfl) rfl (fun _ _ _ h => h) (.inl ⟨by rfl, fun _ h => by have c0 := h; go_simp⟩) hS ?_
      simp only [Act.put, List.setIfInBounds_toArray, List.set_cons_zero, List.set_cons_succ]
      refine takeH (i := 2) 64 (v := .string s) rfl (by kernel_rfl) (by kernel_rfl) (by kernel_rfl) rfl (fun _ _ _ h => h) (.inl ⟨by rfl, fun _ _ => by go_simp⟩) hS ?_
      simp only [Act.put, List.setIfInBounds_toArray, List.set_cons_zero, List.set_cons_succ]
      refine takeH (i := 3) 65 (v := .int .i64 (k : Int)) rfl (by kernel_rfl) (by kernel_rfl) (by kernel_rfl) rfl (fun _ _ _ h => h) (.inl ⟨by rfl, fun _ _ => by go_simp⟩) hS ?_
      simp only [Act.put, List.setIfInBounds_toArray, List.set_cons_zero, List.set_cons_succ]
      refine takeH (i := 4) 66 (v := .int .i64 (4 * (k : Int))) rfl (by kernel_rfl) (by kernel_rfl) (by kernel_rfl) rfl (fun _ _ _ h => h) (.inl ⟨by rfl, fun _ _ => by go_simp⟩) hS ?_
      simp only [Act.put, List.setIfInBounds_toArray, List.set_cons_zero, List.set_cons_succ]
      refine takeH (i := 5) 67 (v := .int .i64 (2 + 4 * (k : Int))) rfl (by kernel_rfl) (by kernel_rfl) (by kernel_rfl) rfl (fun _ _ _ h => h) (.inl ⟨by rfl, fun _ _ => by go_simp⟩) hS ?_
      simp only [Act.put, List.setIfInBounds_toArray, List.set_cons_zero, List.set_cons_succ]
      refine takeH (i := 6) 68 (v := .int .i64 (i : Int)) rfl (by kernel_rfl) (by kernel_rfl) (by kernel_rfl) rfl (fun _ _ _ h => h) (.inl ⟨by rfl, fun _ _ => by go_simp⟩) hS ?_
      simp only [Act.put, List.setIfInBounds_toArray, List.set_cons_zero, List.set_cons_succ]
      refine takeH (i := 7) 69 (v := .int .i64 (12 * (i : Int))) rfl (by kernel_rfl) (by kernel_rfl) (by kernel_rfl) rfl (fun _ _ _ h => h) (.inl ⟨by rfl, fun _ _ => by go_simp⟩) hS ?_
      simp only [Act.put, List.setIfInBounds_toArray, List.set_cons_zero, List.set_cons_succ]
      refine takeH (i := 8) 70 (v := .int .i64 (a2 : Int)) rfl (by kernel_rfl) (by kernel_rfl) (by kernel_rfl) rfl (fun _ _ _ h => h) (.inl ⟨by rfl, fun _ _ => by go_simp⟩) hS ?_
      simp only [Act.put, List.setIfInBounds_toArray, List.set_cons_zero, List.set_cons_succ]
      refine takeH (i := 9) 71 (v := .int .i64 (k : Int)) rfl (by kernel_rfl) (by kernel_rfl) (by kernel_rfl) rfl (fun _ _ _ h => h) (.inl ⟨by rfl, fun _ _ => by go_simp⟩) hS ?_
      simp only [Act.put, List.setIfInBounds_toArray, List.set_cons_zero, List.set_cons_succ]
      refine takeH (i := 10) 72 (v := .int .i64 (4 * (k : Int))) rfl (by kernel_rfl) (by kernel_rfl) (by kernel_rfl) rfl (fun _ _ _ h => h) (.inl ⟨by rfl, fun _ _ => by go_simp⟩) hS ?_
      simp only [Act.put, List.setIfInBounds_toArray, List.set_cons_zero, List.set_cons_succ]
      refine takeH (i := 11) 73 (v := .int .i64 (2 + 4 * (k : Int))) rfl (by kernel_rfl) (by kernel_rfl) (by kernel_rfl) rfl (fun _ _ _ h => h) (.inl ⟨by rfl, fun _ _ => by go_simp⟩) hS ?_
      simp only [Act.put, List.setIfInBounds_toArray, List.set_cons_zero, List.set_cons_succ]
      refine takeH (i := 12) 74 (v := .int .i64 (i : Int)) rfl (by kernel_rfl) (by kernel_rfl) (by kernel_rfl) rfl (fun _ _ _ h => h) (.inl ⟨by rfl, fun _ _ => by go_simp⟩) hS ?_
      simp only [Act.put, List.setIfInBounds_toArray, List.set_cons_zero, List.set_cons_succ]
      refine takeH (i := 13) 75 (v := .int .i64 (12 * (i : Int))) rfl (by kernel_rfl) (by kernel_rfl) (by kernel_rfl) rfl (fun _ _ _ h => h) (.inl ⟨by rfl, fun _ _ => by go_simp⟩) hS ?_
      simp only [Act.put, List.setIfInBounds_toArray, List.set_cons_zero, List.set_cons_succ]
      refine takeH (i := 14) 76 (v := .int .i64 (a2 : Int)) rfl (by kernel_rfl) (by kernel_rfl) (by kernel_rfl) rfl (fun _ _ _ h => h) (.inl ⟨by rfl, fun _ _ => by go_simp⟩) hS ?_
      simp only [Act.put, List.setIfInBounds_toArray, List.set_cons_zero, List.set_cons_succ]
      refine takeH (i := 15) 77 (v := .int .i64 (c2 : Int)) rfl (by kernel_rfl) (by kernel_rfl) (by kernel_rfl) rfl (fun _ _ _ h => h) (.inl ⟨by rfl, fun _ _ => by go_simp⟩) hS ?_
      simp only [Act.put, List.setIfInBounds_toArray, List.set_cons_zero, List.set_cons_succ]
      refine takeH (i := 16) 78 (v := .string v0) rfl (by kernel_rfl) (by kernel_rfl) (by kernel_rfl) rfl (fun _ _ _ h => h) (.inl ⟨by rfl, fun _ _ => by rw [HT2.out]; go_simp⟩) hS ?_
      simp only [Act.put, List.setIfInBounds_toArray, List.set_cons_zero, List.set_cons_succ]
      refine oneH (i := 17) (oi := ⟨some 79, _, _, _, _, _⟩) rfl (by kernel_rfl) (fun K hK => ?_)
      go_simp
      obtain ⟨g5, HG5⟩ : ∃ g5, Hid (g5 = wa.heap.size) := ⟨_, Lib.hid rfl⟩
      obtain ⟨w9, HW5⟩ : ∃ w9, Hid (w9 = World.alloc wa (.cells #[.string v0] 9)) := ⟨_, Lib.hid rfl⟩
      rw [← HG5.out, ← HW5.out]
      have hb5 : Below wa.heap.size wa w9 := by rw [HW5.out]; exact (Below.refl _ _).alloc (Nat.le_refl _) _
      have HB5 : Hid (Below w7.heap.size w7 w9) := Lib.hid (HBA.out.trans (hb5.mono HBA.out.size))
      have hS2 : w9.cell? ⟨q, 1, none⟩ = some vv := (hb5.cell (p := ⟨q, 1, none⟩) hq).trans hS
      have hn5 : ∀ (j : Nat) u, ([.string v0] : List Value)[j]? = some u → w9.cell? ((⟨g5, 0, none⟩ : Addr).add j) = some u := by rw [HW5.out, HG5.out]; exact World.news_of_block (cs := #[.string v0]) (heap_alloc_last wa _)
      have HGW := Lib.hid (HGY.out.carry HB5.out)
      have hq5 : q < w9.heap.size := Nat.lt_of_lt_of_le hq hb5.size
      clear HW5 HG5 hb5 hS
      refine hK.out _ _ hS2 ?_
      clear hK K
      have hS := hS2
      clear hS2
      try simp only [Act.put, List.setIfInBounds_toArray, List.set_cons_zero, List.set_cons_succ]
      refine oneH (i := 18) rfl (by kernel_rfl) (fun K hK => ?_)
      refine step_append_lies _ rfl _ _ _ rfl b 9 is _ 1 16 Tryd.underlying23 hs0 hs1 hs2 hs3 rfl (by decide) vv y.vals.length (y.vals.map Value.string) rfl HGW.out.v ⟨g5, 0, none⟩ 1 1 [.string v0] rfl rfl hn5 (fun u hu => by rw [List.mem_singleton.1 hu]; rfl) (by decide) (by unfold maxLen; omega) (by omega) (HGW.out.sz) w9.heap.size rfl ?_
      intro gg2 cap2 w8 hown hgrow hat _
      have hrow : vv.ownBlock ≠ some q := fun e => by
        have := (HGW.out.v.lt q e).1
        have := HGW.out.qb
        omega
      have hS2 : w8.cell? ⟨q, 1, none⟩ = some vv := (hgrow.cell_far _ hq5 (Ne.symm hrow)).trans hS
      have hfz : w8.frozen? ⟨q, 1, none⟩ = false := (hgrow.frozen_far _ hq5 (Ne.symm hrow)).trans (HGW.out.fz 1)
      have HPV := Lib.hid (HGW.out.push1 (Below.refl _ _) hgrow hown hat (Nat.le_refl _))
      clear hown hgrow hat hrow hS hn5 hq5
      refine hK.out _ _ hS2 ?_
      clear hK K
      have hS := hS2
      clear hS2
      try simp only [Act.put, List.setIfInBounds_toArray]
      refine takeH (i := 19) 81 (v := .pointer (some ⟨q, 1, none⟩)) rfl (by kernel_rfl) (by kernel_rfl) (by kernel_rfl) rfl (fun _ _ _ h => h) (.inl ⟨by rfl, fun _ _ => by go_simp⟩) hS ?_
      simp only [Act.put]
      refine wpAnyH_done (by kernel_rfl) ?_ _
      unfold HeadPost
      simp only [List.drop_succ_cons, List.drop_zero]
      go_wp2_with fail
      go_roundw
      case rel =>
        have e : partN true k (i + 1) r = ⟨y.keys, y.vals ++ [v0], y.kids⟩ := by
          show (⟨keysR (i + 1) r, valsP k (i + 1) r, []⟩ : Nd) = _
          rw [HZ2.out, HV2.out, HY.out, HX.out]
          rfl
        have key := HPV.out
        rw [← e] at key
        exact ⟨i + 1, hlt, by go_num, _, _, _, key⟩
      case measure => simp [intOf]; omega
    · obtain rfl : i = k := by omega
      have HXN : Hid (x = nodeR true i r) := Lib.hid (by rw [HX.out]; rfl)
      go_wp2_with fail
      go_loopw [8] (fun j wr => j = .int .i64 (2 + 4 * (i : Int)) ∧ Grow w p q b kv vv cv x wr) (fun _ _ => 0)
      case atStart => exact ⟨rfl, HGR.out⟩
      case round =>
        obtain ⟨rfl, hgr⟩ := hrel
        have HGF := Lib.hid hgr
        clear hgr HGR
        rcases (show i = 0 ∨ 0 < i by omega) with h0 | h0
        case' inl => have hcmp : ¬ (2 + 4 * (i : Int)) < 2 + 16 * (i : Int) := by omega
        case' inr => have hcmp : (2 + 4 * (i : Int)) < 2 + 16 * (i : Int) := by omega
        all_goals
          clear h0
          go_upto_region 20 with (fail)
          obtain ⟨A, ca, rfl, hnk⟩ := owned_nums HGF.out.k
          obtain ⟨B, cb, rfl, hnv⟩ := owned_strs HGF.out.v
          obtain ⟨C, cc, rfl, hnc⟩ := owned_nums HGF.out.c
          have HFA : Hid (∀ a, A = some a → p ≠ a.block) := Lib.hid (by rintro a rfl; have h1 := (HGF.out.k.lt a.block rfl).1; have h2 := HGF.out.qb; have h3 := HGF.out.pq; omega)
          have HFB : Hid (∀ a, B = some a → p ≠ a.block) := Lib.hid (by rintro a rfl; have h1 := (HGF.out.v.lt a.block rfl).1; have h2 := HGF.out.qb; have h3 := HGF.out.pq; omega)
          have HFC : Hid (∀ a, C = some a → p ≠ a.block) := Lib.hid (by rintro a rfl; have h1 := (HGF.out.c.lt a.block rfl).1; have h2 := HGF.out.qb; have h3 := HGF.out.pq; omega)
          have hbx : NdBox wr q ⟨A, B, C, ca, cb, cc⟩ x := ⟨HGF.out.c0, HGF.out.c1, HGF.out.c2⟩
          have HIS : Hid (NdIs wr ⟨A, B, C, ca, cb, cc⟩ x) := Lib.hid (grown_is HXN.out (by omega) (by rw [HRR.out, List.length_drop, Array.length_toList]; show s.size - 2 ≤ 200; rw [hn, HSZ.out]; omega) hnk hnv hnc)
          have HBX := Lib.hid hbx
          have hp0 := HGF.out.res.c0
          have hp1 := HGF.out.res.c1
          have hp2 := HGF.out.res.c2
          have HRES := Lib.hid HGF.out.res
          have HFP := Lib.hid HGF.out.fp
          have HBL := Lib.hid HGF.out.below
          have HPL := Lib.hid HGF.out.lo
          have HPW := Lib.hid HGF.out.pq
          have HQW : Hid (q < wr.heap.size) := Lib.hid (Nat.lt_of_lt_of_le HGF.out.qb HGF.out.sz)
          clear hbx hnk hnv hnc hp0 hp1 hp2 HGF
          go_wp2_with (with_reducible refine stop_at (o := ⟨some 105, _, _, _, _, _⟩) ?_)
          refine wpList_load_nd Tryd.ndRef (by rfl) _ rfl q rfl ⟨A, B, C, ca, cb, cc⟩ x HBX.out ?_
          go_wp2_with fail
          refine (RefRight_any HIS.out).mono ?_
          obtain ⟨rr, HRX⟩ : ∃ rr, Hid (rr = rightN x) := ⟨_, Lib.hid rfl⟩
          rw [← HRX.out]
          rintro e w8 ⟨rfl, hb⟩
          have HRES8 := Lib.hid (HRES.out.carry hb HRES.out.lt)
          have HBX8 := Lib.hid (HBX.out.carry hb HBX.out.lt)
          have HIS8 := Lib.hid (HIS.out.carry hb)
          have HB8 := Lib.hid (HBL.out.trans (hb.mono HBL.out.size))
          have HFP8 : Hid (∀ j, w8.frozen? ⟨p, j, none⟩ = false) := Lib.hid fun j => (World.frozen?_of_block (w := wr) (a := ⟨p, j, none⟩) (hb.block p HRES.out.lt)).trans (HFP.out j)
          clear hb HRES HBX HIS HBL HFP
          have d0 := HRES8.out.c0
          have d1 := HRES8.out.c1
          have d2 := HRES8.out.c2
          have f0 := HFP8.out 0
          have f1 := HFP8.out 1
          have f2 := HFP8.out 2
          rw [show (⟨A, B, C, ca, cb, cc⟩ : Lay3) = ⟨A, B, C, ca, cb, cc⟩ from rfl]
          cases rr with
          | true =>
            obtain ⟨w9, HW9⟩ : ∃ w9, Hid (w9 = ((w8.setCell ⟨p, 0, none⟩ (.slice A x.keys.length ca)).setCell ⟨p, 1, none⟩ (.slice B x.vals.length cb)).setCell ⟨p, 2, none⟩ (.slice C x.kids.length cc)) := ⟨_, Lib.hid rfl⟩
            have HBX9 : Hid (NdBox w9 p ⟨A, B, C, ca, cb, cc⟩ x) := Lib.hid (by rw [HW9.out]; exact NdBox.set3 (l := ⟨A, B, C, ca, cb, cc⟩) (x := x) d0 d1 d2)
            have HIS9 : Hid (NdIs w9 ⟨A, B, C, ca, cb, cc⟩ x) := Lib.hid (by rw [HW9.out]; exact ((HIS8.out.setCell HFA.out HFB.out HFC.out _ _).setCell HFA.out HFB.out HFC.out _ _).setCell HFA.out HFB.out HFC.out _ _)
            have HB9 : Hid (Below w.heap.size w w9) := Lib.hid (by rw [HW9.out]; exact ((HB8.out.setCell HPL.out _).setCell HPL.out _).setCell HPL.out _)
            go_wp2_with (with_reducible refine stop_at (o := ⟨some 109, _, _, _, _, _⟩) ?_)
            refine wpList_load_nd Tryd.ndRef (by rfl) _ rfl q rfl ⟨A, B, C, ca, cb, cc⟩ x HBX8.out ?_
            go_wp2_with fail
            rw [← HW9.out, HPP.out]
            refine bodyPost_ret (results_nd2 Tryd.ndRef rfl _ _ p ⟨A, B, C, ca, cb, cc⟩ x (.bool true) rfl rfl HBX9.out) rfl ⟨⟨A, B, C, ca, cb, cc⟩, ?_, ?_, HB9.out⟩
            · rw [← HRR.out, ← HXN.out, ← HRX.out]; rfl
            · rw [← HRR.out, ← HXN.out, ← HRX.out]; exact HIS9.out
          | false =>
            obtain ⟨w9, HW9⟩ : ∃ w9, Hid (w9 = ((w8.setCell ⟨p, 0, none⟩ (.slice none 0 0)).setCell ⟨p, 1, none⟩ (.slice none 0 0)).setCell ⟨p, 2, none⟩ (.slice none 0 0)) := ⟨_, Lib.hid rfl⟩
            have HBX9 : Hid (NdBox w9 p Lay3.none_ Nd.empty) := Lib.hid (by rw [HW9.out]; exact NdBox.set3 (l := Lay3.none_) (x := Nd.empty) d0 d1 d2)
            have HB9 : Hid (Below w.heap.size w w9) := Lib.hid (by rw [HW9.out]; exact ((HB8.out.setCell HPL.out _).setCell HPL.out _).setCell HPL.out _)
            have hbn := Tryd.refNodeNone
            go_wp2_with fail
            rw [← HW9.out, HPP.out]
            refine bodyPost_ret (results_nd2 Tryd.ndRef rfl _ _ p Lay3.none_ Nd.empty (.bool false) rfl rfl HBX9.out) rfl ⟨Lay3.none_, ?_, ?_, HB9.out⟩
            · rw [← HRR.out, ← HXN.out, ← HRX.out]; rfl
            · rw [← HRR.out, ← HXN.out, ← HRX.out]; exact NdIs.empty _
set_option maxRecDepth 100000 in
set_option maxHeartbeats 4000000 in
theorem RefRead_inner (s : ByteArray) (w : World) (k : Nat) (c1 : UInt8) (h2 : 1 < s.size) (e0 : s[0]'(by omega) = 1) (e1 : s[1]'(by omega) = c1) (hk : c1.toNat = k) (hk7 : k ≤ 7) (hsz : s.size = 3 + 5 * k) :
    Calls Tryd.prog 19 #[.string s] w (RefReadPost w (nodeR false k (s.data.toList.drop 2))) := by
  have hz := Tryd.zeroRefNode
  obtain ⟨ii, hi0, hi1, hi2, hi3⟩ := info_parts Tryd.infoInt9
  obtain ⟨is, hs0, hs1, hs2, hs3⟩ := info_parts Tryd.infoStr9
  obtain ⟨P, HPP⟩ : ∃ P, Hid (P = RefReadPost w (nodeR false k (s.data.toList.drop 2))) := ⟨_, Lib.hid rfl⟩
  rw [← HPP.out]
  obtain ⟨r, HRR⟩ : ∃ r, Hid (r = s.data.toList.drop 2) := ⟨_, Lib.hid rfl⟩
  obtain ⟨n, hn⟩ : ∃ n, s.size = n := ⟨_, rfl⟩
  have hsn : (n : Int) = 3 + 5 * (k : Int) := by omega
  have HSZ : Hid (n = 3 + 5 * k) := Lib.hid (by omega)
  have hl : ¬ (n : Int) < 2 := by omega
  have h1n : (1 : Int) < (n : Int) := by omega
  have h0n : 0 < n := by omega
  have hc1 : ¬ (7 : Int) < (k : Int) := by omega
  obtain ⟨p, HP⟩ : ∃ p, Hid (p = w.heap.size) := ⟨_, Lib.hid rfl⟩
  obtain ⟨q, HQ⟩ : ∃ q, Hid (q = p + 1) := ⟨_, Lib.hid rfl⟩
  obtain ⟨b, HB⟩ : ∃ b, Hid (b = q + 1) := ⟨_, Lib.hid rfl⟩
  obtain ⟨w1, HW⟩ : ∃ w1, Hid (w1 = (w.alloc (.cells #[.slice none 0 0, .slice none 0 0, .slice none 0 0] 25)).alloc (.cells #[.slice none 0 0, .slice none 0 0, .slice none 0 0] 25)) := ⟨_, Lib.hid rfl⟩
  have HG1 : Hid (Grow w p q b (.slice none 0 0) (.slice none 0 0) (.slice none 0 0) Nd.empty w1) := Lib.hid (by
    rw [HW.out, HB.out, HQ.out, HP.out]
    refine ⟨⟨by simp [Lay3.none_, Nd.empty], by simp [Lay3.none_, Nd.empty], by simp [Lay3.none_, Nd.empty]⟩, by simp, by simp, by simp, fun j => by simp, fun j => by simp, World.ownsRow_nil _ _ _ _, World.ownsRow_nil _ _ _ _, World.ownsRow_nil _ _ _ _, (fun g hg => by cases hg), (fun g hg => by cases hg), (fun g hg => by cases hg), Nat.le_refl _, by omega, by omega, by simp, ((Below.refl _ _).alloc (Nat.le_refl _) _).alloc (by simp) _⟩)
  clear hsz
  go_enter Tryd.func19, Tryd.ntmps19
  go_upto_region 2 with (fail)
  rw [← HW.out, ← HP.out, ← HQ.out]
  clear HW HP HQ HB
  go_wp2_with fail
  go_loopw [7] (fun i wr => NdReadRel w p q b k r false i wr) (fun i _ => k - (intOf i).toNat)
  case atStart => exact ⟨0, Nat.zero_le _, rfl, _, _, _, HG1.out⟩
  case round =>
    obtain ⟨i, hi, rfl, kv, vv, cv, hgr⟩ := hrel
    have HGR := Lib.hid hgr
    clear hgr HG1
    obtain ⟨x, HX⟩ : ∃ x, Hid (x = partN false k i r) := ⟨_, Lib.hid rfl⟩
    have HXK : Hid (x.keys.length = i) := Lib.hid (by rw [HX.out]; exact keysR_length _ _)
    rw [← HX.out] at HGR
    by_cases hlt : i < k
    · have hik : x.keys.length ≤ 7 := by rw [HXK.out]; omega
      obtain ⟨a, HA⟩ : ∃ a, Hid (a = 2 + 4 * i) := ⟨_, Lib.hid rfl⟩
      have hw4 : IntKind.i64.wrap (4 * (i : Int)) = 4 * (i : Int) := by rw [IntKind.wrap_i64]; omega
      have hw5 : IntKind.i64.wrap (2 + 4 * (i : Int)) = (a : Int) := by rw [HA.out, IntKind.wrap_i64]; omega
      have han : a ≤ n := by rw [HA.out, HSZ.out]; omega
      have han2 : (a : Int) ≤ 3 + 5 * (k : Int) := by rw [HA.out]; omega
      obtain ⟨t, HT⟩ : ∃ t, Hid (t = s.extract a s.size) := ⟨_, Lib.hid rfl⟩
      have HTL : Hid (t.data.toList = r.drop (4 * i)) := Lib.hid (by
        rw [HT.out, ext_list, HRR.out, HA.out, List.drop_drop, List.take_of_length_le (by rw [List.length_drop, Array.length_toList]; exact Nat.le_refl _)])
      have htz : 4 ≤ t.size := by
        rw [HT.out, ByteArray.size_extract, hn, HA.out, HSZ.out]
        omega
      obtain ⟨z, HZ⟩ : ∃ z : Int, Hid (z = ((num (t.data.toList.take 4) : Nat) : Int)) := ⟨_, Lib.hid rfl⟩
      have HZ2 : Hid (keysR (i + 1) r = x.keys ++ [z]) := Lib.hid (by rw [keysR_succ, HZ.out, HTL.out, HX.out]; rfl)
      go_upto_region 13 with (fail)
      refine wp_region_head (fun w9 => w9.cell? ⟨q, 0, none⟩ = some kv) 11 (by kernel_rfl) (by kernel_rfl) (fun wa HWA => ?_)
      have hS : wa.cell? ⟨q, 0, none⟩ = some kv := by rw [HWA.out]; exact HGR.out.c0
      have hq : q < wa.heap.size := by rw [HWA.out]; exact Nat.lt_of_lt_of_le HGR.out.qb HGR.out.sz
      have HBA : Hid (Below wr.heap.size wr wa) := Lib.hid (by rw [HWA.out]; exact (Below.refl _ _).drew)
      clear HWA
      refine takeH (i := 0) 48 (v := .pointer (some ⟨q, 0, none⟩)) rfl (by kernel_rfl) (by kernel_rfl) (by kernel_rfl) rfl (fun _ _ _ h => h) (.inl ⟨by rfl, fun _ _ => by go_simp⟩) hS ?_
      simp only [Act.put, List.setIfInBounds_toArray, List.set_cons_zero, List.set_cons_succ]
      refine takeH (i := 1) 49 (v := kv) rfl (by kernel_rfl) (by kernel_rfl) (by kernel_rfl) rfl (fun _ _ _ h => h) (.inl ⟨by rfl, fun _ h => by have c0 := h; go_simp⟩) hS ?_
      simp only [Act.put, List.setIfInBounds_toArray, List.set_cons_zero, List.set_cons_succ]
      refine takeH (i := 2) 50 (v := .string s) rfl (by kernel_rfl) (by kernel_rfl) (by kernel_rfl) rfl (fun _ _ _ h => h) (.inl ⟨by rfl, fun _ _ => by go_simp⟩) hS ?_
      simp only [Act.put, List.setIfInBounds_toArray, List.set_cons_zero, List.set_cons_succ]
      refine takeH (i := 3) 51 (v := .int .i64 (i : Int)) rfl (by kernel_rfl) (by kernel_rfl) (by kernel_rfl) rfl (fun _ _ _ h => h) (.inl ⟨by rfl, fun _ _ => by go_simp⟩) hS ?_
      simp only [Act.put, List.setIfInBounds_toArray, List.set_cons_zero, List.set_cons_succ]
      refine takeH (i := 4) 52 (v := .int .i64 (4 * (i : Int))) rfl (by kernel_rfl) (by kernel_rfl) (by kernel_rfl) rfl (fun _ _ _ h => h) (.inl ⟨by rfl, fun _ _ => by go_simp⟩) hS ?_
      simp only [Act.put, List.setIfInBounds_toArray, List.set_cons_zero, List.set_cons_succ]
      refine takeH (i := 5) 53 (v := .int .i64 (a : Int)) rfl (by kernel_rfl) (by kernel_rfl) (by kernel_rfl) rfl (fun _ _ _ h => h) (.inl ⟨by rfl, fun _ _ => by go_simp⟩) hS ?_
      simp only [Act.put, List.setIfInBounds_toArray, List.set_cons_zero, List.set_cons_succ]
      refine takeH (i := 6) 54 (v := .string t) rfl (by kernel_rfl) (by kernel_rfl) (by kernel_rfl) rfl (fun _ _ _ h => h) (.inl ⟨by rfl, fun _ _ => by rw [HT.out]; go_simp⟩) hS ?_
      simp only [Act.put, List.setIfInBounds_toArray, List.set_cons_zero, List.set_cons_succ]
      refine oneH (i := 7) (oi := ⟨some 55, _, _, _, _, _⟩) rfl (by kernel_rfl) (fun K hK => ?_)
      go_simp
      refine (RefGet_nat t 4 _ (by decide) htz).mono ?_
      rw [← HZ.out]
      rintro e wn ⟨rfl, rfl⟩
      refine hK.out _ _ hS ?_
      clear hK K
      try simp only [Act.put, List.setIfInBounds_toArray, List.set_cons_zero, List.set_cons_succ]
      refine oneH (i := 8) (oi := ⟨some 56, _, _, _, _, _⟩) rfl (by kernel_rfl) (fun K hK => ?_)
      go_simp
      obtain ⟨g5, HG5⟩ : ∃ g5, Hid (g5 = wa.heap.size) := ⟨_, Lib.hid rfl⟩
      obtain ⟨w5, HW5⟩ : ∃ w5, Hid (w5 = World.alloc wa (.cells #[.int .i64 z] 3)) := ⟨_, Lib.hid rfl⟩
      rw [← HG5.out, ← HW5.out]
      have hb5 : Below wa.heap.size wa w5 := by rw [HW5.out]; exact (Below.refl _ _).alloc (Nat.le_refl _) _
      have HB5 : Hid (Below wr.heap.size wr w5) := Lib.hid (HBA.out.trans (hb5.mono HBA.out.size))
      have hS2 : w5.cell? ⟨q, 0, none⟩ = some kv := (hb5.cell (p := ⟨q, 0, none⟩) hq).trans hS
      have hn5 : ∀ (j : Nat) u, ([.int .i64 z] : List Value)[j]? = some u → w5.cell? ((⟨g5, 0, none⟩ : Addr).add j) = some u := by rw [HW5.out, HG5.out]; exact World.news_of_block (cs := #[.int .i64 z]) (heap_alloc_last wa _)
      have HGW := Lib.hid (HGR.out.carry HB5.out)
      have hq5 : q < w5.heap.size := Nat.lt_of_lt_of_le hq hb5.size
      clear HW5 HG5 hb5 hS
      refine hK.out _ _ hS2 ?_
      clear hK K
      have hS := hS2
      clear hS2
      try simp only [Act.put, List.setIfInBounds_toArray, List.set_cons_zero, List.set_cons_succ]
      refine oneH (i := 9) rfl (by kernel_rfl) (fun K hK => ?_)
      refine step_append_lies _ rfl _ _ _ rfl b 3 ii _ 1 8 Tryd.underlying22 hi0 hi1 hi2 hi3 rfl (by decide) kv x.keys.length (x.keys.map (Value.int .i64)) rfl HGW.out.k ⟨g5, 0, none⟩ 1 1 [.int .i64 z] rfl rfl hn5 (fun u hu => by rw [List.mem_singleton.1 hu]; rfl) (by decide) (by unfold maxLen; omega) (by omega) (HGW.out.sz) w5.heap.size rfl ?_
      intro gg cap w6 hown hgrow hat _
      have hrow : kv.ownBlock ≠ some q := fun e => by
        have := (HGW.out.k.lt q e).1
        have := HGW.out.qb
        omega
      have hS2 : w6.cell? ⟨q, 0, none⟩ = some kv := (hgrow.cell_far _ hq5 (Ne.symm hrow)).trans hS
      have hfz : w6.frozen? ⟨q, 0, none⟩ = false := (hgrow.frozen_far _ hq5 (Ne.symm hrow)).trans (HGW.out.fz 0)
      have HPU := Lib.hid (HGW.out.push0 (Below.refl _ _) hgrow hown hat (Nat.le_refl _))
      clear hown hgrow hat hrow hS hn5 hq5
      refine hK.out _ _ hS2 ?_
      clear hK K
      have hS := hS2
      clear hS2
      try simp only [Act.put, List.setIfInBounds_toArray]
      refine takeH (i := 10) 58 (v := .pointer (some ⟨q, 0, none⟩)) rfl (by kernel_rfl) (by kernel_rfl) (by kernel_rfl) rfl (fun _ _ _ h => h) (.inl ⟨by rfl, fun _ _ => by go_simp⟩) hS ?_
      simp only [Act.put]
      refine wpAnyH_done (by kernel_rfl) ?_ _
      unfold HeadPost
      simp only [List.drop_succ_cons, List.drop_zero]
      go_wp2_with fail
      go_roundw
      case rel =>
        have e : partN false k (i + 1) r = ⟨x.keys ++ [z], x.vals, x.kids⟩ := by
          show (⟨keysR (i + 1) r, [], []⟩ : Nd) = _
          rw [HZ2.out, HX.out]
          rfl
        have key := HPU.out
        rw [← e] at key
        exact ⟨i + 1, hlt, by go_num, _, _, _, key⟩
      case measure => simp [intOf]; omega
    · obtain rfl : i = k := by omega
      go_wp2_with fail
      go_loopw [8] (fun j wr => KidsRel w p q b i r j wr) (fun j _ => n - (intOf j).toNat)
      case atStart => exact ⟨0, Nat.zero_le _, by simp, kv, vv, cv, by have := HGR.out; rw [HX.out] at this; exact this⟩
      case round =>
        obtain ⟨j, hj, rfl, kv, vv, cv, hgr⟩ := hrel
        have HGK := Lib.hid hgr
        clear hgr HGR HX HXK
        obtain ⟨x, HX⟩ : ∃ x, Hid (x = partK i j r) := ⟨_, Lib.hid rfl⟩
        obtain ⟨m, HM⟩ : ∃ m, Hid (m = 2 + 4 * i + j) := ⟨_, Lib.hid rfl⟩
        have hmj : (2 + 4 * (i : Int) + (j : Int)) = (m : Int) := by rw [HM.out]; omega
        rw [← HX.out] at HGK
        rw [hmj]
        have HRL : Hid (r.length = 1 + 5 * i) := Lib.hid (by rw [HRR.out, List.length_drop, Array.length_toList]; show s.size - 2 = _; rw [hn, HSZ.out]; omega)
        have HXC : Hid (x.kids.length = j) := Lib.hid (by rw [HX.out]; show (((r.drop (4 * i)).take j).map _).length = j; rw [List.length_map, List.length_take, List.length_drop, HRL.out]; omega)
        by_cases hlt2 : j < i + 1
        · have hik : x.kids.length ≤ 8 := by rw [HXC.out]; omega
          have hmn : m < s.size := by rw [hn, HSZ.out, HM.out]; omega
          have hmn1 : m < n := by rw [← hn]; exact hmn
          have hmn2 : (m : Int) < 3 + 5 * (i : Int) := by rw [HM.out]; omega
          obtain ⟨cz, hcz⟩ : ∃ cz, s[m]'hmn = cz := ⟨_, rfl⟩
          have HCZ : Hid ((r.drop (4 * i))[j]? = some cz) := Lib.hid (by
            rw [HRR.out, List.drop_drop, List.getElem?_drop, ← hcz, show 2 + 4 * i + j = m from HM.out.symm]
            rw [List.getElem?_eq_getElem (by rw [Array.length_toList]; exact hmn)]
            rfl)
          obtain ⟨z, HZ⟩ : ∃ z : Int, Hid (z = (cz.toNat : Int)) := ⟨_, Lib.hid rfl⟩
          have HZ2 : Hid (partK i (j + 1) r = ⟨x.keys, x.vals, x.kids ++ [z]⟩) := Lib.hid (by
            rw [HX.out]
            show (⟨keysR i r, [], ((r.drop (4 * i)).take (j + 1)).map _⟩ : Nd) = ⟨keysR i r, [], ((r.drop (4 * i)).take j).map _ ++ [z]⟩
            rw [List.take_add_one, HCZ.out, List.map_append, HZ.out]
            rfl)
          have hcw : IntKind.i64.wrap (cz.toNat : Int) = (cz.toNat : Int) := by have := cz.toNat_lt; rw [IntKind.wrap_i64]; omega
          have HGR := HGK
          go_upto_region 19 with (fail)
          refine wp_region_head (fun w9 => w9.cell? ⟨q, 2, none⟩ = some cv) 9 (by kernel_rfl) (by kernel_rfl) (fun wa HWA => ?_)
          have hS : wa.cell? ⟨q, 2, none⟩ = some cv := by rw [HWA.out]; exact HGR.out.c2
          have hq : q < wa.heap.size := by rw [HWA.out]; exact Nat.lt_of_lt_of_le HGR.out.qb HGR.out.sz
          have HBA : Hid (Below wr.heap.size wr wa) := Lib.hid (by rw [HWA.out]; exact (Below.refl _ _).drew)
          clear HWA
          refine takeH (i := 0) 96 (v := .pointer (some ⟨q, 2, none⟩)) rfl (by kernel_rfl) (by kernel_rfl) (by kernel_rfl) rfl (fun _ _ _ h => h) (.inl ⟨by rfl, fun _ _ => by go_simp⟩) hS ?_
          simp only [Act.put, List.setIfInBounds_toArray, List.set_cons_zero, List.set_cons_succ]
          refine takeH (i := 1) 97 (v := cv) rfl (by kernel_rfl) (by kernel_rfl) (by kernel_rfl) rfl (fun _ _ _ h => h) (.inl ⟨by rfl, fun _ h => by have c0 := h; go_simp⟩) hS ?_
          simp only [Act.put, List.setIfInBounds_toArray, List.set_cons_zero, List.set_cons_succ]
          refine takeH (i := 2) 98 (v := .string s) rfl (by kernel_rfl) (by kernel_rfl) (by kernel_rfl) rfl (fun _ _ _ h => h) (.inl ⟨by rfl, fun _ _ => by go_simp⟩) hS ?_
          simp only [Act.put, List.setIfInBounds_toArray, List.set_cons_zero, List.set_cons_succ]
          refine takeH (i := 3) 99 (v := .int .i64 (m : Int)) rfl (by kernel_rfl) (by kernel_rfl) (by kernel_rfl) rfl (fun _ _ _ h => h) (.inl ⟨by rfl, fun _ _ => by go_simp⟩) hS ?_
          simp only [Act.put, List.setIfInBounds_toArray, List.set_cons_zero, List.set_cons_succ]
          refine takeH (i := 4) 100 (v := .int .u8 (cz.toNat : Int)) rfl (by kernel_rfl) (by kernel_rfl) (by kernel_rfl) rfl (fun _ _ _ h => h) (.inl ⟨by rfl, fun _ _ => by go_simp⟩) hS ?_
          simp only [Act.put, List.setIfInBounds_toArray, List.set_cons_zero, List.set_cons_succ]
          refine takeH (i := 5) 101 (v := .int .i64 z) rfl (by kernel_rfl) (by kernel_rfl) (by kernel_rfl) rfl (fun _ _ _ h => h) (.inl ⟨by rfl, fun _ _ => by rw [HZ.out]; go_simp⟩) hS ?_
          simp only [Act.put, List.setIfInBounds_toArray, List.set_cons_zero, List.set_cons_succ]
          refine oneH (i := 6) (oi := ⟨some 102, _, _, _, _, _⟩) rfl (by kernel_rfl) (fun K hK => ?_)
          go_simp
          obtain ⟨g5, HG5⟩ : ∃ g5, Hid (g5 = wa.heap.size) := ⟨_, Lib.hid rfl⟩
          obtain ⟨w5, HW5⟩ : ∃ w5, Hid (w5 = World.alloc wa (.cells #[.int .i64 z] 3)) := ⟨_, Lib.hid rfl⟩
          rw [← HG5.out, ← HW5.out]
          have hb5 : Below wa.heap.size wa w5 := by rw [HW5.out]; exact (Below.refl _ _).alloc (Nat.le_refl _) _
          have HB5 : Hid (Below wr.heap.size wr w5) := Lib.hid (HBA.out.trans (hb5.mono HBA.out.size))
          have hS2 : w5.cell? ⟨q, 2, none⟩ = some cv := (hb5.cell (p := ⟨q, 2, none⟩) hq).trans hS
          have hn5 : ∀ (j : Nat) u, ([.int .i64 z] : List Value)[j]? = some u → w5.cell? ((⟨g5, 0, none⟩ : Addr).add j) = some u := by rw [HW5.out, HG5.out]; exact World.news_of_block (cs := #[.int .i64 z]) (heap_alloc_last wa _)
          have HGW := Lib.hid (HGR.out.carry HB5.out)
          have hq5 : q < w5.heap.size := Nat.lt_of_lt_of_le hq hb5.size
          clear HW5 HG5 hb5 hS
          refine hK.out _ _ hS2 ?_
          clear hK K
          have hS := hS2
          clear hS2
          try simp only [Act.put, List.setIfInBounds_toArray, List.set_cons_zero, List.set_cons_succ]
          refine oneH (i := 7) rfl (by kernel_rfl) (fun K hK => ?_)
          refine step_append_lies _ rfl _ _ _ rfl b 3 ii _ 1 8 Tryd.underlying22 hi0 hi1 hi2 hi3 rfl (by decide) cv x.kids.length (x.kids.map (Value.int .i64)) rfl HGW.out.c ⟨g5, 0, none⟩ 1 1 [.int .i64 z] rfl rfl hn5 (fun u hu => by rw [List.mem_singleton.1 hu]; rfl) (by decide) (by unfold maxLen; omega) (by omega) (HGW.out.sz) w5.heap.size rfl ?_
          intro gg cap w6 hown hgrow hat _
          have hrow : cv.ownBlock ≠ some q := fun e => by
            have := (HGW.out.c.lt q e).1
            have := HGW.out.qb
            omega
          have hS2 : w6.cell? ⟨q, 2, none⟩ = some cv := (hgrow.cell_far _ hq5 (Ne.symm hrow)).trans hS
          have hfz : w6.frozen? ⟨q, 2, none⟩ = false := (hgrow.frozen_far _ hq5 (Ne.symm hrow)).trans (HGW.out.fz 2)
          have HPU := Lib.hid (HGW.out.push2 (Below.refl _ _) hgrow hown hat (Nat.le_refl _))
          clear hown hgrow hat hrow hS hn5 hq5
          refine hK.out _ _ hS2 ?_
          clear hK K
          have hS := hS2
          clear hS2
          try simp only [Act.put, List.setIfInBounds_toArray]
          refine takeH (i := 8) 104 (v := .pointer (some ⟨q, 2, none⟩)) rfl (by kernel_rfl) (by kernel_rfl) (by kernel_rfl) rfl (fun _ _ _ h => h) (.inl ⟨by rfl, fun _ _ => by go_simp⟩) hS ?_
          simp only [Act.put]
          refine wpAnyH_done (by kernel_rfl) ?_ _
          unfold HeadPost
          simp only [List.drop_succ_cons, List.drop_zero]
          go_wp2_with fail
          go_roundw
          case rel =>
            have key := HPU.out
            rw [← HZ2.out] at key
            exact ⟨j + 1, by omega, by have := HM.out; go_num, _, _, _, key⟩
          case measure => simp [intOf]; omega
        · obtain rfl : j = i + 1 := by omega
          have HXN : Hid (x = nodeR false i r) := Lib.hid (by
            rw [HX.out]
            show (⟨keysR i r, [], ((r.drop (4 * i)).take (i + 1)).map _⟩ : Nd) = ⟨keysR i r, [], (r.drop (4 * i)).map _⟩
            rw [List.take_of_length_le (by rw [List.length_drop, HRL.out]; omega)])
          have hmn2 : ¬ (m : Int) < 3 + 5 * (i : Int) := by rw [HM.out]; omega
          have HGF := HGK
          clear HGK HXC
          go_upto_region 20 with (fail)
          obtain ⟨A, ca, rfl, hnk⟩ := owned_nums HGF.out.k
          obtain ⟨B, cb, rfl, hnv⟩ := owned_strs HGF.out.v
          obtain ⟨C, cc, rfl, hnc⟩ := owned_nums HGF.out.c
          have HFA : Hid (∀ a, A = some a → p ≠ a.block) := Lib.hid (by rintro a rfl; have h1 := (HGF.out.k.lt a.block rfl).1; have h2 := HGF.out.qb; have h3 := HGF.out.pq; omega)
          have HFB : Hid (∀ a, B = some a → p ≠ a.block) := Lib.hid (by rintro a rfl; have h1 := (HGF.out.v.lt a.block rfl).1; have h2 := HGF.out.qb; have h3 := HGF.out.pq; omega)
          have HFC : Hid (∀ a, C = some a → p ≠ a.block) := Lib.hid (by rintro a rfl; have h1 := (HGF.out.c.lt a.block rfl).1; have h2 := HGF.out.qb; have h3 := HGF.out.pq; omega)
          have hbx : NdBox wr q ⟨A, B, C, ca, cb, cc⟩ x := ⟨HGF.out.c0, HGF.out.c1, HGF.out.c2⟩
          have HIS : Hid (NdIs wr ⟨A, B, C, ca, cb, cc⟩ x) := Lib.hid (grown_is HXN.out (by omega) (by rw [HRR.out, List.length_drop, Array.length_toList]; show s.size - 2 ≤ 200; rw [hn, HSZ.out]; omega) hnk hnv hnc)
          have HBX := Lib.hid hbx
          have hp0 := HGF.out.res.c0
          have hp1 := HGF.out.res.c1
          have hp2 := HGF.out.res.c2
          have HRES := Lib.hid HGF.out.res
          have HFP := Lib.hid HGF.out.fp
          have HBL := Lib.hid HGF.out.below
          have HPL := Lib.hid HGF.out.lo
          have HPW := Lib.hid HGF.out.pq
          have HQW : Hid (q < wr.heap.size) := Lib.hid (Nat.lt_of_lt_of_le HGF.out.qb HGF.out.sz)
          clear hbx hnk hnv hnc hp0 hp1 hp2 HGF
          go_wp2_with (with_reducible refine stop_at (o := ⟨some 105, _, _, _, _, _⟩) ?_)
          refine wpList_load_nd Tryd.ndRef (by rfl) _ rfl q rfl ⟨A, B, C, ca, cb, cc⟩ x HBX.out ?_
          go_wp2_with fail
          refine (RefRight_any HIS.out).mono ?_
          obtain ⟨rr, HRX⟩ : ∃ rr, Hid (rr = rightN x) := ⟨_, Lib.hid rfl⟩
          rw [← HRX.out]
          rintro e w8 ⟨rfl, hb⟩
          have HRES8 := Lib.hid (HRES.out.carry hb HRES.out.lt)
          have HBX8 := Lib.hid (HBX.out.carry hb HBX.out.lt)
          have HIS8 := Lib.hid (HIS.out.carry hb)
          have HB8 := Lib.hid (HBL.out.trans (hb.mono HBL.out.size))
          have HFP8 : Hid (∀ j, w8.frozen? ⟨p, j, none⟩ = false) := Lib.hid fun j => (World.frozen?_of_block (w := wr) (a := ⟨p, j, none⟩) (hb.block p HRES.out.lt)).trans (HFP.out j)
          clear hb HRES HBX HIS HBL HFP
          have d0 := HRES8.out.c0
          have d1 := HRES8.out.c1
          have d2 := HRES8.out.c2
          have f0 := HFP8.out 0
          have f1 := HFP8.out 1
          have f2 := HFP8.out 2
          rw [show (⟨A, B, C, ca, cb, cc⟩ : Lay3) = ⟨A, B, C, ca, cb, cc⟩ from rfl]
          cases rr with
          | true =>
            obtain ⟨w9, HW9⟩ : ∃ w9, Hid (w9 = ((w8.setCell ⟨p, 0, none⟩ (.slice A x.keys.length ca)).setCell ⟨p, 1, none⟩ (.slice B x.vals.length cb)).setCell ⟨p, 2, none⟩ (.slice C x.kids.length cc)) := ⟨_, Lib.hid rfl⟩
            have HBX9 : Hid (NdBox w9 p ⟨A, B, C, ca, cb, cc⟩ x) := Lib.hid (by rw [HW9.out]; exact NdBox.set3 (l := ⟨A, B, C, ca, cb, cc⟩) (x := x) d0 d1 d2)
            have HIS9 : Hid (NdIs w9 ⟨A, B, C, ca, cb, cc⟩ x) := Lib.hid (by rw [HW9.out]; exact ((HIS8.out.setCell HFA.out HFB.out HFC.out _ _).setCell HFA.out HFB.out HFC.out _ _).setCell HFA.out HFB.out HFC.out _ _)
            have HB9 : Hid (Below w.heap.size w w9) := Lib.hid (by rw [HW9.out]; exact ((HB8.out.setCell HPL.out _).setCell HPL.out _).setCell HPL.out _)
            go_wp2_with (with_reducible refine stop_at (o := ⟨some 109, _, _, _, _, _⟩) ?_)
            refine wpList_load_nd Tryd.ndRef (by rfl) _ rfl q rfl ⟨A, B, C, ca, cb, cc⟩ x HBX8.out ?_
            go_wp2_with fail
            rw [← HW9.out, HPP.out]
            refine bodyPost_ret (results_nd2 Tryd.ndRef rfl _ _ p ⟨A, B, C, ca, cb, cc⟩ x (.bool true) rfl rfl HBX9.out) rfl ⟨⟨A, B, C, ca, cb, cc⟩, ?_, ?_, HB9.out⟩
            · rw [← HRR.out, ← HXN.out, ← HRX.out]; rfl
            · rw [← HRR.out, ← HXN.out, ← HRX.out]; exact HIS9.out
          | false =>
            obtain ⟨w9, HW9⟩ : ∃ w9, Hid (w9 = ((w8.setCell ⟨p, 0, none⟩ (.slice none 0 0)).setCell ⟨p, 1, none⟩ (.slice none 0 0)).setCell ⟨p, 2, none⟩ (.slice none 0 0)) := ⟨_, Lib.hid rfl⟩
            have HBX9 : Hid (NdBox w9 p Lay3.none_ Nd.empty) := Lib.hid (by rw [HW9.out]; exact NdBox.set3 (l := Lay3.none_) (x := Nd.empty) d0 d1 d2)
            have HB9 : Hid (Below w.heap.size w w9) := Lib.hid (by rw [HW9.out]; exact ((HB8.out.setCell HPL.out _).setCell HPL.out _).setCell HPL.out _)
            have hbn := Tryd.refNodeNone
            go_wp2_with fail
            rw [← HW9.out, HPP.out]
            refine bodyPost_ret (results_nd2 Tryd.ndRef rfl _ _ p Lay3.none_ Nd.empty (.bool false) rfl rfl HBX9.out) rfl ⟨Lay3.none_, ?_, ?_, HB9.out⟩
            · rw [← HRR.out, ← HXN.out, ← HRX.out]; rfl
            · rw [← HRR.out, ← HXN.out, ← HRX.out]; exact NdIs.empty _
end Go.Proofs.YtakpjphgkpaipaaDoor
