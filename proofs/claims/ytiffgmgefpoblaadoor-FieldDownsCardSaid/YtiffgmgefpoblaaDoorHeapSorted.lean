/-
  The contract of heap.Sorted: the items, rising. Conditions: none beyond the premises of each theorem.
-/
import Derived.Test.YtiffgmgefpoblaaDoorHeapEach
namespace Go.Proofs.YtiffgmgefpoblaaDoor
open Go.RowKit Hp

theorem wp_one9 {P : Program} {w : World} {o : Oper} {a : Act} {K : Act → World → Prop} {Q : Exit → Act → World → Prop} (t e : TypeId) (x : Operand) (ho : o.op = .buildSlice t 1 #[(0, x)])
    (c : Array Value) (hx : a.eval x = .agg c) (hu : P.underlying t = some (.slice e)) (hz : ((P.info? e).bind (·.zero)).isSome = true) (hi : (P.info? e).map (·.size) = some c.size) (h0 : 0 < c.size) (h24 : c.size ≤ 2 ^ 24)
    (h : K (a.put o.dst (.slice (some ⟨w.heap.size, 0, none⟩) 1 1)) (w.alloc (.cells c e))) : Oper.wp P o a w K Q := by
  unfold Oper.wp execOp
  simp only [ho, List.map_toArray, List.map_cons, List.map_nil, hx, Sem.run_bind, run_one9 w t e c hu hz hi h0 h24, Result.andThen_ok]
  exact h
def lenOf : Value → Nat
  | .slice _ n _ => n
  | _ => 0
/-- the least item, out of it, if there is one -/
theorem Pop_any {w : World} {B hb : Nat} {v : Value} {L : List Itm} (h : HpAt w B hb v L) (hh : IsHp L) (hm : L.length ≤ 1000000) : Calls Tryd.prog 37 #[ptr9 hb] w fun e w' =>
    ∃ v' L', e = .returned (.tuple #[itV (at2 L 0), .bool (decide (0 < L.length))]) ∧ HpAt w' B hb v' L' ∧ IsHp L' ∧ v'.ownBlock = v.ownBlock ∧ But2 (some hb) v.ownBlock w w' ∧ (0 < L.length → L.Perm (at2 L 0 :: L')) ∧ (L.length = 0 → L' = []) := by
  by_cases h0 : 0 < L.length
  · obtain ⟨g, cap, rfl, hs⟩ := h.some_ h0
    refine (Pop_yes hs hh hm h0).mono ?_
    rintro e w' ⟨rfl, L', h1, h2, h3, h4⟩
    exact ⟨_, L', by rw [decide_eq_true h0], h1.at_, h2, rfl, h4, fun _ => h3, fun h => absurd h (by omega)⟩
  · obtain rfl : L = [] := List.eq_nil_of_length_eq_zero (by omega)
    refine (Pop_empty h).mono ?_
    rintro e w' ⟨rfl, h1⟩
    exact ⟨v, [], rfl, h.carry h1, hh, rfl, .of_below h1, fun h => absurd h h0, fun _ => rfl⟩
/-- between two rounds -/
structure SortI (B hb : Nat) (L : List Itm) (w : World) (R M : List Itm) (x : Itm) (ok : Bool) (v u4 : Value) (b : Nat) (wr : World) : Prop where
  box : COwn wr b (itC x)
  hp : HpAt wr B hb v M
  isHp : IsHp M
  row : wr.ownsRow B 52 2 u4 R.length (flat2 R)
  rh : u4.ownBlock ≠ some hb
  rv : ∀ g, u4.ownBlock = some g → v.ownBlock ≠ some g
  rb9 : u4.ownBlock ≠ some b
  bh : b ≠ hb
  bv : v.ownBlock ≠ some b
  far : B ≤ b
  below : Below B w wr
  rise : Rise R
  yes : ok = true → (R ++ x :: M).Perm L ∧ (∀ y ∈ R, le2 y x) ∧ ∀ y ∈ M, le2 x y
  no : ok = false → R.Perm L
theorem own_inj {g k n c : Nat} (e : Value.ownBlock (.slice (some ⟨g, 0, none⟩) n c) = some k) : g = k := Option.some.inj e
theorem own_but {w w' : World} {B n : Nat} {v : Value} {xs : List Value} {p q : Option Nat} (h : w.ownsRow B 52 2 v n xs) (hb : But2 p q w w') (h1 : ∀ g, v.ownBlock = some g → p ≠ some g) (h2 : ∀ g, v.ownBlock = some g → q ≠ some g) : w'.ownsRow B 52 2 v n xs := by
  obtain ⟨hl, h3⟩ := h
  refine ⟨hl, ?_⟩
  rcases h3 with h3 | ⟨g, cap, cur, rfl, hg, hh, r⟩
  · exact .inl h3
  · exact .inr ⟨g, cap, cur, rfl, hg, (hb.block g (lt_of_block hh) (fun e => h1 g rfl e.symm) (fun e => h2 g rfl e.symm)).trans hh, r⟩
theorem row_other {w : World} {B n b : Nat} {v : Value} {xs : List Value} (h : w.ownsRow B 52 2 v n xs) (h1 : v.ownBlock ≠ some b) (o : Nat) (vs : List Value) : (w.setCells b o vs).ownsRow B 52 2 v n xs :=
  own_but (p := some b) (q := some b) h (But2.put (.inl rfl) _ _ _ (.refl _ _ _)) (fun g hg e => h1 (by rw [hg, e])) (fun g hg e => h1 (by rw [hg, e]))
theorem hp_other {w : World} {B hb b : Nat} {v : Value} {M : List Itm} (h : HpAt w B hb v M) (h1 : hb ≠ b) (h2 : v.ownBlock ≠ some b) (o : Nat) (vs : List Value) : HpAt (w.setCells b o vs) B hb v M :=
  ⟨(setCells_far9 b h1 _ _ _).trans h.head, row_other h.row h2 _ _, h.far, h.ne⟩
theorem hp_grown {w w' : World} {B hb : Nat} {v u : Value} {M : List Itm} (h : HpAt w B hb v M) (hg : w.grownBy w' u.ownBlock) (h1 : u.ownBlock ≠ some hb) (h2 : ∀ g, u.ownBlock = some g → v.ownBlock ≠ some g) : HpAt w' B hb v M :=
  ⟨(hg.block hb h.lt (fun e => h1 e.symm)).trans h.head, h.row.kept hg (by
    cases e : v.ownBlock with
    | none => exact .inl rfl
    | some k => exact .inr fun e2 => h2 k e2.symm e), h.far, h.ne⟩
theorem SortI.carry {B hb b : Nat} {L R M : List Itm} {w wr w' : World} {x : Itm} {ok : Bool} {v u4 : Value} (h : SortI B hb L w R M x ok v u4 b wr) (hb' : Below wr.heap.size wr w') (hB : B ≤ wr.heap.size) : SortI B hb L w R M x ok v u4 b w' :=
  ⟨h.box.carry hb' (by simp), h.hp.carry hb', h.isHp, h.row.kept (row := none) ⟨hb'.os, hb'.tape, hb'.output, hb'.size, fun k hk _ => hb'.block k hk⟩ (by cases u4.ownBlock <;> simp), h.rh, h.rv, h.rb9, h.bh, h.bv, h.far, h.below.trans (hb'.mono hB), h.rise, h.yes, h.no⟩
def SortR (B hb : Nat) (L : List Itm) (w : World) (u4 u5 u6 : Value) (wr : World) : Prop :=
  ∃ (R M : List Itm) (x : Itm) (ok : Bool) (v : Value) (b : Nat), u5 = ptr9 b ∧ u6 = .bool ok ∧ SortI B hb L w R M x ok v u4 b wr
/-- what the next item does to it -/
theorem sort_next {L R M M' : List Itm} {x : Itm} (h : (R ++ x :: M).Perm L ∧ (∀ y ∈ R, le2 y x) ∧ ∀ y ∈ M, le2 x y) (hh : IsHp M) (h1 : 0 < M.length → M.Perm (at2 M 0 :: M')) :
    (decide (0 < M.length) = true → ((R ++ [x]) ++ at2 M 0 :: M').Perm L ∧ (∀ y ∈ R ++ [x], le2 y (at2 M 0)) ∧ ∀ y ∈ M', le2 (at2 M 0) y) ∧ (decide (0 < M.length) = false → (R ++ [x]).Perm L) := by
  obtain ⟨hp, h2, h3⟩ := h
  refine ⟨fun hd => ?_, fun hd => ?_⟩
  · have h0 : 0 < M.length := of_decide_eq_true hd
    have hp2 := h1 h0
    have hm : at2 M 0 ∈ M := at2_mem h0
    refine ⟨?_, fun y hy => ?_, fun y hy => hh.least_mem (hp2.mem_iff.2 (List.mem_cons_of_mem _ hy))⟩
    · refine List.Perm.trans ?_ hp
      rw [List.append_assoc]
      exact List.Perm.append_left R (List.Perm.cons x hp2.symm)
    · rcases List.mem_append.1 hy with hy | hy
      · exact le2_trans (h2 y hy) (h3 _ hm)
      · rw [List.mem_singleton.1 hy]; exact h3 _ hm
  · have h0 : M = [] := List.eq_nil_of_length_eq_zero (by have := of_decide_eq_false hd; omega)
    rw [h0] at hp
    exact hp
set_option maxRecDepth 100000 in
set_option maxHeartbeats 1000000 in
theorem Sorted_any {w : World} {A : Option Addr} {L : List Itm} {n cap : Nat} (hl : ItmsAt w w.heap.size A L) (hn : L.length = n) (h3 : n ≤ 1000) :
    Calls Tryd.prog 31 #[.slice A n cap] w fun e w' => ∃ v S, e = .returned v ∧ w'.ownsRow w.heap.size 52 2 v S.length (flat2 S) ∧ Rise S ∧ S.Perm L ∧ Below w.heap.size w w' := by
  obtain ⟨i0, hi0, hz0, hz1, hz2⟩ := info_parts Tryd.dueInfo
  obtain ⟨B, HB⟩ : ∃ B, Hid (B = w.heap.size) := ⟨_, Lib.hid rfl⟩
  rw [← HB.out] at hl ⊢
  have HL := Lib.hid hl
  have HN := Lib.hid hn
  clear hl hn
  have hnew := Lib.hid (New_any w (B := B) (by rw [HB.out]; exact Nat.le_refl _))
  rw [← HB.out] at hnew
  go_enter Tryd.func31, Tryd.ntmps31
  go_wp2_with fail
  refine hnew.out.mono ?_
  rintro e w1 ⟨rfl, h1, h2, hlt1⟩
  obtain ⟨hb, HHB⟩ : ∃ hb, Hid (hb = B) := ⟨_, Lib.hid rfl⟩
  have H1 : Hid (HpAt w1 B hb (.slice none 0 0) []) := Lib.hid (by rw [HHB.out]; exact h1)
  have H2 : Hid (Below B w w1) := Lib.hid h2
  have HB1 : Hid (B ≤ w1.heap.size) := Lib.hid (by omega)
  rw [show ptr9 B = ptr9 hb by rw [HHB.out]]
  clear h1 h2 hlt1 hnew
  have hea := Lib.hid (each_any (cap := cap) H1.out (HL.out.below H2.out) HN.out h3 HB1.out)
  go_wp2_with fail
  refine hea.out.mono ?_
  rintro e w2 ⟨rfl, v2, M, h4, h5, h6, h7⟩
  have H4 := Lib.hid h4
  have H5 := Lib.hid h5
  have H6 := Lib.hid h6
  have H7 := Lib.hid (H2.out.trans h7)
  have HB2 : Hid (B ≤ w2.heap.size) := Lib.hid (Nat.le_trans HB1.out h7.size)
  clear h4 h5 h6 h7 hea H1 H2 HB1
  go_wp2_with (at_make; refine wpList_make_own _ rfl _ _ 60 rfl B 52 i0 _ 2 Tryd.underlying60 hi0 hz0 hz1 .i64 .i64 _ n rfl rfl rfl (by rw [hz2]; omega) (by unfold maxLen; omega) HB2.out ?_; intro w3 hown3 hgrow3)
  obtain ⟨g4, HG4⟩ : ∃ g4, Hid (g4 = w2.heap.size) := ⟨_, Lib.hid rfl⟩
  rw [← HG4.out]
  have hb3 : Below w2.heap.size w2 w3 := ⟨hgrow3.os, hgrow3.tape, hgrow3.output, hgrow3.size, fun k hk => hgrow3.block k hk (by simp)⟩
  have HP3 : Hid (HpAt w3 B hb v2 M) := Lib.hid (H4.out.carry hb3)
  have HO3 : Hid (w3.ownsRow B 52 2 (.slice (some ⟨g4, 0, none⟩) 0 n) 0 []) := Lib.hid (by rw [HG4.out]; exact hown3)
  have HB3 : Hid (Below B w w3) := Lib.hid (H7.out.trans (hb3.mono HB2.out))
  have HG3 : Hid (hb < g4 ∧ ∀ k, v2.ownBlock = some k → k < g4) := Lib.hid (by rw [HG4.out]; exact ⟨H4.out.lt, fun k hk => (H4.out.row.lt k hk).2⟩)
  have HGS : Hid (g4 < w3.heap.size) := Lib.hid (HO3.out.lt g4 rfl).2
  clear hb3 hown3 hgrow3 H4 H7 HG4
  have hlm : M.length = n := by rw [← HN.out]; exact H6.out.length_eq
  have hpo := Lib.hid (Pop_any HP3.out H5.out (by omega))
  clear hlm
  go_wp2_with fail
  refine hpo.out.mono ?_
  rintro e w4 ⟨v5, M5, rfl, h4, h5, h6, h7, h8, h9⟩
  obtain ⟨x, HX⟩ : ∃ x, Hid (x = at2 M 0) := ⟨_, Lib.hid rfl⟩
  obtain ⟨ok, HOK⟩ : ∃ ok, Hid (ok = decide (0 < M.length)) := ⟨_, Lib.hid rfl⟩
  rw [← HX.out, ← HOK.out]
  have HP4 := Lib.hid h4
  have HI4 := Lib.hid h5
  have HV4 : Hid (v5.ownBlock = v2.ownBlock) := Lib.hid h6
  have HO4 : Hid (w4.ownsRow B 52 2 (.slice (some ⟨g4, 0, none⟩) 0 n) 0 []) := Lib.hid (own_but HO3.out h7 (fun g hg e => by have h1 := own_inj hg; have h2 := Option.some.inj e; have := HG3.out.1; omega) (fun g hg e => by have h1 := own_inj hg; have := HG3.out.2 _ e; omega))
  have HB4 : Hid (Below B w w4) := Lib.hid (HB3.out.trans (h7.below (by have := HB3.out.size; have := HB.out; omega) (fun k hk => by cases hk; exact HP3.out.far) (fun k hk => (HP3.out.row.lt k hk).1)))
  have HSN : Hid ((ok = true → (x :: M5).Perm L ∧ ∀ y ∈ M5, le2 x y) ∧ (ok = false → ([] : List Itm).Perm L)) := Lib.hid (by
    rw [HOK.out, HX.out]
    refine ⟨fun hd => ?_, fun hd => ?_⟩
    · have h0 := of_decide_eq_true hd
      exact ⟨(h8 h0).symm.trans H6.out, fun y hy => H5.out.least_mem ((h8 h0).mem_iff.2 (List.mem_cons_of_mem _ hy))⟩
    · have h0 : M = [] := List.eq_nil_of_length_eq_zero (by have := of_decide_eq_false hd; omega)
      have := H6.out
      rwa [h0] at this)
  have HGS4 : Hid (g4 < w4.heap.size) := Lib.hid (Nat.lt_of_lt_of_le HGS.out h7.size)
  clear h4 h5 h6 h7 h8 h9 hpo HP3 H5 HO3 HB3 HX HOK H6 HGS
  go_wp2_with (with_reducible refine stop_at (o := ⟨none, _, _, _, _, _⟩) ?_)
  unfold Stopped
  refine wpList_store_last rfl _ _ _ rfl _ (itC x).toArray _ rfl rfl rfl dueTy.size rfl (all_oneCell_toArray (itC_one x)) ?_
  obtain ⟨w5, HW5⟩ : ∃ w5, Hid (w5 = w4.alloc (.cells (itC x).toArray 52)) := ⟨_, Lib.hid rfl⟩
  obtain ⟨b, HBB⟩ : ∃ b, Hid (b = w4.heap.size) := ⟨_, Lib.hid rfl⟩
  rw [← HW5.out, ← HBB.out]
  have HI5 : Hid (SortI B hb L w [] M5 x ok v5 (.slice (some ⟨g4, 0, none⟩) 0 n) b w5) := Lib.hid (by
    have hb5 : Below w4.heap.size w4 w5 := by rw [HW5.out]; exact (Below.refl _ _).alloc (Nat.le_refl _) _
    refine ⟨by rw [HW5.out, HBB.out]; exact COwn.new (itC x) _, HP4.out.carry hb5, HI4.out, by rw [HW5.out]; exact HO4.out.alloc _, ?_, ?_, ?_, ?_, ?_, ?_, HB4.out.trans (hb5.mono ?_), rise_nil, ?_, ?_⟩
    · intro e; have := HG3.out.1; have := own_inj e; omega
    · intro g hg e; have h1 := own_inj hg; rw [HV4.out] at e; have := HG3.out.2 _ e; omega
    · intro e; have := HGS4.out; have := own_inj e; rw [HBB.out] at this; omega
    · have := HP4.out.lt; rw [HBB.out]; omega
    · intro e; have := (HP4.out.row.lt _ e).2; rw [HBB.out] at this; omega
    · have := HB4.out.size; have := HB.out; rw [HBB.out]; omega
    · have := HB4.out.size; have := HB.out; omega
    · intro h; exact ⟨(HSN.out.1 h).1, (fun y hy => by cases hy), (HSN.out.1 h).2⟩
    · exact HSN.out.2)
  clear HW5 HBB HP4 HI4 HO4 HB4 HSN HG3 HGS4 HV4 HB2
  go_wp2_with fail
  go_loopw [4, 5, 6] (fun u4 u5 u6 wr => SortR B hb L w u4 u5 u6 wr) (fun u4 _ _ _ => n + 1 - lenOf u4)
  case atStart => exact ⟨[], M5, x, ok, v5, b, rfl, rfl, HI5.out⟩
  case round =>
    clear HI5
    obtain ⟨R, M, x, ok, v, b, rfl, rfl, hi⟩ := hrel
    have HI := Lib.hid hi
    clear hi
    cases ok with
    | false =>
      go_wp2_with fail
      go_ret
      exact ⟨_, R, rfl, HI.out.row, HI.out.rise, HI.out.no rfl, HI.out.below⟩
    | true =>
      have HLEN : Hid (u4 = .slice none R.length 0 ∨ ∃ g cap, u4 = .slice (some ⟨g, 0, none⟩) R.length cap) := Lib.hid (by
        rcases HI.out.row.2 with ⟨h1, h2⟩ | ⟨g, cap, _, h1, _⟩
        · exact .inl (by rw [h1, h2])
        · exact .inr ⟨g, cap, h1⟩)
      have HRN : Hid (R.length < n) := Lib.hid (by have := (HI.out.yes rfl).1.length_eq; simp only [List.length_append, List.length_cons] at this; have := HN.out; omega)
      have HML : Hid (M.length ≤ 1000) := Lib.hid (by have := (HI.out.yes rfl).1.length_eq; simp only [List.length_append, List.length_cons] at this; have := HN.out; omega)
      have HBW : Hid (B ≤ wr.heap.size) := Lib.hid (by have := HI.out.below.size; have := HB.out; omega)
      go_wp2_with (with_reducible refine stop_at (o := ⟨some 27, _, _, _, _, _⟩) ?_)
      unfold Stopped
      refine wpList_load_c dueTy (by rfl) _ rfl b 0 rfl (itC x) rfl HI.out.box.at_ ?_
      simp only [Act.put, List.setIfInBounds_toArray, List.set_cons_zero, List.set_cons_succ]
      refine wpList_plain rfl fun _ hK => ?_
      refine wp_one9 _ 52 _ rfl (itC x).toArray rfl Tryd.underlying60 (by kernel_rfl) dueTy.size (by simp) (by simp) ?_
      refine hK _ _ ?_
      clear hK
      simp only [Act.put, List.setIfInBounds_toArray, List.set_cons_zero, List.set_cons_succ]
      obtain ⟨w5, HW5⟩ : ∃ w5, Hid (w5 = wr.alloc (.cells (itC x).toArray 52)) := ⟨_, Lib.hid rfl⟩
      obtain ⟨g5, HG5⟩ : ∃ g5, Hid (g5 = wr.heap.size) := ⟨_, Lib.hid rfl⟩
      rw [← HW5.out, ← HG5.out]
      have HI5 : Hid (SortI B hb L w R M x true v u4 b w5) := Lib.hid (by rw [HW5.out]; exact HI.out.carry ((Below.refl _ _).alloc (Nat.le_refl _) _) HBW.out)
      have HN5 : Hid (∀ j u, (itC x)[j]? = some u → w5.cell? ((⟨g5, 0, none⟩ : Addr).add j) = some u) := Lib.hid (by rw [HW5.out, HG5.out]; exact World.news_of_block (cs := (itC x).toArray) (heap_alloc_new wr _))
      have HB5 : Hid (B ≤ w5.heap.size) := Lib.hid (by rw [HW5.out, World.size_alloc]; have := HBW.out; omega)
      clear HW5 HI HBW
      refine wpList_plain rfl fun _ hK => ?_
      refine wp_append_lies _ _ _ _ rfl B 52 i0 _ 2 16 Tryd.underlying60 hi0 hz0 hz1 hz2 rfl (by omega) u4 R.length (flat2 R) rfl HI5.out.row ⟨g5, 0, none⟩ 1 1 (itC x) rfl rfl HN5.out (itC_one x)
        (by omega) (by have := HRN.out; unfold maxLen; omega) (by have := HRN.out; omega) HB5.out w5.heap.size rfl ?_
      intro g capr w6 hown hgrow hat hlt
      refine hK _ _ ?_
      clear hK HN5 HG5
      simp only [Act.put, List.setIfInBounds_toArray, List.set_cons_zero, List.set_cons_succ]
      have HB6 : Hid (B ≤ w6.heap.size) := Lib.hid (Nat.le_trans HB5.out hgrow.size)
      have HO6 : Hid (w6.ownsRow B 52 2 (.slice (some ⟨g, 0, none⟩) (R.length + 1) capr) (R ++ [x]).length (flat2 (R ++ [x]))) := Lib.hid (by rw [flat2_append, flat2_one, List.length_append, List.length_singleton]; exact hown)
      have HC6 : Hid (COwn w6 b (itC x)) := Lib.hid (HI5.out.box.block (hgrow.block b (HI5.out.box.lt (by simp)) (fun e => HI5.out.rb9 e.symm)))
      have HP6 : Hid (HpAt w6 B hb v M) := Lib.hid (hp_grown HI5.out.hp hgrow HI5.out.rh HI5.out.rv)
      have HL6 : Hid (Below B w w6) := Lib.hid (HI5.out.below.grown hgrow HB5.out (fun k hk => (HI5.out.row.lt k hk).1))
      have HG6 : Hid (g ≠ hb ∧ v.ownBlock ≠ some g ∧ g < w6.heap.size) := Lib.hid (by
        rcases hat with h1 | h1
        · exact ⟨fun e => HI5.out.rh (by rw [h1, e]), HI5.out.rv g h1, hlt⟩
        · exact ⟨by have := HI5.out.hp.lt; omega, fun e => by have := (HI5.out.hp.row.lt g e).2; omega, hlt⟩)
      have HKP : Hid (IsHp M ∧ Rise (R ++ [x]) ∧ ((R ++ x :: M).Perm L ∧ (∀ y ∈ R, le2 y x) ∧ ∀ y ∈ M, le2 x y)) := Lib.hid ⟨HI5.out.isHp, HI5.out.rise.snoc (HI5.out.yes rfl).2.1, HI5.out.yes rfl⟩
      have HFB : Hid (B ≤ b) := Lib.hid HI5.out.far
      clear HI5 hown hgrow hat hlt HB5
      go_wp2_with (with_reducible refine stop_at (o := ⟨some 30, _, _, _, _, _⟩) ?_)
      unfold Stopped
      refine wpList_load_c dueTy (by rfl) _ rfl b 0 rfl (itC x) rfl HC6.out.at_ ?_
      simp only [Act.put, List.setIfInBounds_toArray, List.set_cons_zero, List.set_cons_succ]
      go_wp2_with (with_reducible refine stop_at (o := ⟨none, _, _, _, _, _⟩) ?_)
      unfold Stopped
      refine wpList_store_last rfl _ _ _ rfl _ (itC x).toArray _ rfl rfl rfl dueTy.size rfl (all_oneCell_toArray (itC_one x)) ?_
      obtain ⟨w7, HW7⟩ : ∃ w7, Hid (w7 = w6.alloc (.cells (itC x).toArray 52)) := ⟨_, Lib.hid rfl⟩
      obtain ⟨c, HC⟩ : ∃ c, Hid (c = w6.heap.size) := ⟨_, Lib.hid rfl⟩
      rw [← HW7.out, ← HC.out]
      have hb7 : Below w6.heap.size w6 w7 := by rw [HW7.out]; exact (Below.refl _ _).alloc (Nat.le_refl _) _
      have HC7 : Hid (COwn w7 c (itC x)) := Lib.hid (by rw [HW7.out, HC.out]; exact COwn.new (itC x) _)
      have HP7 : Hid (HpAt w7 B hb v M) := Lib.hid (HP6.out.carry hb7)
      have HO7 : Hid (w7.ownsRow B 52 2 (.slice (some ⟨g, 0, none⟩) (R.length + 1) capr) (R ++ [x]).length (flat2 (R ++ [x]))) := Lib.hid (by rw [HW7.out]; exact HO6.out.alloc _)
      have HL7 : Hid (Below B w w7) := Lib.hid (HL6.out.trans (hb7.mono HB6.out))
      have HG7 : Hid (g < c ∧ hb < c ∧ (∀ k, v.ownBlock = some k → k < c) ∧ B ≤ c) := Lib.hid (by rw [HC.out]; exact ⟨HG6.out.2.2, HP6.out.lt, fun k hk => (HP6.out.row.lt k hk).2, HB6.out⟩)
      clear HW7 HC hb7 HC6 HP6 HO6 HL6 HB6 HFB
      have hpo := Lib.hid (Pop_any HP7.out HKP.out.1 (by have := HML.out; omega))
      go_wp2_with fail
      refine hpo.out.mono ?_
      rintro e w8 ⟨v8, M8, rfl, h4, h5, h6, h7, h8, h9⟩
      have HSN := Lib.hid (sort_next HKP.out.2.2 HKP.out.1 h8)
      obtain ⟨y, HY⟩ : ∃ y, Hid (y = at2 M 0) := ⟨_, Lib.hid rfl⟩
      obtain ⟨ok, HOK⟩ : ∃ ok, Hid (ok = decide (0 < M.length)) := ⟨_, Lib.hid rfl⟩
      rw [← HY.out, ← HOK.out] at HSN ⊢
      have HP8 := Lib.hid h4
      have HI8 := Lib.hid h5
      have HV8 : Hid (v8.ownBlock = v.ownBlock) := Lib.hid h6
      have HO8 : Hid (w8.ownsRow B 52 2 (.slice (some ⟨g, 0, none⟩) (R.length + 1) capr) (R ++ [x]).length (flat2 (R ++ [x]))) := Lib.hid (own_but HO7.out h7 (fun k hk e => HG6.out.1 ((own_inj hk).trans (Option.some.inj e).symm)) (fun k hk e => by rw [← own_inj hk] at e; exact HG6.out.2.1 e))
      have HC8 : Hid (COwn w8 c (itC x)) := Lib.hid (HC7.out.block (h7.block c (HC7.out.lt (by simp)) (fun e => by have := Option.some.inj e; have := HG7.out; omega) (fun e => by have := HG7.out.2.2.1 c e.symm; omega)))
      have HL8 : Hid (Below B w w8) := Lib.hid (HL7.out.trans (h7.below (by have := HL7.out.size; have := HB.out; omega) (fun k hk => by cases hk; exact HP7.out.far) (fun k hk => (HP7.out.row.lt k hk).1)))
      clear h4 h5 h6 h7 h8 h9 hpo HP7 HO7 HC7 HL7 HY HOK
      go_wp2_with (with_reducible refine stop_at (o := ⟨none, _, _, _, _, _⟩) ?_)
      unfold Stopped
      refine wpList_store_c dueTy rfl _ _ rfl c (itC x) (itC y) rfl rfl (itC_one y) rfl rfl HC8.out ?_
      intro w9 HW9 HC9
      have HI9 : Hid (SortI B hb L w (R ++ [x]) M8 y ok v8 (.slice (some ⟨g, 0, none⟩) (R.length + 1) capr) c w9) := Lib.hid (by
        refine ⟨HC9.out, by rw [HW9.out]; exact hp_other HP8.out (by have := HG7.out; omega) (fun e => by rw [HV8.out] at e; have := HG7.out.2.2.1 c e; omega) _ _, HI8.out, by rw [HW9.out]; exact row_other HO8.out (fun e => by have := HG7.out; have := own_inj e; omega) _ _, ?_, ?_, ?_, ?_, ?_, HG7.out.2.2.2, by rw [HW9.out]; exact below_setCells HG7.out.2.2.2 _ _ _ HL8.out, HKP.out.2.1, HSN.out.1, HSN.out.2⟩
        · intro e; exact HG6.out.1 (own_inj e)
        · intro k hk; rw [← own_inj hk, HV8.out]; exact HG6.out.2.1
        · intro e; have := HG7.out; have := own_inj e; omega
        · have := HG7.out; omega
        · intro e; rw [HV8.out] at e; have := HG7.out.2.2.1 c e; omega)
      clear HW9 HC9 HP8 HI8 HO8 HC8 HL8 HV8 HKP HSN
      go_wp2_with fail
      go_roundw
      case rel => exact ⟨R ++ [x], M8, y, ok, v8, c, rfl, rfl, HI9.out⟩
      case measure =>
        have h1 := HRN.out
        have h2 : lenOf u4 = R.length := by
          rcases HLEN.out with h | ⟨_, _, h⟩ <;> rw [h] <;> rfl
        show n + 1 - (R.length + 1) < n + 1 - lenOf u4
        rw [h2]
        omega
end Go.Proofs.YtiffgmgefpoblaaDoor
