/-
  The walk of HeapLast. Conditions: none beyond the premises of each theorem.
-/
import Derived.Test.YtchmdnopgfmpdaaHeapAwake
import Derived.Test.YtchmdnopgfmpdaaHeapCmp
namespace Go.Proofs.Ytchmdnopgfmpdaa
open Go.RowKit Hp

/-- the greatest one of the first k -/
def most2 (L : List Itm) : Nat → Itm
  | 0 => (0, 0)
  | k + 1 => if k = 0 ∨ lt2 (most2 L k) (at2 L k) = true then at2 L k else most2 L k
theorem most2_spec (L : List Itm) : ∀ k, 0 < k → k ≤ L.length → most2 L k ∈ L ∧ ∀ j, j < k → le2 (at2 L j) (most2 L k)
  | 0, h, _ => absurd h (by omega)
  | k + 1, _, hk => by
    rw [most2]
    by_cases h0 : k = 0
    · subst h0
      rw [if_pos (.inl rfl)]
      refine ⟨at2_mem (by omega), fun j hj => ?_⟩
      obtain rfl : j = 0 := by omega
      exact le2_refl _
    · obtain ⟨h1, h2⟩ := most2_spec L k (by omega) (by omega)
      by_cases hc : k = 0 ∨ lt2 (most2 L k) (at2 L k) = true
      · rw [if_pos hc]
        have hlt := hc.resolve_left h0
        refine ⟨at2_mem (by omega), fun j hj => ?_⟩
        by_cases e : j = k
        · subst e; exact le2_refl _
        · exact le2_trans (h2 j (by omega)) (le2_of_lt hlt)
      · rw [if_neg hc]
        refine ⟨h1, fun j hj => ?_⟩
        by_cases e : j = k
        · subst e
          have : lt2 (most2 L j) (at2 L j) = false := by simpa using fun h => hc (.inr h)
          exact this
        · exact h2 j (by omega)
theorem most2_all {L : List Itm} {y : Itm} (hy : y ∈ L) : le2 y (most2 L L.length) := by
  obtain ⟨j, hj, e⟩ := mem_at2 hy
  rw [← e]
  exact (most2_spec L L.length (by omega) (Nat.le_refl _)).2 j hj
/-- the first loop: the greatest one so far in the box -/
structure MoS (B p : Nat) (A1 : Option Addr) (L : List Itm) (m : Itm) (w wr : World) : Prop where
  l : ItmsAt wr B A1 L
  box : COwn wr p (itC m)
  below : Below B w wr
  bsz : B ≤ wr.heap.size
  far : B ≤ p
theorem MoS.carry {B p : Nat} {A1 : Option Addr} {L : List Itm} {m : Itm} {w wr w' : World} (h : MoS B p A1 L m w wr) (hb : Below wr.heap.size wr w') : MoS B p A1 L m w w' :=
  ⟨h.l.below (hb.mono h.bsz), h.box.carry hb (by simp), h.below.trans (hb.mono h.bsz), Nat.le_trans h.bsz hb.size, h.far⟩
theorem MoS.drew {B p : Nat} {A1 : Option Addr} {L : List Itm} {m : Itm} {w wr : World} (h : MoS B p A1 L m w wr) : MoS B p A1 L m w wr.drew :=
  ⟨h.l, h.box.drewN 1, h.below.drew, h.bsz, h.far⟩
theorem MoS.lay {B p : Nat} {A1 : Option Addr} {L : List Itm} {m x : Itm} {w wr w2 : World} (h : MoS B p A1 L m w wr) (hw : w2 = wr.setCells p 0 (itC x)) (hc : COwn w2 p (itC x)) : MoS B p A1 L x w w2 := by
  have hb : Below B wr w2 := by rw [hw]; exact below_setCells h.far _ _ _ (Below.refl _ _)
  exact ⟨h.l.below hb, hc, h.below.trans hb, Nat.le_trans h.bsz hb.size, h.far⟩
theorem its_rangeL {w : World} {B b o : Nat} {L : List Itm} (h : ItmsAt w B (some ⟨b, o, none⟩) L) {i : Nat} (hi : i < L.length) : w.rangeAt b (o + i * 2) (itC (at2 L i)) := by
  obtain ⟨b', o', e, _, hc⟩ := h (by omega)
  cases e
  exact hc i hi
structure MoK (B p b1 o1 k : Nat) (L : List Itm) (m y : Itm) (w wr : World) : Prop where
  st : MoS B p (some ⟨b1, o1, none⟩) L m w wr
  hl : k < L.length
  hy : y = at2 L k
theorem MoK.carry {B p b1 o1 k : Nat} {L : List Itm} {m y : Itm} {w wr w' : World} (h : MoK B p b1 o1 k L m y w wr) (hb : Below wr.heap.size wr w') : MoK B p b1 o1 k L m y w w' := ⟨h.st.carry hb, h.hl, h.hy⟩
theorem MoK.drew {B p b1 o1 k : Nat} {L : List Itm} {m y : Itm} {w wr : World} (h : MoK B p b1 o1 k L m y w wr) : MoK B p b1 o1 k L m y w wr.drew := ⟨h.st.drew, h.hl, h.hy⟩
theorem MoK.ly {B p b1 o1 k : Nat} {L : List Itm} {m y : Itm} {w wr : World} (h : MoK B p b1 o1 k L m y w wr) : wr.rangeAt b1 (o1 + k * 2) (itC y) := by rw [h.hy]; exact its_rangeL h.st.l h.hl
theorem MoS.below_ {B p D : Nat} {A1 : Option Addr} {L : List Itm} {m : Itm} {w wr w' : World} (h : MoS B p A1 L m w wr) (hD : B ≤ D) (hp : p < D) (hb : Below D wr w') : MoS B p A1 L m w w' :=
  ⟨h.l.below (hb.mono hD), h.box.below hb hp, h.below.trans (hb.mono hD), Nat.le_trans h.bsz hb.size, h.far⟩
/-- the second loop: k items and the greatest one are pushed -/
structure PuI (B C p hb : Nat) (A1 : Option Addr) (L : List Itm) (m : Itm) (w : World) (k : Nat) (v : Value) (M : List Itm) (wr : World) : Prop where
  st : MoS B p A1 L m w wr
  hp : HpAt wr C hb v M
  isHp : IsHp M
  perm : M.Perm (m :: L.take k)
  csz : C ≤ wr.heap.size
def PuR (B C p hb : Nat) (A1 : Option Addr) (L : List Itm) (m : Itm) (w : World) (u6 : Value) (wr : World) : Prop := ∃ (k : Nat) (v : Value) (M : List Itm), k ≤ L.length ∧ u6 = .int .i64 (k : Int) ∧ PuI B C p hb A1 L m w k v M wr
/-- the third loop: k items are popped -/
structure PoI (B C p hb q : Nat) (A1 : Option Addr) (L : List Itm) (m : Itm) (w : World) (v : Value) (R M : List Itm) (x : Itm) (wr : World) : Prop where
  st : MoS B p A1 L m w wr
  hp : HpAt wr C hb v M
  isHp : IsHp M
  perm : (R ++ M).Perm (m :: L)
  rise : Rise R
  le : ∀ r ∈ R, ∀ y ∈ M, le2 r y
  last : 0 < R.length → at2 R (R.length - 1) = x
  box : COwn wr q (itC x)
  qh : q ≠ hb
  qv : v.ownBlock ≠ some q
  csz : C ≤ wr.heap.size
  cq : C ≤ q
def PoR (B C p hb q : Nat) (A1 : Option Addr) (L : List Itm) (m : Itm) (w : World) (u8 u9 : Value) (wr : World) : Prop := ∃ (k : Nat) (v : Value) (R M : List Itm) (x : Itm), R.length = k ∧ k ≤ L.length + 1 ∧ u8 = .int .i64 (k : Int) ∧ u9 = .int .i64 (k : Int) ∧ PoI B C p hb q A1 L m w v R M x wr
theorem PoI.carry {B C p hb q : Nat} {A1 : Option Addr} {L : List Itm} {m : Itm} {w : World} {v : Value} {R M : List Itm} {x : Itm} {wr w' : World} (h : PoI B C p hb q A1 L m w v R M x wr) (hb' : Below wr.heap.size wr w') : PoI B C p hb q A1 L m w v R M x w' :=
  ⟨h.st.carry hb', h.hp.carry hb', h.isHp, h.perm, h.rise, h.le, h.last, h.box.carry hb' (by simp), h.qh, h.qv, Nat.le_trans h.csz hb'.size, h.cq⟩
theorem pop_next {L R M M' : List Itm} {m : Itm} (hh : IsHp M) (hp : (R ++ M).Perm (m :: L)) (hr : Rise R) (hle : ∀ r ∈ R, ∀ y ∈ M, le2 r y) (h0 : 0 < M.length) (h1 : M.Perm (at2 M 0 :: M')) :
    ((R ++ [at2 M 0]) ++ M').Perm (m :: L) ∧ Rise (R ++ [at2 M 0]) ∧ ∀ r ∈ R ++ [at2 M 0], ∀ y ∈ M', le2 r y := by
  have hm : at2 M 0 ∈ M := at2_mem h0
  have hs : ∀ y ∈ M', y ∈ M := fun y hy => h1.mem_iff.2 (List.mem_cons_of_mem _ hy)
  refine ⟨?_, hr.snoc fun y hy => hle y hy _ hm, fun r hr y hy => ?_⟩
  · refine List.Perm.trans ?_ hp
    rw [List.append_assoc]
    exact List.Perm.append_left R h1.symm
  · rcases List.mem_append.1 hr with hr | hr
    · exact hle r hr y (hs y hy)
    · rw [List.mem_singleton.1 hr]; exact hh.least_mem (hs y hy)
set_option maxRecDepth 100000 in
set_option maxHeartbeats 8000000 in
theorem last_walk {A1 : Option Addr} {L : List Itm} {n cap : Nat} {w : World} (hl : ItmsAt w w.heap.size A1 L) (hn : L.length = n) : Calls Try.prog 7 #[.slice A1 n cap] w fun e w' => e = .returned (.bool true) ∧ Below w.heap.size w w' := by
  obtain ⟨B, HB⟩ : ∃ B, Hid (B = w.heap.size) := ⟨_, Lib.hid rfl⟩
  have HL : Hid (ItmsAt w B A1 L) := Lib.hid (by rw [HB.out]; exact hl)
  have HN := Lib.hid hn
  rw [← HB.out]
  clear hl hn
  go_enter Try.func7, Try.ntmps7
  go_wp2_with fail
  refine (awake_any w).mono ?_
  rintro e w2 ⟨rfl, hbw⟩
  have H2 : Hid (Below B w w2) := Lib.hid (by rw [HB.out]; exact hbw)
  have HBW2 : Hid (B ≤ w2.heap.size) := Lib.hid (by rw [HB.out]; exact hbw.size)
  clear hbw
  by_cases hbig : 200 < n
  · go_wp2_with fail
    refine (awake_any w2).mono ?_
    rintro e w3 ⟨rfl, hbw⟩
    have H3 : Hid (Below B w w3) := Lib.hid (H2.out.trans (hbw.mono HBW2.out))
    clear hbw
    go_wp2_with fail
    go_ret
    exact ⟨rfl, H3.out⟩
  · go_wp2_with (with_reducible refine stop_at (o := ⟨none, _, _, _, _, _⟩) ?_)
    unfold Stopped
    refine wpList_store_last rfl _ _ _ rfl _ (itC (0, 0)).toArray _ rfl rfl rfl dueTy.size rfl (all_oneCell_toArray (itC_one (0, 0))) ?_
    obtain ⟨w3, HW3⟩ : ∃ w3, Hid (w3 = w2.alloc (.cells (itC (0, 0)).toArray 30)) := ⟨_, Lib.hid rfl⟩
    obtain ⟨p, HPP⟩ : ∃ p, Hid (p = w2.heap.size) := ⟨_, Lib.hid rfl⟩
    rw [← HW3.out, ← HPP.out]
    have HM3 : Hid (MoS B p A1 L (0, 0) w w3) := Lib.hid (by
      have hb3 : Below w2.heap.size w2 w3 := by rw [HW3.out]; exact (Below.refl _ _).alloc (Nat.le_refl _) _
      exact ⟨(HL.out.below H2.out).below (hb3.mono HBW2.out), by rw [HW3.out, HPP.out]; exact COwn.new (itC (0, 0)) _, H2.out.trans (hb3.mono HBW2.out), Nat.le_trans HBW2.out hb3.size, by rw [HPP.out]; exact HBW2.out⟩)
    clear HW3 HPP H2 HBW2 HL
    go_wp2_with fail
    go_loopw [4] (fun u4 wr => ∃ k : Nat, k ≤ n ∧ u4 = .int .i64 (k : Int) ∧ MoS B p A1 L (most2 L k) w wr) (fun u4 _ => n - (intOf u4).toNat)
    case atStart => exact ⟨0, Nat.zero_le _, rfl, HM3.out⟩
    case round =>
      clear HM3
      obtain ⟨k, hk, rfl, hs⟩ := hrel
      have HS := Lib.hid hs
      clear hs
      by_cases hkn : k < n
      · obtain ⟨b1, o1, hA1, -, -⟩ := HS.out.l (by have := HN.out; omega)
        subst hA1
        have hkl : k < L.length := by have := HN.out; omega
        obtain ⟨y, HY⟩ : ∃ y, Hid (y = at2 L k) := ⟨_, Lib.hid rfl⟩
        obtain ⟨m, HMM⟩ : ∃ m, Hid (m = most2 L k) := ⟨_, Lib.hid rfl⟩
        rw [← HMM.out] at HS
        obtain ⟨z, HZ⟩ : ∃ z, Hid (lt2 m y = z) := ⟨_, Lib.hid rfl⟩
        have HK : Hid (MoK B p b1 o1 k L m y w wr) := Lib.hid ⟨HS.out, hkl, HY.out⟩
        clear HS
        by_cases hk0 : k = 0
        · have hz0 : ((k : Int) == 0) = true := by simp [hk0]
          have HNX : Hid (most2 L (k + 1) = y) := Lib.hid (by rw [most2, if_pos (.inl hk0), HY.out])
          clear hk0
          go_upto_region 7 with (fail)
          refine wp_region_held (S := MoK B p b1 o1 k L m y w) (by kernel_rfl) ?_
          change wpAnyH _ _ _ _ _ _ _ _ wr.drew
          obtain ⟨wa, HWA⟩ : ∃ wa, Hid (wa = wr.drew) := ⟨_, Lib.hid rfl⟩
          rw [← HWA.out]
          have hS : MoK B p b1 o1 k L m y w wa := by rw [HWA.out]; exact HK.out.drew
          clear HWA HK
          refine takeH (i := 0) 27 (v := .int .i64 (k : Int)) rfl (by kernel_rfl) (by kernel_rfl) (by kernel_rfl) rfl (fun _ _ _ h => h) (.inl ⟨by rfl, fun _ _ => by go_simp⟩) hS ?_
          simp only [Act.put, List.setIfInBounds_toArray, List.set_cons_zero, List.set_cons_succ]
          refine takeH (i := 1) 28 (v := .bool true) rfl (by kernel_rfl) (by kernel_rfl) (by kernel_rfl) rfl (fun _ _ _ h => h) (.inl ⟨by rfl, fun _ _ => by go_simp⟩) hS ?_
          simp only [Act.put, List.setIfInBounds_toArray, List.set_cons_zero, List.set_cons_succ]
          refine takeH (i := 2) 29 (v := .bool true) rfl (by kernel_rfl) (by kernel_rfl) (by kernel_rfl) rfl (fun _ _ _ h => h) (.inl ⟨by rfl, fun _ _ => by go_simp⟩) hS ?_
          simp only [Act.put, List.setIfInBounds_toArray, List.set_cons_zero, List.set_cons_succ]
          refine takeH (i := 3) 30 (v := undef) rfl (by kernel_rfl) (by kernel_rfl) (by kernel_rfl) rfl (fun _ _ _ h => h) (.inr ⟨by rfl, rfl⟩) hS ?_
          simp only [Act.put, List.setIfInBounds_toArray, List.set_cons_zero, List.set_cons_succ]
          refine takeH (i := 4) 31 (v := undef) rfl (by kernel_rfl) (by kernel_rfl) (by kernel_rfl) rfl (fun _ _ _ h => h) (.inr ⟨by rfl, rfl⟩) hS ?_
          simp only [Act.put, List.setIfInBounds_toArray, List.set_cons_zero, List.set_cons_succ]
          refine takeH (i := 5) 32 (v := undef) rfl (by kernel_rfl) (by kernel_rfl) (by kernel_rfl) rfl (fun _ _ _ h => h) (.inr ⟨by rfl, rfl⟩) hS ?_
          simp only [Act.put, List.setIfInBounds_toArray, List.set_cons_zero, List.set_cons_succ]
          refine takeH (i := 6) 33 (v := undef) rfl (by kernel_rfl) (by kernel_rfl) (by kernel_rfl) rfl (fun _ _ _ h => h) (.inr ⟨by rfl, rfl⟩) hS ?_
          simp only [Act.put, List.setIfInBounds_toArray, List.set_cons_zero, List.set_cons_succ]
          refine takeH (i := 7) 34 (v := undef) rfl (by kernel_rfl) (by kernel_rfl) (by kernel_rfl) rfl (fun _ _ _ h => h) (.inr ⟨by rfl, rfl⟩) hS ?_
          simp only [Act.put, List.setIfInBounds_toArray, List.set_cons_zero, List.set_cons_succ]
          refine takeH (i := 8) 35 (v := undef) rfl (by kernel_rfl) (by kernel_rfl) (by kernel_rfl) rfl (fun _ _ _ h => h) (.inr ⟨by rfl, rfl⟩) hS ?_
          simp only [Act.put, List.setIfInBounds_toArray, List.set_cons_zero, List.set_cons_succ]
          refine takeH (i := 9) 36 (v := .bool true) rfl (by kernel_rfl) (by kernel_rfl) (by kernel_rfl) rfl (fun _ _ _ h => h) (.inl ⟨by rfl, fun _ _ => by go_simp⟩) hS ?_
          simp only [Act.put, List.setIfInBounds_toArray, List.set_cons_zero, List.set_cons_succ]
          refine wpAnyH_done (by kernel_rfl) ?_ _
          go_wp2_with (with_reducible refine stop_at (o := ⟨some 40, _, _, _, _, _⟩) ?_)
          unfold Stopped
          refine wpList_load_c dueTy (by rfl) _ rfl b1 (o1 + k * 2) rfl (itC y) rfl hS.ly ?_
          simp only [Act.put, List.setIfInBounds_toArray, List.set_cons_zero, List.set_cons_succ]
          refine wpList_store_c dueTy rfl _ _ rfl p (itC m) (itC y) rfl rfl (itC_one y) rfl rfl hS.st.box ?_
          intro w6 HW6 HC6
          have HS6 : Hid (MoS B p _ L y w w6) := Lib.hid (hS.st.lay HW6.out HC6.out)
          clear HW6 HC6 hS
          go_wp2_with fail
          go_roundw
          case rel => exact ⟨k + 1, hkn, by go_num, by rw [HNX.out]; exact HS6.out⟩
          case measure => simp [intOf]; omega
        · have hz0 : ((k : Int) == 0) = false := by simp; omega
          go_upto_region 7 with (fail)
          refine wp_region_held (S := MoK B p b1 o1 k L m y w) (by kernel_rfl) ?_
          change wpAnyH _ _ _ _ _ _ _ _ wr.drew
          obtain ⟨wa, HWA⟩ : ∃ wa, Hid (wa = wr.drew) := ⟨_, Lib.hid rfl⟩
          rw [← HWA.out]
          have hS : MoK B p b1 o1 k L m y w wa := by rw [HWA.out]; exact HK.out.drew
          clear HWA HK
          refine takeH (i := 0) 27 (v := .int .i64 (k : Int)) rfl (by kernel_rfl) (by kernel_rfl) (by kernel_rfl) rfl (fun _ _ _ h => h) (.inl ⟨by rfl, fun _ _ => by go_simp⟩) hS ?_
          simp only [Act.put, List.setIfInBounds_toArray, List.set_cons_zero, List.set_cons_succ]
          refine takeH (i := 1) 28 (v := .bool false) rfl (by kernel_rfl) (by kernel_rfl) (by kernel_rfl) rfl (fun _ _ _ h => h) (.inl ⟨by rfl, fun _ _ => by go_simp⟩) hS ?_
          simp only [Act.put, List.setIfInBounds_toArray, List.set_cons_zero, List.set_cons_succ]
          refine takeH (i := 2) 29 (v := .bool false) rfl (by kernel_rfl) (by kernel_rfl) (by kernel_rfl) rfl (fun _ _ _ h => h) (.inl ⟨by rfl, fun _ _ => by go_simp⟩) hS ?_
          simp only [Act.put, List.setIfInBounds_toArray, List.set_cons_zero, List.set_cons_succ]
          refine takeH (i := 3) 30 (v := itV m) rfl (by kernel_rfl) (by kernel_rfl) (by kernel_rfl) rfl (fun _ _ _ h => h) (yieldsIf_c dueTy (by rfl) _ rfl p 0 (by rfl) (itC m) rfl (fun _ h => h.st.box.at_)) hS ?_
          simp only [Act.put, List.setIfInBounds_toArray, List.set_cons_zero, List.set_cons_succ]
          refine takeH (i := 4) 31 (v := .slice (some ⟨b1, o1, none⟩) n cap) rfl (by kernel_rfl) (by kernel_rfl) (by kernel_rfl) rfl (fun _ _ _ h => h) (.inl ⟨by rfl, fun _ _ => by go_simp⟩) hS ?_
          simp only [Act.put, List.setIfInBounds_toArray, List.set_cons_zero, List.set_cons_succ]
          refine takeH (i := 5) 32 (v := .int .i64 (k : Int)) rfl (by kernel_rfl) (by kernel_rfl) (by kernel_rfl) rfl (fun _ _ _ h => h) (.inl ⟨by rfl, fun _ _ => by go_simp⟩) hS ?_
          simp only [Act.put, List.setIfInBounds_toArray, List.set_cons_zero, List.set_cons_succ]
          refine takeH (i := 6) 33 (v := .pointer (some ⟨b1, o1 + k * 2, none⟩)) rfl (by kernel_rfl) (by kernel_rfl) (by kernel_rfl) rfl (fun _ _ _ h => h) (.inl ⟨by rfl, fun _ _ => by go_simp⟩) hS ?_
          simp only [Act.put, List.setIfInBounds_toArray, List.set_cons_zero, List.set_cons_succ]
          refine takeH (i := 7) 34 (v := itV y) rfl (by kernel_rfl) (by kernel_rfl) (by kernel_rfl) rfl (fun _ _ _ h => h) (yieldsIf_c dueTy (by rfl) _ rfl b1 (o1 + k * 2) (by rfl) (itC y) rfl (fun _ h => h.ly)) hS ?_
          simp only [Act.put, List.setIfInBounds_toArray, List.set_cons_zero, List.set_cons_succ]
          refine oneH (i := 8) (oi := ⟨some 35, _, _, _, _, _⟩) rfl (by kernel_rfl) (fun K hK => ?_)
          rw [if_pos (by rfl)]
          go_simp
          refine (Less_any m y _).mono ?_
          rw [HZ.out]
          rintro e wn ⟨rfl, hbn⟩
          have hS2 := hS.carry hbn
          refine hK.out _ _ hS2 ?_
          clear hK K hbn hS
          have hS := hS2
          clear hS2
          refine takeH (i := 9) 36 (v := .bool z) rfl (by kernel_rfl) (by kernel_rfl) (by kernel_rfl) rfl (fun _ _ _ h => h) (.inl ⟨by rfl, fun _ _ => by go_simp⟩) hS ?_
          simp only [Act.put, List.setIfInBounds_toArray, List.set_cons_zero, List.set_cons_succ]
          refine wpAnyH_done (by kernel_rfl) ?_ _
          cases z with
          | true =>
            have HNX : Hid (most2 L (k + 1) = y) := Lib.hid (by rw [most2, if_pos (.inr (by rw [← HMM.out, ← HY.out]; exact HZ.out)), HY.out])
            go_wp2_with (with_reducible refine stop_at (o := ⟨some 40, _, _, _, _, _⟩) ?_)
            unfold Stopped
            refine wpList_load_c dueTy (by rfl) _ rfl b1 (o1 + k * 2) rfl (itC y) rfl hS.ly ?_
            simp only [Act.put, List.setIfInBounds_toArray, List.set_cons_zero, List.set_cons_succ]
            refine wpList_store_c dueTy rfl _ _ rfl p (itC m) (itC y) rfl rfl (itC_one y) rfl rfl hS.st.box ?_
            intro w6 HW6 HC6
            have HS6 : Hid (MoS B p _ L y w w6) := Lib.hid (hS.st.lay HW6.out HC6.out)
            clear HW6 HC6 hS
            go_wp2_with fail
            go_roundw
            case rel => exact ⟨k + 1, hkn, by go_num, by rw [HNX.out]; exact HS6.out⟩
            case measure => simp [intOf]; omega
          | false =>
            have HNX : Hid (most2 L (k + 1) = m) := Lib.hid (by rw [most2, if_neg (by rw [← HMM.out, ← HY.out, HZ.out]; intro h; rcases h with h | h; exact hk0 h; cases h), HMM.out])
            have HS6 : Hid (MoS B p _ L m w wn) := Lib.hid hS.st
            clear hS
            go_wp2_with fail
            go_roundw
            case rel => exact ⟨k + 1, hkn, by go_num, by rw [HNX.out]; exact HS6.out⟩
            case measure => simp [intOf]; omega
      · obtain rfl : k = n := by omega
        obtain ⟨m, HMM⟩ : ∃ m, Hid (m = most2 L k) := ⟨_, Lib.hid rfl⟩
        rw [← HMM.out] at HS
        obtain ⟨C, HCC⟩ : ∃ C, Hid (C = wr.heap.size) := ⟨_, Lib.hid rfl⟩
        have hnew := Lib.hid (New_any wr (B := C) (by rw [HCC.out]; exact Nat.le_refl _))
        rw [← HCC.out] at hnew
        go_wp2_with fail
        refine hnew.out.mono ?_
        rintro e w4 ⟨rfl, h1, h2, hlt1⟩
        obtain ⟨hb, HHB⟩ : ∃ hb, Hid (hb = C) := ⟨_, Lib.hid rfl⟩
        have HP4 : Hid (HpAt w4 C hb (.slice none 0 0) []) := Lib.hid (by rw [HHB.out]; exact h1)
        have HS4 : Hid (MoS B p A1 L m w w4) := Lib.hid (HS.out.carry (by rw [← HCC.out]; exact h2))
        have HPC : Hid (p < C ∧ B ≤ C) := Lib.hid (by rw [HCC.out]; exact ⟨HS.out.box.lt (by simp), HS.out.bsz⟩)
        have HC4 : Hid (C ≤ w4.heap.size) := Lib.hid (by omega)
        rw [show ptr9 C = ptr9 hb by rw [HHB.out]]
        clear h1 h2 hlt1 hnew HS HCC HHB
        have hpu := Lib.hid (Push_any HP4.out isHp_nil (by simp) HC4.out m)
        go_wp2_with (with_reducible refine stop_at (o := ⟨some 43, _, _, _, _, _⟩) ?_)
        unfold Stopped
        refine wpList_load_c dueTy (by rfl) _ rfl p 0 rfl (itC m) rfl HS4.out.box.at_ ?_
        simp only [Act.put, List.setIfInBounds_toArray, List.set_cons_zero, List.set_cons_succ]
        go_wp2_with fail
        refine hpu.out.mono ?_
        rintro e w5 ⟨rfl, v5, M5, h1, h2, h3, h4, h5⟩
        have HI5 : Hid (PuI B C p hb A1 L m w 0 v5 M5 w5) := Lib.hid (by
          have hb5 : Below C w4 w5 := h4.below HC4.out (fun k hk => by cases hk; exact HP4.out.far) (fun k hk => (HP4.out.row.lt k hk).1)
          exact ⟨HS4.out.below_ HPC.out.2 HPC.out.1 hb5, h1, h2, by rw [List.take_zero]; exact h3, Nat.le_trans HC4.out h4.size⟩)
        clear h1 h2 h3 h4 h5 hpu HP4 HS4 HC4
        go_wp2_with fail
        go_loopw [6] (fun u6 wr => PuR B C p hb A1 L m w u6 wr) (fun u6 _ => k - (intOf u6).toNat)
        case atStart => exact ⟨0, v5, M5, Nat.zero_le _, rfl, HI5.out⟩
        case round =>
          clear HI5
          obtain ⟨j, v, M, hj, rfl, hi⟩ := hrel
          have HI := Lib.hid hi
          clear hi
          by_cases hjk : j < k
          · have hjl : j < L.length := by have := HN.out; omega
            obtain ⟨b1, o1, hA1, -, -⟩ := HI.out.st.l (by omega)
            subst hA1
            obtain ⟨y, HY⟩ : ∃ y, Hid (y = at2 L j) := ⟨_, Lib.hid rfl⟩
            have HR : Hid (wr.rangeAt b1 (o1 + j * 2) (itC y)) := Lib.hid (by rw [HY.out]; exact its_rangeL HI.out.st.l hjl)
            have hml : M.length = j + 1 := by have := HI.out.perm.length_eq; rw [List.length_cons, List.length_take] at this; omega
            have hpu := Lib.hid (Push_any HI.out.hp HI.out.isHp (by omega) HI.out.csz y)
            clear hml
            go_wp2_with (with_reducible refine stop_at (o := ⟨some 55, _, _, _, _, _⟩) ?_)
            unfold Stopped
            refine wpList_load_c dueTy (by rfl) _ rfl b1 (o1 + j * 2) rfl (itC y) rfl HR.out ?_
            simp only [Act.put, List.setIfInBounds_toArray, List.set_cons_zero, List.set_cons_succ]
            go_wp2_with fail
            refine hpu.out.mono ?_
            rintro e w6 ⟨rfl, v6, M6, h1, h2, h3, h4, h5⟩
            have HI6 : Hid (PuI B C p hb _ L m w (j + 1) v6 M6 w6) := Lib.hid (by
              have hb6 : Below C wr w6 := h4.below HI.out.csz (fun k hk => by cases hk; exact HI.out.hp.far) (fun k hk => (HI.out.hp.row.lt k hk).1)
              refine ⟨HI.out.st.below_ HPC.out.2 HPC.out.1 hb6, h1, h2, ?_, Nat.le_trans HI.out.csz h4.size⟩
              rw [at2_drop_cons hjl, ← HY.out]
              exact h3.trans (HI.out.perm.append_right [y]))
            clear h1 h2 h3 h4 h5 hpu HI HR
            go_wp2_with fail
            go_roundw
            case rel => exact ⟨j + 1, v6, M6, hjl, by go_num, HI6.out⟩
            case measure => simp [intOf]; omega
          · have hjn : j = k := by have := HN.out; omega
            subst hjn
            obtain ⟨w7, HW7⟩ : ∃ w7, Hid (w7 = wr.alloc (.cells #[.int .i64 0, .int .i64 0] 30)) := ⟨_, Lib.hid rfl⟩
            obtain ⟨q, HQ⟩ : ∃ q, Hid (q = wr.heap.size) := ⟨_, Lib.hid rfl⟩
            have HI7 : Hid (PoI B C p hb q A1 L m w v [] M (0, 0) w7) := Lib.hid (by
              have hb7 : Below wr.heap.size wr w7 := by rw [HW7.out]; exact (Below.refl _ _).alloc (Nat.le_refl _) _
              have hpm := HI.out.perm
              rw [List.take_of_length_le (by rw [HN.out]; exact Nat.le_refl _)] at hpm
              exact ⟨HI.out.st.carry hb7, HI.out.hp.carry hb7, HI.out.isHp, hpm, rise_nil, (fun r hr => by cases hr), (fun h => absurd h (by simp)), by rw [HW7.out, HQ.out]; exact COwn.new (itC (0, 0)) _, by have := HI.out.hp.lt; rw [HQ.out]; omega, (fun e => by have := (HI.out.hp.row.lt q e).2; rw [HQ.out] at this; omega), Nat.le_trans HI.out.csz hb7.size, by rw [HQ.out]; exact HI.out.csz⟩)
            obtain ⟨n, HNN⟩ : ∃ n, Hid (n = j) := ⟨_, Lib.hid rfl⟩
            rw [← HNN.out]
            have HN2 : Hid (L.length = n) := Lib.hid (by rw [HNN.out]; exact HN.out)
            have hn2 : n ≤ 200 := by rw [HNN.out]; omega
            clear HI
            go_upto_region 16 with (fail)
            rw [← HW7.out, ← HQ.out]
            clear HW7 HQ
            go_wp2_with fail
            go_loopw [8, 9] (fun u8 u9 wr => PoR B C p hb q A1 L m w u8 u9 wr) (fun _ u9 _ => n + 1 - (intOf u9).toNat)
            case atStart => exact ⟨0, v, [], M, (0, 0), rfl, Nat.zero_le _, rfl, rfl, HI7.out⟩
            case round =>
              clear HI7
              obtain ⟨i, v, R, M, x, hri, hi, rfl, rfl, hpo⟩ := hrel
              have HR := Lib.hid hri
              have HI := Lib.hid hpo
              have HIL := Lib.hid hi
              clear hri hpo hi
              have HML : Hid (i + M.length = n + 1) := Lib.hid (by have := HI.out.perm.length_eq; rw [List.length_append, List.length_cons, HR.out, HN2.out] at this; exact this)
              by_cases hin : i ≤ n
              · have h0 : 0 < M.length := by have := HML.out; omega
                have hpp := Lib.hid (Pop_any HI.out.hp HI.out.isHp (by have := HML.out; omega))
                obtain ⟨y, HY⟩ : ∃ y, Hid (y = at2 M 0) := ⟨_, Lib.hid rfl⟩
                rw [← HY.out, decide_eq_true h0] at hpp
                go_wp2_with fail
                refine hpp.out.mono ?_
                rintro e w8 ⟨v8, M8, rfl, h1, h2, h3, h4, h5, h6⟩
                have HPN := Lib.hid (pop_next HI.out.isHp HI.out.perm HI.out.rise HI.out.le h0 (by have := h5 h0; rwa [HY.out] at this))
                rw [← HY.out] at HPN
                have hb8 : Below C wr w8 := h4.below HI.out.csz (fun k hk => by cases hk; exact HI.out.hp.far) (fun k hk => (HI.out.hp.row.lt k hk).1)
                have HI8 : Hid (MoS B p A1 L m w w8 ∧ HpAt w8 C hb v8 M8 ∧ IsHp M8 ∧ COwn w8 q (itC x) ∧ q ≠ hb ∧ v8.ownBlock ≠ some q ∧ C ≤ w8.heap.size ∧ C ≤ q) := Lib.hid
                  ⟨HI.out.st.below_ HPC.out.2 HPC.out.1 hb8, h1, h2, HI.out.box.block (h4.block q (HI.out.box.lt (by simp)) (fun e => HI.out.qh (Option.some.inj e)) (fun e => HI.out.qv e.symm)), HI.out.qh, by rw [h3]; exact HI.out.qv, Nat.le_trans HI.out.csz h4.size, HI.out.cq⟩
                clear h1 h2 h3 h4 h5 h6 hb8 hpp HI h0
                go_wp2_with (with_reducible refine stop_at (o := ⟨none, _, _, _, _, _⟩) ?_)
                unfold Stopped
                refine wpList_store_last rfl _ _ _ rfl _ (itC y).toArray _ rfl rfl rfl dueTy.size rfl (all_oneCell_toArray (itC_one y)) ?_
                obtain ⟨w9, HW9⟩ : ∃ w9, Hid (w9 = w8.alloc (.cells (itC y).toArray 30)) := ⟨_, Lib.hid rfl⟩
                obtain ⟨g, HG⟩ : ∃ g, Hid (g = w8.heap.size) := ⟨_, Lib.hid rfl⟩
                rw [← HW9.out, ← HG.out]
                have hb9 : Below w8.heap.size w8 w9 := by rw [HW9.out]; exact (Below.refl _ _).alloc (Nat.le_refl _) _
                have HG9 : Hid (COwn w9 g (itC y)) := Lib.hid (by rw [HW9.out, HG.out]; exact COwn.new (itC y) _)
                have HI9 : Hid (MoS B p A1 L m w w9 ∧ HpAt w9 C hb v8 M8 ∧ IsHp M8 ∧ COwn w9 q (itC x) ∧ q ≠ hb ∧ v8.ownBlock ≠ some q ∧ C ≤ w9.heap.size ∧ C ≤ q) := Lib.hid
                  ⟨HI8.out.1.carry hb9, HI8.out.2.1.carry hb9, HI8.out.2.2.1, HI8.out.2.2.2.1.carry hb9 (by simp), HI8.out.2.2.2.2.1, HI8.out.2.2.2.2.2.1, Nat.le_trans HI8.out.2.2.2.2.2.2.1 hb9.size, HI8.out.2.2.2.2.2.2.2⟩
                clear HW9 HG hb9 HI8
                go_wp2_with (with_reducible refine stop_at (o := ⟨some 70, _, _, _, _, _⟩) ?_)
                unfold Stopped
                refine wpList_load_c dueTy (by rfl) _ rfl g 0 rfl (itC y) rfl HG9.out.at_ ?_
                simp only [Act.put, List.setIfInBounds_toArray, List.set_cons_zero, List.set_cons_succ]
                refine wpList_store_c dueTy rfl _ _ rfl q (itC x) (itC y) rfl rfl (itC_one y) rfl rfl HI9.out.2.2.2.1 ?_
                intro wA HWA HCA
                have HIA : Hid (PoI B C p hb q A1 L m w v8 (R ++ [y]) M8 y wA) := Lib.hid (by
                  obtain ⟨i1, i2, i3, i4, i5, i6, i7, i8⟩ := HI9.out
                  have hbA : Below C w9 wA := by rw [HWA.out]; exact below_setCells i8 _ _ _ (Below.refl _ _)
                  refine ⟨i1.below_ HPC.out.2 HPC.out.1 hbA, by rw [HWA.out]; exact hp_other i2 i5.symm i6 _ _, i3, HPN.out.1, HPN.out.2.1, HPN.out.2.2, fun _ => ?_, HCA.out, i5, i6, Nat.le_trans i7 hbA.size, i8⟩
                  rw [List.length_append, List.length_singleton, Nat.add_sub_cancel]
                  exact at2_snoc R y)
                clear HWA HCA HI9 HPN HG9
                have e1 : wrap64 ((i : Int) + 1) = (i : Int) + 1 := by unfold wrap64; omega
                go_wp2_with fail
                go_roundw
                case rel => exact ⟨i + 1, v8, R ++ [y], M8, y, by rw [List.length_append, HR.out]; rfl, by rw [HN2.out]; omega, by simp, by simp, HIA.out⟩
                case measure => simp [intOf]; omega
              · have hie : i = n + 1 := by have := HML.out; omega
                have HM0 : Hid (M = []) := Lib.hid (List.eq_nil_of_length_eq_zero (by have := HML.out; omega))
                have HXM : Hid (x = m) := Lib.hid (by
                  have hp := HI.out.perm
                  rw [HM0.out, List.append_nil] at hp
                  have h0 : 0 < R.length := by rw [HR.out]; omega
                  rw [← HI.out.last h0]
                  refine rise_last HI.out.rise (hp.mem_iff.2 List.mem_cons_self) (fun y hy => ?_) h0
                  rcases List.mem_cons.1 (hp.mem_iff.1 hy) with h | h
                  · rw [h]; exact le2_refl _
                  · rw [HMM.out, ← HN.out]; exact most2_all h)
                have HBX : Hid (COwn wr q (itC m)) := Lib.hid (by have := HI.out.box; rwa [HXM.out] at this)
                have HLE := Lib.hid (Len_any HI.out.hp)
                rw [HM0.out] at HLE
                obtain ⟨t, HT⟩ : ∃ t : Nat, Hid (t = n + 1) := ⟨_, Lib.hid rfl⟩
                have hit : i = t := by rw [HT.out]; exact hie
                subst hit
                have e1 : (n : Int) + 1 = (i : Int) := by omega
                have e2 : wrap64 (i : Int) = (i : Int) := by unfold wrap64; omega
                have c0 := HBX.out.cell (j := 0) (v := .int .i64 m.1) rfl
                have c1 := HBX.out.cell (j := 1) (v := .int .i64 m.2) rfl
                have c2 := HI.out.st.box.cell (j := 0) (v := .int .i64 m.1) rfl
                have c3 := HI.out.st.box.cell (j := 1) (v := .int .i64 m.2) rfl
                have hq : ∀ w, (binOp .eql 30 (itV m) (itV m)).run Try.prog w = .ok (.bool true) w := fun w => by rw [eql_it]; simp
                have hg := guardDue
                have HFB := Lib.hid HI.out.st.below
                have hlt : (n : Int) < (i : Int) := by omega
                have HIE := Lib.hid hie
                clear hie HI HBX HXM HM0 HML
                go_wp2_with fail
                refine HLE.out.mono ?_
                rintro e w9 ⟨rfl, rfl⟩
                go_wp2_with fail
                go_ret
                exact ⟨by simp, HFB.out⟩
end Go.Proofs.Ytchmdnopgfmpdaa
