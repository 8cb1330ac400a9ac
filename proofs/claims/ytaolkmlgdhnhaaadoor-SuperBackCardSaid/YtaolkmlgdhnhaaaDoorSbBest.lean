/-
  The contract of super.Best: of two sectors the superblock that counts. Conditions: none beyond the premises of each theorem.
-/
import Derived.Test.YtaolkmlgdhnhaaaDoorSbDisk
namespace Go.Proofs.YtaolkmlgdhnhaaaDoor
open Go.RowKit

/-- the one that counts so far -/
def bestK (a b : List UInt8) : Nat → Sb
  | 0 => Sb.zero
  | 1 => (sbOf a).getD Sb.zero
  | _ => (best (sbOf a) (sbOf b)).getD Sb.zero
theorem getD_ok {l : List UInt8} : ((sbOf l).getD Sb.zero).Ok := by
  cases h : sbOf l with
  | none => exact Sb.Ok.zero
  | some x => exact (sbOf_some h).1
theorem best_ok {a b : List UInt8} {x : Sb} (h : best (sbOf a) (sbOf b) = some x) : x.Ok ∧ rightB x = true := by
  rcases best_some h with h | h
  · exact sbOf_some h
  · exact sbOf_some h
theorem bestK_ok (a b : List UInt8) (k : Nat) : (bestK a b k).Ok := by
  match k with
  | 0 => exact Sb.Ok.zero
  | 1 => exact getD_ok
  | k + 2 =>
    show ((best (sbOf a) (sbOf b)).getD Sb.zero).Ok
    cases h : best (sbOf a) (sbOf b) with
    | none => exact Sb.Ok.zero
    | some x => exact (best_ok h).1
/-- the sector looked at -/
def secK (a b : List UInt8) (k : Nat) : List UInt8 := if k = 0 then a else b
theorem bestK_none {a b : List UInt8} {k : Nat} (hk : k < 2) (h : sbOf (secK a b k) = none) : bestK a b (k + 1) = bestK a b k := by
  match k, hk with
  | 0, _ => show (sbOf a).getD Sb.zero = Sb.zero; rw [show sbOf a = none from h]; rfl
  | 1, _ =>
    show (best (sbOf a) (sbOf b)).getD Sb.zero = (sbOf a).getD Sb.zero
    rw [show sbOf b = none from h]
    cases sbOf a <;> rfl
theorem bestK_some {a b : List UInt8} {k : Nat} {x : Sb} (hk : k < 2) (h : sbOf (secK a b k) = some x) : bestK a b (k + 1) = if (bestK a b k).gen < x.gen then x else bestK a b k := by
  have hr := rightB_gen (sbOf_some h).2
  match k, hk with
  | 0, _ =>
    show (sbOf a).getD Sb.zero = if (0 : Nat) < x.gen then x else Sb.zero
    rw [show sbOf a = some x from h, if_pos (by omega)]
    rfl
  | 1, _ =>
    show (best (sbOf a) (sbOf b)).getD Sb.zero = if ((sbOf a).getD Sb.zero).gen < x.gen then x else (sbOf a).getD Sb.zero
    rw [show sbOf b = some x from h]
    cases sbOf a with
    | none => show x = if (0 : Nat) < x.gen then x else _; rw [if_pos (by omega)]
    | some y =>
      show (if x.gen ≤ y.gen then some y else some x).getD Sb.zero = if y.gen < x.gen then x else y
      by_cases hg : x.gen ≤ y.gen
      · rw [if_pos hg, if_neg (by omega)]; rfl
      · rw [if_neg hg, if_pos (by omega)]; rfl
theorem bestK_two {a b : List UInt8} : (bestK a b 2).gen = 0 ↔ best (sbOf a) (sbOf b) = none := by
  show ((best (sbOf a) (sbOf b)).getD Sb.zero).gen = 0 ↔ _
  cases h : best (sbOf a) (sbOf b) with
  | none => exact ⟨fun _ => rfl, fun _ => rfl⟩
  | some x => exact ⟨fun hg => absurd hg (rightB_gen (best_ok h).2), fun hg => by cases hg⟩
set_option maxRecDepth 100000 in
theorem Best_small {K : Nat → Prop} {D n : Nat} {d : Dk} {w : World} (h : DiskAt K w D n d) (hd : d.down = false) (hn : n < 3) : Calls Tryd.prog 20 #[.pointer (some ⟨D, 0, none⟩)] w (BestPost 1 none w) := by
  have hz := Tryd.sbProg.zero
  have hz2 := Tryd.zeroPage
  have hn3 : (n : Int) < 3 := by omega
  obtain ⟨b, HB⟩ : ∃ b, Hid (b = w.heap.size) := ⟨_, Lib.hid rfl⟩
  obtain ⟨w1, HW⟩ : ∃ w1, Hid (w1 = w.alloc (.cells (sbArr Sb.zero) 33)) := ⟨_, Lib.hid rfl⟩
  have HO : Hid (BOwn w1 b Sb.zero) := Lib.hid (by rw [HW.out, HB.out]; exact BOwn.new _)
  have HBL : Hid (Below w.heap.size w w1) := Lib.hid (by rw [HW.out]; exact (Below.refl _ _).alloc (Nat.le_refl _) _)
  have HD := Lib.hid (h.carry HBL.out)
  have hpos : 0 < n := by obtain ⟨F, S, v, h⟩ := h; exact h.pos
  have hr := Read_any HD.out 0
  have hc : codeZ d.down n ((0 : Nat) : Int) = 0 := by rw [hd]; exact codeZ_in hpos
  rw [show codeZ d.down n 0 = 0 from hc, if_pos rfl] at hr
  obtain ⟨p, HP⟩ : ∃ p, Hid (p = pgAt d.seen (0 : Int).toNat) := ⟨_, Lib.hid rfl⟩
  have HPL : Hid (p.length = 128) := Lib.hid (by rw [HP.out]; exact pgAt_length h.ok.ws (by rw [h.ok.seen]; exact hpos))
  rw [← HP.out] at hr
  have HR := Lib.hid hr
  clear hr hc h hd hn
  go_enter Tryd.func20, Tryd.ntmps20
  go_upto_region 1 with (fail)
  rw [← HW.out, ← HB.out]
  clear HW
  go_wp2_with fail
  refine HR.out.mono ?_
  rintro e w2 ⟨v, rfl, he, hb⟩
  obtain rfl := he.zero
  have HO2 := Lib.hid (HO.out.below hb HO.out.lt)
  have HB2 : Hid (Below w.heap.size w w2) := Lib.hid (HBL.out.trans (hb.mono HBL.out.size))
  have HD2 := Lib.hid (HD.out.carry hb)
  clear he hb HR HD
  go_wp2_with (with_reducible refine stop_at (o := ⟨none, _, _, _, _, _⟩) ?_)
  refine wpList_store_last rfl _ _ _ rfl (pgArr zeroPg) (pgArr p) _ rfl rfl rfl (by rw [pgArr_size, HPL.out]; exact Tryd.pageSize) (by rw [pgArr_size, pgArr_size, HPL.out]; rfl) (pgArr_all _) ?_
  obtain ⟨w3, HW⟩ : ∃ w3, Hid (w3 = w2.alloc (.cells (pgArr p) 55)) := ⟨_, Lib.hid rfl⟩
  rw [← HW.out]
  have hb3 : Below w2.heap.size w2 w3 := by rw [HW.out]; exact (Below.refl _ _).alloc (Nat.le_refl _) _
  have HO3 := Lib.hid (HO2.out.below hb3 HO2.out.lt)
  have HB3 : Hid (Below w.heap.size w w3) := Lib.hid (HB2.out.trans (hb3.mono HB2.out.size))
  have HD3 := Lib.hid (HD2.out.carry hb3)
  clear hb3 HW HD2
  go_wp2_with fail
  refine (Size_any HD3.out).mono ?_
  rintro e w' ⟨rfl, rfl⟩
  go_wp2_with (with_reducible refine stop_at (o := ⟨some 23, _, _, _, _, _⟩) ?_)
  refine wpList_build_sb0 Tryd.sbProg rfl rfl ?_
  go_wp2_with fail
  refine (SbFault_any 1 (by decide) w3).mono ?_
  rintro e w4 ⟨v, rfl, he, hb⟩
  have HE4 := Lib.hid he
  have HO4 := Lib.hid (HO3.out.below hb HO3.out.lt)
  have HB4 : Hid (Below w.heap.size w w4) := Lib.hid (HB3.out.trans (hb.mono HB3.out.size))
  clear he hb
  go_wp2_with (with_reducible refine stop_at (o := ⟨none, _, _, _, _, _⟩) ?_)
  refine wpList_store_sb Tryd.sbProg rfl _ _ rfl b Sb.zero Sb.zero Sb.Ok.zero Sb.Ok.zero rfl rfl HO4.out ?_
  intro w5 HW5 HO5
  go_wp2_with fail
  have hb5 := below_cells_of HB4.out HW5.out (by rw [HB.out]; exact Nat.le_refl _)
  exact bodyPost_ret (results_sb2 Tryd.sbProg rfl _ _ b Sb.zero v rfl rfl HO5.out.at_ Sb.Ok.zero) rfl ⟨v, rfl, (HE4.out.lay HW5.out HO3.out.lt).mono HB3.out.size, hb5⟩
/-- two blocks of Best's own: the result, the one that counts so far -/
structure BestSt (w wr : World) (b c : Nat) (x : Sb) : Prop where
  res : BOwn wr b Sb.zero
  own : BOwn wr c x
  below : Below w.heap.size w wr
  lo : w.heap.size ≤ b
  lo2 : w.heap.size ≤ c
  ne : b ≠ c
theorem BestSt.carry {w wi wj : World} {b c : Nat} {x : Sb} (h : BestSt w wi b c x) (hb : Below wi.heap.size wi wj) : BestSt w wj b c x :=
  ⟨h.res.below hb h.res.lt, h.own.below hb h.own.lt, h.below.trans (hb.mono h.below.size), h.lo, h.lo2, h.ne⟩
def BestRel (w : World) (b c : Nat) (p q : List UInt8) (i : Value) (wr : World) : Prop := ∃ k : Nat, k ≤ 2 ∧ i = .int .i64 (k : Int) ∧ BestSt w wr b c (bestK p q k)
set_option maxRecDepth 100000 in
set_option maxHeartbeats 2000000 in
theorem Best_yes {K : Nat → Prop} {D n : Nat} {d : Dk} {w : World} (h : DiskAt K w D n d) (hd : d.down = false) (hn : 3 ≤ n) (p q : List UInt8) (hp : p.length = 128) (hq : q.length = 128)
    (h0 : pgAt d.seen 0 = pgB p) (h1 : pgAt d.seen 1 = pgB q) (hg : LaidCrc w) : Calls Tryd.prog 20 #[.pointer (some ⟨D, 0, none⟩)] w (BestPost (if (best (sbOf p) (sbOf q)).isSome = true then 0 else 4) (best (sbOf p) (sbOf q)) w) := by
  obtain ⟨P, HPP⟩ : ∃ P, Hid (P = BestPost (if (best (sbOf p) (sbOf q)).isSome = true then 0 else 4) (best (sbOf p) (sbOf q)) w) := ⟨_, Lib.hid rfl⟩
  rw [← HPP.out]
  have hz := Tryd.sbProg.zero
  have hz2 := Tryd.zeroPage
  have hn3 : ¬ (n : Int) < 3 := by omega
  obtain ⟨b, HB⟩ : ∃ b, Hid (b = w.heap.size) := ⟨_, Lib.hid rfl⟩
  obtain ⟨w1, HW⟩ : ∃ w1, Hid (w1 = w.alloc (.cells (sbArr Sb.zero) 33)) := ⟨_, Lib.hid rfl⟩
  have HO : Hid (BOwn w1 b Sb.zero) := Lib.hid (by rw [HW.out, HB.out]; exact BOwn.new _)
  have HBL : Hid (Below w.heap.size w w1) := Lib.hid (by rw [HW.out]; exact (Below.refl _ _).alloc (Nat.le_refl _) _)
  have HD := Lib.hid (h.carry HBL.out)
  have hr := Read_any HD.out 0
  have hc : codeZ d.down n ((0 : Nat) : Int) = 0 := by rw [hd]; exact codeZ_in (by omega)
  rw [show codeZ d.down n 0 = 0 from hc, if_pos rfl, show (0 : Int).toNat = 0 from rfl, h0] at hr
  have HR := Lib.hid hr
  have HLOAD : Hid (∀ w2, Below w.heap.size w w2 → ∀ k : Nat, k < 2 → Calls Tryd.prog 37 #[.pointer (some ⟨D, 0, none⟩), .int .i64 (k : Int)] w2 (SbLoadPost (secK p q k) w2)) := Lib.hid fun w2 hb k hk => by
    refine SbLoad_any (h.carry hb) k (by rw [hd]; exact codeZ_in (by omega)) (secK p q k) ?_ ?_ (hg.carry hb)
    · unfold secK; split
      · exact hp
      · exact hq
    · match k, hk with
      | 0, _ => exact h0
      | 1, _ => exact h1
  have HPL := Lib.hid hp
  clear hr hc h hd hn h0 h1 hg hp hq
  go_enter Tryd.func20, Tryd.ntmps20
  go_upto_region 1 with (fail)
  rw [← HW.out, ← HB.out]
  clear HW
  go_wp2_with fail
  refine HR.out.mono ?_
  rintro e w2 ⟨v, rfl, he, hb⟩
  obtain rfl := he.zero
  have HO2 := Lib.hid (HO.out.below hb HO.out.lt)
  have HB2 : Hid (Below w.heap.size w w2) := Lib.hid (HBL.out.trans (hb.mono HBL.out.size))
  have HD2 := Lib.hid (HD.out.carry hb)
  clear he hb HR HD
  go_wp2_with (with_reducible refine stop_at (o := ⟨none, _, _, _, _, _⟩) ?_)
  refine wpList_store_last rfl _ _ _ rfl (pgArr zeroPg) (pgArr (pgB p)) _ rfl rfl rfl (by rw [pgArr_size, pgB_length, HPL.out]; exact Tryd.pageSize) (by rw [pgArr_size, pgArr_size, pgB_length, HPL.out]; rfl) (pgArr_all _) ?_
  obtain ⟨w3, HW⟩ : ∃ w3, Hid (w3 = w2.alloc (.cells (pgArr (pgB p)) 55)) := ⟨_, Lib.hid rfl⟩
  rw [← HW.out]
  have hb3 : Below w2.heap.size w2 w3 := by rw [HW.out]; exact (Below.refl _ _).alloc (Nat.le_refl _) _
  have HO3 := Lib.hid (HO2.out.below hb3 HO2.out.lt)
  have HB3 : Hid (Below w.heap.size w w3) := Lib.hid (HB2.out.trans (hb3.mono HB2.out.size))
  have HD3 := Lib.hid (HD2.out.carry hb3)
  clear hb3 HW HD2
  go_wp2_with fail
  refine (Size_any HD3.out).mono ?_
  rintro e w' ⟨rfl, rfl⟩
  go_upto_region 7 with (fail)
  obtain ⟨c, HC⟩ : ∃ c, Hid (c = w3.heap.size) := ⟨_, Lib.hid rfl⟩
  obtain ⟨w4, HW⟩ : ∃ w4, Hid (w4 = w3.alloc (.cells (sbArr Sb.zero) 33)) := ⟨_, Lib.hid rfl⟩
  have HST : Hid (BestSt w w4 b c Sb.zero) := Lib.hid (by
    have h1 : Below w3.heap.size w3 w4 := by rw [HW.out]; exact (Below.refl _ _).alloc (Nat.le_refl _) _
    have h2 := HO3.out.lt
    exact ⟨HO3.out.below h1 h2, by rw [HW.out, HC.out]; exact BOwn.new _, HB3.out.trans (h1.mono HB3.out.size), by rw [HB.out]; exact Nat.le_refl _, by rw [HC.out]; exact HB3.out.size, by rw [HC.out]; omega⟩)
  rw [← HW.out, ← HC.out]
  clear HW HO2 HO3 HB2 HB3 HO HBL HD3
  go_upto_region 8 with (fail)
  go_loopw [25] (fun i wr => BestRel w b c p q i wr) (fun i _ => 2 - (intOf i).toNat)
  case atStart => exact ⟨0, by decide, rfl, HST.out⟩
  case round =>
    obtain ⟨k, hk, rfl, hst⟩ := hrel
    have HS := Lib.hid hst
    clear hst HST
    by_cases hlt : k < 2
    · have hlt2 : (k : Int) < 2 := by omega
      go_wp2_with fail
      refine (HLOAD.out wr HS.out.below k hlt).mono ?_
      rintro e w5 ⟨ec, v, rfl, he, hz3, hb⟩
      have HS5 := Lib.hid (HS.out.carry hb)
      have HZ := Lib.hid hz3
      have HE := Lib.hid he
      have HOO : Hid ((((sbOf (secK p q k)).getD Sb.zero)).Ok) := Lib.hid getD_ok
      obtain ⟨x, HX⟩ : ∃ x, Hid (x = (sbOf (secK p q k)).getD Sb.zero) := ⟨_, Lib.hid rfl⟩
      rw [← HX.out] at HOO ⊢
      clear he hz3 hb HS
      go_wp2_with (with_reducible refine stop_at (o := ⟨none, _, _, _, _, _⟩) ?_)
      refine wpList_store_last rfl _ _ _ rfl (sbArr Sb.zero) (sbArr x) _ rfl rfl rfl (by rw [sbArr_size HOO.out]; exact Tryd.sbProg.size) (by rw [sbArr_size HOO.out, sbArr_size Sb.Ok.zero]) (sbArr_all _) ?_
      obtain ⟨g, HG⟩ : ∃ g, Hid (g = w5.heap.size) := ⟨_, Lib.hid rfl⟩
      obtain ⟨w6, HW⟩ : ∃ w6, Hid (w6 = w5.alloc (.cells (sbArr x) 33)) := ⟨_, Lib.hid rfl⟩
      rw [← HW.out, ← HG.out]
      have HS6 : Hid (BestSt w w6 b c (bestK p q k)) := Lib.hid (HS5.out.carry (by rw [HW.out]; exact (Below.refl _ _).alloc (Nat.le_refl _) _))
      have HOX : Hid (BOwn w6 g x) := Lib.hid (by rw [HW.out, HG.out]; exact BOwn.new _)
      clear HW HS5
      cases hs : sbOf (secK p q k) with
      | none =>
        have HK := Lib.hid (bestK_none hlt hs)
        have hec : ec ≠ 0 := fun h => by have := HZ.out.1 h; rw [hs] at this; cases this
        obtain ⟨t, y, rfl⟩ := HE.out.some hec
        clear hs hec HZ HE
        go_wp2_with fail
        go_roundw
        case rel => exact ⟨k + 1, hlt, by go_num, by rw [HK.out]; exact HS6.out⟩
        case measure => simp [intOf]; omega
      | some y =>
        have HK := Lib.hid (bestK_some hlt hs)
        obtain rfl : x = y := by rw [HX.out, hs]; rfl
        have hec : ec = 0 := HZ.out.2 (by rw [hs]; rfl)
        subst hec
        obtain rfl := HE.out.zero
        have hok := bestK_ok p q k
        obtain ⟨z, HZZ⟩ : ∃ z, Hid (z = bestK p q k) := ⟨_, Lib.hid rfl⟩
        rw [← HZZ.out] at HK HS6 hok
        have HZO := Lib.hid hok
        have c1 := HOX.out.gen
        have c2 := HS6.out.own.gen
        obtain ⟨m, HM⟩ : ∃ m, Hid (m = x.gen) := ⟨_, Lib.hid rfl⟩
        obtain ⟨l, HL⟩ : ∃ l, Hid (l = z.gen) := ⟨_, Lib.hid rfl⟩
        rw [← HM.out] at c1 HK
        rw [← HL.out] at c2 HK
        clear hs HZ HE hok
        by_cases hg : l < m
        · rw [if_pos hg] at HK
          have hg2 : (l : Int) < (m : Int) := by omega
          clear hg
          go_wp2_with (with_reducible refine stop_at (o := ⟨some 43, _, _, _, _, _⟩) ?_)
          refine wpList_load_sb Tryd.sbProg rfl _ rfl g rfl x HOO.out HOX.out.at_ ?_
          refine wpList_store_sb Tryd.sbProg rfl _ _ rfl c x z HOO.out HZO.out rfl rfl HS6.out.own ?_
          intro w7 HW7 HO7
          go_wp2_with fail
          go_roundw
          case rel =>
            refine ⟨k + 1, hlt, by go_num, ?_⟩
            rw [HK.out]
            exact ⟨by rw [HW7.out]; exact HS6.out.res.other (Ne.symm HS6.out.ne) _ _, HO7.out, below_cells_of HS6.out.below HW7.out HS6.out.lo2, HS6.out.lo, HS6.out.lo2, HS6.out.ne⟩
          case measure => simp [intOf]; omega
        · rw [if_neg hg] at HK
          have hg2 : ¬ (l : Int) < (m : Int) := by omega
          have hg3 : decide ((l : Int) < (m : Int)) = false := decide_eq_false hg2
          clear hg
          go_wp2_with fail
          go_roundw
          case rel => exact ⟨k + 1, hlt, by go_num, by rw [HK.out]; exact HS6.out⟩
          case measure => simp [intOf]; omega
    · obtain rfl : k = 2 := by omega
      have hok := bestK_ok p q 2
      have hzz := bestK_two (a := p) (b := q)
      have hgd : bestK p q 2 = (best (sbOf p) (sbOf q)).getD Sb.zero := rfl
      obtain ⟨z, HZZ⟩ : ∃ z, Hid (z = bestK p q 2) := ⟨_, Lib.hid rfl⟩
      rw [← HZZ.out] at HS hok hzz hgd
      have HZO := Lib.hid hok
      have HN := Lib.hid hzz
      have HGD := Lib.hid hgd
      have c2 := HS.out.own.gen
      obtain ⟨l, HL⟩ : ∃ l, Hid (l = z.gen) := ⟨_, Lib.hid rfl⟩
      rw [← HL.out] at c2 HN
      clear hok hzz hgd HLOAD
      by_cases hg : l = 0
      · have HB0 := Lib.hid (HN.out.1 hg)
        subst hg
        go_wp2_with (with_reducible refine stop_at (o := ⟨some 48, _, _, _, _, _⟩) ?_)
        refine wpList_build_sb0 Tryd.sbProg rfl rfl ?_
        go_wp2_with fail
        refine (SbFault_any 4 (by decide) wr).mono ?_
        rintro e w4 ⟨v, rfl, he, hb⟩
        have HE4 := Lib.hid he
        have HS4 := Lib.hid (HS.out.carry hb)
        clear he hb
        go_wp2_with (with_reducible refine stop_at (o := ⟨none, _, _, _, _, _⟩) ?_)
        refine wpList_store_sb Tryd.sbProg rfl _ _ rfl b Sb.zero Sb.zero Sb.Ok.zero Sb.Ok.zero rfl rfl HS4.out.res ?_
        intro w5 HW5 HO5
        go_wp2_with fail
        have hb5 := below_cells_of HS4.out.below HW5.out HS4.out.lo
        rw [HPP.out]
        refine bodyPost_ret (results_sb2 Tryd.sbProg rfl _ _ b Sb.zero v rfl rfl HO5.out.at_ Sb.Ok.zero) rfl ⟨v, by rw [HB0.out]; rfl, ?_, hb5⟩
        rw [HB0.out]
        exact (HE4.out.lay HW5.out HS.out.res.lt).mono HS.out.below.size
      · have HB0 : Hid ((best (sbOf p) (sbOf q)).isSome = true) := Lib.hid (by
          cases h : best (sbOf p) (sbOf q) with
          | none => exact absurd (HN.out.2 h) hg
          | some x => rfl)
        have hg2 : ((l : Int) == 0) = false := by simp; omega
        clear hg
        go_wp2_with (with_reducible refine stop_at (o := ⟨some 50, _, _, _, _, _⟩) ?_)
        refine wpList_load_sb Tryd.sbProg rfl _ rfl c rfl z HZO.out HS.out.own.at_ ?_
        refine wpList_store_sb Tryd.sbProg rfl _ _ rfl b z Sb.zero HZO.out Sb.Ok.zero rfl rfl HS.out.res ?_
        intro w5 HW5 HO5
        go_wp2_with fail
        have hb5 := below_cells_of HS.out.below HW5.out HS.out.lo
        rw [HPP.out]
        refine bodyPost_ret (results_sb2 Tryd.sbProg rfl _ _ b z .nilIface rfl rfl HO5.out.at_ HZO.out) rfl ⟨.nilIface, by rw [← HGD.out], ?_, hb5⟩
        rw [if_pos HB0.out]
        exact .nil _ _
end Go.Proofs.YtaolkmlgdhnhaaaDoor
