/-
  The walk of the statement SuperBest: it answers true, and no memory that was there has turned. Conditions: errors.errorType and crc.halved are laid.
-/
import Derived.Test.YtaolkmlgdhnhaaaDoorSb
import Derived.Test.YtaolkmlgdhnhaaaDoorSbRefBest
namespace Go.Proofs.YtaolkmlgdhnhaaaDoor
open Go.RowKit

/-- two sectors that the law was called with -/
structure PgTwo (w : World) (b : Nat) (p q : List UInt8) (wr : World) : Prop where
  fst : wr.rangeAt b 0 (pgCells (pgB p))
  snd : wr.rangeAt (b + 1) 0 (pgCells (pgB q))
  below : Below w.heap.size w wr
theorem PgTwo.carry {w wi wj : World} {b : Nat} {p q : List UInt8} (h : PgTwo w b p q wi) (hb : Below wi.heap.size wi wj) : PgTwo w b p q wj :=
  ⟨range_below h.fst hb, range_below h.snd hb, h.below.trans (hb.mono h.below.size)⟩
theorem PgTwo.new (w : World) (p q : List UInt8) (t : TypeId) : PgTwo w w.heap.size p q ((w.alloc (.cells (pgArr (pgB p)) t)).alloc (.cells (pgArr (pgB q)) t)) := by
  have b1 : Below w.heap.size w (w.alloc (.cells (pgArr (pgB p)) t)) := (Below.refl _ _).alloc (Nat.le_refl _) _
  have b2 : Below (w.alloc (.cells (pgArr (pgB p)) t)).heap.size (w.alloc (.cells (pgArr (pgB p)) t)) ((w.alloc (.cells (pgArr (pgB p)) t)).alloc (.cells (pgArr (pgB q)) t)) := (Below.refl _ _).alloc (Nat.le_refl _) _
  refine ⟨range_below (page_new _ _ _) b2, ?_, b1.trans (b2.mono b1.size)⟩
  have := page_new (w.alloc (.cells (pgArr (pgB p)) t)) (pgB q) t
  simpa using this
/-- what a kept part of the memory holds -/
theorem PgTwo.kept {K : Nat → Prop} {w wi wj : World} {b : Nat} {p q : List UInt8} (h : PgTwo w b p q wi) (hk : Kept K wi wj) (hK : ∀ k, k < wi.heap.size → K k) : PgTwo w b p q wj :=
  h.carry (hk.below hK)
/-- what stands in memory at the end -/
structure SbBestS (w : World) (b c : Nat) (y : Sb) (kf : Int) (f g h i : Value) (wr : World) : Prop where
  got : BOwn wr b y
  doc : BOwn wr c y
  ef : ErrIs wr kf f
  eg : ErrIs wr 1 g
  eh : ErrIs wr 1 h
  ei : ErrIs wr 7 i
  below : Below w.heap.size w wr
theorem SbBestS.carry {w : World} {b c : Nat} {y : Sb} {kf : Int} {f g h i : Value} {wr w' : World} (s : SbBestS w b c y kf f g h i wr) (hb : Below wr.heap.size wr w') : SbBestS w b c y kf f g h i w' :=
  ⟨s.got.below hb s.got.lt, s.doc.below hb s.doc.lt, s.ef.carry hb, s.eg.carry hb, s.eh.carry hb, s.ei.carry hb, s.below.trans (hb.mono s.below.size)⟩
theorem SbBestS.drew {w : World} {b c : Nat} {y : Sb} {kf : Int} {f g h i : Value} {wr : World} (s : SbBestS w b c y kf f g h i wr) : SbBestS w b c y kf f g h i wr.drew := s.carry (Below.refl _ _).drew
/-- what lies outside the disk when the power goes -/
structure SbBestK (w : World) (lo : Nat) (b c : Nat) (y : Sb) (kf : Int) (f g h : Value) (wr : World) : Prop where
  got : BOwn wr b y
  doc : BOwn wr c y
  ef : ErrFrom wr lo kf f
  eg : ErrFrom wr lo 1 g
  eh : ErrFrom wr lo 1 h
  lb : lo ≤ b
  lc : lo ≤ c
  below : Below w.heap.size w wr
theorem SbBestK.kept {K : Nat → Prop} {w : World} {lo b c : Nat} {y : Sb} {kf : Int} {f g h : Value} {wr w' : World} (s : SbBestK w lo b c y kf f g h wr) (hk : Kept K wr w') (hK : ∀ k, lo ≤ k → k < wr.heap.size → K k) (hb : Below w.heap.size w w') : SbBestK w lo b c y kf f g h w' :=
  ⟨s.got.block (hk.block b (hK b s.lb s.got.lt)), s.doc.block (hk.block c (hK c s.lc s.doc.lt)), s.ef.kept hk hK, s.eg.kept hk hK, s.eh.kept hk hK, s.lb, s.lc, hb⟩
theorem write_seen {d : Dk} {n i j : Nat} {p : Pg} (hok : d.Ok n) (hi : i < n) : pgAt (d.write i p).seen j = if i = j then p else pgAt d.seen j := pgAt_set (by rw [hok.seen]; exact hi)
set_option maxRecDepth 100000 in
set_option maxHeartbeats 4000000 in
theorem best_walk_some (p q : List UInt8) (hp : p.length = 128) (hq : q.length = 128) (y : Sb) (hy : y.Ok) (hbest : best (sbOf p) (sbOf q) = some y) (w : World) (hg : Laid2 w) :
    Calls Tryd.prog 5 #[pgV (pgB p), pgV (pgB q)] w fun e w' => e = .returned (.bool true) ∧ Below w.heap.size w w' := by
  have hz := Tryd.sbProg.zero
  have hz2 := Tryd.sbRef.zero
  have HPL := Lib.hid hp
  have HQL := Lib.hid hq
  have HBEST := Lib.hid hbest
  have HYO := Lib.hid hy
  obtain ⟨N, HNN⟩ : ∃ N, Hid (N = w.heap.size) := ⟨_, Lib.hid rfl⟩
  obtain ⟨b, HB⟩ : ∃ b, Hid (b = w.heap.size) := ⟨_, Lib.hid rfl⟩
  obtain ⟨w1, HW⟩ : ∃ w1, Hid (w1 = (w.alloc (.cells (pgArr (pgB p)) 45)).alloc (.cells (pgArr (pgB q)) 45)) := ⟨_, Lib.hid rfl⟩
  have HS : Hid (PgTwo w b p q w1) := Lib.hid (by rw [HW.out, HB.out]; exact PgTwo.new _ _ _ _)
  have HGK : Hid (∀ w', Below w.heap.size w w' → Laid2 w') := Lib.hid fun w' h => hg.carry h
  clear hg hp hq hbest hy 
  go_enter Tryd.func5, Tryd.ntmps5
  go_upto_region 1 with (fail)
  rw [← HW.out, ← HB.out]
  clear HW
  go_wp2_with fail
  refine (awake_any _ (HGK.out _ HS.out.below)).mono ?_
  rintro e w2 ⟨rfl, hb⟩
  have HS2 := Lib.hid (HS.out.carry hb)
  clear hb HS
  go_wp2_with fail
  obtain ⟨M, HM⟩ : ∃ M, Hid (M = w2.heap.size) := ⟨_, Lib.hid rfl⟩
  refine (New_yes 3 (by decide) (by decide) w2).mono ?_
  rintro e w3 ⟨D, rfl, hd, hb⟩
  have HS3 := Lib.hid (HS2.out.carry hb)
  rw [← HM.out] at hd
  have HD3 := Lib.hid hd
  have HM3 : Hid (M ≤ w3.heap.size) := Lib.hid (by rw [HM.out]; exact hb.size)
  clear hd hb
  -- the writes leave all that was there ahead of the disk
  have HSM : Hid (∀ w', Kept (· < M) w3 w' → PgTwo w b p q w') := Lib.hid fun w' hk => by
    have h1 : Below M w3 w' := hk.below fun k hk => hk
    have hlt := HS2.out.fst
    have hM1 : b + 1 < M := by rw [HM.out]; exact lt_of_cell (HS2.out.snd 0 _ (List.getElem?_eq_getElem (by rw [pgCells_len, HQL.out]; decide)))
    have hN : w.heap.size ≤ M := by rw [HM.out]; exact HS2.out.below.size
    exact ⟨fun j v hv => (h1.cell (p := ⟨b, 0 + j, none⟩) (by show b < M; omega)).trans (HS3.out.fst j v hv), fun j v hv => (h1.cell (p := ⟨b + 1, 0 + j, none⟩) hM1).trans (HS3.out.snd j v hv), HS3.out.below.trans (h1.mono hN)⟩
  have HT3 : Hid (There (· < M) w3) := Lib.hid fun k hk => Nat.lt_of_lt_of_le hk HM3.out
  go_wp2_with (with_reducible refine stop_at (o := ⟨some 25, _, _, _, _, _⟩) ?_)
  refine wpList_load_page rfl _ _ rfl b 0 rfl (pgB p) (by rw [pgB_length]; exact HPL.out) HS3.out.fst _ Tryd.underlying45 rfl Tryd.arrSize ?_
  go_wp2_with fail
  refine (Write_yes (i := 0) (p := pgB p) HD3.out HT3.out rfl (by decide) (by rw [pgB_length]; exact HPL.out) (by show (0 : Nat) ≤ 1000000; decide)).mono ?_
  rintro e w4 ⟨rfl, hd, hk⟩
  have HD4 := Lib.hid hd
  have HK4 := Lib.hid hk
  have HS4 := Lib.hid (HSM.out _ hk)
  have HT4 : Hid (There (· < M) w4) := Lib.hid fun k hh => Nat.lt_of_lt_of_le hh (Nat.le_trans HM3.out hk.size)
  clear hd hk HD3 HS3 HT3
  go_wp2_with (with_reducible refine stop_at (o := ⟨some 28, _, _, _, _, _⟩) ?_)
  refine wpList_load_page rfl _ _ rfl (b + 1) 0 rfl (pgB q) (by rw [pgB_length]; exact HQL.out) HS4.out.snd _ Tryd.underlying45 rfl Tryd.arrSize ?_
  go_wp2_with fail
  refine (Write_yes (i := 1) (p := pgB q) HD4.out HT4.out rfl (by decide) (by rw [pgB_length]; exact HQL.out) (by show (1 : Nat) ≤ 1000000; decide)).mono ?_
  rintro e w5 ⟨rfl, hd, hk⟩
  have HS5 := Lib.hid (HSM.out _ (HK4.out.trans hk))
  have HM5 : Hid (M ≤ w5.heap.size) := Lib.hid (Nat.le_trans HM3.out (Nat.le_trans HK4.out.size hk.size))
  obtain ⟨dk, HDK⟩ : ∃ dk, Hid (dk = ((Dk.new 3).write 0 (pgB p)).write 1 (pgB q)) := ⟨_, Lib.hid rfl⟩
  rw [← HDK.out] at hd
  have HD5 := Lib.hid hd
  have HDN : Hid (dk.down = false) := Lib.hid (by rw [HDK.out]; rfl)
  have HSOFT : Hid (dk.soft.length = 2) := Lib.hid (by rw [HDK.out]; rfl)
  have HOK1 : ((Dk.new 3).write 0 (pgB p)).Ok 3 := (Dk.Ok.new 3).write (by decide) (by rw [pgB_length]; exact HPL.out)
  have H0 : Hid (pgAt dk.seen 0 = pgB p) := Lib.hid (by rw [HDK.out, write_seen HOK1 (by decide), if_neg (by decide), write_seen (Dk.Ok.new 3) (by decide), if_pos rfl])
  have H1 : Hid (pgAt dk.seen 1 = pgB q) := Lib.hid (by rw [HDK.out, write_seen HOK1 (by decide), if_pos rfl])
  obtain ⟨L, HL⟩ : ∃ L, Hid (L = w5.heap.size) := ⟨_, Lib.hid rfl⟩
  clear hd hk HD4 HK4 HS4 HT4 HSM HOK1 HDK
  go_wp2_with fail
  refine (Best_yes HD5.out HDN.out (by decide) p q HPL.out HQL.out H0.out H1.out (HGK.out _ HS5.out.below).crc).mono ?_
  rintro e w6 ⟨f, rfl, he, hb⟩
  rw [HBEST.out] at he ⊢
  rw [← HL.out] at he
  obtain rfl := he.zero
  rw [show (some y).getD Sb.zero = y from rfl]
  have HF6 : Hid (ErrFrom w6 L 0 .nilIface) := Lib.hid he
  have HS6 := Lib.hid (HS5.out.carry hb)
  have HB6 := Lib.hid hb
  clear he hb
  go_wp2_with (with_reducible refine stop_at (o := ⟨none, _, _, _, _, _⟩) ?_)
  refine wpList_store_last rfl _ _ _ rfl (sbArr Sb.zero) (sbArr y) _ rfl rfl rfl (by rw [sbArr_size HYO.out]; exact Tryd.sbProg.size) (by rw [sbArr_size HYO.out, sbArr_size Sb.Ok.zero]) (sbArr_all _) ?_
  obtain ⟨c, HC⟩ : ∃ c, Hid (c = w6.heap.size) := ⟨_, Lib.hid rfl⟩
  obtain ⟨w7, HW⟩ : ∃ w7, Hid (w7 = w6.alloc (.cells (sbArr y) 33)) := ⟨_, Lib.hid rfl⟩
  rw [← HW.out, ← HC.out]
  have hb7 : Below w6.heap.size w6 w7 := by rw [HW.out]; exact (Below.refl _ _).alloc (Nat.le_refl _) _
  have HS7 := Lib.hid (HS6.out.carry hb7)
  have HB7 : Hid (Below L w5 w7) := Lib.hid (by rw [HL.out]; exact HB6.out.trans (hb7.mono HB6.out.size))
  have HF7 := Lib.hid (HF6.out.below hb7)
  have HO7 : Hid (BOwn w7 c y) := Lib.hid (by rw [HW.out, HC.out]; exact BOwn.new _)
  have HLC : Hid (L ≤ c) := Lib.hid (by rw [HL.out, HC.out]; exact HB6.out.size)
  clear hb7 HW HS6 HB6 HF6
  go_wp2_with (with_reducible refine stop_at (o := ⟨some 36, _, _, _, _, _⟩) ?_)
  refine wpList_load_page rfl _ _ rfl b 0 rfl (pgB p) (by rw [pgB_length]; exact HPL.out) HS7.out.fst _ Tryd.underlying45 rfl Tryd.arrSize ?_
  refine wpList_load_page rfl _ _ rfl (b + 1) 0 rfl (pgB q) (by rw [pgB_length]; exact HQL.out) HS7.out.snd _ Tryd.underlying45 rfl Tryd.arrSize ?_
  go_wp2_with fail
  refine (RefBest_any p q HPL.out HQL.out _).mono ?_
  rintro e w8 ⟨rfl, hb⟩
  rw [HBEST.out]
  rw [show (some y).getD Sb.zero = y from rfl]
  have HS8 := Lib.hid (HS7.out.carry hb)
  have HB8 : Hid (Below L w5 w8) := Lib.hid (HB7.out.trans (hb.mono (by rw [HL.out]; exact HB7.out.size)))
  have HF8 := Lib.hid (HF7.out.below hb)
  have HO8 := Lib.hid (HO7.out.below hb HO7.out.lt)
  clear hb HS7 HB7 HF7 HO7
  go_wp2_with (with_reducible refine stop_at (o := ⟨none, _, _, _, _, _⟩) ?_)
  refine wpList_store_last rfl _ _ _ rfl (sbArr Sb.zero) (sbArr y) _ rfl rfl rfl (by rw [sbArr_size HYO.out]; exact Tryd.sbRef.size) (by rw [sbArr_size HYO.out, sbArr_size Sb.Ok.zero]) (sbArr_all _) ?_
  obtain ⟨d, HD⟩ : ∃ d, Hid (d = w8.heap.size) := ⟨_, Lib.hid rfl⟩
  obtain ⟨w9, HW⟩ : ∃ w9, Hid (w9 = w8.alloc (.cells (sbArr y) 25)) := ⟨_, Lib.hid rfl⟩
  rw [← HW.out, ← HD.out]
  have hb9 : Below w8.heap.size w8 w9 := by rw [HW.out]; exact (Below.refl _ _).alloc (Nat.le_refl _) _
  have HS9 := Lib.hid (HS8.out.carry hb9)
  have HB9 : Hid (Below L w5 w9) := Lib.hid (HB8.out.trans (hb9.mono (by rw [HL.out]; exact HB8.out.size)))
  have HF9 := Lib.hid (HF8.out.below hb9)
  have HO9 := Lib.hid (HO8.out.below hb9 HO8.out.lt)
  have HP9 : Hid (BOwn w9 d y) := Lib.hid (by rw [HW.out, HD.out]; exact BOwn.new _)
  have HLD : Hid (L ≤ d) := Lib.hid (by rw [HL.out, HD.out]; exact HB8.out.size)
  clear hb9 HW HS8 HB8 HF8 HO8
  go_wp2_with fail
  refine (New_yes 2 (by decide) (by decide) w9).mono ?_
  rintro e w10 ⟨D2, rfl, hd, hb⟩
  have HD10 := Lib.hid hd
  have HS10 := Lib.hid (HS9.out.carry hb)
  have HB10 : Hid (Below L w5 w10) := Lib.hid (HB9.out.trans (hb.mono (by rw [HL.out]; exact HB9.out.size)))
  have HF10 := Lib.hid (HF9.out.below hb)
  have HO10 := Lib.hid (HO9.out.below hb HO9.out.lt)
  have HP10 := Lib.hid (HP9.out.below hb HP9.out.lt)
  clear hd hb HS9 HB9 HF9 HO9 HP9
  go_wp2_with fail
  refine (Best_small HD10.out rfl (by decide)).mono ?_
  rintro e w11 ⟨g, rfl, he, hb⟩
  rw [show (none : Option Sb).getD Sb.zero = Sb.zero from rfl]
  have HLW : Hid (L ≤ w10.heap.size) := Lib.hid (by rw [HL.out]; exact HB10.out.size)
  have HG11 : Hid (ErrFrom w11 L 1 g) := Lib.hid (he.mono HLW.out)
  have HS11 := Lib.hid (HS10.out.carry hb)
  have HB11 : Hid (Below L w5 w11) := Lib.hid (HB10.out.trans (hb.mono HLW.out))
  have HF11 := Lib.hid (HF10.out.below hb)
  have HO11 := Lib.hid (HO10.out.below hb HO10.out.lt)
  have HP11 := Lib.hid (HP10.out.below hb HP10.out.lt)
  clear he hb HS10 HB10 HF10 HO10 HP10 HD10
  go_wp2_with (with_reducible refine stop_at (o := ⟨none, _, _, _, _, _⟩) ?_)
  refine wpList_store_last rfl _ _ _ rfl (sbArr Sb.zero) (sbArr Sb.zero) _ rfl rfl rfl (by rw [sbArr_size Sb.Ok.zero]; exact Tryd.sbProg.size) rfl (sbArr_all _) ?_
  obtain ⟨z, HZ⟩ : ∃ z, Hid (z = w11.heap.size) := ⟨_, Lib.hid rfl⟩
  obtain ⟨w12, HW⟩ : ∃ w12, Hid (w12 = w11.alloc (.cells (sbArr Sb.zero) 33)) := ⟨_, Lib.hid rfl⟩
  rw [← HW.out, ← HZ.out]
  have hb12 : Below w11.heap.size w11 w12 := by rw [HW.out]; exact (Below.refl _ _).alloc (Nat.le_refl _) _
  have HS12 := Lib.hid (HS11.out.carry hb12)
  have HB12 : Hid (Below L w5 w12) := Lib.hid (HB11.out.trans (hb12.mono (by rw [HL.out]; exact HB11.out.size)))
  have HF12 := Lib.hid (HF11.out.below hb12)
  have HG12 := Lib.hid (HG11.out.below hb12)
  have HO12 := Lib.hid (HO11.out.below hb12 HO11.out.lt)
  have HP12 := Lib.hid (HP11.out.below hb12 HP11.out.lt)
  clear hb12 HW HS11 HB11 HF11 HG11 HO11 HP11
  go_wp2_with (with_reducible refine stop_at (o := ⟨some 51, _, _, _, _, _⟩) ?_)
  refine wpList_build_sb0 Tryd.sbProg rfl rfl ?_
  go_wp2_with fail
  refine (Switch_no _ Sb.zero Sb.Ok.zero (rightB_gen0 rfl) w12).mono ?_
  rintro e w13 ⟨h, rfl, he, hb⟩
  have HLW : Hid (L ≤ w12.heap.size) := Lib.hid (by rw [HL.out]; exact HB12.out.size)
  have HB13 : Hid (Below L w5 w13) := Lib.hid (HB12.out.trans (hb.mono HLW.out))
  have HSK : Hid (SbBestK w L c d y 0 .nilIface g h w13) := Lib.hid ⟨HO12.out.below hb HO12.out.lt, HP12.out.below hb HP12.out.lt, HF12.out.below hb, HG12.out.below hb, he.mono HLW.out, HLC.out, HLD.out, HS12.out.below.trans (hb.mono HS12.out.below.size)⟩
  clear he hb HS12 HB12 HF12 HG12 HO12 HP12
  obtain ⟨R, HR⟩ : ∃ R, Hid (R = w13.heap.size) := ⟨_, Lib.hid rfl⟩
  obtain ⟨K, HK⟩ : ∃ K : Nat → Prop, Hid (K = fun k => k < M ∨ (L ≤ k ∧ k < R)) := ⟨_, Lib.hid rfl⟩
  have HKM : Hid (∀ k, k < M → K k) := Lib.hid fun k hk => by rw [HK.out]; exact .inl hk
  have HKL : Hid (∀ k, L ≤ k → k < w13.heap.size → K k) := Lib.hid fun k h1 h2 => by rw [HK.out]; exact .inr ⟨h1, by rw [HR.out]; exact h2⟩
  have HD13 : Hid (DiskAt K w13 D 3 dk) := Lib.hid (HD5.out.more (by rw [← HL.out]; exact HB13.out) fun k hk => by
    rw [HK.out] at hk
    rcases hk with hk | hk
    · exact .inl hk
    · exact .inr (by rw [← HL.out]; exact hk.1))
  have HT13 : Hid (There K w13) := Lib.hid fun k hk => by
    rw [HK.out] at hk
    rw [← HR.out]
    rcases hk with hk | hk
    · have h1 := HB13.out.size; have h2 := HM5.out; rw [← HR.out] at h1; omega
    · exact hk.2
  have HNM : Hid (w.heap.size ≤ M) := Lib.hid (by rw [HM.out]; exact HS2.out.below.size)
  have HBK : Hid (∀ w', Kept K w13 w' → Below w.heap.size w w') := Lib.hid fun w' hk => HSK.out.below.trans ((hk.less HKM.out).below fun k hh => Nat.lt_of_lt_of_le hh HNM.out)
  clear HD5 HB13
  go_wp2_with fail
  refine (Crash_yes (m := 0) (t := 0) (by decide) HD13.out HT13.out (by rw [HSOFT.out]; decide) (by decide)).mono ?_
  rintro e w14 ⟨rfl, hd, hk⟩
  have HD14 := Lib.hid hd
  have HSK14 := Lib.hid (HSK.out.kept hk HKL.out (HBK.out _ hk))
  clear hd hk HD13 HSK HT13 HBK
  go_wp2_with fail
  refine (Best_down HD14.out rfl).mono ?_
  rintro e w15 ⟨i, rfl, he, hb⟩
  rw [show (none : Option Sb).getD Sb.zero = Sb.zero from rfl]
  have HI15 := Lib.hid he.is
  have HS15 : Hid (SbBestS w c d y 0 .nilIface g h i w15) := Lib.hid ⟨HSK14.out.got.below hb HSK14.out.got.lt, HSK14.out.doc.below hb HSK14.out.doc.lt, (HSK14.out.ef.below hb).is, (HSK14.out.eg.below hb).is, (HSK14.out.eh.below hb).is, HI15.out, HSK14.out.below.trans (hb.mono HSK14.out.below.size)⟩
  clear he hb HSK14 HI15 HD14
  go_wp2_with (with_reducible refine stop_at (o := ⟨none, _, _, _, _, _⟩) ?_)
  refine wpList_store_last rfl _ _ _ rfl (sbArr Sb.zero) (sbArr Sb.zero) _ rfl rfl rfl (by rw [sbArr_size Sb.Ok.zero]; exact Tryd.sbProg.size) rfl (sbArr_all _) ?_
  obtain ⟨y2, HY2⟩ : ∃ y2, Hid (y2 = w15.heap.size) := ⟨_, Lib.hid rfl⟩
  obtain ⟨w16, HW⟩ : ∃ w16, Hid (w16 = w15.alloc (.cells (sbArr Sb.zero) 33)) := ⟨_, Lib.hid rfl⟩
  rw [← HW.out, ← HY2.out]
  have HST : Hid (SbBestS w c d y 0 .nilIface g h i w16) := Lib.hid (HS15.out.carry (by rw [HW.out]; exact (Below.refl _ _).alloc (Nat.le_refl _) _))
  clear HW HS15
  have heq := fun w => eql_sb HYO.out HYO.out w
  rw [decide_eq_true rfl] at heq
  have hgd := guardSb
  go_upto_region 13 with (fail)
  refine wp_region_held (S := SbBestS w c d y 0 .nilIface g h i) (by kernel_rfl) ?_
  change wpAnyH _ _ _ _ _ _ _ _ w16.drew
  obtain ⟨wa, HWA⟩ : ∃ wa, Hid (wa = w16.drew) := ⟨_, Lib.hid rfl⟩
  rw [← HWA.out]
  have hS : SbBestS w c d y 0 .nilIface g h i wa := by rw [HWA.out]; exact HST.out.drew
  clear HWA HST
  refine takeH (i := 0) 60 (v := .nilIface) rfl (by kernel_rfl) (by kernel_rfl) (by kernel_rfl) rfl (fun _ _ _ h => h) (.inl ⟨by rfl, fun _ _ => by go_simp⟩) hS ?_
  simp only [Act.put, List.setIfInBounds_toArray, List.set_cons_zero, List.set_cons_succ]
  refine oneH (i := 1) (oi := ⟨some 61, _, _, _, _, _⟩) rfl (by kernel_rfl) (fun K hK => ?_)
  go_simp
  refine (Num_nil _).mono ?_
  rintro e wn ⟨rfl, rfl⟩
  refine hK.out _ _ hS ?_
  clear hK K
  refine takeH (i := 2) 62 (v := .bool true) rfl (by kernel_rfl) (by kernel_rfl) (by kernel_rfl) rfl (fun _ _ _ h => h) (.inl ⟨by rfl, fun _ _ => by go_simp⟩) hS ?_
  simp only [Act.put, List.setIfInBounds_toArray, List.set_cons_zero, List.set_cons_succ]
  refine takeH (i := 3) 63 (v := .bool true) rfl (by kernel_rfl) (by kernel_rfl) (by kernel_rfl) rfl (fun _ _ _ h => h) (.inl ⟨by rfl, fun _ _ => by go_simp⟩) hS ?_
  simp only [Act.put, List.setIfInBounds_toArray, List.set_cons_zero, List.set_cons_succ]
  refine takeH (i := 4) 64 (v := sbV y) rfl (by kernel_rfl) (by kernel_rfl) (by kernel_rfl) rfl (fun _ _ _ h => h) (yieldsIf_sb Tryd.sbProg (by rfl) _ rfl c rfl y HYO.out (fun _ h => h.got.at_)) hS ?_
  simp only [Act.put, List.setIfInBounds_toArray, List.set_cons_zero, List.set_cons_succ]
  refine takeH (i := 6) 66 (v := sbV y) rfl (by kernel_rfl) (by kernel_rfl) (by kernel_rfl) rfl (fun _ _ _ h => h) (yieldsIf_sb Tryd.sbRef (by rfl) _ rfl d rfl y HYO.out (fun _ h => h.doc.at_)) hS ?_
  simp only [Act.put, List.setIfInBounds_toArray, List.set_cons_zero, List.set_cons_succ]
  refine oneH (i := 5) (oi := ⟨some 65, _, _, _, _, _⟩) rfl (by kernel_rfl) (fun K hK => ?_)
  rw [if_pos (by rfl)]
  go_simp
  refine (Plain_any y HYO.out _).mono ?_
  rintro e wn ⟨rfl, hb⟩
  have hS2 := hS.carry hb
  clear hb hS
  refine hK.out _ _ hS2 ?_
  clear hK K
  have hS := hS2
  clear hS2
  refine takeH (i := 7) 67 (v := .bool true) rfl (by kernel_rfl) (by kernel_rfl) (by kernel_rfl) rfl (fun _ _ _ h => h) (.inl ⟨by rfl, fun _ _ => by go_simp⟩) hS ?_
  simp only [Act.put, List.setIfInBounds_toArray, List.set_cons_zero, List.set_cons_succ]
  refine takeH (i := 8) 68 (v := .bool true) rfl (by kernel_rfl) (by kernel_rfl) (by kernel_rfl) rfl (fun _ _ _ h => h) (.inl ⟨by rfl, fun _ _ => by go_simp⟩) hS ?_
  simp only [Act.put, List.setIfInBounds_toArray, List.set_cons_zero, List.set_cons_succ]
  refine takeH (i := 9) 69 (v := .bool true) rfl (by kernel_rfl) (by kernel_rfl) (by kernel_rfl) rfl (fun _ _ _ h => h) (.inl ⟨by rfl, fun _ _ => by go_simp⟩) hS ?_
  simp only [Act.put, List.setIfInBounds_toArray, List.set_cons_zero, List.set_cons_succ]
  refine takeH (i := 10) 70 (v := .bool true) rfl (by kernel_rfl) (by kernel_rfl) (by kernel_rfl) rfl (fun _ _ _ h => h) (.inl ⟨by rfl, fun _ _ => by go_simp⟩) hS ?_
  simp only [Act.put, List.setIfInBounds_toArray, List.set_cons_zero, List.set_cons_succ]
  refine takeH (i := 11) 71 (v := .nilIface) rfl (by kernel_rfl) (by kernel_rfl) (by kernel_rfl) rfl (fun _ _ _ h => h) (.inl ⟨by rfl, fun _ _ => by go_simp⟩) hS ?_
  simp only [Act.put, List.setIfInBounds_toArray, List.set_cons_zero, List.set_cons_succ]
  refine oneH (i := 12) (oi := ⟨some 72, _, _, _, _, _⟩) rfl (by kernel_rfl) (fun K hK => ?_)
  rw [if_pos (by rfl)]
  go_simp
  refine (Num_nil _).mono ?_
  rintro e wn ⟨rfl, rfl⟩
  refine hK.out _ _ hS ?_
  clear hK K
  refine takeH (i := 13) 73 (v := .bool true) rfl (by kernel_rfl) (by kernel_rfl) (by kernel_rfl) rfl (fun _ _ _ h => h) (.inl ⟨by rfl, fun _ _ => by go_simp⟩) hS ?_
  simp only [Act.put, List.setIfInBounds_toArray, List.set_cons_zero, List.set_cons_succ]
  refine takeH (i := 14) 74 (v := .bool true) rfl (by kernel_rfl) (by kernel_rfl) (by kernel_rfl) rfl (fun _ _ _ h => h) (.inl ⟨by rfl, fun _ _ => by go_simp⟩) hS ?_
  simp only [Act.put, List.setIfInBounds_toArray, List.set_cons_zero, List.set_cons_succ]
  refine takeH (i := 15) 75 (v := .bool true) rfl (by kernel_rfl) (by kernel_rfl) (by kernel_rfl) rfl (fun _ _ _ h => h) (.inl ⟨by rfl, fun _ _ => by go_simp⟩) hS ?_
  simp only [Act.put, List.setIfInBounds_toArray, List.set_cons_zero, List.set_cons_succ]
  refine takeH (i := 16) 76 (v := .bool true) rfl (by kernel_rfl) (by kernel_rfl) (by kernel_rfl) rfl (fun _ _ _ h => h) (.inl ⟨by rfl, fun _ _ => by go_simp⟩) hS ?_
  simp only [Act.put, List.setIfInBounds_toArray, List.set_cons_zero, List.set_cons_succ]
  refine takeH (i := 17) 77 (v := .bool true) rfl (by kernel_rfl) (by kernel_rfl) (by kernel_rfl) rfl (fun _ _ _ h => h) (.inl ⟨by rfl, fun _ _ => by go_simp⟩) hS ?_
  simp only [Act.put, List.setIfInBounds_toArray, List.set_cons_zero, List.set_cons_succ]
  refine takeH (i := 18) 78 (v := .bool true) rfl (by kernel_rfl) (by kernel_rfl) (by kernel_rfl) rfl (fun _ _ _ h => h) (.inl ⟨by rfl, fun _ _ => by go_simp⟩) hS ?_
  simp only [Act.put, List.setIfInBounds_toArray, List.set_cons_zero, List.set_cons_succ]
  refine takeH (i := 19) 79 (v := undef) rfl (by kernel_rfl) (by kernel_rfl) (by kernel_rfl) rfl (fun _ _ _ h => h) (.inr ⟨by rfl, rfl⟩) hS ?_
  simp only [Act.put, List.setIfInBounds_toArray, List.set_cons_zero, List.set_cons_succ]
  refine takeH (i := 20) 80 (v := undef) rfl (by kernel_rfl) (by kernel_rfl) (by kernel_rfl) rfl (fun _ _ _ h => h) (.inr ⟨by rfl, rfl⟩) hS ?_
  simp only [Act.put, List.setIfInBounds_toArray, List.set_cons_zero, List.set_cons_succ]
  refine takeH (i := 21) 81 (v := undef) rfl (by kernel_rfl) (by kernel_rfl) (by kernel_rfl) rfl (fun _ _ _ h => h) (.inr ⟨by rfl, rfl⟩) hS ?_
  simp only [Act.put, List.setIfInBounds_toArray, List.set_cons_zero, List.set_cons_succ]
  refine takeH (i := 22) 82 (v := .bool true) rfl (by kernel_rfl) (by kernel_rfl) (by kernel_rfl) rfl (fun _ _ _ h => h) (.inl ⟨by rfl, fun _ _ => by go_simp⟩) hS ?_
  simp only [Act.put, List.setIfInBounds_toArray, List.set_cons_zero, List.set_cons_succ]
  refine takeH (i := 23) 83 (v := .bool true) rfl (by kernel_rfl) (by kernel_rfl) (by kernel_rfl) rfl (fun _ _ _ h => h) (.inl ⟨by rfl, fun _ _ => by go_simp⟩) hS ?_
  simp only [Act.put, List.setIfInBounds_toArray, List.set_cons_zero, List.set_cons_succ]
  refine takeH (i := 24) 84 (v := .bool true) rfl (by kernel_rfl) (by kernel_rfl) (by kernel_rfl) rfl (fun _ _ _ h => h) (.inl ⟨by rfl, fun _ _ => by go_simp⟩) hS ?_
  simp only [Act.put, List.setIfInBounds_toArray, List.set_cons_zero, List.set_cons_succ]
  refine takeH (i := 25) 85 (v := g) rfl (by kernel_rfl) (by kernel_rfl) (by kernel_rfl) rfl (fun _ _ _ h => h) (.inl ⟨by rfl, fun _ _ => by go_simp⟩) hS ?_
  simp only [Act.put, List.setIfInBounds_toArray, List.set_cons_zero, List.set_cons_succ]
  refine oneH (i := 26) (oi := ⟨some 86, _, _, _, _, _⟩) rfl (by kernel_rfl) (fun K hK => ?_)
  rw [if_pos (by rfl)]
  go_simp
  refine (Num_any 1 _ _ hS.eg (HGK.out _ hS.below).err).mono ?_
  rintro e wn ⟨rfl, hb⟩
  have hS2 := hS.carry hb
  clear hb hS
  refine hK.out _ _ hS2 ?_
  clear hK K
  have hS := hS2
  clear hS2
  refine takeH (i := 27) 87 (v := .bool true) rfl (by kernel_rfl) (by kernel_rfl) (by kernel_rfl) rfl (fun _ _ _ h => h) (.inl ⟨by rfl, fun _ _ => by go_simp⟩) hS ?_
  simp only [Act.put, List.setIfInBounds_toArray, List.set_cons_zero, List.set_cons_succ]
  refine takeH (i := 28) 88 (v := .bool true) rfl (by kernel_rfl) (by kernel_rfl) (by kernel_rfl) rfl (fun _ _ _ h => h) (.inl ⟨by rfl, fun _ _ => by go_simp⟩) hS ?_
  simp only [Act.put, List.setIfInBounds_toArray, List.set_cons_zero, List.set_cons_succ]
  refine takeH (i := 29) 89 (v := .bool true) rfl (by kernel_rfl) (by kernel_rfl) (by kernel_rfl) rfl (fun _ _ _ h => h) (.inl ⟨by rfl, fun _ _ => by go_simp⟩) hS ?_
  simp only [Act.put, List.setIfInBounds_toArray, List.set_cons_zero, List.set_cons_succ]
  refine takeH (i := 30) 90 (v := h) rfl (by kernel_rfl) (by kernel_rfl) (by kernel_rfl) rfl (fun _ _ _ h => h) (.inl ⟨by rfl, fun _ _ => by go_simp⟩) hS ?_
  simp only [Act.put, List.setIfInBounds_toArray, List.set_cons_zero, List.set_cons_succ]
  refine oneH (i := 31) (oi := ⟨some 91, _, _, _, _, _⟩) rfl (by kernel_rfl) (fun K hK => ?_)
  rw [if_pos (by rfl)]
  go_simp
  refine (Num_any 1 _ _ hS.eh (HGK.out _ hS.below).err).mono ?_
  rintro e wn ⟨rfl, hb⟩
  have hS2 := hS.carry hb
  clear hb hS
  refine hK.out _ _ hS2 ?_
  clear hK K
  have hS := hS2
  clear hS2
  refine takeH (i := 32) 92 (v := .bool true) rfl (by kernel_rfl) (by kernel_rfl) (by kernel_rfl) rfl (fun _ _ _ h => h) (.inl ⟨by rfl, fun _ _ => by go_simp⟩) hS ?_
  simp only [Act.put, List.setIfInBounds_toArray, List.set_cons_zero, List.set_cons_succ]
  refine takeH (i := 33) 93 (v := .bool true) rfl (by kernel_rfl) (by kernel_rfl) (by kernel_rfl) rfl (fun _ _ _ h => h) (.inl ⟨by rfl, fun _ _ => by go_simp⟩) hS ?_
  simp only [Act.put, List.setIfInBounds_toArray, List.set_cons_zero, List.set_cons_succ]
  refine takeH (i := 34) 94 (v := .bool true) rfl (by kernel_rfl) (by kernel_rfl) (by kernel_rfl) rfl (fun _ _ _ h => h) (.inl ⟨by rfl, fun _ _ => by go_simp⟩) hS ?_
  simp only [Act.put, List.setIfInBounds_toArray, List.set_cons_zero, List.set_cons_succ]
  refine takeH (i := 35) 95 (v := i) rfl (by kernel_rfl) (by kernel_rfl) (by kernel_rfl) rfl (fun _ _ _ h => h) (.inl ⟨by rfl, fun _ _ => by go_simp⟩) hS ?_
  simp only [Act.put, List.setIfInBounds_toArray, List.set_cons_zero, List.set_cons_succ]
  refine oneH (i := 36) (oi := ⟨some 96, _, _, _, _, _⟩) rfl (by kernel_rfl) (fun K hK => ?_)
  rw [if_pos (by rfl)]
  go_simp
  refine (Num_any 7 _ _ hS.ei (HGK.out _ hS.below).err).mono ?_
  rintro e wn ⟨rfl, hb⟩
  have hS2 := hS.carry hb
  clear hb hS
  refine hK.out _ _ hS2 ?_
  clear hK K
  have hS := hS2
  clear hS2
  refine takeH (i := 37) 97 (v := .bool true) rfl (by kernel_rfl) (by kernel_rfl) (by kernel_rfl) rfl (fun _ _ _ h => h) (.inl ⟨by rfl, fun _ _ => by go_simp⟩) hS ?_
  simp only [Act.put, List.setIfInBounds_toArray, List.set_cons_zero, List.set_cons_succ]
  refine takeH (i := 38) 98 (v := .bool true) rfl (by kernel_rfl) (by kernel_rfl) (by kernel_rfl) rfl (fun _ _ _ h => h) (.inl ⟨by rfl, fun _ _ => by go_simp⟩) hS ?_
  simp only [Act.put, List.setIfInBounds_toArray, List.set_cons_zero, List.set_cons_succ]
  refine takeH (i := 39) 4 (v := .bool true) rfl (by kernel_rfl) (by kernel_rfl) (by kernel_rfl) rfl (fun _ _ _ h => h) (.inl ⟨by rfl, fun _ _ => by go_simp⟩) hS ?_
  simp only [Act.put, List.setIfInBounds_toArray, List.set_cons_zero, List.set_cons_succ]
  refine wpAnyH_done (by kernel_rfl) ?_ _
  go_wp2_with fail
  go_ret
  exact ⟨rfl, hS.below⟩
set_option maxRecDepth 100000 in
set_option maxHeartbeats 4000000 in
theorem best_walk_none (p q : List UInt8) (hp : p.length = 128) (hq : q.length = 128) (y : Sb) (hy : y.Ok) (hbest : best (sbOf p) (sbOf q) = none) (hy0 : y = Sb.zero) (w : World) (hg : Laid2 w) :
    Calls Tryd.prog 5 #[pgV (pgB p), pgV (pgB q)] w fun e w' => e = .returned (.bool true) ∧ Below w.heap.size w w' := by
  have hz := Tryd.sbProg.zero
  have hz2 := Tryd.sbRef.zero
  have HPL := Lib.hid hp
  have HQL := Lib.hid hq
  have HBEST := Lib.hid hbest
  have HYO := Lib.hid hy
  have HY0 := Lib.hid hy0
  obtain ⟨N, HNN⟩ : ∃ N, Hid (N = w.heap.size) := ⟨_, Lib.hid rfl⟩
  obtain ⟨b, HB⟩ : ∃ b, Hid (b = w.heap.size) := ⟨_, Lib.hid rfl⟩
  obtain ⟨w1, HW⟩ : ∃ w1, Hid (w1 = (w.alloc (.cells (pgArr (pgB p)) 45)).alloc (.cells (pgArr (pgB q)) 45)) := ⟨_, Lib.hid rfl⟩
  have HS : Hid (PgTwo w b p q w1) := Lib.hid (by rw [HW.out, HB.out]; exact PgTwo.new _ _ _ _)
  have HGK : Hid (∀ w', Below w.heap.size w w' → Laid2 w') := Lib.hid fun w' h => hg.carry h
  clear hg hp hq hbest hy hy0
  go_enter Tryd.func5, Tryd.ntmps5
  go_upto_region 1 with (fail)
  rw [← HW.out, ← HB.out]
  clear HW
  go_wp2_with fail
  refine (awake_any _ (HGK.out _ HS.out.below)).mono ?_
  rintro e w2 ⟨rfl, hb⟩
  have HS2 := Lib.hid (HS.out.carry hb)
  clear hb HS
  go_wp2_with fail
  obtain ⟨M, HM⟩ : ∃ M, Hid (M = w2.heap.size) := ⟨_, Lib.hid rfl⟩
  refine (New_yes 3 (by decide) (by decide) w2).mono ?_
  rintro e w3 ⟨D, rfl, hd, hb⟩
  have HS3 := Lib.hid (HS2.out.carry hb)
  rw [← HM.out] at hd
  have HD3 := Lib.hid hd
  have HM3 : Hid (M ≤ w3.heap.size) := Lib.hid (by rw [HM.out]; exact hb.size)
  clear hd hb
  -- the writes leave all that was there ahead of the disk
  have HSM : Hid (∀ w', Kept (· < M) w3 w' → PgTwo w b p q w') := Lib.hid fun w' hk => by
    have h1 : Below M w3 w' := hk.below fun k hk => hk
    have hlt := HS2.out.fst
    have hM1 : b + 1 < M := by rw [HM.out]; exact lt_of_cell (HS2.out.snd 0 _ (List.getElem?_eq_getElem (by rw [pgCells_len, HQL.out]; decide)))
    have hN : w.heap.size ≤ M := by rw [HM.out]; exact HS2.out.below.size
    exact ⟨fun j v hv => (h1.cell (p := ⟨b, 0 + j, none⟩) (by show b < M; omega)).trans (HS3.out.fst j v hv), fun j v hv => (h1.cell (p := ⟨b + 1, 0 + j, none⟩) hM1).trans (HS3.out.snd j v hv), HS3.out.below.trans (h1.mono hN)⟩
  have HT3 : Hid (There (· < M) w3) := Lib.hid fun k hk => Nat.lt_of_lt_of_le hk HM3.out
  go_wp2_with (with_reducible refine stop_at (o := ⟨some 25, _, _, _, _, _⟩) ?_)
  refine wpList_load_page rfl _ _ rfl b 0 rfl (pgB p) (by rw [pgB_length]; exact HPL.out) HS3.out.fst _ Tryd.underlying45 rfl Tryd.arrSize ?_
  go_wp2_with fail
  refine (Write_yes (i := 0) (p := pgB p) HD3.out HT3.out rfl (by decide) (by rw [pgB_length]; exact HPL.out) (by show (0 : Nat) ≤ 1000000; decide)).mono ?_
  rintro e w4 ⟨rfl, hd, hk⟩
  have HD4 := Lib.hid hd
  have HK4 := Lib.hid hk
  have HS4 := Lib.hid (HSM.out _ hk)
  have HT4 : Hid (There (· < M) w4) := Lib.hid fun k hh => Nat.lt_of_lt_of_le hh (Nat.le_trans HM3.out hk.size)
  clear hd hk HD3 HS3 HT3
  go_wp2_with (with_reducible refine stop_at (o := ⟨some 28, _, _, _, _, _⟩) ?_)
  refine wpList_load_page rfl _ _ rfl (b + 1) 0 rfl (pgB q) (by rw [pgB_length]; exact HQL.out) HS4.out.snd _ Tryd.underlying45 rfl Tryd.arrSize ?_
  go_wp2_with fail
  refine (Write_yes (i := 1) (p := pgB q) HD4.out HT4.out rfl (by decide) (by rw [pgB_length]; exact HQL.out) (by show (1 : Nat) ≤ 1000000; decide)).mono ?_
  rintro e w5 ⟨rfl, hd, hk⟩
  have HS5 := Lib.hid (HSM.out _ (HK4.out.trans hk))
  have HM5 : Hid (M ≤ w5.heap.size) := Lib.hid (Nat.le_trans HM3.out (Nat.le_trans HK4.out.size hk.size))
  obtain ⟨dk, HDK⟩ : ∃ dk, Hid (dk = ((Dk.new 3).write 0 (pgB p)).write 1 (pgB q)) := ⟨_, Lib.hid rfl⟩
  rw [← HDK.out] at hd
  have HD5 := Lib.hid hd
  have HDN : Hid (dk.down = false) := Lib.hid (by rw [HDK.out]; rfl)
  have HSOFT : Hid (dk.soft.length = 2) := Lib.hid (by rw [HDK.out]; rfl)
  have HOK1 : ((Dk.new 3).write 0 (pgB p)).Ok 3 := (Dk.Ok.new 3).write (by decide) (by rw [pgB_length]; exact HPL.out)
  have H0 : Hid (pgAt dk.seen 0 = pgB p) := Lib.hid (by rw [HDK.out, write_seen HOK1 (by decide), if_neg (by decide), write_seen (Dk.Ok.new 3) (by decide), if_pos rfl])
  have H1 : Hid (pgAt dk.seen 1 = pgB q) := Lib.hid (by rw [HDK.out, write_seen HOK1 (by decide), if_pos rfl])
  obtain ⟨L, HL⟩ : ∃ L, Hid (L = w5.heap.size) := ⟨_, Lib.hid rfl⟩
  clear hd hk HD4 HK4 HS4 HT4 HSM HOK1 HDK
  go_wp2_with fail
  refine (Best_yes HD5.out HDN.out (by decide) p q HPL.out HQL.out H0.out H1.out (HGK.out _ HS5.out.below).crc).mono ?_
  rintro e w6 ⟨f, rfl, he, hb⟩
  rw [HBEST.out] at he ⊢
  rw [← HL.out] at he
  rw [show (none : Option Sb).getD Sb.zero = y from HY0.out.symm]
  have HF6 : Hid (ErrFrom w6 L 4 f) := Lib.hid he
  have HS6 := Lib.hid (HS5.out.carry hb)
  have HB6 := Lib.hid hb
  clear he hb
  go_wp2_with (with_reducible refine stop_at (o := ⟨none, _, _, _, _, _⟩) ?_)
  refine wpList_store_last rfl _ _ _ rfl (sbArr Sb.zero) (sbArr y) _ rfl rfl rfl (by rw [sbArr_size HYO.out]; exact Tryd.sbProg.size) (by rw [sbArr_size HYO.out, sbArr_size Sb.Ok.zero]) (sbArr_all _) ?_
  obtain ⟨c, HC⟩ : ∃ c, Hid (c = w6.heap.size) := ⟨_, Lib.hid rfl⟩
  obtain ⟨w7, HW⟩ : ∃ w7, Hid (w7 = w6.alloc (.cells (sbArr y) 33)) := ⟨_, Lib.hid rfl⟩
  rw [← HW.out, ← HC.out]
  have hb7 : Below w6.heap.size w6 w7 := by rw [HW.out]; exact (Below.refl _ _).alloc (Nat.le_refl _) _
  have HS7 := Lib.hid (HS6.out.carry hb7)
  have HB7 : Hid (Below L w5 w7) := Lib.hid (by rw [HL.out]; exact HB6.out.trans (hb7.mono HB6.out.size))
  have HF7 := Lib.hid (HF6.out.below hb7)
  have HO7 : Hid (BOwn w7 c y) := Lib.hid (by rw [HW.out, HC.out]; exact BOwn.new _)
  have HLC : Hid (L ≤ c) := Lib.hid (by rw [HL.out, HC.out]; exact HB6.out.size)
  clear hb7 HW HS6 HB6 HF6
  go_wp2_with (with_reducible refine stop_at (o := ⟨some 36, _, _, _, _, _⟩) ?_)
  refine wpList_load_page rfl _ _ rfl b 0 rfl (pgB p) (by rw [pgB_length]; exact HPL.out) HS7.out.fst _ Tryd.underlying45 rfl Tryd.arrSize ?_
  refine wpList_load_page rfl _ _ rfl (b + 1) 0 rfl (pgB q) (by rw [pgB_length]; exact HQL.out) HS7.out.snd _ Tryd.underlying45 rfl Tryd.arrSize ?_
  go_wp2_with fail
  refine (RefBest_any p q HPL.out HQL.out _).mono ?_
  rintro e w8 ⟨rfl, hb⟩
  rw [HBEST.out]
  rw [show (none : Option Sb).getD Sb.zero = y from HY0.out.symm]
  have HS8 := Lib.hid (HS7.out.carry hb)
  have HB8 : Hid (Below L w5 w8) := Lib.hid (HB7.out.trans (hb.mono (by rw [HL.out]; exact HB7.out.size)))
  have HF8 := Lib.hid (HF7.out.below hb)
  have HO8 := Lib.hid (HO7.out.below hb HO7.out.lt)
  clear hb HS7 HB7 HF7 HO7
  go_wp2_with (with_reducible refine stop_at (o := ⟨none, _, _, _, _, _⟩) ?_)
  refine wpList_store_last rfl _ _ _ rfl (sbArr Sb.zero) (sbArr y) _ rfl rfl rfl (by rw [sbArr_size HYO.out]; exact Tryd.sbRef.size) (by rw [sbArr_size HYO.out, sbArr_size Sb.Ok.zero]) (sbArr_all _) ?_
  obtain ⟨d, HD⟩ : ∃ d, Hid (d = w8.heap.size) := ⟨_, Lib.hid rfl⟩
  obtain ⟨w9, HW⟩ : ∃ w9, Hid (w9 = w8.alloc (.cells (sbArr y) 25)) := ⟨_, Lib.hid rfl⟩
  rw [← HW.out, ← HD.out]
  have hb9 : Below w8.heap.size w8 w9 := by rw [HW.out]; exact (Below.refl _ _).alloc (Nat.le_refl _) _
  have HS9 := Lib.hid (HS8.out.carry hb9)
  have HB9 : Hid (Below L w5 w9) := Lib.hid (HB8.out.trans (hb9.mono (by rw [HL.out]; exact HB8.out.size)))
  have HF9 := Lib.hid (HF8.out.below hb9)
  have HO9 := Lib.hid (HO8.out.below hb9 HO8.out.lt)
  have HP9 : Hid (BOwn w9 d y) := Lib.hid (by rw [HW.out, HD.out]; exact BOwn.new _)
  have HLD : Hid (L ≤ d) := Lib.hid (by rw [HL.out, HD.out]; exact HB8.out.size)
  clear hb9 HW HS8 HB8 HF8 HO8
  go_wp2_with fail
  refine (New_yes 2 (by decide) (by decide) w9).mono ?_
  rintro e w10 ⟨D2, rfl, hd, hb⟩
  have HD10 := Lib.hid hd
  have HS10 := Lib.hid (HS9.out.carry hb)
  have HB10 : Hid (Below L w5 w10) := Lib.hid (HB9.out.trans (hb.mono (by rw [HL.out]; exact HB9.out.size)))
  have HF10 := Lib.hid (HF9.out.below hb)
  have HO10 := Lib.hid (HO9.out.below hb HO9.out.lt)
  have HP10 := Lib.hid (HP9.out.below hb HP9.out.lt)
  clear hd hb HS9 HB9 HF9 HO9 HP9
  go_wp2_with fail
  refine (Best_small HD10.out rfl (by decide)).mono ?_
  rintro e w11 ⟨g, rfl, he, hb⟩
  rw [show (none : Option Sb).getD Sb.zero = Sb.zero from rfl]
  have HLW : Hid (L ≤ w10.heap.size) := Lib.hid (by rw [HL.out]; exact HB10.out.size)
  have HG11 : Hid (ErrFrom w11 L 1 g) := Lib.hid (he.mono HLW.out)
  have HS11 := Lib.hid (HS10.out.carry hb)
  have HB11 : Hid (Below L w5 w11) := Lib.hid (HB10.out.trans (hb.mono HLW.out))
  have HF11 := Lib.hid (HF10.out.below hb)
  have HO11 := Lib.hid (HO10.out.below hb HO10.out.lt)
  have HP11 := Lib.hid (HP10.out.below hb HP10.out.lt)
  clear he hb HS10 HB10 HF10 HO10 HP10 HD10
  go_wp2_with (with_reducible refine stop_at (o := ⟨none, _, _, _, _, _⟩) ?_)
  refine wpList_store_last rfl _ _ _ rfl (sbArr Sb.zero) (sbArr Sb.zero) _ rfl rfl rfl (by rw [sbArr_size Sb.Ok.zero]; exact Tryd.sbProg.size) rfl (sbArr_all _) ?_
  obtain ⟨z, HZ⟩ : ∃ z, Hid (z = w11.heap.size) := ⟨_, Lib.hid rfl⟩
  obtain ⟨w12, HW⟩ : ∃ w12, Hid (w12 = w11.alloc (.cells (sbArr Sb.zero) 33)) := ⟨_, Lib.hid rfl⟩
  rw [← HW.out, ← HZ.out]
  have hb12 : Below w11.heap.size w11 w12 := by rw [HW.out]; exact (Below.refl _ _).alloc (Nat.le_refl _) _
  have HS12 := Lib.hid (HS11.out.carry hb12)
  have HB12 : Hid (Below L w5 w12) := Lib.hid (HB11.out.trans (hb12.mono (by rw [HL.out]; exact HB11.out.size)))
  have HF12 := Lib.hid (HF11.out.below hb12)
  have HG12 := Lib.hid (HG11.out.below hb12)
  have HO12 := Lib.hid (HO11.out.below hb12 HO11.out.lt)
  have HP12 := Lib.hid (HP11.out.below hb12 HP11.out.lt)
  clear hb12 HW HS11 HB11 HF11 HG11 HO11 HP11
  go_wp2_with (with_reducible refine stop_at (o := ⟨some 51, _, _, _, _, _⟩) ?_)
  refine wpList_build_sb0 Tryd.sbProg rfl rfl ?_
  go_wp2_with fail
  refine (Switch_no _ Sb.zero Sb.Ok.zero (rightB_gen0 rfl) w12).mono ?_
  rintro e w13 ⟨h, rfl, he, hb⟩
  have HLW : Hid (L ≤ w12.heap.size) := Lib.hid (by rw [HL.out]; exact HB12.out.size)
  have HB13 : Hid (Below L w5 w13) := Lib.hid (HB12.out.trans (hb.mono HLW.out))
  have HSK : Hid (SbBestK w L c d y 4 f g h w13) := Lib.hid ⟨HO12.out.below hb HO12.out.lt, HP12.out.below hb HP12.out.lt, HF12.out.below hb, HG12.out.below hb, he.mono HLW.out, HLC.out, HLD.out, HS12.out.below.trans (hb.mono HS12.out.below.size)⟩
  clear he hb HS12 HB12 HF12 HG12 HO12 HP12
  obtain ⟨R, HR⟩ : ∃ R, Hid (R = w13.heap.size) := ⟨_, Lib.hid rfl⟩
  obtain ⟨K, HK⟩ : ∃ K : Nat → Prop, Hid (K = fun k => k < M ∨ (L ≤ k ∧ k < R)) := ⟨_, Lib.hid rfl⟩
  have HKM : Hid (∀ k, k < M → K k) := Lib.hid fun k hk => by rw [HK.out]; exact .inl hk
  have HKL : Hid (∀ k, L ≤ k → k < w13.heap.size → K k) := Lib.hid fun k h1 h2 => by rw [HK.out]; exact .inr ⟨h1, by rw [HR.out]; exact h2⟩
  have HD13 : Hid (DiskAt K w13 D 3 dk) := Lib.hid (HD5.out.more (by rw [← HL.out]; exact HB13.out) fun k hk => by
    rw [HK.out] at hk
    rcases hk with hk | hk
    · exact .inl hk
    · exact .inr (by rw [← HL.out]; exact hk.1))
  have HT13 : Hid (There K w13) := Lib.hid fun k hk => by
    rw [HK.out] at hk
    rw [← HR.out]
    rcases hk with hk | hk
    · have h1 := HB13.out.size; have h2 := HM5.out; rw [← HR.out] at h1; omega
    · exact hk.2
  have HNM : Hid (w.heap.size ≤ M) := Lib.hid (by rw [HM.out]; exact HS2.out.below.size)
  have HBK : Hid (∀ w', Kept K w13 w' → Below w.heap.size w w') := Lib.hid fun w' hk => HSK.out.below.trans ((hk.less HKM.out).below fun k hh => Nat.lt_of_lt_of_le hh HNM.out)
  clear HD5 HB13
  go_wp2_with fail
  refine (Crash_yes (m := 0) (t := 0) (by decide) HD13.out HT13.out (by rw [HSOFT.out]; decide) (by decide)).mono ?_
  rintro e w14 ⟨rfl, hd, hk⟩
  have HD14 := Lib.hid hd
  have HSK14 := Lib.hid (HSK.out.kept hk HKL.out (HBK.out _ hk))
  clear hd hk HD13 HSK HT13 HBK
  go_wp2_with fail
  refine (Best_down HD14.out rfl).mono ?_
  rintro e w15 ⟨i, rfl, he, hb⟩
  rw [show (none : Option Sb).getD Sb.zero = Sb.zero from rfl]
  have HI15 := Lib.hid he.is
  have HS15 : Hid (SbBestS w c d y 4 f g h i w15) := Lib.hid ⟨HSK14.out.got.below hb HSK14.out.got.lt, HSK14.out.doc.below hb HSK14.out.doc.lt, (HSK14.out.ef.below hb).is, (HSK14.out.eg.below hb).is, (HSK14.out.eh.below hb).is, HI15.out, HSK14.out.below.trans (hb.mono HSK14.out.below.size)⟩
  clear he hb HSK14 HI15 HD14
  go_wp2_with (with_reducible refine stop_at (o := ⟨none, _, _, _, _, _⟩) ?_)
  refine wpList_store_last rfl _ _ _ rfl (sbArr Sb.zero) (sbArr Sb.zero) _ rfl rfl rfl (by rw [sbArr_size Sb.Ok.zero]; exact Tryd.sbProg.size) rfl (sbArr_all _) ?_
  obtain ⟨y2, HY2⟩ : ∃ y2, Hid (y2 = w15.heap.size) := ⟨_, Lib.hid rfl⟩
  obtain ⟨w16, HW⟩ : ∃ w16, Hid (w16 = w15.alloc (.cells (sbArr Sb.zero) 33)) := ⟨_, Lib.hid rfl⟩
  rw [← HW.out, ← HY2.out]
  have HST : Hid (SbBestS w c d y 4 f g h i w16) := Lib.hid (HS15.out.carry (by rw [HW.out]; exact (Below.refl _ _).alloc (Nat.le_refl _) _))
  clear HW HS15
  have heq := fun w => eql_sb HYO.out HYO.out w
  rw [decide_eq_true rfl] at heq
  have hgd := guardSb
  go_upto_region 13 with (fail)
  refine wp_region_held (S := SbBestS w c d y 4 f g h i) (by kernel_rfl) ?_
  change wpAnyH _ _ _ _ _ _ _ _ w16.drew
  obtain ⟨wa, HWA⟩ : ∃ wa, Hid (wa = w16.drew) := ⟨_, Lib.hid rfl⟩
  rw [← HWA.out]
  have hS : SbBestS w c d y 4 f g h i wa := by rw [HWA.out]; exact HST.out.drew
  clear HWA HST
  refine takeH (i := 0) 60 (v := .nilIface) rfl (by kernel_rfl) (by kernel_rfl) (by kernel_rfl) rfl (fun _ _ _ h => h) (.inl ⟨by rfl, fun _ _ => by go_simp⟩) hS ?_
  simp only [Act.put, List.setIfInBounds_toArray, List.set_cons_zero, List.set_cons_succ]
  refine oneH (i := 1) (oi := ⟨some 61, _, _, _, _, _⟩) rfl (by kernel_rfl) (fun K hK => ?_)
  go_simp
  refine (Num_nil _).mono ?_
  rintro e wn ⟨rfl, rfl⟩
  refine hK.out _ _ hS ?_
  clear hK K
  refine takeH (i := 2) 62 (v := .bool true) rfl (by kernel_rfl) (by kernel_rfl) (by kernel_rfl) rfl (fun _ _ _ h => h) (.inl ⟨by rfl, fun _ _ => by go_simp⟩) hS ?_
  simp only [Act.put, List.setIfInBounds_toArray, List.set_cons_zero, List.set_cons_succ]
  refine takeH (i := 3) 63 (v := .bool true) rfl (by kernel_rfl) (by kernel_rfl) (by kernel_rfl) rfl (fun _ _ _ h => h) (.inl ⟨by rfl, fun _ _ => by go_simp⟩) hS ?_
  simp only [Act.put, List.setIfInBounds_toArray, List.set_cons_zero, List.set_cons_succ]
  refine takeH (i := 4) 64 (v := sbV y) rfl (by kernel_rfl) (by kernel_rfl) (by kernel_rfl) rfl (fun _ _ _ h => h) (yieldsIf_sb Tryd.sbProg (by rfl) _ rfl c rfl y HYO.out (fun _ h => h.got.at_)) hS ?_
  simp only [Act.put, List.setIfInBounds_toArray, List.set_cons_zero, List.set_cons_succ]
  refine takeH (i := 6) 66 (v := sbV y) rfl (by kernel_rfl) (by kernel_rfl) (by kernel_rfl) rfl (fun _ _ _ h => h) (yieldsIf_sb Tryd.sbRef (by rfl) _ rfl d rfl y HYO.out (fun _ h => h.doc.at_)) hS ?_
  simp only [Act.put, List.setIfInBounds_toArray, List.set_cons_zero, List.set_cons_succ]
  refine oneH (i := 5) (oi := ⟨some 65, _, _, _, _, _⟩) rfl (by kernel_rfl) (fun K hK => ?_)
  rw [if_pos (by rfl)]
  go_simp
  refine (Plain_any y HYO.out _).mono ?_
  rintro e wn ⟨rfl, hb⟩
  have hS2 := hS.carry hb
  clear hb hS
  refine hK.out _ _ hS2 ?_
  clear hK K
  have hS := hS2
  clear hS2
  refine takeH (i := 7) 67 (v := .bool true) rfl (by kernel_rfl) (by kernel_rfl) (by kernel_rfl) rfl (fun _ _ _ h => h) (.inl ⟨by rfl, fun _ _ => by go_simp⟩) hS ?_
  simp only [Act.put, List.setIfInBounds_toArray, List.set_cons_zero, List.set_cons_succ]
  refine takeH (i := 8) 68 (v := .bool true) rfl (by kernel_rfl) (by kernel_rfl) (by kernel_rfl) rfl (fun _ _ _ h => h) (.inl ⟨by rfl, fun _ _ => by go_simp⟩) hS ?_
  simp only [Act.put, List.setIfInBounds_toArray, List.set_cons_zero, List.set_cons_succ]
  refine takeH (i := 9) 69 (v := .bool true) rfl (by kernel_rfl) (by kernel_rfl) (by kernel_rfl) rfl (fun _ _ _ h => h) (.inl ⟨by rfl, fun _ _ => by go_simp⟩) hS ?_
  simp only [Act.put, List.setIfInBounds_toArray, List.set_cons_zero, List.set_cons_succ]
  refine takeH (i := 10) 70 (v := .bool false) rfl (by kernel_rfl) (by kernel_rfl) (by kernel_rfl) rfl (fun _ _ _ h => h) (.inl ⟨by rfl, fun _ _ => by go_simp⟩) hS ?_
  simp only [Act.put, List.setIfInBounds_toArray, List.set_cons_zero, List.set_cons_succ]
  refine takeH (i := 11) 71 (v := f) rfl (by kernel_rfl) (by kernel_rfl) (by kernel_rfl) rfl (fun _ _ _ h => h) (.inl ⟨by rfl, fun _ _ => by go_simp⟩) hS ?_
  simp only [Act.put, List.setIfInBounds_toArray, List.set_cons_zero, List.set_cons_succ]
  refine oneH (i := 12) (oi := ⟨some 72, _, _, _, _, _⟩) rfl (by kernel_rfl) (fun K hK => ?_)
  rw [if_pos (by rfl)]
  go_simp
  refine (Num_any 4 _ _ hS.ef (HGK.out _ hS.below).err).mono ?_
  rintro e wn ⟨rfl, hb⟩
  have hS2 := hS.carry hb
  clear hb hS
  refine hK.out _ _ hS2 ?_
  clear hK K
  have hS := hS2
  clear hS2
  refine takeH (i := 13) 73 (v := .bool false) rfl (by kernel_rfl) (by kernel_rfl) (by kernel_rfl) rfl (fun _ _ _ h => h) (.inl ⟨by rfl, fun _ _ => by go_simp⟩) hS ?_
  simp only [Act.put, List.setIfInBounds_toArray, List.set_cons_zero, List.set_cons_succ]
  refine takeH (i := 14) 74 (v := .bool true) rfl (by kernel_rfl) (by kernel_rfl) (by kernel_rfl) rfl (fun _ _ _ h => h) (.inl ⟨by rfl, fun _ _ => by go_simp⟩) hS ?_
  simp only [Act.put, List.setIfInBounds_toArray, List.set_cons_zero, List.set_cons_succ]
  refine takeH (i := 15) 75 (v := .bool true) rfl (by kernel_rfl) (by kernel_rfl) (by kernel_rfl) rfl (fun _ _ _ h => h) (.inl ⟨by rfl, fun _ _ => by go_simp⟩) hS ?_
  simp only [Act.put, List.setIfInBounds_toArray, List.set_cons_zero, List.set_cons_succ]
  refine takeH (i := 16) 76 (v := .bool true) rfl (by kernel_rfl) (by kernel_rfl) (by kernel_rfl) rfl (fun _ _ _ h => h) (.inl ⟨by rfl, fun _ _ => by go_simp⟩) hS ?_
  simp only [Act.put, List.setIfInBounds_toArray, List.set_cons_zero, List.set_cons_succ]
  refine takeH (i := 17) 77 (v := .bool false) rfl (by kernel_rfl) (by kernel_rfl) (by kernel_rfl) rfl (fun _ _ _ h => h) (.inl ⟨by rfl, fun _ _ => by go_simp⟩) hS ?_
  simp only [Act.put, List.setIfInBounds_toArray, List.set_cons_zero, List.set_cons_succ]
  refine takeH (i := 18) 78 (v := .bool false) rfl (by kernel_rfl) (by kernel_rfl) (by kernel_rfl) rfl (fun _ _ _ h => h) (.inl ⟨by rfl, fun _ _ => by go_simp⟩) hS ?_
  simp only [Act.put, List.setIfInBounds_toArray, List.set_cons_zero, List.set_cons_succ]
  refine takeH (i := 19) 79 (v := f) rfl (by kernel_rfl) (by kernel_rfl) (by kernel_rfl) rfl (fun _ _ _ h => h) (.inl ⟨by rfl, fun _ _ => by go_simp⟩) hS ?_
  simp only [Act.put, List.setIfInBounds_toArray, List.set_cons_zero, List.set_cons_succ]
  refine oneH (i := 20) (oi := ⟨some 80, _, _, _, _, _⟩) rfl (by kernel_rfl) (fun K hK => ?_)
  rw [if_pos (by rfl)]
  go_simp
  refine (Num_any 4 _ _ hS.ef (HGK.out _ hS.below).err).mono ?_
  rintro e wn ⟨rfl, hb⟩
  have hS2 := hS.carry hb
  clear hb hS
  refine hK.out _ _ hS2 ?_
  clear hK K
  have hS := hS2
  clear hS2
  refine takeH (i := 21) 81 (v := .bool true) rfl (by kernel_rfl) (by kernel_rfl) (by kernel_rfl) rfl (fun _ _ _ h => h) (.inl ⟨by rfl, fun _ _ => by go_simp⟩) hS ?_
  simp only [Act.put, List.setIfInBounds_toArray, List.set_cons_zero, List.set_cons_succ]
  refine takeH (i := 22) 82 (v := .bool true) rfl (by kernel_rfl) (by kernel_rfl) (by kernel_rfl) rfl (fun _ _ _ h => h) (.inl ⟨by rfl, fun _ _ => by go_simp⟩) hS ?_
  simp only [Act.put, List.setIfInBounds_toArray, List.set_cons_zero, List.set_cons_succ]
  refine takeH (i := 23) 83 (v := .bool true) rfl (by kernel_rfl) (by kernel_rfl) (by kernel_rfl) rfl (fun _ _ _ h => h) (.inl ⟨by rfl, fun _ _ => by go_simp⟩) hS ?_
  simp only [Act.put, List.setIfInBounds_toArray, List.set_cons_zero, List.set_cons_succ]
  refine takeH (i := 24) 84 (v := .bool true) rfl (by kernel_rfl) (by kernel_rfl) (by kernel_rfl) rfl (fun _ _ _ h => h) (.inl ⟨by rfl, fun _ _ => by go_simp⟩) hS ?_
  simp only [Act.put, List.setIfInBounds_toArray, List.set_cons_zero, List.set_cons_succ]
  refine takeH (i := 25) 85 (v := g) rfl (by kernel_rfl) (by kernel_rfl) (by kernel_rfl) rfl (fun _ _ _ h => h) (.inl ⟨by rfl, fun _ _ => by go_simp⟩) hS ?_
  simp only [Act.put, List.setIfInBounds_toArray, List.set_cons_zero, List.set_cons_succ]
  refine oneH (i := 26) (oi := ⟨some 86, _, _, _, _, _⟩) rfl (by kernel_rfl) (fun K hK => ?_)
  rw [if_pos (by rfl)]
  go_simp
  refine (Num_any 1 _ _ hS.eg (HGK.out _ hS.below).err).mono ?_
  rintro e wn ⟨rfl, hb⟩
  have hS2 := hS.carry hb
  clear hb hS
  refine hK.out _ _ hS2 ?_
  clear hK K
  have hS := hS2
  clear hS2
  refine takeH (i := 27) 87 (v := .bool true) rfl (by kernel_rfl) (by kernel_rfl) (by kernel_rfl) rfl (fun _ _ _ h => h) (.inl ⟨by rfl, fun _ _ => by go_simp⟩) hS ?_
  simp only [Act.put, List.setIfInBounds_toArray, List.set_cons_zero, List.set_cons_succ]
  refine takeH (i := 28) 88 (v := .bool true) rfl (by kernel_rfl) (by kernel_rfl) (by kernel_rfl) rfl (fun _ _ _ h => h) (.inl ⟨by rfl, fun _ _ => by go_simp⟩) hS ?_
  simp only [Act.put, List.setIfInBounds_toArray, List.set_cons_zero, List.set_cons_succ]
  refine takeH (i := 29) 89 (v := .bool true) rfl (by kernel_rfl) (by kernel_rfl) (by kernel_rfl) rfl (fun _ _ _ h => h) (.inl ⟨by rfl, fun _ _ => by go_simp⟩) hS ?_
  simp only [Act.put, List.setIfInBounds_toArray, List.set_cons_zero, List.set_cons_succ]
  refine takeH (i := 30) 90 (v := h) rfl (by kernel_rfl) (by kernel_rfl) (by kernel_rfl) rfl (fun _ _ _ h => h) (.inl ⟨by rfl, fun _ _ => by go_simp⟩) hS ?_
  simp only [Act.put, List.setIfInBounds_toArray, List.set_cons_zero, List.set_cons_succ]
  refine oneH (i := 31) (oi := ⟨some 91, _, _, _, _, _⟩) rfl (by kernel_rfl) (fun K hK => ?_)
  rw [if_pos (by rfl)]
  go_simp
  refine (Num_any 1 _ _ hS.eh (HGK.out _ hS.below).err).mono ?_
  rintro e wn ⟨rfl, hb⟩
  have hS2 := hS.carry hb
  clear hb hS
  refine hK.out _ _ hS2 ?_
  clear hK K
  have hS := hS2
  clear hS2
  refine takeH (i := 32) 92 (v := .bool true) rfl (by kernel_rfl) (by kernel_rfl) (by kernel_rfl) rfl (fun _ _ _ h => h) (.inl ⟨by rfl, fun _ _ => by go_simp⟩) hS ?_
  simp only [Act.put, List.setIfInBounds_toArray, List.set_cons_zero, List.set_cons_succ]
  refine takeH (i := 33) 93 (v := .bool true) rfl (by kernel_rfl) (by kernel_rfl) (by kernel_rfl) rfl (fun _ _ _ h => h) (.inl ⟨by rfl, fun _ _ => by go_simp⟩) hS ?_
  simp only [Act.put, List.setIfInBounds_toArray, List.set_cons_zero, List.set_cons_succ]
  refine takeH (i := 34) 94 (v := .bool true) rfl (by kernel_rfl) (by kernel_rfl) (by kernel_rfl) rfl (fun _ _ _ h => h) (.inl ⟨by rfl, fun _ _ => by go_simp⟩) hS ?_
  simp only [Act.put, List.setIfInBounds_toArray, List.set_cons_zero, List.set_cons_succ]
  refine takeH (i := 35) 95 (v := i) rfl (by kernel_rfl) (by kernel_rfl) (by kernel_rfl) rfl (fun _ _ _ h => h) (.inl ⟨by rfl, fun _ _ => by go_simp⟩) hS ?_
  simp only [Act.put, List.setIfInBounds_toArray, List.set_cons_zero, List.set_cons_succ]
  refine oneH (i := 36) (oi := ⟨some 96, _, _, _, _, _⟩) rfl (by kernel_rfl) (fun K hK => ?_)
  rw [if_pos (by rfl)]
  go_simp
  refine (Num_any 7 _ _ hS.ei (HGK.out _ hS.below).err).mono ?_
  rintro e wn ⟨rfl, hb⟩
  have hS2 := hS.carry hb
  clear hb hS
  refine hK.out _ _ hS2 ?_
  clear hK K
  have hS := hS2
  clear hS2
  refine takeH (i := 37) 97 (v := .bool true) rfl (by kernel_rfl) (by kernel_rfl) (by kernel_rfl) rfl (fun _ _ _ h => h) (.inl ⟨by rfl, fun _ _ => by go_simp⟩) hS ?_
  simp only [Act.put, List.setIfInBounds_toArray, List.set_cons_zero, List.set_cons_succ]
  refine takeH (i := 38) 98 (v := .bool true) rfl (by kernel_rfl) (by kernel_rfl) (by kernel_rfl) rfl (fun _ _ _ h => h) (.inl ⟨by rfl, fun _ _ => by go_simp⟩) hS ?_
  simp only [Act.put, List.setIfInBounds_toArray, List.set_cons_zero, List.set_cons_succ]
  refine takeH (i := 39) 4 (v := .bool true) rfl (by kernel_rfl) (by kernel_rfl) (by kernel_rfl) rfl (fun _ _ _ h => h) (.inl ⟨by rfl, fun _ _ => by go_simp⟩) hS ?_
  simp only [Act.put, List.setIfInBounds_toArray, List.set_cons_zero, List.set_cons_succ]
  refine wpAnyH_done (by kernel_rfl) ?_ _
  go_wp2_with fail
  go_ret
  exact ⟨rfl, hS.below⟩
theorem best_walk (p q : List UInt8) (hp : p.length = 128) (hq : q.length = 128) (w : World) (hg : Laid2 w) :
    Calls Tryd.prog 5 #[pgV (pgB p), pgV (pgB q)] w fun e w' => e = .returned (.bool true) ∧ Below w.heap.size w w' := by
  cases hb : best (sbOf p) (sbOf q) with
  | some y => exact best_walk_some p q hp hq y (best_ok hb).1 hb w hg
  | none => exact best_walk_none p q hp hq Sb.zero Sb.Ok.zero hb rfl w hg
end Go.Proofs.YtaolkmlgdhnhaaaDoor
