/-
  The walk of the statement SuperGreater: it answers true, and no memory that was there has turned. Conditions: errors.errorType and crc.halved are laid.
-/
import Derived.Test.YtaolkmlgdhnhaaaDoorSbUnlike
import Derived.Test.YtaolkmlgdhnhaaaDoorRefs
namespace Go.Proofs.YtaolkmlgdhnhaaaDoor
open Go.RowKit

/-- the one behind x -/
def nextSb (x y : Sb) : Sb := ⟨(x.gen + 1) % 4294967296, y.root, y.used⟩
theorem nextSb_ok {x y : Sb} (hy : y.Ok) : (nextSb x y).Ok := ⟨Nat.mod_lt _ (by decide), hy.used⟩
theorem nextSb_gen {x y : Sb} (hr : rightB (nextSb x y) = true) (hx : x.Ok) : (nextSb x y).gen = x.gen + 1 := by
  have h := rightB_gen hr
  have h2 := hx.gen
  show (x.gen + 1) % 4294967296 = _
  have h3 : (x.gen + 1) % 4294967296 ≠ 0 := h
  omega
theorem TwoSt.next {w wi : World} {b : Nat} {x y : Sb} (h : TwoSt w wi b x y) (hlo : w.heap.size ≤ b) (g : Nat) : TwoSt w (wi.setCell ⟨b + 1, 0, none⟩ (.int .u32 (g : Int))) b x ⟨g, y.root, y.used⟩ :=
  ⟨⟨fun i u hu => by rw [World.cell?_setCell_other _ _ _ _ (by intro hh; injection hh; omega)]; exact h.fst.at_ i u hu, fun i => by rw [World.frozen?_setCell]; exact h.fst.free i⟩, h.snd.put0 g, h.below.setCell (by show w.heap.size ≤ b + 1; omega) _⟩
theorem best_two {p q : List UInt8} {x z : Sb} (hz : sbOf p = some z) (hx : sbOf q = some x) (hg : x.gen < z.gen) (i : Nat) (hi : i < 2) : best (sbOf (if i = 0 then p else q)) (sbOf (if i = 1 then p else q)) = some z := by
  match i, hi with
  | 0, _ =>
    rw [if_pos rfl, if_neg (by decide), hz, hx]
    show (if x.gen ≤ z.gen then some z else some x) = _
    rw [if_pos (by omega)]
  | 1, _ =>
    rw [if_neg (by decide), if_pos rfl, hz, hx]
    show (if z.gen ≤ x.gen then some x else some z) = _
    rw [if_neg (by omega)]
theorem best_spoilt {p q : List UInt8} {x : Sb} (hz : sbOf p = none) (hx : sbOf q = some x) (i : Nat) (hi : i < 2) : best (sbOf (if i = 0 then p else q)) (sbOf (if i = 1 then p else q)) = some x := by
  match i, hi with
  | 0, _ => rw [if_pos rfl, if_neg (by decide), hz, hx]; rfl
  | 1, _ => rw [if_neg (by decide), if_pos rfl, hz, hx]; rfl
theorem two_seen {d : Dk} (hok : d.Ok 3) {x z : Sb} (hx : x.Ok) (hg : z.gen = x.gen + 1) {i j : Nat} (hi : i = z.gen % 2) (hj : j < 2) : pgAt (swDk (swDk d x) z).seen j = pgB (if i = j then sbP z else sbP x) := by
  have h1 : (swDk d x).Ok 3 := ((hok.flush.write (by omega) (by rw [pgB_length]; exact sbP_length hx))).flush
  rw [swDk_seen h1 (by decide), swDk_seen hok (by decide)]
  by_cases h : z.gen % 2 = j
  · rw [if_pos h, if_pos (by omega)]
  · rw [if_neg h, if_pos (by omega), if_neg (by omega)]
set_option maxRecDepth 100000 in
set_option maxHeartbeats 4000000 in
theorem greater_no (x y : Sb) (at_ by_ : Nat) (hx : x.Ok) (hy : y.Ok) (hr : rightB x = false ∨ (rightB x = true ∧ rightB (nextSb x y) = false)) (w : World) (hg : Laid2 w) :
    Calls Tryd.prog 6 #[sbV x, sbV y, .int .u8 at_, .int .u8 by_] w fun e w' => e = .returned (.bool true) ∧ Below w.heap.size w w' := by
  have HX := Lib.hid hx
  have HZO : Hid (nextSb x y).Ok := Lib.hid (nextSb_ok hy)
  obtain ⟨z, HZ⟩ : ∃ z, Hid (z = nextSb x y) := ⟨_, Lib.hid rfl⟩
  rw [← HZ.out] at HZO
  rw [← HZ.out] at hr
  have HRR := Lib.hid hr
  obtain ⟨b, HB⟩ : ∃ b, Hid (b = w.heap.size) := ⟨_, Lib.hid rfl⟩
  obtain ⟨w1, HW⟩ : ∃ w1, Hid (w1 = (w.alloc (.cells (sbArr x) 25)).alloc (.cells (sbArr y) 25)) := ⟨_, Lib.hid rfl⟩
  have HS : Hid (TwoSt w w1 b x y) := Lib.hid (by rw [HW.out, HB.out]; exact TwoSt.new _ _ _ _)
  have HGK : Hid (∀ w', Below w.heap.size w w' → Laid2 w') := Lib.hid fun w' h => hg.carry h
  clear hg hx hy hr
  go_enter Tryd.func6, Tryd.ntmps6
  go_upto_region 1 with (fail)
  rw [← HW.out, ← HB.out]
  clear HW
  go_wp2_with fail
  refine (awake_any _ (HGK.out _ HS.out.below)).mono ?_
  rintro e w2 ⟨rfl, hb⟩
  have HS2 := Lib.hid (HS.out.carry hb)
  clear hb HS
  obtain ⟨g, HG⟩ : ∃ g, Hid (g = x.gen) := ⟨_, Lib.hid rfl⟩
  obtain ⟨n, HN⟩ : ∃ n, Hid (n = z.gen) := ⟨_, Lib.hid rfl⟩
  have c1 := HS2.out.fst.gen
  have c2 := HS2.out.snd.gen
  have f2 := HS2.out.snd.free 0
  rw [← HG.out] at c1
  go_upto_region 4 with (fail)
  rw [show ((g : Int) + 1) % 4294967296 = (n : Int) by rw [HN.out, HZ.out, HG.out]; show _ = (((x.gen + 1) % 4294967296 : Nat) : Int); omega]
  obtain ⟨w3, HW⟩ : ∃ w3, Hid (w3 = w2.setCell ⟨b + 1, 0, none⟩ (.int .u32 (n : Int))) := ⟨_, Lib.hid rfl⟩
  have HS3 : Hid (TwoSt w w3 b x z) := Lib.hid (by
    have := HS2.out.next (by rw [HB.out]; exact Nat.le_refl _) n
    rw [← HW.out] at this
    rw [show z = ⟨n, y.root, y.used⟩ by rw [HN.out, HZ.out]; rfl]
    exact this)
  rw [← HW.out]
  clear HW c1 c2 f2 HS2
  go_wp2_with (with_reducible refine stop_at (o := ⟨some 25, _, _, _, _, _⟩) ?_)
  refine wpList_load_sb Tryd.sbRef (by rfl) _ rfl b rfl x HX.out HS3.out.fst.at_ ?_
  go_wp2_with fail
  refine (RefRight_any x HX.out _).mono ?_
  rintro e w4 ⟨rfl, hb⟩
  have HS4 := Lib.hid (HS3.out.carry hb)
  clear hb HS3
  cases hrx : rightB x with
  | false =>
    clear hrx
    go_wp2_with fail
    go_ret
    exact ⟨rfl, HS4.out.below⟩
  | true =>
    have HRZ : Hid (rightB z = false) := Lib.hid (by
      rcases HRR.out with h | h
      · rw [hrx] at h; cases h
      · exact h.2)
    clear hrx
    go_wp2_with (with_reducible refine stop_at (o := ⟨some 29, _, _, _, _, _⟩) ?_)
    refine wpList_load_sb Tryd.sbRef (by rfl) _ rfl (b + 1) rfl z HZO.out HS4.out.snd.at_ ?_
    go_wp2_with fail
    refine (RefRight_any z HZO.out _).mono ?_
    rw [HRZ.out]
    rintro e w5 ⟨rfl, hb⟩
    have HS5 := Lib.hid (HS4.out.carry hb)
    clear hb HS4
    go_wp2_with fail
    go_ret
    exact ⟨rfl, HS5.out.below⟩
theorem BOwn.offCell {w : World} {b c : Nat} {x : Sb} (h : BOwn w b x) (hc : b ≠ c) (j : Nat) (v : Value) : BOwn (w.setCell ⟨c, j, none⟩ v) b x :=
  ⟨fun i u hu => by rw [World.cell?_setCell_other _ _ _ _ (by intro hh; injection hh; omega)]; exact h.at_ i u hu, fun i => by rw [World.frozen?_setCell]; exact h.free i⟩
theorem TwoSt.kept {K : Nat → Prop} {w wi wj : World} {b : Nat} {x y : Sb} (h : TwoSt w wi b x y) (hk : Kept K wi wj) (h1 : K b) (h2 : K (b + 1)) (hb : Below w.heap.size w wj) : TwoSt w wj b x y :=
  ⟨h.fst.block (hk.block b h1), h.snd.block (hk.block (b + 1) h2), hb⟩
theorem wr_seen {d : Dk} {n i j : Nat} {p : Pg} (hok : d.Ok n) (hi : i < n) : pgAt (d.write i p).seen j = if i = j then p else pgAt d.seen j := pgAt_set (by rw [hok.seen]; exact hi)
/-- what stands in memory at the end -/
structure GrS (w : World) (b c d : Nat) (x z y : Sb) (wr : World) : Prop where
  fst : BOwn wr b x
  snd : BOwn wr (b + 1) z
  got : BOwn wr c z
  two : BOwn wr d y
  below : Below w.heap.size w wr
theorem GrS.carry {w : World} {b c d : Nat} {x z y : Sb} {wr w' : World} (h : GrS w b c d x z y wr) (hb : Below wr.heap.size wr w') : GrS w b c d x z y w' :=
  ⟨h.fst.below hb h.fst.lt, h.snd.below hb h.snd.lt, h.got.below hb h.got.lt, h.two.below hb h.two.lt, h.below.trans (hb.mono h.below.size)⟩
theorem GrS.drew {w : World} {b c d : Nat} {x z y : Sb} {wr : World} (h : GrS w b c d x z y wr) : GrS w b c d x z y wr.drew := h.carry (Below.refl _ _).drew
set_option maxRecDepth 100000 in
set_option maxHeartbeats 4000000 in
theorem greater_same (x y : Sb) (at_ by_ : Nat) (hx : x.Ok) (hy : y.Ok) (hr : rightB x = true) (hr2 : rightB (nextSb x y) = true) (_ha : at_ < 256) (_hy1 : by_ < 256) (hby : by_ = 0) (w : World) (hg : Laid2 w) :
    Calls Tryd.prog 6 #[sbV x, sbV y, .int .u8 at_, .int .u8 by_] w fun e w' => e = .returned (.bool true) ∧ Below w.heap.size w w' := by
  have hz := Tryd.sbProg.zero
  have hz2 := Tryd.zeroPage
  obtain ⟨yb, HYB⟩ : ∃ yb : UInt8, Hid (yb.toNat = by_) := ⟨UInt8.ofNat by_, Lib.hid (by rw [UInt8.toNat_ofNat']; omega)⟩
  have HX := Lib.hid hx
  have HZO : Hid (nextSb x y).Ok := Lib.hid (nextSb_ok hy)
  obtain ⟨z, HZ⟩ : ∃ z, Hid (z = nextSb x y) := ⟨_, Lib.hid rfl⟩
  rw [← HZ.out] at HZO
  have HGN : Hid (z.gen = x.gen + 1) := Lib.hid (by rw [HZ.out]; exact nextSb_gen hr2 hx)
  rw [← HZ.out] at hr2
  have HRX := Lib.hid hr
  have HRZ := Lib.hid hr2
  have HBY := Lib.hid hby
  obtain ⟨pz, HPZ⟩ : ∃ pz, Hid (pz = sbP z) := ⟨_, Lib.hid rfl⟩
  obtain ⟨px, HPX⟩ : ∃ px, Hid (px = sbP x) := ⟨_, Lib.hid rfl⟩
  have HPZL : Hid (pz.length = 128) := Lib.hid (by rw [HPZ.out]; exact sbP_length HZO.out)
  have HPXL : Hid (px.length = 128) := Lib.hid (by rw [HPX.out]; exact sbP_length HX.out)
  have HOZ : Hid (sbOf pz = some z) := Lib.hid (by rw [HPZ.out]; exact sbOf_sbP HZO.out HRZ.out)
  have HOX : Hid (sbOf px = some x) := Lib.hid (by rw [HPX.out]; exact sbOf_sbP HX.out HRX.out)
  obtain ⟨i, HI⟩ : ∃ i, Hid (i = z.gen % 2) := ⟨_, Lib.hid rfl⟩
  have HI2 : Hid (i < 2) := Lib.hid (by rw [HI.out]; exact Nat.mod_lt _ (by decide))
  obtain ⟨j, HJ⟩ : ∃ j, Hid (j = at_ % 128) := ⟨_, Lib.hid rfl⟩
  have HJL : Hid (j < 128) := Lib.hid (by rw [HJ.out]; omega)
  have hjp : j < pz.length := by rw [HPZL.out]; exact HJL.out
  obtain ⟨v, HV⟩ : ∃ v : UInt8, Hid (pz[j] = v) := ⟨_, Lib.hid rfl⟩
  obtain ⟨qz, HQZ⟩ : ∃ qz, Hid (qz = pz.set j (v ^^^ yb)) := ⟨_, Lib.hid rfl⟩
  have HQZL : Hid (qz.length = 128) := Lib.hid (by rw [HQZ.out, List.length_set]; exact HPZL.out)
  have HB1 : Hid (best (sbOf (if i = 0 then pz else px)) (sbOf (if i = 1 then pz else px)) = some z) := Lib.hid (best_two HOZ.out HOX.out (by rw [HGN.out]; omega) i HI2.out)
  have HB2T : Hid (best (sbOf (if i = 0 then qz else px)) (sbOf (if i = 1 then qz else px)) = some z) := Lib.hid (by
    have e : qz = pz := by
      have : yb = 0 := UInt8.toNat_inj.1 (by rw [HYB.out, hby]; rfl)
      rw [HQZ.out, this, ← HV.out, UInt8.xor_zero]
      exact List.set_getElem_self _
    rw [e]
    exact HB1.out)
  clear hr2 hby
  obtain ⟨b, HB⟩ : ∃ b, Hid (b = w.heap.size) := ⟨_, Lib.hid rfl⟩
  obtain ⟨w1, HW⟩ : ∃ w1, Hid (w1 = (w.alloc (.cells (sbArr x) 25)).alloc (.cells (sbArr y) 25)) := ⟨_, Lib.hid rfl⟩
  have HS : Hid (TwoSt w w1 b x y) := Lib.hid (by rw [HW.out, HB.out]; exact TwoSt.new _ _ _ _)
  have HGK : Hid (∀ w', Below w.heap.size w w' → Laid2 w') := Lib.hid fun w' h => hg.carry h
  clear hg hx hy hr
  go_enter Tryd.func6, Tryd.ntmps6
  go_upto_region 1 with (fail)
  rw [← HW.out, ← HB.out]
  clear HW
  go_wp2_with fail
  refine (awake_any _ (HGK.out _ HS.out.below)).mono ?_
  rintro e w2 ⟨rfl, hb⟩
  have HS2 := Lib.hid (HS.out.carry hb)
  clear hb HS
  obtain ⟨g, HG⟩ : ∃ g, Hid (g = x.gen) := ⟨_, Lib.hid rfl⟩
  obtain ⟨n, HN⟩ : ∃ n, Hid (n = z.gen) := ⟨_, Lib.hid rfl⟩
  have c1 := HS2.out.fst.gen
  have c2 := HS2.out.snd.gen
  have f2 := HS2.out.snd.free 0
  rw [← HG.out] at c1
  go_upto_region 4 with (fail)
  rw [show ((g : Int) + 1) % 4294967296 = (n : Int) by rw [HN.out, HZ.out, HG.out]; show _ = (((x.gen + 1) % 4294967296 : Nat) : Int); omega]
  obtain ⟨w3, HW⟩ : ∃ w3, Hid (w3 = w2.setCell ⟨b + 1, 0, none⟩ (.int .u32 (n : Int))) := ⟨_, Lib.hid rfl⟩
  have HS3 : Hid (TwoSt w w3 b x z) := Lib.hid (by
    have := HS2.out.next (by rw [HB.out]; exact Nat.le_refl _) n
    rw [← HW.out] at this
    rw [show z = ⟨n, y.root, y.used⟩ by rw [HN.out, HZ.out]; rfl]
    exact this)
  rw [← HW.out]
  clear HW c1 c2 f2 HS2
  go_wp2_with (with_reducible refine stop_at (o := ⟨some 25, _, _, _, _, _⟩) ?_)
  refine wpList_load_sb Tryd.sbRef (by rfl) _ rfl b rfl x HX.out HS3.out.fst.at_ ?_
  go_wp2_with fail
  refine (RefRight_any x HX.out _).mono ?_
  rintro e w4 ⟨rfl, hb⟩
  have HS4 := Lib.hid (HS3.out.carry hb)
  clear hb HS3
  rw [HRX.out]
  go_wp2_with (with_reducible refine stop_at (o := ⟨some 29, _, _, _, _, _⟩) ?_)
  refine wpList_load_sb Tryd.sbRef (by rfl) _ rfl (b + 1) rfl z HZO.out HS4.out.snd.at_ ?_
  go_wp2_with fail
  refine (RefRight_any z HZO.out _).mono ?_
  rw [HRZ.out]
  rintro e w5 ⟨rfl, hb⟩
  have HS5 := Lib.hid (HS4.out.carry hb)
  clear hb HS4
  go_wp2_with fail
  obtain ⟨M, HM⟩ : ∃ M, Hid (M = w5.heap.size) := ⟨_, Lib.hid rfl⟩
  refine (New_yes 3 (by decide) (by decide) w5).mono ?_
  rintro e w6 ⟨D, rfl, hd, hb⟩
  have HS6 := Lib.hid (HS5.out.carry hb)
  rw [← HM.out] at hd
  have HD6 := Lib.hid hd
  have HM6 : Hid (M ≤ w6.heap.size) := Lib.hid (by rw [HM.out]; exact hb.size)
  have HNM : Hid (w.heap.size ≤ M) := Lib.hid (by rw [HM.out]; exact HS5.out.below.size)
  have HBM : Hid (b + 1 < M) := Lib.hid (by rw [HM.out]; exact HS5.out.snd.lt)
  -- the disk's calls leave all that was there ahead of it
  have HSM : Hid (∀ w', Kept (· < M) w6 w' → TwoSt w w' b x z) := Lib.hid fun w' hk => by
    have h1 : Below M w6 w' := hk.below fun k hk => hk
    have hl1 : b < M := by rw [HM.out]; exact HS5.out.fst.lt
    have hl2 : b + 1 < M := by rw [HM.out]; exact HS5.out.snd.lt
    exact ⟨HS6.out.fst.below h1 hl1, HS6.out.snd.below h1 hl2, HS6.out.below.trans (h1.mono HNM.out)⟩
  have HT6 : Hid (There (· < M) w6) := Lib.hid fun k hk => Nat.lt_of_lt_of_le hk HM6.out
  clear hd hb HS5
  go_wp2_with (with_reducible refine stop_at (o := ⟨some 38, _, _, _, _, _⟩) ?_)
  refine wpList_load_sb Tryd.sbRef (by rfl) _ rfl b rfl x HX.out HS6.out.fst.at_ ?_
  go_wp2_with fail
  refine (Of_any x HX.out _).mono ?_
  rintro e w7 ⟨rfl, hb⟩
  have HK7 : Hid (Kept (· < M) w6 w7) := Lib.hid (Kept.of_below hb HT6.out)
  have HS7 := Lib.hid (HSM.out _ HK7.out)
  have HD7 := Lib.hid (HD6.out.carry hb)
  have HT7 : Hid (There (· < M) w7) := Lib.hid fun k hk => Nat.lt_of_lt_of_le (HT6.out k hk) hb.size
  clear hb HS6 HD6
  go_wp2_with fail
  refine (Switch_yes HD7.out HT7.out rfl (by decide) x HX.out HRX.out fun w' hk => (HGK.out _ (HSM.out _ (HK7.out.trans hk)).below).crc).mono ?_
  rintro e w8 ⟨rfl, hd, hk⟩
  have HK8 : Hid (Kept (· < M) w6 w8) := Lib.hid (HK7.out.trans hk)
  have HS8 := Lib.hid (HSM.out _ HK8.out)
  have HD8 := Lib.hid hd
  have HT8 : Hid (There (· < M) w8) := Lib.hid fun k hh => Nat.lt_of_lt_of_le (HT7.out k hh) hk.size
  clear hd hk HS7 HD7 HT7 HK7
  go_wp2_with (with_reducible refine stop_at (o := ⟨some 42, _, _, _, _, _⟩) ?_)
  refine wpList_load_sb Tryd.sbRef (by rfl) _ rfl (b + 1) rfl z HZO.out HS8.out.snd.at_ ?_
  go_wp2_with fail
  refine (Of_any z HZO.out _).mono ?_
  rintro e w9 ⟨rfl, hb⟩
  have HK9 : Hid (Kept (· < M) w6 w9) := Lib.hid (HK8.out.trans (Kept.of_below hb HT8.out))
  have HD9 := Lib.hid (HD8.out.carry hb)
  have HT9 : Hid (There (· < M) w9) := Lib.hid fun k hk => Nat.lt_of_lt_of_le (HT8.out k hk) hb.size
  clear hb HS8 HD8 HT8 HK8
  go_wp2_with fail
  refine (Switch_yes HD9.out HT9.out rfl (by decide) z HZO.out HRZ.out fun w' hk => (HGK.out _ (HSM.out _ (HK9.out.trans hk)).below).crc).mono ?_
  rintro e wL ⟨rfl, hd, hk⟩
  have HSL := Lib.hid (HSM.out _ (HK9.out.trans hk))
  have HML : Hid (M ≤ wL.heap.size) := Lib.hid (by have := (HK9.out.trans hk).size; have := HM6.out; omega)
  have hseen : ∀ k, k < 2 → pgAt (swDk (swDk (Dk.new 3) x) z).seen k = pgB (if i = k then pz else px) := fun k hk => by
    rw [two_seen (Dk.Ok.new 3) HX.out HGN.out HI.out hk, HPZ.out, HPX.out]
  have HOKD : Hid ((swDk (swDk (Dk.new 3) x) z).Ok 3) := Lib.hid hd.ok
  obtain ⟨dk, HDK⟩ : ∃ dk, Hid (dk = swDk (swDk (Dk.new 3) x) z) := ⟨_, Lib.hid rfl⟩
  rw [← HDK.out] at hd hseen HOKD
  have HDL := Lib.hid hd
  have HSEEN := Lib.hid hseen
  have HDN : Hid (dk.down = false) := Lib.hid (by rw [HDK.out]; rfl)
  have HSOFT : Hid (dk.soft.length = 0) := Lib.hid (by rw [HDK.out]; rfl)
  obtain ⟨L, HL⟩ : ∃ L, Hid (L = wL.heap.size) := ⟨_, Lib.hid rfl⟩
  clear hd hk hseen HDK HD9 HT9 HK9 HSM HT6
  have HI0 : Hid (pgAt dk.seen 0 = pgB (if i = 0 then pz else px)) := Lib.hid (HSEEN.out 0 (by decide))
  have HI1 : Hid (pgAt dk.seen 1 = pgB (if i = 1 then pz else px)) := Lib.hid (HSEEN.out 1 (by decide))
  have len2 : ∀ (k : Nat) (p q : List UInt8), p.length = 128 → q.length = 128 → (if i = k then p else q).length = 128 := fun k p q h1 h2 => by split <;> assumption
  have HLEN := Lib.hid len2
  clear len2
  go_wp2_with fail
  refine (Best_yes HDL.out HDN.out (by decide) _ _ (HLEN.out 0 pz px HPZL.out HPXL.out) (HLEN.out 1 pz px HPZL.out HPXL.out) HI0.out HI1.out (HGK.out _ HSL.out.below).crc).mono ?_
  rintro e wA ⟨v1, rfl, he, hb⟩
  rw [HB1.out] at he ⊢
  obtain rfl := he.zero
  rw [show (some z).getD Sb.zero = z from rfl]
  have HSA := Lib.hid (HSL.out.carry hb)
  have HBA : Hid (Below L wL wA) := Lib.hid (by rw [HL.out]; exact hb)
  clear he hb HI0 HI1
  go_wp2_with (with_reducible refine stop_at (o := ⟨none, _, _, _, _, _⟩) ?_)
  refine wpList_store_last rfl _ _ _ rfl (sbArr Sb.zero) (sbArr z) _ rfl rfl rfl (by rw [sbArr_size HZO.out]; exact Tryd.sbProg.size) (by rw [sbArr_size HZO.out, sbArr_size Sb.Ok.zero]) (sbArr_all _) ?_
  obtain ⟨c, HC⟩ : ∃ c, Hid (c = wA.heap.size) := ⟨_, Lib.hid rfl⟩
  obtain ⟨wB, HW⟩ : ∃ wB, Hid (wB = wA.alloc (.cells (sbArr z) 33)) := ⟨_, Lib.hid rfl⟩
  rw [← HW.out, ← HC.out]
  have hbB : Below wA.heap.size wA wB := by rw [HW.out]; exact (Below.refl _ _).alloc (Nat.le_refl _) _
  have HSB := Lib.hid (HSA.out.carry hbB)
  have HBB : Hid (Below L wL wB) := Lib.hid (by rw [HL.out] at HBA ⊢; exact HBA.out.trans (hbB.mono HBA.out.size))
  have HOC : Hid (BOwn wB c z) := Lib.hid (by rw [HW.out, HC.out]; exact BOwn.new _)
  have HLC : Hid (L ≤ c) := Lib.hid (by rw [HL.out, HC.out]; have := HBA.out.size; exact this)
  clear hbB HW HSA HBA
  have c1 := HSB.out.snd.gen
  rw [← HN.out] at c1
  have HDB := Lib.hid (HDL.out.carry (by rw [← HL.out]; exact HBB.out))
  have HNI : Hid ((n : Int) % 2 = (i : Int)) := Lib.hid (by have := HI.out; have := HN.out; omega)
  have hrd := Read_any HDB.out (i : Int)
  rw [show codeZ dk.down 3 (i : Int) = 0 by rw [HDN.out]; exact codeZ_in (by have := HI2.out; omega), if_pos rfl, Int.toNat_natCast, HSEEN.out i HI2.out, if_pos rfl] at hrd
  have HRD := Lib.hid hrd
  clear hrd
  go_wp2_with fail
  rw [HNI.out]
  refine HRD.out.mono ?_
  rintro e wC ⟨v2, rfl, he, hb⟩
  obtain rfl := he.zero
  have HSC := Lib.hid (HSB.out.carry hb)
  have HBC : Hid (Below L wL wC) := Lib.hid (HBB.out.trans (hb.mono (by rw [HL.out]; exact HBB.out.size)))
  have HOC2 := Lib.hid (HOC.out.below hb HOC.out.lt)
  clear he hb HRD HDB HSB HBB HOC c1
  go_wp2_with (with_reducible refine stop_at (o := ⟨none, _, _, _, _, _⟩) ?_)
  refine wpList_store_last rfl _ _ _ rfl (pgArr zeroPg) (pgArr (pgB pz)) _ rfl rfl rfl (by rw [pgArr_size, pgB_length, HPZL.out]; exact Tryd.pageSize) (by rw [pgArr_size, pgArr_size, pgB_length, HPZL.out]; rfl) (pgArr_all _) ?_
  obtain ⟨p, HP⟩ : ∃ p, Hid (p = wC.heap.size) := ⟨_, Lib.hid rfl⟩
  obtain ⟨wD, HW⟩ : ∃ wD, Hid (wD = wC.alloc (.cells (pgArr (pgB pz)) 55)) := ⟨_, Lib.hid rfl⟩
  rw [← HW.out, ← HP.out]
  have hbD : Below wC.heap.size wC wD := by rw [HW.out]; exact (Below.refl _ _).alloc (Nat.le_refl _) _
  have HSD := Lib.hid (HSC.out.carry hbD)
  have HBD : Hid (Below L wL wD) := Lib.hid (HBC.out.trans (hbD.mono (by rw [HL.out]; exact HBC.out.size)))
  have HOD := Lib.hid (HOC2.out.below hbD HOC2.out.lt)
  have HOP : Hid (Own wD p pz) := Lib.hid (by rw [HW.out, HP.out]; exact Own.new _)
  have HLP : Hid (L ≤ p) := Lib.hid (by rw [HL.out, HP.out]; exact HBC.out.size)
  have HPNE : Hid (b ≠ p ∧ b + 1 ≠ p ∧ c ≠ p) := Lib.hid (by
    have h1 := HSC.out.fst.lt
    have h2 := HSC.out.snd.lt
    have h3 := HOC2.out.lt
    rw [← HP.out] at h1 h2 h3
    omega)
  have HWP : Hid (w.heap.size ≤ p) := Lib.hid (by rw [HP.out]; exact HSC.out.below.size)
  clear hbD HW HSC HBC HOC2
  have c3 : wD.cell? ⟨p, j, none⟩ = some (.int .u8 (v.toNat : Int)) := by
    have := HOP.out.at_ j (.int .u8 (v.toNat : Int)) (by rw [← HV.out]; simp [pgCells, pgB, hjp])
    rwa [Nat.zero_add] at this
  have c4 : wD.frozen? ⟨p, j, none⟩ = false := HOP.out.free j
  have hij : at_ % 128 = j := HJ.out.symm
  go_upto_region 12 with (fail)
  obtain ⟨wE, HW⟩ : ∃ wE, Hid (wE = wD.setCell ⟨p, j, none⟩ (.int .u8 (bits .xor .u8 (v.toNat : Int) (by_ : Int)))) := ⟨_, Lib.hid rfl⟩
  rw [← HW.out]
  have HPE : Hid (Own wE p qz) := Lib.hid (by
    rw [HW.out, ← HYB.out, xor_u8, HQZ.out]
    exact ⟨range_put HOP.out.at_ hjp _, fun i => by rw [World.frozen?_setCell]; exact HOP.out.free i⟩)
  have HBE : Hid (Below L wL wE) := Lib.hid (by rw [HW.out]; exact HBD.out.setCell HLP.out _)
  have HSE : Hid (TwoSt w wE b x z) := Lib.hid (by rw [HW.out]; exact ⟨HSD.out.fst.offCell HPNE.out.1 _ _, HSD.out.snd.offCell HPNE.out.2.1 _ _, HSD.out.below.setCell HWP.out _⟩)
  have HOE : Hid (BOwn wE c z) := Lib.hid (by rw [HW.out]; exact HOD.out.offCell HPNE.out.2.2 _ _)
  clear HW c3 c4 hij HOP HBD HSD HOD
  obtain ⟨R, HR⟩ : ∃ R, Hid (R = wE.heap.size) := ⟨_, Lib.hid rfl⟩
  obtain ⟨K, HK⟩ : ∃ K : Nat → Prop, Hid (K = fun k => k < M ∨ (L ≤ k ∧ k < R)) := ⟨_, Lib.hid rfl⟩
  have HKM : Hid (∀ k, k < M → K k) := Lib.hid fun k hk => by rw [HK.out]; exact .inl hk
  have HKL : Hid (∀ k, L ≤ k → k < wE.heap.size → K k) := Lib.hid fun k h1 h2 => by rw [HK.out]; exact .inr ⟨h1, by rw [HR.out]; exact h2⟩
  have HDE : Hid (DiskAt K wE D 3 dk) := Lib.hid (HDL.out.more (by rw [← HL.out]; exact HBE.out) fun k hk => by
    rw [HK.out] at hk
    rcases hk with hk | hk
    · exact .inl hk
    · exact .inr (by rw [← HL.out]; exact hk.1))
  have HTE : Hid (There K wE) := Lib.hid fun k hk => by
    rw [HK.out] at hk
    rw [← HR.out]
    rcases hk with hk | hk
    · have h1 := HBE.out.size; have h2 := HML.out; rw [← HR.out] at h1; omega
    · exact hk.2
  have HBK : Hid (∀ w', Kept K wE w' → Below w.heap.size w w') := Lib.hid fun w' hk => HSE.out.below.trans ((hk.less HKM.out).below fun k hh => Nat.lt_of_lt_of_le hh HNM.out)
  clear HDL HBE
  have c5 := HSE.out.snd.gen
  rw [← HN.out] at c5
  go_wp2_with (with_reducible refine stop_at (o := ⟨some 71, _, _, _, _, _⟩) ?_)
  refine wpList_load_page rfl _ _ rfl p 0 rfl (pgB qz) (by rw [pgB_length]; exact HQZL.out) HPE.out.at_ _ Tryd.underlying55 rfl Tryd.pageSize ?_
  go_wp2_with fail
  rw [HNI.out]
  refine (Write_yes (i := i) (p := pgB qz) HDE.out HTE.out HDN.out (by have := HI2.out; omega) (by rw [pgB_length]; exact HQZL.out) (by rw [HSOFT.out]; decide)).mono ?_
  rintro e wF ⟨rfl, hd, hk⟩
  have HDF := Lib.hid hd
  have HSF := Lib.hid (HSE.out.kept hk (HKM.out b (by have := HBM.out; omega)) (HKM.out (b + 1) HBM.out) (HBK.out _ hk))
  have HOF := Lib.hid (HOE.out.block (hk.block c (HKL.out c HLC.out HOE.out.lt)))
  have hseen : ∀ k, k < 2 → pgAt (dk.write i (pgB qz)).seen k = pgB (if i = k then qz else px) := fun k hk => by
    rw [wr_seen HOKD.out (by have := HI2.out; omega)]
    by_cases h : i = k
    · rw [if_pos h, if_pos h]
    · rw [if_neg h, HSEEN.out k hk, if_neg h, if_neg h]
  have HI0 : Hid (pgAt (dk.write i (pgB qz)).seen 0 = pgB (if i = 0 then qz else px)) := Lib.hid (hseen 0 (by decide))
  have HI1 : Hid (pgAt (dk.write i (pgB qz)).seen 1 = pgB (if i = 1 then qz else px)) := Lib.hid (hseen 1 (by decide))
  clear hd hk hseen c5 HDE HSE HOE HTE HBK HPE
  go_wp2_with fail
  refine (Best_yes HDF.out HDN.out (by decide) _ _ (HLEN.out 0 qz px HQZL.out HPXL.out) (HLEN.out 1 qz px HQZL.out HPXL.out) HI0.out HI1.out (HGK.out _ HSF.out.below).crc).mono ?_
  rintro e wG ⟨v3, rfl, he, hb⟩
  rw [HB2T.out] at he ⊢
  obtain rfl := he.zero
  rw [show (some z).getD Sb.zero = z from rfl]
  have HSG := Lib.hid (HSF.out.carry hb)
  have HOG := Lib.hid (HOF.out.below hb HOF.out.lt)
  clear he hb HI0 HI1 HSF HOF HDF
  go_wp2_with (with_reducible refine stop_at (o := ⟨none, _, _, _, _, _⟩) ?_)
  refine wpList_store_last rfl _ _ _ rfl (sbArr Sb.zero) (sbArr z) _ rfl rfl rfl (by rw [sbArr_size HZO.out]; exact Tryd.sbProg.size) (by rw [sbArr_size HZO.out, sbArr_size Sb.Ok.zero]) (sbArr_all _) ?_
  obtain ⟨d, HD⟩ : ∃ d, Hid (d = wG.heap.size) := ⟨_, Lib.hid rfl⟩
  obtain ⟨wH, HW⟩ : ∃ wH, Hid (wH = wG.alloc (.cells (sbArr z) 33)) := ⟨_, Lib.hid rfl⟩
  rw [← HW.out, ← HD.out]
  have hbH : Below wG.heap.size wG wH := by rw [HW.out]; exact (Below.refl _ _).alloc (Nat.le_refl _) _
  have HST : Hid (GrS w b c d x z z wH) := Lib.hid ⟨HSG.out.fst.below hbH HSG.out.fst.lt, HSG.out.snd.below hbH HSG.out.snd.lt, HOG.out.below hbH HOG.out.lt, by rw [HW.out, HD.out]; exact BOwn.new _, HSG.out.below.trans (hbH.mono HSG.out.below.size)⟩
  clear hbH HW HSG HOG
  have hne := fun w => neq_sb HZO.out HZO.out w
  rw [decide_eq_true rfl, show (!true) = false from rfl] at hne
  have heq := fun w => eql_sb HZO.out HZO.out w
  rw [decide_eq_true rfl] at heq
  have hgd := guardSb
  go_upto_region 14 with (fail)
  refine wp_region_held (S := GrS w b c d x z z) (by kernel_rfl) ?_
  change wpAnyH _ _ _ _ _ _ _ _ wH.drew
  obtain ⟨wa, HWA⟩ : ∃ wa, Hid (wa = wH.drew) := ⟨_, Lib.hid rfl⟩
  rw [← HWA.out]
  have hS : GrS w b c d x z z wa := by rw [HWA.out]; exact HST.out.drew
  clear HWA HST
  refine takeH (i := 0) 78 (v := .nilIface) rfl (by kernel_rfl) (by kernel_rfl) (by kernel_rfl) rfl (fun _ _ _ h => h) (.inl ⟨by rfl, fun _ _ => by go_simp⟩) hS ?_
  simp only [Act.put, List.setIfInBounds_toArray, List.set_cons_zero, List.set_cons_succ]
  refine oneH (i := 1) (oi := ⟨some 79, _, _, _, _, _⟩) rfl (by kernel_rfl) (fun K hK => ?_)
  go_simp
  refine (Num_nil _).mono ?_
  rintro e wn ⟨rfl, rfl⟩
  refine hK.out _ _ hS ?_
  clear hK K
  refine takeH (i := 2) 80 (v := .bool false) rfl (by kernel_rfl) (by kernel_rfl) (by kernel_rfl) rfl (fun _ _ _ h => h) (.inl ⟨by rfl, fun _ _ => by go_simp⟩) hS ?_
  simp only [Act.put, List.setIfInBounds_toArray, List.set_cons_zero, List.set_cons_succ]
  refine takeH (i := 3) 81 (v := .bool false) rfl (by kernel_rfl) (by kernel_rfl) (by kernel_rfl) rfl (fun _ _ _ h => h) (.inl ⟨by rfl, fun _ _ => by go_simp⟩) hS ?_
  simp only [Act.put, List.setIfInBounds_toArray, List.set_cons_zero, List.set_cons_succ]
  refine takeH (i := 4) 82 (v := .nilIface) rfl (by kernel_rfl) (by kernel_rfl) (by kernel_rfl) rfl (fun _ _ _ h => h) (.inl ⟨by rfl, fun _ _ => by go_simp⟩) hS ?_
  simp only [Act.put, List.setIfInBounds_toArray, List.set_cons_zero, List.set_cons_succ]
  refine oneH (i := 5) (oi := ⟨some 83, _, _, _, _, _⟩) rfl (by kernel_rfl) (fun K hK => ?_)
  rw [if_pos (by rfl)]
  go_simp
  refine (Num_nil _).mono ?_
  rintro e wn ⟨rfl, rfl⟩
  refine hK.out _ _ hS ?_
  clear hK K
  refine takeH (i := 6) 84 (v := .bool false) rfl (by kernel_rfl) (by kernel_rfl) (by kernel_rfl) rfl (fun _ _ _ h => h) (.inl ⟨by rfl, fun _ _ => by go_simp⟩) hS ?_
  simp only [Act.put, List.setIfInBounds_toArray, List.set_cons_zero, List.set_cons_succ]
  refine takeH (i := 7) 85 (v := .bool false) rfl (by kernel_rfl) (by kernel_rfl) (by kernel_rfl) rfl (fun _ _ _ h => h) (.inl ⟨by rfl, fun _ _ => by go_simp⟩) hS ?_
  simp only [Act.put, List.setIfInBounds_toArray, List.set_cons_zero, List.set_cons_succ]
  refine takeH (i := 8) 86 (v := .bool false) rfl (by kernel_rfl) (by kernel_rfl) (by kernel_rfl) rfl (fun _ _ _ h => h) (.inl ⟨by rfl, fun _ _ => by go_simp⟩) hS ?_
  simp only [Act.put, List.setIfInBounds_toArray, List.set_cons_zero, List.set_cons_succ]
  refine takeH (i := 9) 87 (v := .nilIface) rfl (by kernel_rfl) (by kernel_rfl) (by kernel_rfl) rfl (fun _ _ _ h => h) (.inl ⟨by rfl, fun _ _ => by go_simp⟩) hS ?_
  simp only [Act.put, List.setIfInBounds_toArray, List.set_cons_zero, List.set_cons_succ]
  refine oneH (i := 10) (oi := ⟨some 88, _, _, _, _, _⟩) rfl (by kernel_rfl) (fun K hK => ?_)
  rw [if_pos (by rfl)]
  go_simp
  refine (Num_nil _).mono ?_
  rintro e wn ⟨rfl, rfl⟩
  refine hK.out _ _ hS ?_
  clear hK K
  refine takeH (i := 11) 89 (v := .bool false) rfl (by kernel_rfl) (by kernel_rfl) (by kernel_rfl) rfl (fun _ _ _ h => h) (.inl ⟨by rfl, fun _ _ => by go_simp⟩) hS ?_
  simp only [Act.put, List.setIfInBounds_toArray, List.set_cons_zero, List.set_cons_succ]
  refine takeH (i := 12) 90 (v := .bool false) rfl (by kernel_rfl) (by kernel_rfl) (by kernel_rfl) rfl (fun _ _ _ h => h) (.inl ⟨by rfl, fun _ _ => by go_simp⟩) hS ?_
  simp only [Act.put, List.setIfInBounds_toArray, List.set_cons_zero, List.set_cons_succ]
  refine takeH (i := 13) 91 (v := .bool false) rfl (by kernel_rfl) (by kernel_rfl) (by kernel_rfl) rfl (fun _ _ _ h => h) (.inl ⟨by rfl, fun _ _ => by go_simp⟩) hS ?_
  simp only [Act.put, List.setIfInBounds_toArray, List.set_cons_zero, List.set_cons_succ]
  refine takeH (i := 14) 92 (v := .nilIface) rfl (by kernel_rfl) (by kernel_rfl) (by kernel_rfl) rfl (fun _ _ _ h => h) (.inl ⟨by rfl, fun _ _ => by go_simp⟩) hS ?_
  simp only [Act.put, List.setIfInBounds_toArray, List.set_cons_zero, List.set_cons_succ]
  refine oneH (i := 15) (oi := ⟨some 93, _, _, _, _, _⟩) rfl (by kernel_rfl) (fun K hK => ?_)
  rw [if_pos (by rfl)]
  go_simp
  refine (Num_nil _).mono ?_
  rintro e wn ⟨rfl, rfl⟩
  refine hK.out _ _ hS ?_
  clear hK K
  refine takeH (i := 16) 94 (v := .bool false) rfl (by kernel_rfl) (by kernel_rfl) (by kernel_rfl) rfl (fun _ _ _ h => h) (.inl ⟨by rfl, fun _ _ => by go_simp⟩) hS ?_
  simp only [Act.put, List.setIfInBounds_toArray, List.set_cons_zero, List.set_cons_succ]
  refine takeH (i := 17) 95 (v := .bool false) rfl (by kernel_rfl) (by kernel_rfl) (by kernel_rfl) rfl (fun _ _ _ h => h) (.inl ⟨by rfl, fun _ _ => by go_simp⟩) hS ?_
  simp only [Act.put, List.setIfInBounds_toArray, List.set_cons_zero, List.set_cons_succ]
  refine takeH (i := 18) 96 (v := .bool false) rfl (by kernel_rfl) (by kernel_rfl) (by kernel_rfl) rfl (fun _ _ _ h => h) (.inl ⟨by rfl, fun _ _ => by go_simp⟩) hS ?_
  simp only [Act.put, List.setIfInBounds_toArray, List.set_cons_zero, List.set_cons_succ]
  refine takeH (i := 19) 97 (v := .nilIface) rfl (by kernel_rfl) (by kernel_rfl) (by kernel_rfl) rfl (fun _ _ _ h => h) (.inl ⟨by rfl, fun _ _ => by go_simp⟩) hS ?_
  simp only [Act.put, List.setIfInBounds_toArray, List.set_cons_zero, List.set_cons_succ]
  refine oneH (i := 20) (oi := ⟨some 98, _, _, _, _, _⟩) rfl (by kernel_rfl) (fun K hK => ?_)
  rw [if_pos (by rfl)]
  go_simp
  refine (Num_nil _).mono ?_
  rintro e wn ⟨rfl, rfl⟩
  refine hK.out _ _ hS ?_
  clear hK K
  refine takeH (i := 21) 99 (v := .bool false) rfl (by kernel_rfl) (by kernel_rfl) (by kernel_rfl) rfl (fun _ _ _ h => h) (.inl ⟨by rfl, fun _ _ => by go_simp⟩) hS ?_
  simp only [Act.put, List.setIfInBounds_toArray, List.set_cons_zero, List.set_cons_succ]
  refine takeH (i := 22) 100 (v := .bool false) rfl (by kernel_rfl) (by kernel_rfl) (by kernel_rfl) rfl (fun _ _ _ h => h) (.inl ⟨by rfl, fun _ _ => by go_simp⟩) hS ?_
  simp only [Act.put, List.setIfInBounds_toArray, List.set_cons_zero, List.set_cons_succ]
  refine takeH (i := 23) 101 (v := .bool false) rfl (by kernel_rfl) (by kernel_rfl) (by kernel_rfl) rfl (fun _ _ _ h => h) (.inl ⟨by rfl, fun _ _ => by go_simp⟩) hS ?_
  simp only [Act.put, List.setIfInBounds_toArray, List.set_cons_zero, List.set_cons_succ]
  refine takeH (i := 24) 102 (v := sbV z) rfl (by kernel_rfl) (by kernel_rfl) (by kernel_rfl) rfl (fun _ _ _ h => h) (yieldsIf_sb Tryd.sbProg (by rfl) _ rfl c rfl z HZO.out (fun _ h => h.got.at_)) hS ?_
  simp only [Act.put, List.setIfInBounds_toArray, List.set_cons_zero, List.set_cons_succ]
  refine takeH (i := 26) 104 (v := sbV z) rfl (by kernel_rfl) (by kernel_rfl) (by kernel_rfl) rfl (fun _ _ _ h => h) (yieldsIf_sb Tryd.sbRef (by rfl) _ rfl (b + 1) rfl z HZO.out (fun _ h => h.snd.at_)) hS ?_
  simp only [Act.put, List.setIfInBounds_toArray, List.set_cons_zero, List.set_cons_succ]
  refine oneH (i := 25) (oi := ⟨some 103, _, _, _, _, _⟩) rfl (by kernel_rfl) (fun K hK => ?_)
  rw [if_pos (by rfl)]
  go_simp
  refine (Plain_any z HZO.out _).mono ?_
  rintro e wn ⟨rfl, hb⟩
  have hS2 := hS.carry hb
  clear hb hS
  refine hK.out _ _ hS2 ?_
  clear hK K
  have hS := hS2
  clear hS2
  refine takeH (i := 27) 105 (v := .bool false) rfl (by kernel_rfl) (by kernel_rfl) (by kernel_rfl) rfl (fun _ _ _ h => h) (.inl ⟨by rfl, fun _ _ => by go_simp⟩) hS ?_
  simp only [Act.put, List.setIfInBounds_toArray, List.set_cons_zero, List.set_cons_succ]
  refine takeH (i := 28) 106 (v := .bool false) rfl (by kernel_rfl) (by kernel_rfl) (by kernel_rfl) rfl (fun _ _ _ h => h) (.inl ⟨by rfl, fun _ _ => by go_simp⟩) hS ?_
  simp only [Act.put, List.setIfInBounds_toArray, List.set_cons_zero, List.set_cons_succ]
  refine wpAnyH_done (by kernel_rfl) ?_ _
  have HS16 := Lib.hid hS
  clear hS
  go_upto_region 16 with (fail)
  refine wp_region_held (S := GrS w b c d x z z) (by kernel_rfl) ?_
  change wpAnyH _ _ _ _ _ _ _ _ wn.drew
  obtain ⟨wb, HWA⟩ : ∃ wb, Hid (wb = wn.drew) := ⟨_, Lib.hid rfl⟩
  rw [← HWA.out]
  have hS : GrS w b c d x z z wb := by rw [HWA.out]; exact HS16.out.drew
  clear HWA HS16
  have hby0 : ((by_ : Int) == 0) = true := by rw [HBY.out]; rfl
  refine takeH (i := 0) 107 (v := .int .u8 (by_ : Int)) rfl (by kernel_rfl) (by kernel_rfl) (by kernel_rfl) rfl (fun _ _ _ h => h) (.inl ⟨by rfl, fun _ _ => by go_simp⟩) hS ?_
  simp only [Act.put, List.setIfInBounds_toArray, List.set_cons_zero, List.set_cons_succ]
  refine takeH (i := 1) 108 (v := .bool true) rfl (by kernel_rfl) (by kernel_rfl) (by kernel_rfl) rfl (fun _ _ _ h => h) (.inl ⟨by rfl, fun _ _ => by go_simp⟩) hS ?_
  simp only [Act.put, List.setIfInBounds_toArray, List.set_cons_zero, List.set_cons_succ]
  refine takeH (i := 2) 109 (v := .bool true) rfl (by kernel_rfl) (by kernel_rfl) (by kernel_rfl) rfl (fun _ _ _ h => h) (.inl ⟨by rfl, fun _ _ => by go_simp⟩) hS ?_
  simp only [Act.put, List.setIfInBounds_toArray, List.set_cons_zero, List.set_cons_succ]
  refine takeH (i := 3) 110 (v := sbV z) rfl (by kernel_rfl) (by kernel_rfl) (by kernel_rfl) rfl (fun _ _ _ h => h) (yieldsIf_sb Tryd.sbProg (by rfl) _ rfl d rfl z HZO.out (fun _ h => h.two.at_)) hS ?_
  simp only [Act.put, List.setIfInBounds_toArray, List.set_cons_zero, List.set_cons_succ]
  refine takeH (i := 5) 112 (v := sbV z) rfl (by kernel_rfl) (by kernel_rfl) (by kernel_rfl) rfl (fun _ _ _ h => h) (yieldsIf_sb Tryd.sbRef (by rfl) _ rfl (b + 1) rfl z HZO.out (fun _ h => h.snd.at_)) hS ?_
  simp only [Act.put, List.setIfInBounds_toArray, List.set_cons_zero, List.set_cons_succ]
  refine oneH (i := 4) (oi := ⟨some 111, _, _, _, _, _⟩) rfl (by kernel_rfl) (fun K hK => ?_)
  rw [if_pos (by rfl)]
  go_simp
  refine (Plain_any z HZO.out _).mono ?_
  rintro e wn ⟨rfl, hb⟩
  have hS2 := hS.carry hb
  clear hb hS
  refine hK.out _ _ hS2 ?_
  clear hK K
  have hS := hS2
  clear hS2
  refine takeH (i := 6) 113 (v := .bool true) rfl (by kernel_rfl) (by kernel_rfl) (by kernel_rfl) rfl (fun _ _ _ h => h) (.inl ⟨by rfl, fun _ _ => by go_simp⟩) hS ?_
  simp only [Act.put, List.setIfInBounds_toArray, List.set_cons_zero, List.set_cons_succ]
  refine takeH (i := 7) 114 (v := .bool true) rfl (by kernel_rfl) (by kernel_rfl) (by kernel_rfl) rfl (fun _ _ _ h => h) (.inl ⟨by rfl, fun _ _ => by go_simp⟩) hS ?_
  simp only [Act.put, List.setIfInBounds_toArray, List.set_cons_zero, List.set_cons_succ]
  refine takeH (i := 8) 115 (v := .bool true) rfl (by kernel_rfl) (by kernel_rfl) (by kernel_rfl) rfl (fun _ _ _ h => h) (.inl ⟨by rfl, fun _ _ => by go_simp⟩) hS ?_
  simp only [Act.put, List.setIfInBounds_toArray, List.set_cons_zero, List.set_cons_succ]
  refine takeH (i := 9) 116 (v := undef) rfl (by kernel_rfl) (by kernel_rfl) (by kernel_rfl) rfl (fun _ _ _ h => h) (.inr ⟨by rfl, rfl⟩) hS ?_
  simp only [Act.put, List.setIfInBounds_toArray, List.set_cons_zero, List.set_cons_succ]
  refine takeH (i := 10) 117 (v := undef) rfl (by kernel_rfl) (by kernel_rfl) (by kernel_rfl) rfl (fun _ _ _ h => h) (.inr ⟨by rfl, rfl⟩) hS ?_
  simp only [Act.put, List.setIfInBounds_toArray, List.set_cons_zero, List.set_cons_succ]
  refine takeH (i := 11) 118 (v := undef) rfl (by kernel_rfl) (by kernel_rfl) (by kernel_rfl) rfl (fun _ _ _ h => h) (.inr ⟨by rfl, rfl⟩) hS ?_
  simp only [Act.put, List.setIfInBounds_toArray, List.set_cons_zero, List.set_cons_succ]
  refine takeH (i := 12) 119 (v := undef) rfl (by kernel_rfl) (by kernel_rfl) (by kernel_rfl) rfl (fun _ _ _ h => h) (.inr ⟨by rfl, rfl⟩) hS ?_
  simp only [Act.put, List.setIfInBounds_toArray, List.set_cons_zero, List.set_cons_succ]
  refine takeH (i := 13) 120 (v := undef) rfl (by kernel_rfl) (by kernel_rfl) (by kernel_rfl) rfl (fun _ _ _ h => h) (.inr ⟨by rfl, rfl⟩) hS ?_
  simp only [Act.put, List.setIfInBounds_toArray, List.set_cons_zero, List.set_cons_succ]
  refine takeH (i := 14) 121 (v := undef) rfl (by kernel_rfl) (by kernel_rfl) (by kernel_rfl) rfl (fun _ _ _ h => h) (.inr ⟨by rfl, rfl⟩) hS ?_
  simp only [Act.put, List.setIfInBounds_toArray, List.set_cons_zero, List.set_cons_succ]
  refine takeH (i := 15) 122 (v := undef) rfl (by kernel_rfl) (by kernel_rfl) (by kernel_rfl) rfl (fun _ _ _ h => h) (.inr ⟨by rfl, rfl⟩) hS ?_
  simp only [Act.put, List.setIfInBounds_toArray, List.set_cons_zero, List.set_cons_succ]
  refine takeH (i := 16) 123 (v := undef) rfl (by kernel_rfl) (by kernel_rfl) (by kernel_rfl) rfl (fun _ _ _ h => h) (.inr ⟨by rfl, rfl⟩) hS ?_
  simp only [Act.put, List.setIfInBounds_toArray, List.set_cons_zero, List.set_cons_succ]
  refine takeH (i := 17) 124 (v := .bool true) rfl (by kernel_rfl) (by kernel_rfl) (by kernel_rfl) rfl (fun _ _ _ h => h) (.inl ⟨by rfl, fun _ _ => by go_simp⟩) hS ?_
  simp only [Act.put, List.setIfInBounds_toArray, List.set_cons_zero, List.set_cons_succ]
  refine takeH (i := 18) 8 (v := .bool true) rfl (by kernel_rfl) (by kernel_rfl) (by kernel_rfl) rfl (fun _ _ _ h => h) (.inl ⟨by rfl, fun _ _ => by go_simp⟩) hS ?_
  simp only [Act.put, List.setIfInBounds_toArray, List.set_cons_zero, List.set_cons_succ]
  refine wpAnyH_done (by kernel_rfl) ?_ _
  go_wp2_with fail
  go_ret
  exact ⟨rfl, hS.below⟩
set_option maxRecDepth 100000 in
set_option maxHeartbeats 4000000 in
theorem greater_spoilt (x y : Sb) (at_ by_ : Nat) (hx : x.Ok) (hy : y.Ok) (hr : rightB x = true) (hr2 : rightB (nextSb x y) = true) (_ha : at_ < 256) (_hy1 : by_ < 256) (hby : by_ ≠ 0) (w : World) (hg : Laid2 w) :
    Calls Tryd.prog 6 #[sbV x, sbV y, .int .u8 at_, .int .u8 by_] w fun e w' => e = .returned (.bool true) ∧ Below w.heap.size w w' := by
  have hz := Tryd.sbProg.zero
  have hz2 := Tryd.zeroPage
  obtain ⟨yb, HYB⟩ : ∃ yb : UInt8, Hid (yb.toNat = by_) := ⟨UInt8.ofNat by_, Lib.hid (by rw [UInt8.toNat_ofNat']; omega)⟩
  have HX := Lib.hid hx
  have HZO : Hid (nextSb x y).Ok := Lib.hid (nextSb_ok hy)
  obtain ⟨z, HZ⟩ : ∃ z, Hid (z = nextSb x y) := ⟨_, Lib.hid rfl⟩
  rw [← HZ.out] at HZO
  have HGN : Hid (z.gen = x.gen + 1) := Lib.hid (by rw [HZ.out]; exact nextSb_gen hr2 hx)
  rw [← HZ.out] at hr2
  have HRX := Lib.hid hr
  have HRZ := Lib.hid hr2
  have HBY := Lib.hid hby
  obtain ⟨pz, HPZ⟩ : ∃ pz, Hid (pz = sbP z) := ⟨_, Lib.hid rfl⟩
  obtain ⟨px, HPX⟩ : ∃ px, Hid (px = sbP x) := ⟨_, Lib.hid rfl⟩
  have HPZL : Hid (pz.length = 128) := Lib.hid (by rw [HPZ.out]; exact sbP_length HZO.out)
  have HPXL : Hid (px.length = 128) := Lib.hid (by rw [HPX.out]; exact sbP_length HX.out)
  have HOZ : Hid (sbOf pz = some z) := Lib.hid (by rw [HPZ.out]; exact sbOf_sbP HZO.out HRZ.out)
  have HOX : Hid (sbOf px = some x) := Lib.hid (by rw [HPX.out]; exact sbOf_sbP HX.out HRX.out)
  obtain ⟨i, HI⟩ : ∃ i, Hid (i = z.gen % 2) := ⟨_, Lib.hid rfl⟩
  have HI2 : Hid (i < 2) := Lib.hid (by rw [HI.out]; exact Nat.mod_lt _ (by decide))
  obtain ⟨j, HJ⟩ : ∃ j, Hid (j = at_ % 128) := ⟨_, Lib.hid rfl⟩
  have HJL : Hid (j < 128) := Lib.hid (by rw [HJ.out]; omega)
  have hjp : j < pz.length := by rw [HPZL.out]; exact HJL.out
  obtain ⟨v, HV⟩ : ∃ v : UInt8, Hid (pz[j] = v) := ⟨_, Lib.hid rfl⟩
  obtain ⟨qz, HQZ⟩ : ∃ qz, Hid (qz = pz.set j (v ^^^ yb)) := ⟨_, Lib.hid rfl⟩
  have HQZL : Hid (qz.length = 128) := Lib.hid (by rw [HQZ.out, List.length_set]; exact HPZL.out)
  have HB1 : Hid (best (sbOf (if i = 0 then pz else px)) (sbOf (if i = 1 then pz else px)) = some z) := Lib.hid (best_two HOZ.out HOX.out (by rw [HGN.out]; omega) i HI2.out)
  have HB2T : Hid (best (sbOf (if i = 0 then qz else px)) (sbOf (if i = 1 then qz else px)) = some x) := Lib.hid (by
    refine best_spoilt ?_ HOX.out i HI2.out
    have hsp : sbOf ((sbP z).set j (v ^^^ yb)) = none := sbOf_turn HZO.out (by rw [← HPZ.out]; exact hjp) (by
      have e : (sbP z)[j]'(by rw [← HPZ.out]; exact hjp) = v := by rw [← HV.out]; congr 1; exact HPZ.out.symm
      rw [e]
      intro h
      have h2 := congrArg (fun u => v ^^^ u) h
      simp only [← UInt8.xor_assoc, UInt8.xor_self, UInt8.zero_xor] at h2
      apply hby
      rw [← HYB.out, ← h2]
      rfl)
    rw [HQZ.out, HPZ.out]
    exact hsp)
  clear hr2 hby
  obtain ⟨b, HB⟩ : ∃ b, Hid (b = w.heap.size) := ⟨_, Lib.hid rfl⟩
  obtain ⟨w1, HW⟩ : ∃ w1, Hid (w1 = (w.alloc (.cells (sbArr x) 25)).alloc (.cells (sbArr y) 25)) := ⟨_, Lib.hid rfl⟩
  have HS : Hid (TwoSt w w1 b x y) := Lib.hid (by rw [HW.out, HB.out]; exact TwoSt.new _ _ _ _)
  have HGK : Hid (∀ w', Below w.heap.size w w' → Laid2 w') := Lib.hid fun w' h => hg.carry h
  clear hg hx hy hr
  go_enter Tryd.func6, Tryd.ntmps6
  go_upto_region 1 with (fail)
  rw [← HW.out, ← HB.out]
  clear HW
  go_wp2_with fail
  refine (awake_any _ (HGK.out _ HS.out.below)).mono ?_
  rintro e w2 ⟨rfl, hb⟩
  have HS2 := Lib.hid (HS.out.carry hb)
  clear hb HS
  obtain ⟨g, HG⟩ : ∃ g, Hid (g = x.gen) := ⟨_, Lib.hid rfl⟩
  obtain ⟨n, HN⟩ : ∃ n, Hid (n = z.gen) := ⟨_, Lib.hid rfl⟩
  have c1 := HS2.out.fst.gen
  have c2 := HS2.out.snd.gen
  have f2 := HS2.out.snd.free 0
  rw [← HG.out] at c1
  go_upto_region 4 with (fail)
  rw [show ((g : Int) + 1) % 4294967296 = (n : Int) by rw [HN.out, HZ.out, HG.out]; show _ = (((x.gen + 1) % 4294967296 : Nat) : Int); omega]
  obtain ⟨w3, HW⟩ : ∃ w3, Hid (w3 = w2.setCell ⟨b + 1, 0, none⟩ (.int .u32 (n : Int))) := ⟨_, Lib.hid rfl⟩
  have HS3 : Hid (TwoSt w w3 b x z) := Lib.hid (by
    have := HS2.out.next (by rw [HB.out]; exact Nat.le_refl _) n
    rw [← HW.out] at this
    rw [show z = ⟨n, y.root, y.used⟩ by rw [HN.out, HZ.out]; rfl]
    exact this)
  rw [← HW.out]
  clear HW c1 c2 f2 HS2
  go_wp2_with (with_reducible refine stop_at (o := ⟨some 25, _, _, _, _, _⟩) ?_)
  refine wpList_load_sb Tryd.sbRef (by rfl) _ rfl b rfl x HX.out HS3.out.fst.at_ ?_
  go_wp2_with fail
  refine (RefRight_any x HX.out _).mono ?_
  rintro e w4 ⟨rfl, hb⟩
  have HS4 := Lib.hid (HS3.out.carry hb)
  clear hb HS3
  rw [HRX.out]
  go_wp2_with (with_reducible refine stop_at (o := ⟨some 29, _, _, _, _, _⟩) ?_)
  refine wpList_load_sb Tryd.sbRef (by rfl) _ rfl (b + 1) rfl z HZO.out HS4.out.snd.at_ ?_
  go_wp2_with fail
  refine (RefRight_any z HZO.out _).mono ?_
  rw [HRZ.out]
  rintro e w5 ⟨rfl, hb⟩
  have HS5 := Lib.hid (HS4.out.carry hb)
  clear hb HS4
  go_wp2_with fail
  obtain ⟨M, HM⟩ : ∃ M, Hid (M = w5.heap.size) := ⟨_, Lib.hid rfl⟩
  refine (New_yes 3 (by decide) (by decide) w5).mono ?_
  rintro e w6 ⟨D, rfl, hd, hb⟩
  have HS6 := Lib.hid (HS5.out.carry hb)
  rw [← HM.out] at hd
  have HD6 := Lib.hid hd
  have HM6 : Hid (M ≤ w6.heap.size) := Lib.hid (by rw [HM.out]; exact hb.size)
  have HNM : Hid (w.heap.size ≤ M) := Lib.hid (by rw [HM.out]; exact HS5.out.below.size)
  have HBM : Hid (b + 1 < M) := Lib.hid (by rw [HM.out]; exact HS5.out.snd.lt)
  -- the disk's calls leave all that was there ahead of it
  have HSM : Hid (∀ w', Kept (· < M) w6 w' → TwoSt w w' b x z) := Lib.hid fun w' hk => by
    have h1 : Below M w6 w' := hk.below fun k hk => hk
    have hl1 : b < M := by rw [HM.out]; exact HS5.out.fst.lt
    have hl2 : b + 1 < M := by rw [HM.out]; exact HS5.out.snd.lt
    exact ⟨HS6.out.fst.below h1 hl1, HS6.out.snd.below h1 hl2, HS6.out.below.trans (h1.mono HNM.out)⟩
  have HT6 : Hid (There (· < M) w6) := Lib.hid fun k hk => Nat.lt_of_lt_of_le hk HM6.out
  clear hd hb HS5
  go_wp2_with (with_reducible refine stop_at (o := ⟨some 38, _, _, _, _, _⟩) ?_)
  refine wpList_load_sb Tryd.sbRef (by rfl) _ rfl b rfl x HX.out HS6.out.fst.at_ ?_
  go_wp2_with fail
  refine (Of_any x HX.out _).mono ?_
  rintro e w7 ⟨rfl, hb⟩
  have HK7 : Hid (Kept (· < M) w6 w7) := Lib.hid (Kept.of_below hb HT6.out)
  have HS7 := Lib.hid (HSM.out _ HK7.out)
  have HD7 := Lib.hid (HD6.out.carry hb)
  have HT7 : Hid (There (· < M) w7) := Lib.hid fun k hk => Nat.lt_of_lt_of_le (HT6.out k hk) hb.size
  clear hb HS6 HD6
  go_wp2_with fail
  refine (Switch_yes HD7.out HT7.out rfl (by decide) x HX.out HRX.out fun w' hk => (HGK.out _ (HSM.out _ (HK7.out.trans hk)).below).crc).mono ?_
  rintro e w8 ⟨rfl, hd, hk⟩
  have HK8 : Hid (Kept (· < M) w6 w8) := Lib.hid (HK7.out.trans hk)
  have HS8 := Lib.hid (HSM.out _ HK8.out)
  have HD8 := Lib.hid hd
  have HT8 : Hid (There (· < M) w8) := Lib.hid fun k hh => Nat.lt_of_lt_of_le (HT7.out k hh) hk.size
  clear hd hk HS7 HD7 HT7 HK7
  go_wp2_with (with_reducible refine stop_at (o := ⟨some 42, _, _, _, _, _⟩) ?_)
  refine wpList_load_sb Tryd.sbRef (by rfl) _ rfl (b + 1) rfl z HZO.out HS8.out.snd.at_ ?_
  go_wp2_with fail
  refine (Of_any z HZO.out _).mono ?_
  rintro e w9 ⟨rfl, hb⟩
  have HK9 : Hid (Kept (· < M) w6 w9) := Lib.hid (HK8.out.trans (Kept.of_below hb HT8.out))
  have HD9 := Lib.hid (HD8.out.carry hb)
  have HT9 : Hid (There (· < M) w9) := Lib.hid fun k hk => Nat.lt_of_lt_of_le (HT8.out k hk) hb.size
  clear hb HS8 HD8 HT8 HK8
  go_wp2_with fail
  refine (Switch_yes HD9.out HT9.out rfl (by decide) z HZO.out HRZ.out fun w' hk => (HGK.out _ (HSM.out _ (HK9.out.trans hk)).below).crc).mono ?_
  rintro e wL ⟨rfl, hd, hk⟩
  have HSL := Lib.hid (HSM.out _ (HK9.out.trans hk))
  have HML : Hid (M ≤ wL.heap.size) := Lib.hid (by have := (HK9.out.trans hk).size; have := HM6.out; omega)
  have hseen : ∀ k, k < 2 → pgAt (swDk (swDk (Dk.new 3) x) z).seen k = pgB (if i = k then pz else px) := fun k hk => by
    rw [two_seen (Dk.Ok.new 3) HX.out HGN.out HI.out hk, HPZ.out, HPX.out]
  have HOKD : Hid ((swDk (swDk (Dk.new 3) x) z).Ok 3) := Lib.hid hd.ok
  obtain ⟨dk, HDK⟩ : ∃ dk, Hid (dk = swDk (swDk (Dk.new 3) x) z) := ⟨_, Lib.hid rfl⟩
  rw [← HDK.out] at hd hseen HOKD
  have HDL := Lib.hid hd
  have HSEEN := Lib.hid hseen
  have HDN : Hid (dk.down = false) := Lib.hid (by rw [HDK.out]; rfl)
  have HSOFT : Hid (dk.soft.length = 0) := Lib.hid (by rw [HDK.out]; rfl)
  obtain ⟨L, HL⟩ : ∃ L, Hid (L = wL.heap.size) := ⟨_, Lib.hid rfl⟩
  clear hd hk hseen HDK HD9 HT9 HK9 HSM HT6
  have HI0 : Hid (pgAt dk.seen 0 = pgB (if i = 0 then pz else px)) := Lib.hid (HSEEN.out 0 (by decide))
  have HI1 : Hid (pgAt dk.seen 1 = pgB (if i = 1 then pz else px)) := Lib.hid (HSEEN.out 1 (by decide))
  have len2 : ∀ (k : Nat) (p q : List UInt8), p.length = 128 → q.length = 128 → (if i = k then p else q).length = 128 := fun k p q h1 h2 => by split <;> assumption
  have HLEN := Lib.hid len2
  clear len2
  go_wp2_with fail
  refine (Best_yes HDL.out HDN.out (by decide) _ _ (HLEN.out 0 pz px HPZL.out HPXL.out) (HLEN.out 1 pz px HPZL.out HPXL.out) HI0.out HI1.out (HGK.out _ HSL.out.below).crc).mono ?_
  rintro e wA ⟨v1, rfl, he, hb⟩
  rw [HB1.out] at he ⊢
  obtain rfl := he.zero
  rw [show (some z).getD Sb.zero = z from rfl]
  have HSA := Lib.hid (HSL.out.carry hb)
  have HBA : Hid (Below L wL wA) := Lib.hid (by rw [HL.out]; exact hb)
  clear he hb HI0 HI1
  go_wp2_with (with_reducible refine stop_at (o := ⟨none, _, _, _, _, _⟩) ?_)
  refine wpList_store_last rfl _ _ _ rfl (sbArr Sb.zero) (sbArr z) _ rfl rfl rfl (by rw [sbArr_size HZO.out]; exact Tryd.sbProg.size) (by rw [sbArr_size HZO.out, sbArr_size Sb.Ok.zero]) (sbArr_all _) ?_
  obtain ⟨c, HC⟩ : ∃ c, Hid (c = wA.heap.size) := ⟨_, Lib.hid rfl⟩
  obtain ⟨wB, HW⟩ : ∃ wB, Hid (wB = wA.alloc (.cells (sbArr z) 33)) := ⟨_, Lib.hid rfl⟩
  rw [← HW.out, ← HC.out]
  have hbB : Below wA.heap.size wA wB := by rw [HW.out]; exact (Below.refl _ _).alloc (Nat.le_refl _) _
  have HSB := Lib.hid (HSA.out.carry hbB)
  have HBB : Hid (Below L wL wB) := Lib.hid (by rw [HL.out] at HBA ⊢; exact HBA.out.trans (hbB.mono HBA.out.size))
  have HOC : Hid (BOwn wB c z) := Lib.hid (by rw [HW.out, HC.out]; exact BOwn.new _)
  have HLC : Hid (L ≤ c) := Lib.hid (by rw [HL.out, HC.out]; have := HBA.out.size; exact this)
  clear hbB HW HSA HBA
  have c1 := HSB.out.snd.gen
  rw [← HN.out] at c1
  have HDB := Lib.hid (HDL.out.carry (by rw [← HL.out]; exact HBB.out))
  have HNI : Hid ((n : Int) % 2 = (i : Int)) := Lib.hid (by have := HI.out; have := HN.out; omega)
  have hrd := Read_any HDB.out (i : Int)
  rw [show codeZ dk.down 3 (i : Int) = 0 by rw [HDN.out]; exact codeZ_in (by have := HI2.out; omega), if_pos rfl, Int.toNat_natCast, HSEEN.out i HI2.out, if_pos rfl] at hrd
  have HRD := Lib.hid hrd
  clear hrd
  go_wp2_with fail
  rw [HNI.out]
  refine HRD.out.mono ?_
  rintro e wC ⟨v2, rfl, he, hb⟩
  obtain rfl := he.zero
  have HSC := Lib.hid (HSB.out.carry hb)
  have HBC : Hid (Below L wL wC) := Lib.hid (HBB.out.trans (hb.mono (by rw [HL.out]; exact HBB.out.size)))
  have HOC2 := Lib.hid (HOC.out.below hb HOC.out.lt)
  clear he hb HRD HDB HSB HBB HOC c1
  go_wp2_with (with_reducible refine stop_at (o := ⟨none, _, _, _, _, _⟩) ?_)
  refine wpList_store_last rfl _ _ _ rfl (pgArr zeroPg) (pgArr (pgB pz)) _ rfl rfl rfl (by rw [pgArr_size, pgB_length, HPZL.out]; exact Tryd.pageSize) (by rw [pgArr_size, pgArr_size, pgB_length, HPZL.out]; rfl) (pgArr_all _) ?_
  obtain ⟨p, HP⟩ : ∃ p, Hid (p = wC.heap.size) := ⟨_, Lib.hid rfl⟩
  obtain ⟨wD, HW⟩ : ∃ wD, Hid (wD = wC.alloc (.cells (pgArr (pgB pz)) 55)) := ⟨_, Lib.hid rfl⟩
  rw [← HW.out, ← HP.out]
  have hbD : Below wC.heap.size wC wD := by rw [HW.out]; exact (Below.refl _ _).alloc (Nat.le_refl _) _
  have HSD := Lib.hid (HSC.out.carry hbD)
  have HBD : Hid (Below L wL wD) := Lib.hid (HBC.out.trans (hbD.mono (by rw [HL.out]; exact HBC.out.size)))
  have HOD := Lib.hid (HOC2.out.below hbD HOC2.out.lt)
  have HOP : Hid (Own wD p pz) := Lib.hid (by rw [HW.out, HP.out]; exact Own.new _)
  have HLP : Hid (L ≤ p) := Lib.hid (by rw [HL.out, HP.out]; exact HBC.out.size)
  have HPNE : Hid (b ≠ p ∧ b + 1 ≠ p ∧ c ≠ p) := Lib.hid (by
    have h1 := HSC.out.fst.lt
    have h2 := HSC.out.snd.lt
    have h3 := HOC2.out.lt
    rw [← HP.out] at h1 h2 h3
    omega)
  have HWP : Hid (w.heap.size ≤ p) := Lib.hid (by rw [HP.out]; exact HSC.out.below.size)
  clear hbD HW HSC HBC HOC2
  have c3 : wD.cell? ⟨p, j, none⟩ = some (.int .u8 (v.toNat : Int)) := by
    have := HOP.out.at_ j (.int .u8 (v.toNat : Int)) (by rw [← HV.out]; simp [pgCells, pgB, hjp])
    rwa [Nat.zero_add] at this
  have c4 : wD.frozen? ⟨p, j, none⟩ = false := HOP.out.free j
  have hij : at_ % 128 = j := HJ.out.symm
  go_upto_region 12 with (fail)
  obtain ⟨wE, HW⟩ : ∃ wE, Hid (wE = wD.setCell ⟨p, j, none⟩ (.int .u8 (bits .xor .u8 (v.toNat : Int) (by_ : Int)))) := ⟨_, Lib.hid rfl⟩
  rw [← HW.out]
  have HPE : Hid (Own wE p qz) := Lib.hid (by
    rw [HW.out, ← HYB.out, xor_u8, HQZ.out]
    exact ⟨range_put HOP.out.at_ hjp _, fun i => by rw [World.frozen?_setCell]; exact HOP.out.free i⟩)
  have HBE : Hid (Below L wL wE) := Lib.hid (by rw [HW.out]; exact HBD.out.setCell HLP.out _)
  have HSE : Hid (TwoSt w wE b x z) := Lib.hid (by rw [HW.out]; exact ⟨HSD.out.fst.offCell HPNE.out.1 _ _, HSD.out.snd.offCell HPNE.out.2.1 _ _, HSD.out.below.setCell HWP.out _⟩)
  have HOE : Hid (BOwn wE c z) := Lib.hid (by rw [HW.out]; exact HOD.out.offCell HPNE.out.2.2 _ _)
  clear HW c3 c4 hij HOP HBD HSD HOD
  obtain ⟨R, HR⟩ : ∃ R, Hid (R = wE.heap.size) := ⟨_, Lib.hid rfl⟩
  obtain ⟨K, HK⟩ : ∃ K : Nat → Prop, Hid (K = fun k => k < M ∨ (L ≤ k ∧ k < R)) := ⟨_, Lib.hid rfl⟩
  have HKM : Hid (∀ k, k < M → K k) := Lib.hid fun k hk => by rw [HK.out]; exact .inl hk
  have HKL : Hid (∀ k, L ≤ k → k < wE.heap.size → K k) := Lib.hid fun k h1 h2 => by rw [HK.out]; exact .inr ⟨h1, by rw [HR.out]; exact h2⟩
  have HDE : Hid (DiskAt K wE D 3 dk) := Lib.hid (HDL.out.more (by rw [← HL.out]; exact HBE.out) fun k hk => by
    rw [HK.out] at hk
    rcases hk with hk | hk
    · exact .inl hk
    · exact .inr (by rw [← HL.out]; exact hk.1))
  have HTE : Hid (There K wE) := Lib.hid fun k hk => by
    rw [HK.out] at hk
    rw [← HR.out]
    rcases hk with hk | hk
    · have h1 := HBE.out.size; have h2 := HML.out; rw [← HR.out] at h1; omega
    · exact hk.2
  have HBK : Hid (∀ w', Kept K wE w' → Below w.heap.size w w') := Lib.hid fun w' hk => HSE.out.below.trans ((hk.less HKM.out).below fun k hh => Nat.lt_of_lt_of_le hh HNM.out)
  clear HDL HBE
  have c5 := HSE.out.snd.gen
  rw [← HN.out] at c5
  go_wp2_with (with_reducible refine stop_at (o := ⟨some 71, _, _, _, _, _⟩) ?_)
  refine wpList_load_page rfl _ _ rfl p 0 rfl (pgB qz) (by rw [pgB_length]; exact HQZL.out) HPE.out.at_ _ Tryd.underlying55 rfl Tryd.pageSize ?_
  go_wp2_with fail
  rw [HNI.out]
  refine (Write_yes (i := i) (p := pgB qz) HDE.out HTE.out HDN.out (by have := HI2.out; omega) (by rw [pgB_length]; exact HQZL.out) (by rw [HSOFT.out]; decide)).mono ?_
  rintro e wF ⟨rfl, hd, hk⟩
  have HDF := Lib.hid hd
  have HSF := Lib.hid (HSE.out.kept hk (HKM.out b (by have := HBM.out; omega)) (HKM.out (b + 1) HBM.out) (HBK.out _ hk))
  have HOF := Lib.hid (HOE.out.block (hk.block c (HKL.out c HLC.out HOE.out.lt)))
  have hseen : ∀ k, k < 2 → pgAt (dk.write i (pgB qz)).seen k = pgB (if i = k then qz else px) := fun k hk => by
    rw [wr_seen HOKD.out (by have := HI2.out; omega)]
    by_cases h : i = k
    · rw [if_pos h, if_pos h]
    · rw [if_neg h, HSEEN.out k hk, if_neg h, if_neg h]
  have HI0 : Hid (pgAt (dk.write i (pgB qz)).seen 0 = pgB (if i = 0 then qz else px)) := Lib.hid (hseen 0 (by decide))
  have HI1 : Hid (pgAt (dk.write i (pgB qz)).seen 1 = pgB (if i = 1 then qz else px)) := Lib.hid (hseen 1 (by decide))
  clear hd hk hseen c5 HDE HSE HOE HTE HBK HPE
  go_wp2_with fail
  refine (Best_yes HDF.out HDN.out (by decide) _ _ (HLEN.out 0 qz px HQZL.out HPXL.out) (HLEN.out 1 qz px HQZL.out HPXL.out) HI0.out HI1.out (HGK.out _ HSF.out.below).crc).mono ?_
  rintro e wG ⟨v3, rfl, he, hb⟩
  rw [HB2T.out] at he ⊢
  obtain rfl := he.zero
  rw [show (some x).getD Sb.zero = x from rfl]
  have HSG := Lib.hid (HSF.out.carry hb)
  have HOG := Lib.hid (HOF.out.below hb HOF.out.lt)
  clear he hb HI0 HI1 HSF HOF HDF
  go_wp2_with (with_reducible refine stop_at (o := ⟨none, _, _, _, _, _⟩) ?_)
  refine wpList_store_last rfl _ _ _ rfl (sbArr Sb.zero) (sbArr x) _ rfl rfl rfl (by rw [sbArr_size HX.out]; exact Tryd.sbProg.size) (by rw [sbArr_size HX.out, sbArr_size Sb.Ok.zero]) (sbArr_all _) ?_
  obtain ⟨d, HD⟩ : ∃ d, Hid (d = wG.heap.size) := ⟨_, Lib.hid rfl⟩
  obtain ⟨wH, HW⟩ : ∃ wH, Hid (wH = wG.alloc (.cells (sbArr x) 33)) := ⟨_, Lib.hid rfl⟩
  rw [← HW.out, ← HD.out]
  have hbH : Below wG.heap.size wG wH := by rw [HW.out]; exact (Below.refl _ _).alloc (Nat.le_refl _) _
  have HST : Hid (GrS w b c d x z x wH) := Lib.hid ⟨HSG.out.fst.below hbH HSG.out.fst.lt, HSG.out.snd.below hbH HSG.out.snd.lt, HOG.out.below hbH HOG.out.lt, by rw [HW.out, HD.out]; exact BOwn.new _, HSG.out.below.trans (hbH.mono HSG.out.below.size)⟩
  clear hbH HW HSG HOG
  have hne := fun w => neq_sb HZO.out HZO.out w
  rw [decide_eq_true rfl, show (!true) = false from rfl] at hne
  have heq := fun w => eql_sb HX.out HX.out w
  rw [decide_eq_true rfl] at heq
  have hgd := guardSb
  go_upto_region 14 with (fail)
  refine wp_region_held (S := GrS w b c d x z x) (by kernel_rfl) ?_
  change wpAnyH _ _ _ _ _ _ _ _ wH.drew
  obtain ⟨wa, HWA⟩ : ∃ wa, Hid (wa = wH.drew) := ⟨_, Lib.hid rfl⟩
  rw [← HWA.out]
  have hS : GrS w b c d x z x wa := by rw [HWA.out]; exact HST.out.drew
  clear HWA HST
  refine takeH (i := 0) 78 (v := .nilIface) rfl (by kernel_rfl) (by kernel_rfl) (by kernel_rfl) rfl (fun _ _ _ h => h) (.inl ⟨by rfl, fun _ _ => by go_simp⟩) hS ?_
  simp only [Act.put, List.setIfInBounds_toArray, List.set_cons_zero, List.set_cons_succ]
  refine oneH (i := 1) (oi := ⟨some 79, _, _, _, _, _⟩) rfl (by kernel_rfl) (fun K hK => ?_)
  go_simp
  refine (Num_nil _).mono ?_
  rintro e wn ⟨rfl, rfl⟩
  refine hK.out _ _ hS ?_
  clear hK K
  refine takeH (i := 2) 80 (v := .bool false) rfl (by kernel_rfl) (by kernel_rfl) (by kernel_rfl) rfl (fun _ _ _ h => h) (.inl ⟨by rfl, fun _ _ => by go_simp⟩) hS ?_
  simp only [Act.put, List.setIfInBounds_toArray, List.set_cons_zero, List.set_cons_succ]
  refine takeH (i := 3) 81 (v := .bool false) rfl (by kernel_rfl) (by kernel_rfl) (by kernel_rfl) rfl (fun _ _ _ h => h) (.inl ⟨by rfl, fun _ _ => by go_simp⟩) hS ?_
  simp only [Act.put, List.setIfInBounds_toArray, List.set_cons_zero, List.set_cons_succ]
  refine takeH (i := 4) 82 (v := .nilIface) rfl (by kernel_rfl) (by kernel_rfl) (by kernel_rfl) rfl (fun _ _ _ h => h) (.inl ⟨by rfl, fun _ _ => by go_simp⟩) hS ?_
  simp only [Act.put, List.setIfInBounds_toArray, List.set_cons_zero, List.set_cons_succ]
  refine oneH (i := 5) (oi := ⟨some 83, _, _, _, _, _⟩) rfl (by kernel_rfl) (fun K hK => ?_)
  rw [if_pos (by rfl)]
  go_simp
  refine (Num_nil _).mono ?_
  rintro e wn ⟨rfl, rfl⟩
  refine hK.out _ _ hS ?_
  clear hK K
  refine takeH (i := 6) 84 (v := .bool false) rfl (by kernel_rfl) (by kernel_rfl) (by kernel_rfl) rfl (fun _ _ _ h => h) (.inl ⟨by rfl, fun _ _ => by go_simp⟩) hS ?_
  simp only [Act.put, List.setIfInBounds_toArray, List.set_cons_zero, List.set_cons_succ]
  refine takeH (i := 7) 85 (v := .bool false) rfl (by kernel_rfl) (by kernel_rfl) (by kernel_rfl) rfl (fun _ _ _ h => h) (.inl ⟨by rfl, fun _ _ => by go_simp⟩) hS ?_
  simp only [Act.put, List.setIfInBounds_toArray, List.set_cons_zero, List.set_cons_succ]
  refine takeH (i := 8) 86 (v := .bool false) rfl (by kernel_rfl) (by kernel_rfl) (by kernel_rfl) rfl (fun _ _ _ h => h) (.inl ⟨by rfl, fun _ _ => by go_simp⟩) hS ?_
  simp only [Act.put, List.setIfInBounds_toArray, List.set_cons_zero, List.set_cons_succ]
  refine takeH (i := 9) 87 (v := .nilIface) rfl (by kernel_rfl) (by kernel_rfl) (by kernel_rfl) rfl (fun _ _ _ h => h) (.inl ⟨by rfl, fun _ _ => by go_simp⟩) hS ?_
  simp only [Act.put, List.setIfInBounds_toArray, List.set_cons_zero, List.set_cons_succ]
  refine oneH (i := 10) (oi := ⟨some 88, _, _, _, _, _⟩) rfl (by kernel_rfl) (fun K hK => ?_)
  rw [if_pos (by rfl)]
  go_simp
  refine (Num_nil _).mono ?_
  rintro e wn ⟨rfl, rfl⟩
  refine hK.out _ _ hS ?_
  clear hK K
  refine takeH (i := 11) 89 (v := .bool false) rfl (by kernel_rfl) (by kernel_rfl) (by kernel_rfl) rfl (fun _ _ _ h => h) (.inl ⟨by rfl, fun _ _ => by go_simp⟩) hS ?_
  simp only [Act.put, List.setIfInBounds_toArray, List.set_cons_zero, List.set_cons_succ]
  refine takeH (i := 12) 90 (v := .bool false) rfl (by kernel_rfl) (by kernel_rfl) (by kernel_rfl) rfl (fun _ _ _ h => h) (.inl ⟨by rfl, fun _ _ => by go_simp⟩) hS ?_
  simp only [Act.put, List.setIfInBounds_toArray, List.set_cons_zero, List.set_cons_succ]
  refine takeH (i := 13) 91 (v := .bool false) rfl (by kernel_rfl) (by kernel_rfl) (by kernel_rfl) rfl (fun _ _ _ h => h) (.inl ⟨by rfl, fun _ _ => by go_simp⟩) hS ?_
  simp only [Act.put, List.setIfInBounds_toArray, List.set_cons_zero, List.set_cons_succ]
  refine takeH (i := 14) 92 (v := .nilIface) rfl (by kernel_rfl) (by kernel_rfl) (by kernel_rfl) rfl (fun _ _ _ h => h) (.inl ⟨by rfl, fun _ _ => by go_simp⟩) hS ?_
  simp only [Act.put, List.setIfInBounds_toArray, List.set_cons_zero, List.set_cons_succ]
  refine oneH (i := 15) (oi := ⟨some 93, _, _, _, _, _⟩) rfl (by kernel_rfl) (fun K hK => ?_)
  rw [if_pos (by rfl)]
  go_simp
  refine (Num_nil _).mono ?_
  rintro e wn ⟨rfl, rfl⟩
  refine hK.out _ _ hS ?_
  clear hK K
  refine takeH (i := 16) 94 (v := .bool false) rfl (by kernel_rfl) (by kernel_rfl) (by kernel_rfl) rfl (fun _ _ _ h => h) (.inl ⟨by rfl, fun _ _ => by go_simp⟩) hS ?_
  simp only [Act.put, List.setIfInBounds_toArray, List.set_cons_zero, List.set_cons_succ]
  refine takeH (i := 17) 95 (v := .bool false) rfl (by kernel_rfl) (by kernel_rfl) (by kernel_rfl) rfl (fun _ _ _ h => h) (.inl ⟨by rfl, fun _ _ => by go_simp⟩) hS ?_
  simp only [Act.put, List.setIfInBounds_toArray, List.set_cons_zero, List.set_cons_succ]
  refine takeH (i := 18) 96 (v := .bool false) rfl (by kernel_rfl) (by kernel_rfl) (by kernel_rfl) rfl (fun _ _ _ h => h) (.inl ⟨by rfl, fun _ _ => by go_simp⟩) hS ?_
  simp only [Act.put, List.setIfInBounds_toArray, List.set_cons_zero, List.set_cons_succ]
  refine takeH (i := 19) 97 (v := .nilIface) rfl (by kernel_rfl) (by kernel_rfl) (by kernel_rfl) rfl (fun _ _ _ h => h) (.inl ⟨by rfl, fun _ _ => by go_simp⟩) hS ?_
  simp only [Act.put, List.setIfInBounds_toArray, List.set_cons_zero, List.set_cons_succ]
  refine oneH (i := 20) (oi := ⟨some 98, _, _, _, _, _⟩) rfl (by kernel_rfl) (fun K hK => ?_)
  rw [if_pos (by rfl)]
  go_simp
  refine (Num_nil _).mono ?_
  rintro e wn ⟨rfl, rfl⟩
  refine hK.out _ _ hS ?_
  clear hK K
  refine takeH (i := 21) 99 (v := .bool false) rfl (by kernel_rfl) (by kernel_rfl) (by kernel_rfl) rfl (fun _ _ _ h => h) (.inl ⟨by rfl, fun _ _ => by go_simp⟩) hS ?_
  simp only [Act.put, List.setIfInBounds_toArray, List.set_cons_zero, List.set_cons_succ]
  refine takeH (i := 22) 100 (v := .bool false) rfl (by kernel_rfl) (by kernel_rfl) (by kernel_rfl) rfl (fun _ _ _ h => h) (.inl ⟨by rfl, fun _ _ => by go_simp⟩) hS ?_
  simp only [Act.put, List.setIfInBounds_toArray, List.set_cons_zero, List.set_cons_succ]
  refine takeH (i := 23) 101 (v := .bool false) rfl (by kernel_rfl) (by kernel_rfl) (by kernel_rfl) rfl (fun _ _ _ h => h) (.inl ⟨by rfl, fun _ _ => by go_simp⟩) hS ?_
  simp only [Act.put, List.setIfInBounds_toArray, List.set_cons_zero, List.set_cons_succ]
  refine takeH (i := 24) 102 (v := sbV z) rfl (by kernel_rfl) (by kernel_rfl) (by kernel_rfl) rfl (fun _ _ _ h => h) (yieldsIf_sb Tryd.sbProg (by rfl) _ rfl c rfl z HZO.out (fun _ h => h.got.at_)) hS ?_
  simp only [Act.put, List.setIfInBounds_toArray, List.set_cons_zero, List.set_cons_succ]
  refine takeH (i := 26) 104 (v := sbV z) rfl (by kernel_rfl) (by kernel_rfl) (by kernel_rfl) rfl (fun _ _ _ h => h) (yieldsIf_sb Tryd.sbRef (by rfl) _ rfl (b + 1) rfl z HZO.out (fun _ h => h.snd.at_)) hS ?_
  simp only [Act.put, List.setIfInBounds_toArray, List.set_cons_zero, List.set_cons_succ]
  refine oneH (i := 25) (oi := ⟨some 103, _, _, _, _, _⟩) rfl (by kernel_rfl) (fun K hK => ?_)
  rw [if_pos (by rfl)]
  go_simp
  refine (Plain_any z HZO.out _).mono ?_
  rintro e wn ⟨rfl, hb⟩
  have hS2 := hS.carry hb
  clear hb hS
  refine hK.out _ _ hS2 ?_
  clear hK K
  have hS := hS2
  clear hS2
  refine takeH (i := 27) 105 (v := .bool false) rfl (by kernel_rfl) (by kernel_rfl) (by kernel_rfl) rfl (fun _ _ _ h => h) (.inl ⟨by rfl, fun _ _ => by go_simp⟩) hS ?_
  simp only [Act.put, List.setIfInBounds_toArray, List.set_cons_zero, List.set_cons_succ]
  refine takeH (i := 28) 106 (v := .bool false) rfl (by kernel_rfl) (by kernel_rfl) (by kernel_rfl) rfl (fun _ _ _ h => h) (.inl ⟨by rfl, fun _ _ => by go_simp⟩) hS ?_
  simp only [Act.put, List.setIfInBounds_toArray, List.set_cons_zero, List.set_cons_succ]
  refine wpAnyH_done (by kernel_rfl) ?_ _
  have HS16 := Lib.hid hS
  clear hS
  go_upto_region 16 with (fail)
  refine wp_region_held (S := GrS w b c d x z x) (by kernel_rfl) ?_
  change wpAnyH _ _ _ _ _ _ _ _ wn.drew
  obtain ⟨wb, HWA⟩ : ∃ wb, Hid (wb = wn.drew) := ⟨_, Lib.hid rfl⟩
  rw [← HWA.out]
  have hS : GrS w b c d x z x wb := by rw [HWA.out]; exact HS16.out.drew
  clear HWA HS16
  have hby0 : ((by_ : Int) == 0) = false := by have := HBY.out; simp; omega
  have hbn : ¬ by_ = 0 := HBY.out
  refine takeH (i := 0) 107 (v := .int .u8 (by_ : Int)) rfl (by kernel_rfl) (by kernel_rfl) (by kernel_rfl) rfl (fun _ _ _ h => h) (.inl ⟨by rfl, fun _ _ => by go_simp⟩) hS ?_
  simp only [Act.put, List.setIfInBounds_toArray, List.set_cons_zero, List.set_cons_succ]
  refine takeH (i := 1) 108 (v := .bool false) rfl (by kernel_rfl) (by kernel_rfl) (by kernel_rfl) rfl (fun _ _ _ h => h) (.inl ⟨by rfl, fun _ _ => by go_simp⟩) hS ?_
  simp only [Act.put, List.setIfInBounds_toArray, List.set_cons_zero, List.set_cons_succ]
  refine takeH (i := 2) 109 (v := .bool false) rfl (by kernel_rfl) (by kernel_rfl) (by kernel_rfl) rfl (fun _ _ _ h => h) (.inl ⟨by rfl, fun _ _ => by go_simp⟩) hS ?_
  simp only [Act.put, List.setIfInBounds_toArray, List.set_cons_zero, List.set_cons_succ]
  refine takeH (i := 3) 110 (v := undef) rfl (by kernel_rfl) (by kernel_rfl) (by kernel_rfl) rfl (fun _ _ _ h => h) (.inr ⟨by rfl, rfl⟩) hS ?_
  simp only [Act.put, List.setIfInBounds_toArray, List.set_cons_zero, List.set_cons_succ]
  refine takeH (i := 4) 111 (v := undef) rfl (by kernel_rfl) (by kernel_rfl) (by kernel_rfl) rfl (fun _ _ _ h => h) (.inr ⟨by rfl, rfl⟩) hS ?_
  simp only [Act.put, List.setIfInBounds_toArray, List.set_cons_zero, List.set_cons_succ]
  refine takeH (i := 5) 112 (v := undef) rfl (by kernel_rfl) (by kernel_rfl) (by kernel_rfl) rfl (fun _ _ _ h => h) (.inr ⟨by rfl, rfl⟩) hS ?_
  simp only [Act.put, List.setIfInBounds_toArray, List.set_cons_zero, List.set_cons_succ]
  refine takeH (i := 6) 113 (v := undef) rfl (by kernel_rfl) (by kernel_rfl) (by kernel_rfl) rfl (fun _ _ _ h => h) (.inr ⟨by rfl, rfl⟩) hS ?_
  simp only [Act.put, List.setIfInBounds_toArray, List.set_cons_zero, List.set_cons_succ]
  refine takeH (i := 7) 114 (v := .bool false) rfl (by kernel_rfl) (by kernel_rfl) (by kernel_rfl) rfl (fun _ _ _ h => h) (.inl ⟨by rfl, fun _ _ => by go_simp⟩) hS ?_
  simp only [Act.put, List.setIfInBounds_toArray, List.set_cons_zero, List.set_cons_succ]
  refine takeH (i := 8) 115 (v := .bool false) rfl (by kernel_rfl) (by kernel_rfl) (by kernel_rfl) rfl (fun _ _ _ h => h) (.inl ⟨by rfl, fun _ _ => by go_simp⟩) hS ?_
  simp only [Act.put, List.setIfInBounds_toArray, List.set_cons_zero, List.set_cons_succ]
  refine takeH (i := 9) 116 (v := .int .u8 (by_ : Int)) rfl (by kernel_rfl) (by kernel_rfl) (by kernel_rfl) rfl (fun _ _ _ h => h) (.inl ⟨by rfl, fun _ _ => by go_simp⟩) hS ?_
  simp only [Act.put, List.setIfInBounds_toArray, List.set_cons_zero, List.set_cons_succ]
  refine takeH (i := 10) 117 (v := .bool true) rfl (by kernel_rfl) (by kernel_rfl) (by kernel_rfl) rfl (fun _ _ _ h => h) (.inl ⟨by rfl, fun _ _ => by go_simp⟩) hS ?_
  simp only [Act.put, List.setIfInBounds_toArray, List.set_cons_zero, List.set_cons_succ]
  refine takeH (i := 11) 118 (v := .bool true) rfl (by kernel_rfl) (by kernel_rfl) (by kernel_rfl) rfl (fun _ _ _ h => h) (.inl ⟨by rfl, fun _ _ => by go_simp⟩) hS ?_
  simp only [Act.put, List.setIfInBounds_toArray, List.set_cons_zero, List.set_cons_succ]
  refine takeH (i := 12) 119 (v := sbV x) rfl (by kernel_rfl) (by kernel_rfl) (by kernel_rfl) rfl (fun _ _ _ h => h) (yieldsIf_sb Tryd.sbProg (by rfl) _ rfl d rfl x HX.out (fun _ h => h.two.at_)) hS ?_
  simp only [Act.put, List.setIfInBounds_toArray, List.set_cons_zero, List.set_cons_succ]
  refine takeH (i := 14) 121 (v := sbV x) rfl (by kernel_rfl) (by kernel_rfl) (by kernel_rfl) rfl (fun _ _ _ h => h) (yieldsIf_sb Tryd.sbRef (by rfl) _ rfl b rfl x HX.out (fun _ h => h.fst.at_)) hS ?_
  simp only [Act.put, List.setIfInBounds_toArray, List.set_cons_zero, List.set_cons_succ]
  refine oneH (i := 13) (oi := ⟨some 120, _, _, _, _, _⟩) rfl (by kernel_rfl) (fun K hK => ?_)
  rw [if_pos (by rfl)]
  go_simp
  refine (Plain_any x HX.out _).mono ?_
  rintro e wn ⟨rfl, hb⟩
  have hS2 := hS.carry hb
  clear hb hS
  refine hK.out _ _ hS2 ?_
  clear hK K
  have hS := hS2
  clear hS2
  refine takeH (i := 15) 122 (v := .bool true) rfl (by kernel_rfl) (by kernel_rfl) (by kernel_rfl) rfl (fun _ _ _ h => h) (.inl ⟨by rfl, fun _ _ => by go_simp⟩) hS ?_
  simp only [Act.put, List.setIfInBounds_toArray, List.set_cons_zero, List.set_cons_succ]
  refine takeH (i := 16) 123 (v := .bool true) rfl (by kernel_rfl) (by kernel_rfl) (by kernel_rfl) rfl (fun _ _ _ h => h) (.inl ⟨by rfl, fun _ _ => by go_simp⟩) hS ?_
  simp only [Act.put, List.setIfInBounds_toArray, List.set_cons_zero, List.set_cons_succ]
  refine takeH (i := 17) 124 (v := .bool true) rfl (by kernel_rfl) (by kernel_rfl) (by kernel_rfl) rfl (fun _ _ _ h => h) (.inl ⟨by rfl, fun _ _ => by go_simp⟩) hS ?_
  simp only [Act.put, List.setIfInBounds_toArray, List.set_cons_zero, List.set_cons_succ]
  refine takeH (i := 18) 8 (v := .bool true) rfl (by kernel_rfl) (by kernel_rfl) (by kernel_rfl) rfl (fun _ _ _ h => h) (.inl ⟨by rfl, fun _ _ => by go_simp⟩) hS ?_
  simp only [Act.put, List.setIfInBounds_toArray, List.set_cons_zero, List.set_cons_succ]
  refine wpAnyH_done (by kernel_rfl) ?_ _
  go_wp2_with fail
  go_ret
  exact ⟨rfl, hS.below⟩
theorem greater_walk (x y : Sb) (at_ by_ : Nat) (hx : x.Ok) (hy : y.Ok) (_ : -9223372036854775808 ≤ x.root ∧ x.root ≤ 9223372036854775807) (_ : -9223372036854775808 ≤ y.root ∧ y.root ≤ 9223372036854775807) (ha : at_ < 256) (hb : by_ < 256) (w : World) (hg : Laid2 w) :
    Calls Tryd.prog 6 #[sbV x, sbV y, .int .u8 at_, .int .u8 by_] w fun e w' => e = .returned (.bool true) ∧ Below w.heap.size w w' := by
  cases hr : rightB x with
  | false => exact greater_no x y at_ by_ hx hy (.inl hr) w hg
  | true =>
    cases hr2 : rightB (nextSb x y) with
    | false => exact greater_no x y at_ by_ hx hy (.inr ⟨hr, hr2⟩) w hg
    | true =>
      by_cases h0 : by_ = 0
      · exact greater_same x y at_ by_ hx hy hr hr2 ha hb h0 w hg
      · exact greater_spoilt x y at_ by_ hx hy hr hr2 ha hb h0 w hg
end Go.Proofs.YtaolkmlgdhnhaaaDoor
