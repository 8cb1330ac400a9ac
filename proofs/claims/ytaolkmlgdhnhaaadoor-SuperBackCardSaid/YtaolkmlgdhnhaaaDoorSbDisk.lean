/-
  The contract of super.load: the superblock in a disk's sector. Conditions: none beyond the premises of each theorem.
-/
import Derived.Test.YtaolkmlgdhnhaaaDoorSbRead
import Derived.Test.YtaolkmlgdhnhaaaDoorFrDisk
namespace Go.Proofs.YtaolkmlgdhnhaaaDoor
open Go.RowKit

/-- what load answers -/
def SbLoadPost (l : List UInt8) (w : World) (e : Ending) (w' : World) : Prop :=
  ∃ c v, e = .returned (.tuple #[sbV ((sbOf l).getD Sb.zero), v]) ∧ ErrFrom w' w.heap.size c v ∧ (c = 0 ↔ (sbOf l).isSome = true) ∧ Below w.heap.size w w'
theorem codeLd_ok {l : List UInt8} (h : codeLd 0 1 l = 0) : codeB l = 0 ∧ kB l = 1 := by
  unfold codeLd at h
  rw [if_neg (by decide)] at h
  split at h
  · rename_i h1; exact absurd h h1
  · rename_i h1
    split at h
    · rename_i h2
      refine ⟨Decidable.not_not.1 h1, ?_⟩
      rw [← UInt8.toNat_inj]
      show (kB l).toNat = 1
      omega
    · cases h
theorem codeLd_no {l : List UInt8} (h : codeLd 0 1 l ≠ 0) : sbOf l = none := by
  unfold sbOf
  rw [if_neg]
  rintro ⟨h1, h2⟩
  apply h
  unfold codeLd
  rw [if_neg (by decide), if_neg (by rw [h1]; decide), if_pos (by rw [h2]; rfl)]
theorem dArr (l : List UInt8) : (⟨l.toArray⟩ : ByteArray).data.toList = l := by simp
set_option maxRecDepth 100000 in
theorem SbLoad_any {K : Nat → Prop} {D n : Nat} {d : Dk} {w : World} (h : DiskAt K w D n d) (i : Nat) (hc : codeZ d.down n i = 0) (l : List UInt8) (hl : l.length = 128) (hp : pgAt d.seen i = pgB l) (hg : LaidCrc w) :
    Calls Tryd.prog 37 #[.pointer (some ⟨D, 0, none⟩), .int .i64 i] w (SbLoadPost l w) := by
  have hz := Tryd.sbProg.zero
  obtain ⟨b, HB⟩ : ∃ b, Hid (b = w.heap.size) := ⟨_, Lib.hid rfl⟩
  obtain ⟨w1, HW⟩ : ∃ w1, Hid (w1 = w.alloc (.cells (sbArr Sb.zero) 33)) := ⟨_, Lib.hid rfl⟩
  have HO : Hid (BOwn w1 b Sb.zero) := Lib.hid (by rw [HW.out, HB.out]; exact BOwn.new _)
  have HBL : Hid (Below w.heap.size w w1) := Lib.hid (by rw [HW.out]; exact (Below.refl _ _).alloc (Nat.le_refl _) _)
  have hF := FrLoad_any (h.carry HBL.out) (i : Int) 1 l hl (fun _ => hp) (hg.carry HBL.out)
  rw [hc] at hF
  have HF := Lib.hid hF
  clear hF h hc hl hp hg
  go_enter Tryd.func37, Tryd.ntmps37
  go_upto_region 1 with (fail)
  rw [← HW.out, ← HB.out]
  clear HW
  go_wp2_with fail
  refine HF.out.mono ?_
  rintro e w2 ⟨v, rfl, he, hb⟩
  have HO2 := Lib.hid (HO.out.below hb HO.out.lt)
  have HB2 : Hid (Below w.heap.size w w2) := Lib.hid (HBL.out.trans (hb.mono HBL.out.size))
  have HS2 := Lib.hid hb.size
  by_cases hc : codeLd 0 1 l = 0
  · rw [if_pos hc]
    rw [hc] at he
    obtain rfl := he.zero
    obtain ⟨h1, h2⟩ := codeLd_ok hc
    have HS : Hid (sbOf l = readS (dB l)) := Lib.hid (by unfold sbOf; rw [if_pos ⟨h1, h2⟩])
    obtain ⟨s, HSS⟩ : ∃ s : ByteArray, Hid (s = ⟨(dB l).toArray⟩) := ⟨_, Lib.hid rfl⟩
    have HL : Hid (s.data.toList = dB l) := Lib.hid (by rw [HSS.out, dArr])
    rw [← HSS.out]
    clear he hb hc h1 h2
    go_wp2_with fail
    refine (SbRead_any s w2).mono ?_
    rintro e w3 ⟨v, rfl, he, hb⟩
    rw [HL.out, ← HS.out] at he ⊢
    obtain ⟨o, HOO⟩ : ∃ o, Hid (o = sbOf l) := ⟨_, Lib.hid rfl⟩
    rw [← HOO.out] at he ⊢
    have HX : Hid ((o.getD Sb.zero).Ok) := Lib.hid (by
      cases ho : o with
      | none => exact Sb.Ok.zero
      | some x => exact (sbOf_some (by rw [← HOO.out]; exact ho)).1)
    have HE := Lib.hid he
    have HO3 := Lib.hid (HO2.out.below hb HO2.out.lt)
    have HB3 : Hid (Below w.heap.size w w3) := Lib.hid (HB2.out.trans (hb.mono HB2.out.size))
    obtain ⟨x, HXX⟩ : ∃ x, Hid (x = o.getD Sb.zero) := ⟨_, Lib.hid rfl⟩
    rw [← HXX.out] at HX ⊢
    clear he hb
    go_wp2_with (with_reducible refine stop_at (o := ⟨none, _, _, _, _, _⟩) ?_)
    refine wpList_store_sb Tryd.sbProg rfl _ _ rfl b x Sb.zero HX.out Sb.Ok.zero rfl rfl HO3.out ?_
    intro w4 HW4 HO4
    go_wp2_with fail
    have hb4 := below_cells_of HB3.out HW4.out (by rw [HB.out]; exact Nat.le_refl _)
    refine bodyPost_ret (results_sb2 Tryd.sbProg rfl _ _ b x v rfl rfl HO4.out.at_ HX.out) rfl ⟨_, v, by rw [← HOO.out, ← HXX.out], (HE.out.lay HW4.out HO2.out.lt).mono HB2.out.size, ?_, hb4⟩
    rw [← HOO.out]
    cases o <;> simp
  · have HC := Lib.hid hc
    have HN := Lib.hid (codeLd_no hc)
    have HE := Lib.hid he
    obtain ⟨t, x, rfl⟩ := he.some hc
    rw [if_neg hc]
    clear he hb hc
    go_wp2_with (with_reducible refine stop_at (o := ⟨some 16, _, _, _, _, _⟩) ?_)
    refine wpList_build_sb0 Tryd.sbProg rfl rfl ?_
    go_wp2_with fail
    refine (Tag_from _ w1.heap.size _ _ w2 HE.out HS2.out).mono ?_
    rintro e w3 ⟨v, rfl, he, hb⟩
    have HE3 := Lib.hid he
    have HO3 := Lib.hid (HO2.out.below hb HO2.out.lt)
    have HB3 : Hid (Below w.heap.size w w3) := Lib.hid (HB2.out.trans (hb.mono HB2.out.size))
    clear he hb
    go_wp2_with (with_reducible refine stop_at (o := ⟨none, _, _, _, _, _⟩) ?_)
    refine wpList_store_sb Tryd.sbProg rfl _ _ rfl b Sb.zero Sb.zero Sb.Ok.zero Sb.Ok.zero rfl rfl HO3.out ?_
    intro w4 HW4 HO4
    go_wp2_with fail
    have hb4 := below_cells_of HB3.out HW4.out (by rw [HB.out]; exact Nat.le_refl _)
    exact bodyPost_ret (results_sb2 Tryd.sbProg rfl _ _ b Sb.zero v rfl rfl HO4.out.at_ Sb.Ok.zero) rfl ⟨_, v, by rw [HN.out]; rfl, (HE3.out.lay HW4.out HO.out.lt).mono HBL.out.size, by rw [HN.out]; exact ⟨fun h => absurd h HC.out, fun h => by cases h⟩, hb4⟩

/-- what Best answers -/
def BestPost (c : Int) (o : Option Sb) (w : World) (e : Ending) (w' : World) : Prop :=
  ∃ v, e = .returned (.tuple #[sbV (o.getD Sb.zero), v]) ∧ ErrFrom w' w.heap.size c v ∧ Below w.heap.size w w'
/-- Best that is refused: the disk is down, or too small -/
def codeBest (d : Dk) (n : Nat) : Int := if d.down = true then 7 else if n < 3 then 1 else 0
set_option maxRecDepth 100000 in
theorem Best_down {K : Nat → Prop} {D n : Nat} {d : Dk} {w : World} (h : DiskAt K w D n d) (hd : d.down = true) : Calls Tryd.prog 20 #[.pointer (some ⟨D, 0, none⟩)] w (BestPost 7 none w) := by
  have hz := Tryd.sbProg.zero
  have hz2 := Tryd.zeroPage
  obtain ⟨b, HB⟩ : ∃ b, Hid (b = w.heap.size) := ⟨_, Lib.hid rfl⟩
  obtain ⟨w1, HW⟩ : ∃ w1, Hid (w1 = w.alloc (.cells (sbArr Sb.zero) 33)) := ⟨_, Lib.hid rfl⟩
  have HO : Hid (BOwn w1 b Sb.zero) := Lib.hid (by rw [HW.out, HB.out]; exact BOwn.new _)
  have HBL : Hid (Below w.heap.size w w1) := Lib.hid (by rw [HW.out]; exact (Below.refl _ _).alloc (Nat.le_refl _) _)
  have hr := Read_any (h.carry HBL.out) 0
  have hc : codeZ d.down n 0 = 7 := by unfold codeZ; rw [if_pos hd]
  rw [hc, if_neg (by decide)] at hr
  have HR := Lib.hid hr
  clear hr hc h hd
  go_enter Tryd.func20, Tryd.ntmps20
  go_upto_region 1 with (fail)
  rw [← HW.out, ← HB.out]
  clear HW
  go_wp2_with fail
  refine HR.out.mono ?_
  rintro e w2 ⟨v, rfl, he, hb⟩
  obtain ⟨t, x, rfl⟩ := he.some (by decide)
  have HE := Lib.hid he.from_
  have HO2 := Lib.hid (HO.out.below hb HO.out.lt)
  have HB2 : Hid (Below w.heap.size w w2) := Lib.hid (HBL.out.trans (hb.mono HBL.out.size))
  have HS2 := Lib.hid hb.size
  clear he hb HR
  go_wp2_with (with_reducible refine stop_at (o := ⟨none, _, _, _, _, _⟩) ?_)
  refine wpList_store_last rfl _ _ _ rfl (pgArr zeroPg) (pgArr zeroPg) _ rfl rfl rfl (by rw [pgArr_size, zeroPg_length]; exact Tryd.pageSize) rfl (pgArr_all _) ?_
  obtain ⟨w3, HW⟩ : ∃ w3, Hid (w3 = w2.alloc (.cells (pgArr zeroPg) 55)) := ⟨_, Lib.hid rfl⟩
  rw [← HW.out]
  have hb3 : Below w2.heap.size w2 w3 := by rw [HW.out]; exact (Below.refl _ _).alloc (Nat.le_refl _) _
  have HO3 := Lib.hid (HO2.out.below hb3 HO2.out.lt)
  have HB3 : Hid (Below w.heap.size w w3) := Lib.hid (HB2.out.trans (hb3.mono HB2.out.size))
  have HE3 := Lib.hid (HE.out.below hb3)
  have HS3 := Lib.hid (Nat.le_trans HS2.out hb3.size)
  clear hb3 HW HE
  go_wp2_with (with_reducible refine stop_at (o := ⟨some 17, _, _, _, _, _⟩) ?_)
  refine wpList_build_sb0 Tryd.sbProg rfl rfl ?_
  go_wp2_with fail
  refine (Tag_from _ w1.heap.size _ _ w3 HE3.out HS3.out).mono ?_
  rintro e w4 ⟨v, rfl, he, hb⟩
  have HE4 := Lib.hid he
  have HO4 := Lib.hid (HO3.out.below hb HO3.out.lt)
  have HB4 : Hid (Below w.heap.size w w4) := Lib.hid (HB3.out.trans (hb.mono HB3.out.size))
  clear he hb
  go_wp2_with (with_reducible refine stop_at (o := ⟨none, _, _, _, _, _⟩) ?_)
  refine wpList_store_sb Tryd.sbProg rfl _ _ rfl b Sb.zero Sb.zero Sb.Ok.zero Sb.Ok.zero rfl rfl HO4.out ?_
  intro w5 HW5 HO5
  go_wp2_with fail
  have hb5 := below_cells_of HB4.out HW5.out (by rw [HB.out]; exact Nat.le_refl _)
  exact bodyPost_ret (results_sb2 Tryd.sbProg rfl _ _ b Sb.zero v rfl rfl HO5.out.at_ Sb.Ok.zero) rfl ⟨v, rfl, (HE4.out.lay HW5.out HO.out.lt).mono HBL.out.size, hb5⟩
end Go.Proofs.YtaolkmlgdhnhaaaDoor
