/-
  The contract of super.Switch. Conditions: none beyond the premises of each theorem.
-/
import Derived.Test.YtaolkmlgdhnhaaaDoorSbDisk
import Derived.Test.YtaolkmlgdhnhaaaDoorSbOf
namespace Go.Proofs.YtaolkmlgdhnhaaaDoor
open Go.RowKit

set_option maxRecDepth 100000 in
theorem Switch_no (D : Value) (x : Sb) (hx : x.Ok) (hr : rightB x = false) (w : World) : Calls Tryd.prog 22 #[D, sbV x] w (FromPost 1 w.heap.size w) := by
  have HX := Lib.hid hx
  have HR := Lib.hid hr
  clear hx hr
  obtain ⟨b, HB⟩ : ∃ b, Hid (b = w.heap.size) := ⟨_, Lib.hid rfl⟩
  obtain ⟨w1, HW⟩ : ∃ w1, Hid (w1 = w.alloc (.cells (sbArr x) 33)) := ⟨_, Lib.hid rfl⟩
  have HO : Hid (BOwn w1 b x) := Lib.hid (by rw [HW.out, HB.out]; exact BOwn.new _)
  have HBL : Hid (Below w.heap.size w w1) := Lib.hid (by rw [HW.out]; exact (Below.refl _ _).alloc (Nat.le_refl _) _)
  go_enter Tryd.func22, Tryd.ntmps22
  go_upto_region 1 with (fail)
  rw [← HW.out, ← HB.out]
  clear HW
  go_wp2_with (with_reducible refine stop_at (o := ⟨some 10, _, _, _, _, _⟩) ?_)
  refine wpList_load_sb Tryd.sbProg rfl _ rfl b rfl x HX.out HO.out.at_ ?_
  go_wp2_with fail
  refine (Lay_any x HX.out w1).mono ?_
  rintro e w2 ⟨v, rfl, he, hb⟩
  rw [HR.out, if_neg (by decide)] at he
  rw [HR.out, if_neg (by decide)]
  obtain ⟨t, y, rfl⟩ := he.some (by decide)
  have HE := Lib.hid he
  have HB2 := Lib.hid hb
  clear he hb
  go_wp2_with fail
  go_ret
  exact ⟨_, rfl, HE.out.mono HBL.out.size, HBL.out.trans (HB2.out.mono HBL.out.size)⟩
/-- the disk behind a switch -/
def swDk (d : Dk) (x : Sb) : Dk := (d.flush.write (x.gen % 2) (pgB (sbP x))).flush
theorem codeL_sb {x : Sb} (hx : x.Ok) : codeL 1 ⟨(layS x).toArray⟩ = 0 := by
  have h : (⟨(layS x).toArray⟩ : ByteArray).size = 35 := by rw [toArr_size, layS_length hx]
  unfold codeL
  rw [if_neg (by decide), if_neg (by rw [h]; decide)]
theorem pageL_sb {x : Sb} (hx : x.Ok) : pageL 1 ⟨(layS x).toArray⟩ = pgB (sbP x) := by
  unfold pageL
  rw [if_pos (codeL_sb hx), dArr]
  rfl
theorem Kept.less {K L : Nat → Prop} {w w' : World} (h : Kept L w w') (hKL : ∀ k, K k → L k) : Kept K w w' := ⟨h.os, h.tape, h.output, h.size, fun k hk => h.block k (hKL k hk)⟩
set_option maxRecDepth 100000 in
set_option maxHeartbeats 1000000 in
theorem Switch_yes {K : Nat → Prop} {D n : Nat} {d : Dk} {w : World} (h : DiskAt K w D n d) (ht : There K w) (hd : d.down = false) (hn : 3 ≤ n) (x : Sb) (hx : x.Ok) (hr : rightB x = true) (hg : ∀ w', Kept K w w' → LaidCrc w') :
    Calls Tryd.prog 22 #[.pointer (some ⟨D, 0, none⟩), sbV x] w fun e w' => e = .returned .nilIface ∧ DiskAt K w' D n (swDk d x) ∧ Kept K w w' := by
  have HX := Lib.hid hx
  have HR := Lib.hid hr
  have HT := Lib.hid ht
  have HN := Lib.hid hn
  have HG := Lib.hid hg
  have HDN := Lib.hid hd
  have hn3 : ¬ (n : Int) < 3 := by omega
  obtain ⟨b, HB⟩ : ∃ b, Hid (b = w.heap.size) := ⟨_, Lib.hid rfl⟩
  obtain ⟨w1, HW⟩ : ∃ w1, Hid (w1 = w.alloc (.cells (sbArr x) 33)) := ⟨_, Lib.hid rfl⟩
  obtain ⟨L, HL⟩ : ∃ L : Nat → Prop, Hid (L = fun k => K k ∨ k = b) := ⟨_, Lib.hid rfl⟩
  have HO : Hid (BOwn w1 b x) := Lib.hid (by rw [HW.out, HB.out]; exact BOwn.new _)
  have HBL : Hid (Below w.heap.size w w1) := Lib.hid (by rw [HW.out]; exact (Below.refl _ _).alloc (Nat.le_refl _) _)
  have HKL : Hid (∀ k, K k → L k) := Lib.hid fun k hk => by rw [HL.out]; exact .inl hk
  have HD : Hid (DiskAt L w1 D n d) := Lib.hid (h.more HBL.out fun k hk => by
    rw [HL.out] at hk
    rcases hk with hk | rfl
    · exact .inl hk
    · exact .inr (by rw [HB.out]; exact Nat.le_refl _))
  have HTL : Hid (There L w1) := Lib.hid fun k hk => by
    rw [HL.out] at hk
    rcases hk with hk | rfl
    · exact Nat.lt_of_lt_of_le (ht k hk) HBL.out.size
    · exact HO.out.lt
  have HLB : Hid (L b) := Lib.hid (by rw [HL.out]; exact .inr rfl)
  clear hx hr h ht hn hg hd
  go_enter Tryd.func22, Tryd.ntmps22
  go_upto_region 1 with (fail)
  rw [← HW.out, ← HB.out]
  clear HW
  go_wp2_with (with_reducible refine stop_at (o := ⟨some 10, _, _, _, _, _⟩) ?_)
  refine wpList_load_sb Tryd.sbProg rfl _ rfl b rfl x HX.out HO.out.at_ ?_
  go_wp2_with fail
  refine (Lay_any x HX.out w1).mono ?_
  rintro e w2 ⟨v, rfl, he, hb⟩
  rw [HR.out, if_pos rfl] at he
  rw [HR.out, if_pos rfl]
  obtain rfl := he.zero
  obtain ⟨s, HS⟩ : ∃ s : ByteArray, Hid (s = ⟨(layS x).toArray⟩) := ⟨_, Lib.hid rfl⟩
  rw [← HS.out]
  have HB2 : Hid (Below w.heap.size w w2) := Lib.hid (HBL.out.trans (hb.mono HBL.out.size))
  have HO2 := Lib.hid (HO.out.below hb HO.out.lt)
  have HD2 := Lib.hid (HD.out.carry hb)
  have HTL2 : Hid (There L w2) := Lib.hid fun k hk => Nat.lt_of_lt_of_le (HTL.out k hk) hb.size
  have HK2 : Hid (Kept K w w2) := Lib.hid (Kept.of_below HB2.out HT.out)
  clear he hb HO HD HTL HBL
  go_wp2_with fail
  refine (Size_any HD2.out).mono ?_
  rintro e w' ⟨rfl, rfl⟩
  go_wp2_with fail
  refine (Flush_yes HD2.out HDN.out).mono ?_
  rintro e w3 ⟨rfl, hd3, hk3⟩
  have HD3 := Lib.hid hd3
  have HTL3 : Hid (There L w3) := Lib.hid fun k hk => Nat.lt_of_lt_of_le (HTL2.out k hk) hk3.size
  have HO3 := Lib.hid (HO2.out.block (hk3.block b HLB.out))
  have HK3 := Lib.hid (HK2.out.trans (hk3.less HKL.out))
  have c0 := HO3.out.gen
  obtain ⟨g, HGG⟩ : ∃ g, Hid (g = x.gen) := ⟨_, Lib.hid rfl⟩
  rw [← HGG.out] at c0
  have HGL : Hid (g < 4294967296) := Lib.hid (by rw [HGG.out]; exact HX.out.gen)
  clear hd3 hk3 HD2 HTL2 HO2 HK2
  go_wp2_with fail
  refine (sectorOf_any g HGL.out _).mono ?_
  rintro e w' ⟨rfl, rfl⟩
  obtain ⟨i, HI⟩ : ∃ i, Hid (i = g % 2) := ⟨_, Lib.hid rfl⟩
  rw [← HI.out]
  go_wp2_with fail
  refine (FrStore_yes HD3.out HTL3.out HDN.out (i := i) (by have := HN.out; rw [HI.out]; omega) (by show (0 : Nat) ≤ 1000000; decide) 1 s (by rw [HS.out]; exact codeL_sb HX.out) (HG.out _ HK3.out)).mono ?_
  rintro e w4 ⟨rfl, hd4, hk4⟩
  have HD4 := Lib.hid hd4
  have HK4 := Lib.hid (HK3.out.trans (hk4.less HKL.out))
  clear hd4 hk4 HD3 c0
  go_wp2_with fail
  refine (Flush_yes HD4.out HDN.out).mono ?_
  rintro e w5 ⟨rfl, hd5, hk5⟩
  have HD5 := Lib.hid hd5
  have HK5 := Lib.hid (HK4.out.trans (hk5.less HKL.out))
  clear hd5 hk5 HD4
  go_wp2_with fail
  refine (Tag_from _ w5.heap.size 0 _ w5 (.nil _ _) (Nat.le_refl _)).mono ?_
  rintro e w6 ⟨v, rfl, he, hb⟩
  obtain rfl := he.zero
  have HB6 := Lib.hid hb
  clear he hb
  go_wp2_with fail
  go_ret
  refine ⟨rfl, ?_, HK5.out.trans (Kept.of_below HB6.out fun k hk => Nat.lt_of_lt_of_le (HT.out k hk) HK5.out.size)⟩
  have := HD5.out.more HB6.out (L := K) fun k hk => .inl (HKL.out k hk)
  rw [HS.out, pageL_sb HX.out, HI.out, HGG.out] at this
  exact this
end Go.Proofs.YtaolkmlgdhnhaaaDoor
