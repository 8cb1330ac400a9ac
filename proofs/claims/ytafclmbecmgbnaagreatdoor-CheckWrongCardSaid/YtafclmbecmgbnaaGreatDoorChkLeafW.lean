/-
 ChkLeafW. Conditions: as each theorem says.
-/
import Derived.Test.YtafclmbecmgbnaaGreatDoorSm
import Derived.Test.YtafclmbecmgbnaaGreatDoorChkLeaf
namespace Go.Proofs.YtafclmbecmgbnaaGreatDoor
open Go.RowKit
section
variable {O : PgOwn} (H : PgSpec O)
include H
set_option maxRecDepth 100000 in
set_option maxHeartbeats 2000000 in
theorem chkLeaf_any {w0 : World} {K : Nat → Prop} {w : World} {P D n : Nat} {S : TS} {firm : Nat → List UInt8} (hl : LawT O w0 K w P D n S firm) (hg : Laid2 w0) (hs : S.d.soft.length ≤ 100000) {Q : Nat} (hQ : w.cell? ⟨Q, 0, none⟩ = some (ptr P)) (hKQ : K Q) (x c : Nat) (hx : x ≤ 200) (hc : 1 ≤ c ∧ c ≤ 8)
  {k : Nat} (hf : S.s.first n = some k) (hr : rightN (lvN x c) = true) :
  Calls Tryz.prog 28 #[.int .i64 (x : Int), .int .i64 (c : Int), .pointer (some ⟨Q, 0, none⟩)] w fun e w' =>
   e = .returned (.int .i64 (k : Int)) ∧ LawT O w0 K w' P D n ⟨S.d.write k (pgB (pageP (layN (lvN x c)))), S.s.at_ k, upd S.data k (layN (lvN x c))⟩ firm ∧ Kept K w w' := by
 obtain ⟨ii, hi0, hi1, hi2, hi3⟩ := info_parts Tryz.infoInt9
 obtain ⟨is, hs0, hs1, hs2, hs3⟩ := info_parts Tryz.infoStr9
 obtain ⟨q, HQQ⟩ : ∃ q, Hid (q = w.heap.size) := Hy
 obtain ⟨b, HBB⟩ : ∃ b, Hid (b = w.heap.size + 1) := Hy
 obtain ⟨w1, HW1⟩ : ∃ w1, Hid (w1 = w.alloc (.cells #[.slice none 0 0, .slice none 0 0, .slice none 0 0] 48)) := Hy
 have HS1 : Hid (LfS w q b (.slice none 0 0) (.slice none 0 0) (.slice none 0 0) Nd.empty w1) := Hi (by rw [HW1.out, HQQ.out, HBB.out]; exact LfS.new w _)
 have HL := Hi hl
 have HIN : Hid (PInv n (S.d.write k (pgB (pageP (layN (lvN x c))))) (S.s.at_ k) (upd S.data k (layN (lvN x c))) firm) := Hi (hl.inv.laid hf (layN_fits hr))
 have HQ := Hi hQ
 have HKQ := Hi hKQ
 have HF := Hi hf
 have HR := Hi hr
 have HSO := Hi hs
 have hz := Tryz.zeroNode
 clear hl hQ hKQ hf hr hs
 go_enter Tryz.func28, Tryz.ntmps28
 go_upto_region 2 with (fail)
 rw [← HW1.out, ← HQQ.out]
 clear HW1 hz
 go_wp2_with fail
 go_loopw [7] (fun i wr => ∃ (j : Nat) (kv vv cv : Value), j ≤ c ∧ i = .int .i64 (j : Int) ∧ Hid (LfS w q b kv vv cv (lvN x j) wr)) (fun i _ => c - (intOf i).toNat)
 case atStart => exact ⟨0, _, _, _, Nat.zero_le _, rfl, HS1⟩
 case round =>
  clear HS1
  obtain ⟨j, kv, vv, cv, hj, rfl, HS⟩ := hrel
  by_cases hlt : j < c
  ·have c0 := HS.out.c0
   have c1 := HS.out.c1
   have fc0 := HS.out.fz 0
   have fc1 := HS.out.fz 1
   have hwx : wrap64 ((x : Int) + (j : Int)) = ((x + j : Nat) : Int) := by unfold wrap64; omega
   go_wp2_with (with_reducible refine stop_at (o := ⟨some 23, _, _, _, _, _⟩) ?_)
   obtain ⟨g5, HG5⟩ : ∃ g5, Hid (g5 = wr.heap.size) := Hy
   obtain ⟨w5, HW5⟩ : ∃ w5, Hid (w5 = wr.alloc (.cells #[.int .i64 ((x : Int) + (j : Int))] 3)) := Hy
   rw [← HG5.out, ← HW5.out]
   have HS5 := Hi (HS.out.carry (w' := w5) (by rw [HW5.out]; exact (Below.refl _ _).alloc (Nat.le_refl _) _))
   have hn5 : ∀ (j2 : Nat) u, ([.int .i64 ((x : Int) + (j : Int))] : List Value)[j2]? = some u → w5.cell? ((⟨g5, 0, none⟩ : Addr).add j2) = some u := by rw [HW5.out, HG5.out]; exact World.news_of_block (cs := #[.int .i64 ((x : Int) + (j : Int))]) (heap_alloc_last wr _)
   have hkl : (lvN x j).keys.length = j := lvK_len x j
   have hvl : (lvN x j).vals.length = j := List.length_replicate
   clear HG5 HW5 HS c0 c1 fc0 fc1
   refine wpList_append_lies _ rfl _ _ 45 rfl b 3 ii _ 1 8 Tryz.underlying45 hi0 hi1 hi2 hi3 rfl (by decide) kv (lvN x j).keys.length ((lvN x j).keys.map (Value.int .i64)) rfl HS5.out.k ⟨g5, 0, none⟩ 1 1 [.int .i64 ((x : Int) + (j : Int))] rfl rfl hn5 (fun u hu => by rw [List.mem_singleton.1 hu]; rfl) (by decide) (by rw [hkl]; unfold maxLen; omega) (by rw [hkl]; omega) HS5.out.sz w5.heap.size rfl ?_
   intro gg cap w6 hown hgrow hat _
   have hq5 : q < w5.heap.size := Nat.lt_of_lt_of_le HS5.out.qb HS5.out.sz
   have hrow : kv.ownBlock ≠ some q := fun e => by
    have := (HS5.out.k.lt q e).1
    have := HS5.out.qb
    omega
   have c0 : w6.cell? ⟨q, 0, none⟩ = some kv := (hgrow.cell_far _ hq5 (Ne.symm hrow)).trans HS5.out.c0
   have fc0 : w6.frozen? ⟨q, 0, none⟩ = false := (hgrow.frozen_far _ hq5 (Ne.symm hrow)).trans (HS5.out.fz 0)
   have c1 : w6.cell? ⟨q, 1, none⟩ = some vv := (hgrow.cell_far _ hq5 (Ne.symm hrow)).trans HS5.out.c1
   have fc1 : w6.frozen? ⟨q, 1, none⟩ = false := (hgrow.frozen_far _ hq5 (Ne.symm hrow)).trans (HS5.out.fz 1)
   have HP6 := Hi (HS5.out.push0 (Below.refl _ _) hgrow hown hat (Nat.le_refl _))
   rw [hkl] at HP6
   clear hown hgrow hat hn5 HS5 hrow
   go_wp2_with (with_reducible refine stop_at (o := ⟨some 28, _, _, _, _, _⟩) ?_)
   obtain ⟨w7, HW7⟩ : ∃ w7, Hid (w7 = w6.setCell ⟨q, 0, none⟩ (.slice (some ⟨gg, 0, none⟩) (j + 1) cap)) := Hy
   rw [← HW7.out]
   rw [← HW7.out] at HP6
   obtain ⟨g8, HG8⟩ : ∃ g8, Hid (g8 = w7.heap.size) := Hy
   obtain ⟨w8, HW8⟩ : ∃ w8, Hid (w8 = w7.alloc (.cells #[.string val12] 9)) := Hy
   have HG8' : Hid (g8 = w6.heap.size) := Hi (by rw [HG8.out, HW7.out, World.heap_setCell_size9])
   unfold val12 at HW8
   rw [← HG8'.out, ← HW8.out]
   have HS8 := Hi (HP6.out.carry (w' := w8) (by rw [HW8.out]; exact (Below.refl _ _).alloc (Nat.le_refl _) _))
   have hn8 : ∀ (j2 : Nat) u, ([.string val12] : List Value)[j2]? = some u → w8.cell? ((⟨g8, 0, none⟩ : Addr).add j2) = some u := by rw [HW8.out, HG8.out]; exact World.news_of_block (cs := #[.string val12]) (heap_alloc_last w7 _)
   clear HG8 HG8' HW8 HW7 HP6 c0 c1 fc0 fc1
   refine wpList_append_lies _ rfl _ _ 46 rfl b 9 is _ 1 16 Tryz.underlying46 hs0 hs1 hs2 hs3 rfl (by decide) vv (lvN x j).vals.length ((lvN x j).vals.map Value.string) rfl HS8.out.v ⟨g8, 0, none⟩ 1 1 [.string val12] rfl rfl hn8 (fun u hu => by rw [List.mem_singleton.1 hu]; rfl) (by decide) (by rw [hvl]; unfold maxLen; omega) (by rw [hvl]; omega) HS8.out.sz w8.heap.size rfl ?_
   intro gv capv w9 hown hgrow hat _
   have hq8 : q < w8.heap.size := Nat.lt_of_lt_of_le HS8.out.qb HS8.out.sz
   have hrow : vv.ownBlock ≠ some q := fun e => by
    have := (HS8.out.v.lt q e).1
    have := HS8.out.qb
    omega
   have c1 : w9.cell? ⟨q, 1, none⟩ = some vv := (hgrow.cell_far _ hq8 (Ne.symm hrow)).trans HS8.out.c1
   have fc1 : w9.frozen? ⟨q, 1, none⟩ = false := (hgrow.frozen_far _ hq8 (Ne.symm hrow)).trans (HS8.out.fz 1)
   have HP9 := Hi (HS8.out.push1 (Below.refl _ _) hgrow hown hat (Nat.le_refl _))
   rw [show (lvN x j).vals.length = j from hvl] at HP9
   have HWK : Hid (wrap64 ((j : Int) + 1) = ((j + 1 : Nat) : Int)) := Hi (by unfold wrap64; omega)
   clear hown hgrow hat hn8 HS8 hrow
   go_wp2_with fail
   go_roundw
   case rel =>
    refine ⟨j + 1, .slice (some ⟨gg, 0, none⟩) (j + 1) cap, .slice (some ⟨gv, 0, none⟩) (j + 1) capv, cv, hlt, rfl, ?_⟩
    rw [lvN_succ, Int.natCast_add]
    exact HP9
   case measure => simp only [intOf]; omega
  ·obtain rfl : j = c := by omega
   obtain ⟨l, rfl, rfl, rfl, hi⟩ := HS.out.is (fun z hz => by
    obtain ⟨m, hm, rfl⟩ := List.mem_map.1 hz
    have := List.mem_range.1 hm
    omega) (fun v hv => by rw [List.eq_of_mem_replicate hv]; decide) (fun z hz => by cases hz) (by rw [show (lvN x j).keys.length = j from lvK_len x j, show (lvN x j).vals.length = j from List.length_replicate]; exact ⟨by unfold maxLen; omega, by unfold maxLen; omega, Nat.zero_le _⟩)
   have HX : Hid (NdBox wr q l (lvN x j)) := Hi ⟨HS.out.c0, HS.out.c1, HS.out.c2⟩
   have HB := Hi HS.out.below
   have HLY := Hi (Lay_yes hi HR.out)
   obtain ⟨t, HT⟩ : ∃ t : ByteArray, Hid (t = ⟨(layN (lvN x j)).toArray⟩) := Hy
   have HTL : Hid (t.data.toList = layN (lvN x j)) := Hi (by rw [HT.out])
   have HTS : Hid (t.size ≤ 120) := Hi (by rw [HT.out]; show (layN (lvN x j)).toArray.size ≤ 120; simpa using layN_fits HR.out)
   rw [← HT.out] at HLY
   clear hi HS
   go_wp2_with (with_reducible refine stop_at (o := ⟨some 31, _, _, _, _, _⟩) ?_)
   refine wpList_load_nd Tryz.ndProg (by rfl) _ rfl q rfl l (lvN x j) HX.out ?_
   go_wp2_with fail
   refine HLY.out.mono ?_
   rintro e w2 ⟨rfl, hb⟩
   have HB2 := Hi (HB.out.trans (hb.mono HB.out.size))
   have HL2 := Hi (HL.out.carry H HB2.out)
   have hQ2 : w2.cell? ⟨Q, 0, none⟩ = some (ptr P) := (HB2.out.cell (p := ⟨Q, 0, none⟩) (below_block HQ.out)).trans HQ.out
   have HNW := Hi (H.newYes HL2.out.pg HL2.out.inv HL2.out.up (HL2.out.laidK hg) HSO.out t HTS.out k HF.out)
   clear hb HLY HX
   go_wp2_with fail
   refine HNW.out.mono ?_
   rintro e w3 ⟨rfl, hpg, hk⟩
   rw [HTL.out] at hpg
   have HL3 : Hid (LawT O w0 K w3 P D n ⟨S.d.write k (pgB (pageP (layN (lvN x j)))), S.s.at_ k, upd S.data k (layN (lvN x j))⟩ firm) := Hi (HL2.out.turned hpg hk HIN.out HL2.out.up)
   have HK3 := Hi ((Kept.of_below HB2.out HL.out.there).trans hk)
   clear hk hpg HNW hQ2
   go_wp2_with fail
   go_ret
   exact ⟨rfl, HL3.out, HK3.out⟩
end
end Go.Proofs.YtafclmbecmgbnaaGreatDoor
