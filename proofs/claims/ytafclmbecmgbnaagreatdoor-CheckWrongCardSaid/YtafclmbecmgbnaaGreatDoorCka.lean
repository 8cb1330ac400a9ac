/-
  Cka: several texts in one file. Conditions: as each part says.
-/
import Derived.Test.YtafclmbecmgbnaaGreatDoorSm
import Derived.Test.YtafclmbecmgbnaaGreatDoorTa
import Derived.Test.YtafclmbecmgbnaaGreatDoorCells
/-
 ChkLoad. Conditions: as each theorem says.
-/
namespace Go.Proofs.YtafclmbecmgbnaaGreatDoor
open Go.RowKit
abbrev spV (sector level least end_ : Int) : Value := .agg #[.int .i64 sector, .int .i64 level, .int .i64 least, .int .i64 end_]
theorem chkFault_any (n : Int) (hn : n ≠ 0) (w : World) : Calls Tryz.prog 72 #[.int .i64 n] w (FromPost n w.heap.size w) := by
 go_enter Tryz.func72, Tryz.ntmps72
 go_wp2_with fail
 refine (Tag_from _ w.heap.size n _ w (.inr ⟨hn, .base⟩) (Nat.le_refl _)).mono ?_
 rintro e w' ⟨v, rfl, he, hb⟩
 have HE := Hi he
 have HB := Hi hb
 clear he hb
 go_wp2_with fail
 go_ret
 exact ⟨_, rfl, HE.out, HB.out⟩
section
variable {O : PgOwn} (H : PgSpec O)
include H
set_option maxRecDepth 100000 in
theorem chkLoad_any {w0 : World} {K : Nat → Prop} {w : World} {P D n : Nat} {S : TS} {firm : Nat → List UInt8} (hl : LawT O w0 K w P D n S firm) (hg : Laid2 w0) (i level lo hi : Int) :
  Calls Tryz.prog 117 #[ptr P, spV i level lo hi] w (LoadPost w (loadM S i level)) := by
 have hbn := Tryz.nodeNone
 have hz := Tryz.zeroNode
 obtain ⟨wb, HWB⟩ : ∃ wb, Hid (wb = w.alloc (.cells #[.int .i64 i, .int .i64 level, .int .i64 lo, .int .i64 hi] 176)) := Hy
 obtain ⟨p, HPP⟩ : ∃ p, Hid (p = wb.heap.size) := Hy
 obtain ⟨w1, HW1⟩ : ∃ w1, Hid (w1 = wb.alloc (.cells #[.slice none 0 0, .slice none 0 0, .slice none 0 0] 48)) := Hy
 have HBB : Hid (Below w.heap.size w wb) := Hi (by rw [HWB.out]; exact (Below.refl _ _).alloc (Nat.le_refl _) _)
 have HB1 : Hid (Below w.heap.size w w1) := Hi (by rw [HW1.out]; exact HBB.out.alloc HBB.out.size _)
 have HX1 : Hid (NdBox w1 p Lay3.none_ Nd.empty) := Hi (by rw [HW1.out, HPP.out]; exact NdBox.new (l := Lay3.none_) (x := Nd.empty) _)
 have HFZ : Hid (∀ j, w1.frozen? ⟨p, j, none⟩ = false) := Hi (by rw [HW1.out, HPP.out]; exact frozen_new1 _ _ _)
 have HPL : Hid (p < w1.heap.size) := Hi (by rw [HW1.out, HPP.out]; simp)
 have HLP : Hid (w.heap.size ≤ p) := Hi (by rw [HPP.out]; exact HBB.out.size)
 have HPW : Hid (p = w.heap.size + 1) := Hi (by rw [HPP.out, HWB.out]; simp)
 have HWW : Hid (w1 = (w.alloc (.cells #[.int .i64 i, .int .i64 level, .int .i64 lo, .int .i64 hi] 176)).alloc (.cells #[.slice none 0 0, .slice none 0 0, .slice none 0 0] 48)) := Hi (by rw [HW1.out, HWB.out])
 have HL1 := Hi (hl.carry H HB1.out)
 have HLA := Hi (HL1.out.laid hg)
 clear hl
 by_cases h12 : 12 < level
 ·have HM : Hid (loadM S i level = .error 2) := Hi (by unfold loadM; rw [if_pos h12])
  rw [HM.out]
  go_enter Tryz.func117, Tryz.ntmps117
  go_wp2_with fail
  rw [← HWW.out, ← HPW.out]
  clear HW1 HPP HWB HBB HWW HPW
  refine (chkFault_any 2 (by decide) _).mono ?_
  rintro e w2 ⟨v, rfl, he, hb⟩
  have HE := Hi he
  have HB2 := Hi (HB1.out.trans (hb.mono HB1.out.size))
  have HX2 := Hi (HX1.out.carry hb HPL.out)
  have f0 := frozen_below hb HPL.out HFZ.out 0
  have f1 := frozen_below hb HPL.out HFZ.out 1
  have f2 := frozen_below hb HPL.out HFZ.out 2
  have d0 := HX2.out.c0
  have d1 := HX2.out.c1
  have d2 := HX2.out.c2
  obtain ⟨w3, HWw3⟩ : ∃ w3, Hid (w3 = ((w2.setCell ⟨p, 0, none⟩ (.slice none 0 0)).setCell ⟨p, 1, none⟩ (.slice none 0 0)).setCell ⟨p, 2, none⟩ (.slice none 0 0)) := Hy
  have HSw3 : Hid (w3 = store3 w2 p Lay3.none_ Nd.empty) := Hi HWw3.out
  have HXw3 : Hid (NdBox w3 p Lay3.none_ Nd.empty) := Hi (by rw [HSw3.out]; exact store3_box HX2.out)
  have HB3 : Hid (Below w.heap.size w w3) := Hi (by rw [HSw3.out]; exact store3_below HB2.out HLP.out)
  have HE3 : Hid (ErrFrom w3 w.heap.size 2 v) := Hi (by rw [HSw3.out]; exact (store3_err HE.out HPL.out).mono HB1.out.size)
  clear he hb HE HB2 HX2
  go_wp2_with fail
  rw [← HWw3.out]
  exact bodyPost_ret (results_nd2 Tryz.ndProg rfl _ _ p Lay3.none_ Nd.empty v rfl rfl HXw3.out) rfl ⟨by decide, v, rfl, HE3.out, HB3.out⟩
 ·cases hin : isInZ S.s i with
  | false =>
   have HM : Hid (loadM S i level = .error 4) := Hi (by unfold loadM; rw [if_neg h12, show inZ S.s i = isInZ S.s i from rfl, hin, if_neg (by decide)])
   rw [HM.out]
   have HLD := Hi (H.load HL1.out.pg HL1.out.inv HL1.out.up HLA.out.crc i)
   rw [hin] at HLD
   go_enter Tryz.func117, Tryz.ntmps117
   go_wp2_with fail
   rw [← HWW.out, ← HPW.out]
   clear HW1 HPP HWB HBB HWW HPW
   refine HLD.out.mono ?_
   rintro e w2 ⟨v, rfl, he, hb⟩
   rw [if_neg (by decide)] at he
   obtain ⟨tt, xx, rfl⟩ := he.some (by decide)
   rw [if_neg (by decide)]
   obtain ⟨v1, HV1⟩ : ∃ v1, Hid (v1 = Value.iface tt xx) := Hy
   have HE1 : Hid (ErrFrom w2 w1.heap.size 4 v1) := Hi (by rw [HV1.out]; exact he)
   have HBA := Hi hb
   clear he hb HLD
   go_wp2_with fail
   rw [← HV1.out]
   refine (Tag_from _ w1.heap.size 4 v1 w2 HE1.out HBA.out.size).mono ?_
   rintro e w4 ⟨v, rfl, he, hb4⟩
   have hb := HBA.out.trans (hb4.mono HBA.out.size)
   clear hb4 HBA HE1 HV1
   have HE := Hi he
   have HB2 := Hi (HB1.out.trans (hb.mono HB1.out.size))
   have HX2 := Hi (HX1.out.carry hb HPL.out)
   have f0 := frozen_below hb HPL.out HFZ.out 0
   have f1 := frozen_below hb HPL.out HFZ.out 1
   have f2 := frozen_below hb HPL.out HFZ.out 2
   have d0 := HX2.out.c0
   have d1 := HX2.out.c1
   have d2 := HX2.out.c2
   obtain ⟨w3, HWw3⟩ : ∃ w3, Hid (w3 = ((w4.setCell ⟨p, 0, none⟩ (.slice none 0 0)).setCell ⟨p, 1, none⟩ (.slice none 0 0)).setCell ⟨p, 2, none⟩ (.slice none 0 0)) := Hy
   have HSw3 : Hid (w3 = store3 w4 p Lay3.none_ Nd.empty) := Hi HWw3.out
   have HXw3 : Hid (NdBox w3 p Lay3.none_ Nd.empty) := Hi (by rw [HSw3.out]; exact store3_box HX2.out)
   have HB3 : Hid (Below w.heap.size w w3) := Hi (by rw [HSw3.out]; exact store3_below HB2.out HLP.out)
   have HE3 : Hid (ErrFrom w3 w.heap.size 4 v) := Hi (by rw [HSw3.out]; exact (store3_err HE.out HPL.out).mono HB1.out.size)
   clear he hb HE HB2 HX2
   go_wp2_with fail
   rw [← HWw3.out]
   exact bodyPost_ret (results_nd2 Tryz.ndProg rfl _ _ p Lay3.none_ Nd.empty v rfl rfl HXw3.out) rfl ⟨by decide, v, rfl, HE3.out, HB3.out⟩
  | true =>
   obtain ⟨dt, HDT⟩ : ∃ dt, Hid (dt = S.data i.toNat) := Hy
   have HM : Hid (loadM S i level = match readN dt with | some x => .ok x | none => .error 2) := Hi (by unfold loadM; rw [if_neg h12, show inZ S.s i = isInZ S.s i from rfl, hin, if_pos rfl, HDT.out]; cases readN (S.data i.toNat) <;> rfl)
   have HLD := Hi (H.load HL1.out.pg HL1.out.inv HL1.out.up HLA.out.crc i)
   rw [hin, if_pos rfl, if_pos rfl, ← HDT.out] at HLD
   go_enter Tryz.func117, Tryz.ntmps117
   go_wp2_with fail
   rw [← HWW.out, ← HPW.out]
   clear HW1 HPP HWB HBB HWW HPW
   refine HLD.out.mono ?_
   rintro e w2 ⟨v, rfl, he, hb⟩
   obtain rfl := he.zero
   have HB2 := Hi (HB1.out.trans (hb.mono HB1.out.size))
   have HX2 := Hi (HX1.out.carry hb HPL.out)
   have HF2 : Hid (∀ j, w2.frozen? ⟨p, j, none⟩ = false) := Hi (frozen_below hb HPL.out HFZ.out)
   clear he hb HLD HX1 HFZ HB1
   obtain ⟨ss, HSS⟩ : ∃ ss : ByteArray, Hid (ss = ⟨dt.toArray⟩) := Hy
   rw [show txt dt = Value.string ss by rw [HSS.out]; rfl]
   have HRD := Hi (NdRead_any w2 ss)
   rw [show ss.data.toList = dt by rw [HSS.out]] at HRD
   go_wp2_with fail
   refine HRD.out.mono ?_
   rintro e w4 hrp
   obtain ⟨l, x, v1, c, rfl, he, hwh, hb⟩ : ∃ l x v1 c, e = .returned (.tuple #[ndV l x, v1]) ∧ ErrFrom w4 w2.heap.size c v1 ∧ ((c = 2 ∧ readN dt = none ∧ l = Lay3.none_ ∧ x = Nd.empty) ∨ (c = 0 ∧ readN dt = some x ∧ NdMine w4 w2.heap.size l x)) ∧ Below w2.heap.size w2 w4 := by
    rcases hrp with ⟨hr, v, rfl, he, hb⟩ | ⟨x, l, hr, rfl, hn, hb⟩
    ·exact ⟨_, _, v, 2, rfl, he, .inl ⟨rfl, hr, rfl, rfl⟩, hb⟩
    ·exact ⟨l, x, _, 0, rfl, .nil _ _, .inr ⟨rfl, hr, hn⟩, hb⟩
   have HWH := Hi hwh
   have HNP : Hid (¬ l.has p) := Hi (by
    rcases hwh with ⟨_, _, rfl, _⟩ | ⟨_, _, hn⟩
    ·exact Lay3.has_none p
    ·intro h
     have := (hn.lt p h).1
     have := HX2.out.lt
     omega)
   obtain ⟨q, HQQ⟩ : ∃ q, Hid (q = w4.heap.size) := Hy
   obtain ⟨w5, HW5⟩ : ∃ w5, Hid (w5 = w4.alloc (.cells #[.slice l.A x.keys.length l.ca, .slice l.B x.vals.length l.cb, .slice l.C x.kids.length l.cc] 48)) := Hy
   have HB45 : Hid (Below w4.heap.size w4 w5) := Hi (by rw [HW5.out]; exact (Below.refl _ _).alloc (Nat.le_refl _) _)
   have HE5 : Hid (ErrFrom w5 w2.heap.size c v1) := Hi (he.below HB45.out)
   have HS5 : Hid (LdS w p q l x w5) := Hi (by
    have hb5 := hb.trans (HB45.out.mono hb.size)
    refine ⟨HX2.out.carry hb5 HX2.out.lt, ?_, fun j => frozen_below hb5 HX2.out.lt HF2.out j, ?_, HB2.out.trans (hb5.mono HB2.out.size), HLP.out⟩
    ·rw [HW5.out, HQQ.out]; exact NdBox.new (l := l) (x := x) _
    ·rw [HQQ.out]; exact Nat.lt_of_lt_of_le HX2.out.lt hb.size)
   have HP2 : Hid (p < w2.heap.size ∧ w.heap.size ≤ w2.heap.size ∧ w2.heap.size ≤ w5.heap.size) := Hi ⟨HX2.out.lt, HB2.out.size, Nat.le_trans hb.size HB45.out.size⟩
   have HN5 : Hid (∀ w', Below w5.heap.size w5 w' → (c = 2 ∧ readN dt = none ∧ l = Lay3.none_ ∧ x = Nd.empty) ∨ (c = 0 ∧ readN dt = some x ∧ NdMine w' w2.heap.size l x)) := Hi (fun w' hb' => hwh.imp id fun h => ⟨h.1, h.2.1, (h.2.2.carry HB45.out).carry hb'⟩)
   clear he hb HRD HX2 HF2 HB2 HB45 hwh HWH hrp
   go_upto_region 7 with (fail)
   rw [← HW5.out, ← HQQ.out]
   clear HW5 HQQ
   refine wp_region_held (S := fun w9 => NdBox w9 q l x) (by kernel_rfl) ?_
   change wpAnyH _ _ _ _ _ _ _ _ w5.drew
   obtain ⟨wa, HWA⟩ : ∃ wa, Hid (wa = w5.drew) := Hy
   rw [← HWA.out]
   have hS : NdBox wa q l x := by rw [HWA.out]; exact HS5.out.b.carry (Below.refl _ _).drew HS5.out.b.lt
   have HBA : Hid (Below w5.heap.size w5 wa) := Hi (by rw [HWA.out]; exact (Below.refl _ _).drew)
   clear HWA
   refine takeJ (i := 0) 31 (v := ndV l x) rfl rfl (yieldsIf_nd Tryz.ndProg (by rfl) _ rfl q rfl l x (fun _ h => h)) hS ?_
   simp only [Act.put, pU]
   refine takeK (i := 1) 32 (v := v1) rfl rfl hS ?_
   simp only [Act.put, pU]
   refine oneH (i := 2) (oi := ⟨some 33, _, _, _, _, _⟩) rfl (by kernel_rfl) (fun K hK => ?_)
   go_simp
   refine (Tag_from _ w2.heap.size c v1 wa (HE5.out.below HBA.out) (Nat.le_trans HP2.out.2.2 HBA.out.size)).mono ?_
   rintro e wn ⟨vv, rfl, he, hb⟩
   have hS2 := hS.carry hb hS.lt
   have HEE := Hi he
   have HBN := Hi (HBA.out.trans (hb.mono HBA.out.size))
   clear he hb hS
   refine hK.out _ _ hS2 ?_
   clear hK K
   have hS := hS2
   clear hS2
   refine oneH (i := 3) (oi := ⟨none, _, _, _, _, _⟩) rfl (by kernel_rfl) (fun K hK => ?_)
   have HSS := Hi (HS5.out.carry HBN.out)
   have HAA := Hi HSS.out.a
   have f0 := HSS.out.fz 0
   have f1 := HSS.out.fz 1
   have f2 := HSS.out.fz 2
   have d0 := HAA.out.c0
   have d1 := HAA.out.c1
   have d2 := HAA.out.c2
   obtain ⟨w6, HWw6⟩ : ∃ w6, Hid (w6 = ((wn.setCell ⟨p, 0, none⟩ (.slice l.A x.keys.length l.ca)).setCell ⟨p, 1, none⟩ (.slice l.B x.vals.length l.cb)).setCell ⟨p, 2, none⟩ (.slice l.C x.kids.length l.cc)) := Hy
   have HSw6 : Hid (w6 = store3 wn p l x) := Hi HWw6.out
   have HXw6 : Hid (NdBox w6 p l x) := Hi (by rw [HSw6.out]; exact store3_box HAA.out)
   go_simp
   rw [← HWw6.out]
   have hS2 : NdBox w6 q l x := by
    rw [HSw6.out]
    exact hS.keep (store3_far (by have := HSS.out.pq; omega))
   refine hK.out _ _ hS2 ?_
   clear hK K hS
   have hS := hS2
   clear hS2
   refine takeK (i := 4) 5 (v := vv) rfl rfl hS ?_
   simp only [Act.put, pU]
   refine wpAnyH_done (by kernel_rfl) ?_ _
   have HB6 : Hid (Below w.heap.size w w6) := Hi (by rw [HSw6.out]; exact store3_below HSS.out.below HLP.out)
   have HE6 : Hid (ErrFrom w6 w.heap.size c vv) := Hi (by rw [HSw6.out]; exact (store3_err HEE.out HP2.out.1).mono HP2.out.2.1)
   go_wp2_with fail
   rw [HM.out]
   refine bodyPost_ret (results_nd2 Tryz.ndProg rfl _ _ p l x vv rfl rfl HXw6.out) rfl ?_
   rcases HN5.out _ HBN.out with ⟨rfl, hr, rfl, rfl⟩ | ⟨rfl, hr, hn⟩
   ·rw [hr]
    exact ⟨by decide, vv, rfl, HE6.out, HB6.out⟩
   ·obtain rfl := HE6.out.zero
    rw [hr]
    exact ⟨readN_right hr, l, rfl, by rw [HSw6.out]; exact (store3_mine hn HNP.out).mono HP2.out.2.1, HB6.out⟩
end
end Go.Proofs.YtafclmbecmgbnaaGreatDoor

/-
 ChkFits. Conditions: as each theorem says.
-/
namespace Go.Proofs.YtafclmbecmgbnaaGreatDoor
open Go.RowKit
def fitsN (x : Nd) (level least end_ : Int) : Bool := decide ((if level = 1 then 1 else 3) ≤ x.keys.length) && (decide (least ≤ x.keys.getD 0 0) && decide (x.keys.getD (x.keys.length - 1) 0 < end_))
structure FitS (w : World) (p q : Nat) (l : Lay3) (x : Nd) (s lv lo hi : Int) (wr : World) : Prop where
 cp : CopyS w p l x wr
 c0 : wr.cell? ⟨q, 0, none⟩ = some (.int .i64 s)
 c1 : wr.cell? ⟨q, 1, none⟩ = some (.int .i64 lv)
 c2 : wr.cell? ⟨q, 2, none⟩ = some (.int .i64 lo)
 c3 : wr.cell? ⟨q, 3, none⟩ = some (.int .i64 hi)
 pq : q = p + 1
theorem FitS.new {w : World} {l : Lay3} {x : Nd} (h : NdIs w l x) (s lv lo hi : Int) : FitS w w.heap.size (w.heap.size + 1) l x s lv lo hi ((w.alloc (.cells #[.slice l.A x.keys.length l.ca, .slice l.B x.vals.length l.cb, .slice l.C x.kids.length l.cc] 48)).alloc (.cells #[.int .i64 s, .int .i64 lv, .int .i64 lo, .int .i64 hi] 176)) := by
 obtain ⟨w1, HW1⟩ : ∃ w1, w1 = w.alloc (.cells #[.slice l.A x.keys.length l.ca, .slice l.B x.vals.length l.cb, .slice l.C x.kids.length l.cc] 48) := ⟨_, rfl⟩
 have h1 : CopyS w w.heap.size l x w1 := by rw [HW1]; exact CopyS.new h
 have hs : w1.heap.size = w.heap.size + 1 := by rw [HW1]; simp
 rw [← HW1, ← hs]
 have hc := COwn.new (w := w1) [.int .i64 s, .int .i64 lv, .int .i64 lo, .int .i64 hi] 176
 exact ⟨h1.carry ((Below.refl _ _).alloc (Nat.le_refl _) _), hc.cell rfl, hc.cell rfl, hc.cell rfl, hc.cell rfl, hs⟩
structure FitC (p q : Nat) (A : Addr) (many ca j : Nat) (k0 k1 lo hi : Int) (w : World) : Prop where
 c0 : w.cell? ⟨p, 0, none⟩ = some (.slice (some A) many ca)
 hc : w.cell? A = some (.int .i64 k0)
 hd : w.cell? (A.add j) = some (.int .i64 k1)
 e2 : w.cell? ⟨q, 2, none⟩ = some (.int .i64 lo)
 e3 : w.cell? ⟨q, 3, none⟩ = some (.int .i64 hi)
set_option maxHeartbeats 2000000 in
set_option maxRecDepth 100000 in
theorem chkFits_any {w : World} {l : Lay3} {x : Nd} (h : NdIs w l x) (s lv lo hi : Int) : Calls Tryz.prog 118 #[ndV l x, spV s lv lo hi] w
  fun e w' => e = .returned (.bool (fitsN x lv lo hi)) ∧ Below w.heap.size w w' := by
 obtain ⟨p, HPP⟩ : ∃ p, Hid (p = w.heap.size) := Hy
 obtain ⟨q, HQQ⟩ : ∃ q, Hid (q = w.heap.size + 1) := Hy
 obtain ⟨w1, HW1⟩ : ∃ w1, Hid (w1 = (w.alloc (.cells #[.slice l.A x.keys.length l.ca, .slice l.B x.vals.length l.cb, .slice l.C x.kids.length l.cc] 48)).alloc (.cells #[.int .i64 s, .int .i64 lv, .int .i64 lo, .int .i64 hi] 176)) := Hy
 have HS1 : Hid (FitS w p q l x s lv lo hi w1) := Hi (by rw [HW1.out, HPP.out, HQQ.out]; exact FitS.new h s lv lo hi)
 have HKL := Hi h.kl
 clear h
 have c0 := HS1.out.cp.b.c0
 have e1 := HS1.out.c1
 obtain ⟨least, HLE⟩ : ∃ m : Nat, Hid (m = if lv = 1 then 1 else 3) := Hy
 have h1 : 1 ≤ least ∧ least ≤ 3 := by rw [HLE.out]; split <;> decide
 by_cases hm : least ≤ x.keys.length
 ·obtain ⟨A, HA, hc⟩ := nums_cell HS1.out.cp.is.keys (i := 0) (by omega)
  obtain ⟨A2, HA2, hd⟩ := nums_cell HS1.out.cp.is.keys (i := x.keys.length - 1) (by omega)
  obtain rfl : A = A2 := by rw [HA] at HA2; exact Option.some.inj HA2
  have hc0 : w1.cell? A = some (.int .i64 (x.keys[0]'(by omega))) := by have := hc; unfold Addr.add at this; simpa using this
  obtain ⟨k0, HK0⟩ : ∃ z, Hid (z = x.keys[0]'(by omega)) := Hy
  obtain ⟨k1, HK1⟩ : ∃ z, Hid (z = x.keys[x.keys.length - 1]'(by omega)) := Hy
  have HR : Hid (fitsN x lv lo hi = (decide (lo ≤ k0) && decide (k1 < hi))) := Hi (by
   unfold fitsN
   rw [← HLE.out, decide_eq_true hm, Bool.true_and, HK0.out, HK1.out, List.getD_eq_getElem?_getD, List.getElem?_eq_getElem (by omega), List.getD_eq_getElem?_getD, List.getElem?_eq_getElem (by omega)]; rfl)
  rw [HR.out]
  rw [← HK0.out] at hc0
  rw [← HK1.out] at hd
  rw [HA] at c0
  obtain ⟨j, HJ⟩ : ∃ j, Hid (x.keys.length = j + 1) := ⟨x.keys.length - 1, Hi (by omega)⟩
  obtain ⟨many, HMA⟩ : ∃ m, Hid (m = x.keys.length) := Hy
  have hjw : wrap64 ((many : Int) - 1) = (j : Int) := by have := HJ.out; have := HMA.out; have := HKL.out; unfold maxLen at this; unfold wrap64; omega
  rw [show x.keys.length - 1 = j by have := HJ.out; omega] at hd
  rw [← HMA.out] at c0 hm
  have hjl : (j : Int) < (many : Int) := by have := HJ.out; have := HMA.out; omega
  have hm0 : (0 : Int) < (many : Int) := by omega
  have HFC : Hid (FitC p q A many l.ca j k0 k1 lo hi w1.drew) := Hi ⟨c0, hc0, hd, HS1.out.c2, HS1.out.c3⟩
  clear HA HA2 HR HK0 HK1 HJ hc hd hc0
  by_cases hlv : lv = 1
  ·have HLV := Hi hlv
   have hm1 : (1 : Int) ≤ (many : Int) := by rw [HLE.out, if_pos hlv] at hm; omega
   clear hm HLE h1 hlv
   by_cases hlo : lo ≤ k0
   ·by_cases hhi : k1 < hi
    ·rw [decide_eq_true hlo, decide_eq_true hhi, show (true && true) = true from rfl]
     go_enter Tryz.func118, Tryz.ntmps118
     go_upto_region 1 with (fail)
     rw [← HW1.out, ← HQQ.out, ← HPP.out]
     clear HW1 HQQ HPP
     have hlv := HLV.out
     go_upto_region 5 with (fail)
     clear hlv
     refine wp_region_held (S := FitC p q A many l.ca j k0 k1 lo hi) (by kernel_rfl) ?_
     change wpAnyH _ _ _ _ _ _ _ _ w1.drew
     obtain ⟨wa, HWA⟩ : ∃ wa, Hid (wa = w1.drew) := Hy
     rw [← HWA.out]
     have hS : FitC p q A many l.ca j k0 k1 lo hi wa := by rw [HWA.out]; exact HFC.out
     have HBA : Hid (Below w.heap.size w wa) := Hi (by rw [HWA.out]; exact HS1.out.cp.below.drew)
     clear HWA
     refine takeK (i := 0) 13 (v := .int .i64 (many : Int)) rfl rfl hS ?_
     simp only [Act.put, pU]
     refine takeK (i := 1) 14 (v := .int .i64 1) rfl rfl hS ?_
     simp only [Act.put, pU]
     refine takeK (i := 2) 15 (v := .bool true) rfl rfl hS ?_
     simp only [Act.put, pU]
     refine takeK (i := 3) 16 (v := .bool true) rfl rfl hS ?_
     simp only [Act.put, pU]
     refine takeK (i := 4) 17 (v := .pointer (some ⟨p, 0, none⟩)) rfl rfl hS ?_
     simp only [Act.put, pU]
     refine takeJ (i := 5) 18 (v := .slice (some A) many l.ca) rfl rfl (.inl ⟨by rfl, fun _ h => by have c0 := h.c0; go_simp⟩) hS ?_
     simp only [Act.put, pU]
     refine takeJ (i := 6) 19 (v := .pointer (some A)) rfl rfl (.inl ⟨by rfl, fun _ _ => by go_simp; intro; omega⟩) hS ?_
     simp only [Act.put, pU]
     refine takeJ (i := 7) 20 (v := .int .i64 k0) rfl rfl (.inl ⟨by rfl, fun _ h => by have c0 := h.hc; go_simp⟩) hS ?_
     simp only [Act.put, pU]
     refine takeK (i := 8) 21 (v := .pointer (some ⟨q, 2, none⟩)) rfl rfl hS ?_
     simp only [Act.put, pU]
     refine takeJ (i := 9) 22 (v := .int .i64 lo) rfl rfl (.inl ⟨by rfl, fun _ h => by have c0 := h.e2; go_simp⟩) hS ?_
     simp only [Act.put, pU]
     refine takeK (i := 10) 23 (v := .bool true) rfl rfl hS ?_
     simp only [Act.put, pU]
     refine takeK (i := 11) 24 (v := .bool true) rfl rfl hS ?_
     simp only [Act.put, pU]
     refine takeK (i := 12) 25 (v := .bool true) rfl rfl hS ?_
     simp only [Act.put, pU]
     refine takeK (i := 13) 26 (v := .pointer (some ⟨p, 0, none⟩)) rfl rfl hS ?_
     simp only [Act.put, pU]
     refine takeJ (i := 14) 27 (v := .slice (some A) many l.ca) rfl rfl (.inl ⟨by rfl, fun _ h => by have c0 := h.c0; go_simp⟩) hS ?_
     simp only [Act.put, pU]
     refine takeK (i := 15) 28 (v := .int .i64 (many : Int)) rfl rfl hS ?_
     simp only [Act.put, pU]
     refine takeJ (i := 16) 29 (v := .int .i64 (j : Int)) rfl rfl (.inl ⟨by rfl, fun _ _ => by go_simp; rw [IntKind.wrap_i64]; unfold wrap64 at hjw; exact hjw⟩) hS ?_
     simp only [Act.put, pU]
     refine takeK (i := 17) 30 (v := .pointer (some (A.add j))) rfl rfl hS ?_
     simp only [Act.put, pU]
     refine takeJ (i := 18) 31 (v := .int .i64 k1) rfl rfl (.inl ⟨by rfl, fun _ h => by have c0 := h.hd; go_simp⟩) hS ?_
     simp only [Act.put, pU]
     refine takeK (i := 19) 32 (v := .pointer (some ⟨q, 3, none⟩)) rfl rfl hS ?_
     simp only [Act.put, pU]
     refine takeJ (i := 20) 33 (v := .int .i64 hi) rfl rfl (.inl ⟨by rfl, fun _ h => by have c0 := h.e3; go_simp⟩) hS ?_
     simp only [Act.put, pU]
     refine takeK (i := 21) 34 (v := .bool true) rfl rfl hS ?_
     simp only [Act.put, pU]
     refine takeK (i := 22) 35 (v := .bool true) rfl rfl hS ?_
     simp only [Act.put, pU]
     refine takeK (i := 23) 4 (v := .bool true) rfl rfl hS ?_
     simp only [Act.put, pU]
     refine wpAnyH_done (by kernel_rfl) ?_ _
     go_wp2_with fail
     go_ret
     exact ⟨rfl, HBA.out⟩
    ·rw [decide_eq_true hlo, decide_eq_false hhi, show (true && false) = false from rfl]
     go_enter Tryz.func118, Tryz.ntmps118
     go_upto_region 1 with (fail)
     rw [← HW1.out, ← HQQ.out, ← HPP.out]
     clear HW1 HQQ HPP
     have hlv := HLV.out
     go_upto_region 5 with (fail)
     clear hlv
     refine wp_region_held (S := FitC p q A many l.ca j k0 k1 lo hi) (by kernel_rfl) ?_
     change wpAnyH _ _ _ _ _ _ _ _ w1.drew
     obtain ⟨wa, HWA⟩ : ∃ wa, Hid (wa = w1.drew) := Hy
     rw [← HWA.out]
     have hS : FitC p q A many l.ca j k0 k1 lo hi wa := by rw [HWA.out]; exact HFC.out
     have HBA : Hid (Below w.heap.size w wa) := Hi (by rw [HWA.out]; exact HS1.out.cp.below.drew)
     clear HWA
     refine takeK (i := 0) 13 (v := .int .i64 (many : Int)) rfl rfl hS ?_
     simp only [Act.put, pU]
     refine takeK (i := 1) 14 (v := .int .i64 1) rfl rfl hS ?_
     simp only [Act.put, pU]
     refine takeK (i := 2) 15 (v := .bool true) rfl rfl hS ?_
     simp only [Act.put, pU]
     refine takeK (i := 3) 16 (v := .bool true) rfl rfl hS ?_
     simp only [Act.put, pU]
     refine takeK (i := 4) 17 (v := .pointer (some ⟨p, 0, none⟩)) rfl rfl hS ?_
     simp only [Act.put, pU]
     refine takeJ (i := 5) 18 (v := .slice (some A) many l.ca) rfl rfl (.inl ⟨by rfl, fun _ h => by have c0 := h.c0; go_simp⟩) hS ?_
     simp only [Act.put, pU]
     refine takeJ (i := 6) 19 (v := .pointer (some A)) rfl rfl (.inl ⟨by rfl, fun _ _ => by go_simp; intro; omega⟩) hS ?_
     simp only [Act.put, pU]
     refine takeJ (i := 7) 20 (v := .int .i64 k0) rfl rfl (.inl ⟨by rfl, fun _ h => by have c0 := h.hc; go_simp⟩) hS ?_
     simp only [Act.put, pU]
     refine takeK (i := 8) 21 (v := .pointer (some ⟨q, 2, none⟩)) rfl rfl hS ?_
     simp only [Act.put, pU]
     refine takeJ (i := 9) 22 (v := .int .i64 lo) rfl rfl (.inl ⟨by rfl, fun _ h => by have c0 := h.e2; go_simp⟩) hS ?_
     simp only [Act.put, pU]
     refine takeK (i := 10) 23 (v := .bool true) rfl rfl hS ?_
     simp only [Act.put, pU]
     refine takeK (i := 11) 24 (v := .bool true) rfl rfl hS ?_
     simp only [Act.put, pU]
     refine takeK (i := 12) 25 (v := .bool true) rfl rfl hS ?_
     simp only [Act.put, pU]
     refine takeK (i := 13) 26 (v := .pointer (some ⟨p, 0, none⟩)) rfl rfl hS ?_
     simp only [Act.put, pU]
     refine takeJ (i := 14) 27 (v := .slice (some A) many l.ca) rfl rfl (.inl ⟨by rfl, fun _ h => by have c0 := h.c0; go_simp⟩) hS ?_
     simp only [Act.put, pU]
     refine takeK (i := 15) 28 (v := .int .i64 (many : Int)) rfl rfl hS ?_
     simp only [Act.put, pU]
     refine takeJ (i := 16) 29 (v := .int .i64 (j : Int)) rfl rfl (.inl ⟨by rfl, fun _ _ => by go_simp; rw [IntKind.wrap_i64]; unfold wrap64 at hjw; exact hjw⟩) hS ?_
     simp only [Act.put, pU]
     refine takeK (i := 17) 30 (v := .pointer (some (A.add j))) rfl rfl hS ?_
     simp only [Act.put, pU]
     refine takeJ (i := 18) 31 (v := .int .i64 k1) rfl rfl (.inl ⟨by rfl, fun _ h => by have c0 := h.hd; go_simp⟩) hS ?_
     simp only [Act.put, pU]
     refine takeK (i := 19) 32 (v := .pointer (some ⟨q, 3, none⟩)) rfl rfl hS ?_
     simp only [Act.put, pU]
     refine takeJ (i := 20) 33 (v := .int .i64 hi) rfl rfl (.inl ⟨by rfl, fun _ h => by have c0 := h.e3; go_simp⟩) hS ?_
     simp only [Act.put, pU]
     refine takeK (i := 21) 34 (v := .bool false) rfl rfl hS ?_
     simp only [Act.put, pU]
     refine takeK (i := 22) 35 (v := .bool false) rfl rfl hS ?_
     simp only [Act.put, pU]
     refine takeK (i := 23) 4 (v := .bool false) rfl rfl hS ?_
     simp only [Act.put, pU]
     refine wpAnyH_done (by kernel_rfl) ?_ _
     go_wp2_with fail
     go_ret
     exact ⟨rfl, HBA.out⟩
   ·rw [decide_eq_false hlo, Bool.false_and]
    go_enter Tryz.func118, Tryz.ntmps118
    go_upto_region 1 with (fail)
    rw [← HW1.out, ← HQQ.out, ← HPP.out]
    clear HW1 HQQ HPP
    have hlv := HLV.out
    go_upto_region 5 with (fail)
    clear hlv
    refine wp_region_held (S := FitC p q A many l.ca j k0 k1 lo hi) (by kernel_rfl) ?_
    change wpAnyH _ _ _ _ _ _ _ _ w1.drew
    obtain ⟨wa, HWA⟩ : ∃ wa, Hid (wa = w1.drew) := Hy
    rw [← HWA.out]
    have hS : FitC p q A many l.ca j k0 k1 lo hi wa := by rw [HWA.out]; exact HFC.out
    have HBA : Hid (Below w.heap.size w wa) := Hi (by rw [HWA.out]; exact HS1.out.cp.below.drew)
    clear HWA
    refine takeK (i := 0) 13 (v := .int .i64 (many : Int)) rfl rfl hS ?_
    simp only [Act.put, pU]
    refine takeK (i := 1) 14 (v := .int .i64 1) rfl rfl hS ?_
    simp only [Act.put, pU]
    refine takeK (i := 2) 15 (v := .bool true) rfl rfl hS ?_
    simp only [Act.put, pU]
    refine takeK (i := 3) 16 (v := .bool true) rfl rfl hS ?_
    simp only [Act.put, pU]
    refine takeK (i := 4) 17 (v := .pointer (some ⟨p, 0, none⟩)) rfl rfl hS ?_
    simp only [Act.put, pU]
    refine takeJ (i := 5) 18 (v := .slice (some A) many l.ca) rfl rfl (.inl ⟨by rfl, fun _ h => by have c0 := h.c0; go_simp⟩) hS ?_
    simp only [Act.put, pU]
    refine takeJ (i := 6) 19 (v := .pointer (some A)) rfl rfl (.inl ⟨by rfl, fun _ _ => by go_simp; intro; omega⟩) hS ?_
    simp only [Act.put, pU]
    refine takeJ (i := 7) 20 (v := .int .i64 k0) rfl rfl (.inl ⟨by rfl, fun _ h => by have c0 := h.hc; go_simp⟩) hS ?_
    simp only [Act.put, pU]
    refine takeK (i := 8) 21 (v := .pointer (some ⟨q, 2, none⟩)) rfl rfl hS ?_
    simp only [Act.put, pU]
    refine takeJ (i := 9) 22 (v := .int .i64 lo) rfl rfl (.inl ⟨by rfl, fun _ h => by have c0 := h.e2; go_simp⟩) hS ?_
    simp only [Act.put, pU]
    refine takeK (i := 10) 23 (v := .bool false) rfl rfl hS ?_
    simp only [Act.put, pU]
    refine takeK (i := 11) 24 (v := .bool false) rfl rfl hS ?_
    simp only [Act.put, pU]
    refine takeK (i := 12) 25 (v := .bool false) rfl rfl hS ?_
    simp only [Act.put, pU]
    refine takeJ (i := 13) 26 (v := undef) rfl rfl (.inr ⟨by rfl, rfl⟩) hS ?_
    simp only [Act.put, pU]
    refine takeJ (i := 14) 27 (v := undef) rfl rfl (.inr ⟨by rfl, rfl⟩) hS ?_
    simp only [Act.put, pU]
    refine takeJ (i := 15) 28 (v := undef) rfl rfl (.inr ⟨by rfl, rfl⟩) hS ?_
    simp only [Act.put, pU]
    refine takeJ (i := 16) 29 (v := undef) rfl rfl (.inr ⟨by rfl, rfl⟩) hS ?_
    simp only [Act.put, pU]
    refine takeJ (i := 17) 30 (v := undef) rfl rfl (.inr ⟨by rfl, rfl⟩) hS ?_
    simp only [Act.put, pU]
    refine takeJ (i := 18) 31 (v := undef) rfl rfl (.inr ⟨by rfl, rfl⟩) hS ?_
    simp only [Act.put, pU]
    refine takeJ (i := 19) 32 (v := undef) rfl rfl (.inr ⟨by rfl, rfl⟩) hS ?_
    simp only [Act.put, pU]
    refine takeJ (i := 20) 33 (v := undef) rfl rfl (.inr ⟨by rfl, rfl⟩) hS ?_
    simp only [Act.put, pU]
    refine takeJ (i := 21) 34 (v := undef) rfl rfl (.inr ⟨by rfl, rfl⟩) hS ?_
    simp only [Act.put, pU]
    refine takeK (i := 22) 35 (v := .bool false) rfl rfl hS ?_
    simp only [Act.put, pU]
    refine takeK (i := 23) 4 (v := .bool false) rfl rfl hS ?_
    simp only [Act.put, pU]
    refine wpAnyH_done (by kernel_rfl) ?_ _
    go_wp2_with fail
    go_ret
    exact ⟨rfl, HBA.out⟩
  ·have HLV := Hi hlv
   have hm1 : (3 : Int) ≤ (many : Int) := by rw [HLE.out, if_neg hlv] at hm; omega
   clear hm HLE h1 hlv
   by_cases hlo : lo ≤ k0
   ·by_cases hhi : k1 < hi
    ·rw [decide_eq_true hlo, decide_eq_true hhi, show (true && true) = true from rfl]
     go_enter Tryz.func118, Tryz.ntmps118
     go_upto_region 1 with (fail)
     rw [← HW1.out, ← HQQ.out, ← HPP.out]
     clear HW1 HQQ HPP
     have hlv := HLV.out
     go_upto_region 5 with (fail)
     clear hlv
     refine wp_region_held (S := FitC p q A many l.ca j k0 k1 lo hi) (by kernel_rfl) ?_
     change wpAnyH _ _ _ _ _ _ _ _ w1.drew
     obtain ⟨wa, HWA⟩ : ∃ wa, Hid (wa = w1.drew) := Hy
     rw [← HWA.out]
     have hS : FitC p q A many l.ca j k0 k1 lo hi wa := by rw [HWA.out]; exact HFC.out
     have HBA : Hid (Below w.heap.size w wa) := Hi (by rw [HWA.out]; exact HS1.out.cp.below.drew)
     clear HWA
     refine takeK (i := 0) 13 (v := .int .i64 (many : Int)) rfl rfl hS ?_
     simp only [Act.put, pU]
     refine takeK (i := 1) 14 (v := .int .i64 3) rfl rfl hS ?_
     simp only [Act.put, pU]
     refine takeK (i := 2) 15 (v := .bool true) rfl rfl hS ?_
     simp only [Act.put, pU]
     refine takeK (i := 3) 16 (v := .bool true) rfl rfl hS ?_
     simp only [Act.put, pU]
     refine takeK (i := 4) 17 (v := .pointer (some ⟨p, 0, none⟩)) rfl rfl hS ?_
     simp only [Act.put, pU]
     refine takeJ (i := 5) 18 (v := .slice (some A) many l.ca) rfl rfl (.inl ⟨by rfl, fun _ h => by have c0 := h.c0; go_simp⟩) hS ?_
     simp only [Act.put, pU]
     refine takeJ (i := 6) 19 (v := .pointer (some A)) rfl rfl (.inl ⟨by rfl, fun _ _ => by go_simp; intro; omega⟩) hS ?_
     simp only [Act.put, pU]
     refine takeJ (i := 7) 20 (v := .int .i64 k0) rfl rfl (.inl ⟨by rfl, fun _ h => by have c0 := h.hc; go_simp⟩) hS ?_
     simp only [Act.put, pU]
     refine takeK (i := 8) 21 (v := .pointer (some ⟨q, 2, none⟩)) rfl rfl hS ?_
     simp only [Act.put, pU]
     refine takeJ (i := 9) 22 (v := .int .i64 lo) rfl rfl (.inl ⟨by rfl, fun _ h => by have c0 := h.e2; go_simp⟩) hS ?_
     simp only [Act.put, pU]
     refine takeK (i := 10) 23 (v := .bool true) rfl rfl hS ?_
     simp only [Act.put, pU]
     refine takeK (i := 11) 24 (v := .bool true) rfl rfl hS ?_
     simp only [Act.put, pU]
     refine takeK (i := 12) 25 (v := .bool true) rfl rfl hS ?_
     simp only [Act.put, pU]
     refine takeK (i := 13) 26 (v := .pointer (some ⟨p, 0, none⟩)) rfl rfl hS ?_
     simp only [Act.put, pU]
     refine takeJ (i := 14) 27 (v := .slice (some A) many l.ca) rfl rfl (.inl ⟨by rfl, fun _ h => by have c0 := h.c0; go_simp⟩) hS ?_
     simp only [Act.put, pU]
     refine takeK (i := 15) 28 (v := .int .i64 (many : Int)) rfl rfl hS ?_
     simp only [Act.put, pU]
     refine takeJ (i := 16) 29 (v := .int .i64 (j : Int)) rfl rfl (.inl ⟨by rfl, fun _ _ => by go_simp; rw [IntKind.wrap_i64]; unfold wrap64 at hjw; exact hjw⟩) hS ?_
     simp only [Act.put, pU]
     refine takeK (i := 17) 30 (v := .pointer (some (A.add j))) rfl rfl hS ?_
     simp only [Act.put, pU]
     refine takeJ (i := 18) 31 (v := .int .i64 k1) rfl rfl (.inl ⟨by rfl, fun _ h => by have c0 := h.hd; go_simp⟩) hS ?_
     simp only [Act.put, pU]
     refine takeK (i := 19) 32 (v := .pointer (some ⟨q, 3, none⟩)) rfl rfl hS ?_
     simp only [Act.put, pU]
     refine takeJ (i := 20) 33 (v := .int .i64 hi) rfl rfl (.inl ⟨by rfl, fun _ h => by have c0 := h.e3; go_simp⟩) hS ?_
     simp only [Act.put, pU]
     refine takeK (i := 21) 34 (v := .bool true) rfl rfl hS ?_
     simp only [Act.put, pU]
     refine takeK (i := 22) 35 (v := .bool true) rfl rfl hS ?_
     simp only [Act.put, pU]
     refine takeK (i := 23) 4 (v := .bool true) rfl rfl hS ?_
     simp only [Act.put, pU]
     refine wpAnyH_done (by kernel_rfl) ?_ _
     go_wp2_with fail
     go_ret
     exact ⟨rfl, HBA.out⟩
    ·rw [decide_eq_true hlo, decide_eq_false hhi, show (true && false) = false from rfl]
     go_enter Tryz.func118, Tryz.ntmps118
     go_upto_region 1 with (fail)
     rw [← HW1.out, ← HQQ.out, ← HPP.out]
     clear HW1 HQQ HPP
     have hlv := HLV.out
     go_upto_region 5 with (fail)
     clear hlv
     refine wp_region_held (S := FitC p q A many l.ca j k0 k1 lo hi) (by kernel_rfl) ?_
     change wpAnyH _ _ _ _ _ _ _ _ w1.drew
     obtain ⟨wa, HWA⟩ : ∃ wa, Hid (wa = w1.drew) := Hy
     rw [← HWA.out]
     have hS : FitC p q A many l.ca j k0 k1 lo hi wa := by rw [HWA.out]; exact HFC.out
     have HBA : Hid (Below w.heap.size w wa) := Hi (by rw [HWA.out]; exact HS1.out.cp.below.drew)
     clear HWA
     refine takeK (i := 0) 13 (v := .int .i64 (many : Int)) rfl rfl hS ?_
     simp only [Act.put, pU]
     refine takeK (i := 1) 14 (v := .int .i64 3) rfl rfl hS ?_
     simp only [Act.put, pU]
     refine takeK (i := 2) 15 (v := .bool true) rfl rfl hS ?_
     simp only [Act.put, pU]
     refine takeK (i := 3) 16 (v := .bool true) rfl rfl hS ?_
     simp only [Act.put, pU]
     refine takeK (i := 4) 17 (v := .pointer (some ⟨p, 0, none⟩)) rfl rfl hS ?_
     simp only [Act.put, pU]
     refine takeJ (i := 5) 18 (v := .slice (some A) many l.ca) rfl rfl (.inl ⟨by rfl, fun _ h => by have c0 := h.c0; go_simp⟩) hS ?_
     simp only [Act.put, pU]
     refine takeJ (i := 6) 19 (v := .pointer (some A)) rfl rfl (.inl ⟨by rfl, fun _ _ => by go_simp; intro; omega⟩) hS ?_
     simp only [Act.put, pU]
     refine takeJ (i := 7) 20 (v := .int .i64 k0) rfl rfl (.inl ⟨by rfl, fun _ h => by have c0 := h.hc; go_simp⟩) hS ?_
     simp only [Act.put, pU]
     refine takeK (i := 8) 21 (v := .pointer (some ⟨q, 2, none⟩)) rfl rfl hS ?_
     simp only [Act.put, pU]
     refine takeJ (i := 9) 22 (v := .int .i64 lo) rfl rfl (.inl ⟨by rfl, fun _ h => by have c0 := h.e2; go_simp⟩) hS ?_
     simp only [Act.put, pU]
     refine takeK (i := 10) 23 (v := .bool true) rfl rfl hS ?_
     simp only [Act.put, pU]
     refine takeK (i := 11) 24 (v := .bool true) rfl rfl hS ?_
     simp only [Act.put, pU]
     refine takeK (i := 12) 25 (v := .bool true) rfl rfl hS ?_
     simp only [Act.put, pU]
     refine takeK (i := 13) 26 (v := .pointer (some ⟨p, 0, none⟩)) rfl rfl hS ?_
     simp only [Act.put, pU]
     refine takeJ (i := 14) 27 (v := .slice (some A) many l.ca) rfl rfl (.inl ⟨by rfl, fun _ h => by have c0 := h.c0; go_simp⟩) hS ?_
     simp only [Act.put, pU]
     refine takeK (i := 15) 28 (v := .int .i64 (many : Int)) rfl rfl hS ?_
     simp only [Act.put, pU]
     refine takeJ (i := 16) 29 (v := .int .i64 (j : Int)) rfl rfl (.inl ⟨by rfl, fun _ _ => by go_simp; rw [IntKind.wrap_i64]; unfold wrap64 at hjw; exact hjw⟩) hS ?_
     simp only [Act.put, pU]
     refine takeK (i := 17) 30 (v := .pointer (some (A.add j))) rfl rfl hS ?_
     simp only [Act.put, pU]
     refine takeJ (i := 18) 31 (v := .int .i64 k1) rfl rfl (.inl ⟨by rfl, fun _ h => by have c0 := h.hd; go_simp⟩) hS ?_
     simp only [Act.put, pU]
     refine takeK (i := 19) 32 (v := .pointer (some ⟨q, 3, none⟩)) rfl rfl hS ?_
     simp only [Act.put, pU]
     refine takeJ (i := 20) 33 (v := .int .i64 hi) rfl rfl (.inl ⟨by rfl, fun _ h => by have c0 := h.e3; go_simp⟩) hS ?_
     simp only [Act.put, pU]
     refine takeK (i := 21) 34 (v := .bool false) rfl rfl hS ?_
     simp only [Act.put, pU]
     refine takeK (i := 22) 35 (v := .bool false) rfl rfl hS ?_
     simp only [Act.put, pU]
     refine takeK (i := 23) 4 (v := .bool false) rfl rfl hS ?_
     simp only [Act.put, pU]
     refine wpAnyH_done (by kernel_rfl) ?_ _
     go_wp2_with fail
     go_ret
     exact ⟨rfl, HBA.out⟩
   ·rw [decide_eq_false hlo, Bool.false_and]
    go_enter Tryz.func118, Tryz.ntmps118
    go_upto_region 1 with (fail)
    rw [← HW1.out, ← HQQ.out, ← HPP.out]
    clear HW1 HQQ HPP
    have hlv := HLV.out
    go_upto_region 5 with (fail)
    clear hlv
    refine wp_region_held (S := FitC p q A many l.ca j k0 k1 lo hi) (by kernel_rfl) ?_
    change wpAnyH _ _ _ _ _ _ _ _ w1.drew
    obtain ⟨wa, HWA⟩ : ∃ wa, Hid (wa = w1.drew) := Hy
    rw [← HWA.out]
    have hS : FitC p q A many l.ca j k0 k1 lo hi wa := by rw [HWA.out]; exact HFC.out
    have HBA : Hid (Below w.heap.size w wa) := Hi (by rw [HWA.out]; exact HS1.out.cp.below.drew)
    clear HWA
    refine takeK (i := 0) 13 (v := .int .i64 (many : Int)) rfl rfl hS ?_
    simp only [Act.put, pU]
    refine takeK (i := 1) 14 (v := .int .i64 3) rfl rfl hS ?_
    simp only [Act.put, pU]
    refine takeK (i := 2) 15 (v := .bool true) rfl rfl hS ?_
    simp only [Act.put, pU]
    refine takeK (i := 3) 16 (v := .bool true) rfl rfl hS ?_
    simp only [Act.put, pU]
    refine takeK (i := 4) 17 (v := .pointer (some ⟨p, 0, none⟩)) rfl rfl hS ?_
    simp only [Act.put, pU]
    refine takeJ (i := 5) 18 (v := .slice (some A) many l.ca) rfl rfl (.inl ⟨by rfl, fun _ h => by have c0 := h.c0; go_simp⟩) hS ?_
    simp only [Act.put, pU]
    refine takeJ (i := 6) 19 (v := .pointer (some A)) rfl rfl (.inl ⟨by rfl, fun _ _ => by go_simp; intro; omega⟩) hS ?_
    simp only [Act.put, pU]
    refine takeJ (i := 7) 20 (v := .int .i64 k0) rfl rfl (.inl ⟨by rfl, fun _ h => by have c0 := h.hc; go_simp⟩) hS ?_
    simp only [Act.put, pU]
    refine takeK (i := 8) 21 (v := .pointer (some ⟨q, 2, none⟩)) rfl rfl hS ?_
    simp only [Act.put, pU]
    refine takeJ (i := 9) 22 (v := .int .i64 lo) rfl rfl (.inl ⟨by rfl, fun _ h => by have c0 := h.e2; go_simp⟩) hS ?_
    simp only [Act.put, pU]
    refine takeK (i := 10) 23 (v := .bool false) rfl rfl hS ?_
    simp only [Act.put, pU]
    refine takeK (i := 11) 24 (v := .bool false) rfl rfl hS ?_
    simp only [Act.put, pU]
    refine takeK (i := 12) 25 (v := .bool false) rfl rfl hS ?_
    simp only [Act.put, pU]
    refine takeJ (i := 13) 26 (v := undef) rfl rfl (.inr ⟨by rfl, rfl⟩) hS ?_
    simp only [Act.put, pU]
    refine takeJ (i := 14) 27 (v := undef) rfl rfl (.inr ⟨by rfl, rfl⟩) hS ?_
    simp only [Act.put, pU]
    refine takeJ (i := 15) 28 (v := undef) rfl rfl (.inr ⟨by rfl, rfl⟩) hS ?_
    simp only [Act.put, pU]
    refine takeJ (i := 16) 29 (v := undef) rfl rfl (.inr ⟨by rfl, rfl⟩) hS ?_
    simp only [Act.put, pU]
    refine takeJ (i := 17) 30 (v := undef) rfl rfl (.inr ⟨by rfl, rfl⟩) hS ?_
    simp only [Act.put, pU]
    refine takeJ (i := 18) 31 (v := undef) rfl rfl (.inr ⟨by rfl, rfl⟩) hS ?_
    simp only [Act.put, pU]
    refine takeJ (i := 19) 32 (v := undef) rfl rfl (.inr ⟨by rfl, rfl⟩) hS ?_
    simp only [Act.put, pU]
    refine takeJ (i := 20) 33 (v := undef) rfl rfl (.inr ⟨by rfl, rfl⟩) hS ?_
    simp only [Act.put, pU]
    refine takeJ (i := 21) 34 (v := undef) rfl rfl (.inr ⟨by rfl, rfl⟩) hS ?_
    simp only [Act.put, pU]
    refine takeK (i := 22) 35 (v := .bool false) rfl rfl hS ?_
    simp only [Act.put, pU]
    refine takeK (i := 23) 4 (v := .bool false) rfl rfl hS ?_
    simp only [Act.put, pU]
    refine wpAnyH_done (by kernel_rfl) ?_ _
    go_wp2_with fail
    go_ret
    exact ⟨rfl, HBA.out⟩
 ·have HR : Hid (fitsN x lv lo hi = false) := Hi (by unfold fitsN; rw [← HLE.out, decide_eq_false hm, Bool.false_and])
  rw [HR.out]
  obtain ⟨many, HMA⟩ : ∃ m, Hid (m = x.keys.length) := Hy
  rw [← HMA.out] at c0 hm
  obtain ⟨A, HA⟩ : ∃ A, Hid (A = l.A) := Hy
  rw [← HA.out] at c0
  clear HR
  by_cases hlv : lv = 1
  ·have HLV := Hi hlv
   have hm1 : ¬ (1 : Int) ≤ (many : Int) := by rw [HLE.out, if_pos hlv] at hm; omega
   clear hm HLE h1 hlv
   go_enter Tryz.func118, Tryz.ntmps118
   go_upto_region 1 with (fail)
   rw [← HW1.out, ← HQQ.out, ← HPP.out]
   clear HW1 HQQ HPP
   have hlv := HLV.out
   go_upto_region 5 with (fail)
   clear hlv
   refine wp_region_held (S := fun _ => True) (by kernel_rfl) ?_
   change wpAnyH _ _ _ _ _ _ _ _ w1.drew
   obtain ⟨wa, HWA⟩ : ∃ wa, Hid (wa = w1.drew) := Hy
   rw [← HWA.out]
   have hS : True := trivial
   have HBA : Hid (Below w.heap.size w wa) := Hi (by rw [HWA.out]; exact HS1.out.cp.below.drew)
   clear HWA
   refine takeK (i := 0) 13 (v := .int .i64 (many : Int)) rfl rfl hS ?_
   simp only [Act.put, pU]
   refine takeK (i := 1) 14 (v := .int .i64 1) rfl rfl hS ?_
   simp only [Act.put, pU]
   refine takeK (i := 2) 15 (v := .bool false) rfl rfl hS ?_
   simp only [Act.put, pU]
   refine takeK (i := 3) 16 (v := .bool false) rfl rfl hS ?_
   simp only [Act.put, pU]
   refine takeJ (i := 4) 17 (v := undef) rfl rfl (.inr ⟨by rfl, rfl⟩) hS ?_
   simp only [Act.put, pU]
   refine takeJ (i := 5) 18 (v := undef) rfl rfl (.inr ⟨by rfl, rfl⟩) hS ?_
   simp only [Act.put, pU]
   refine takeJ (i := 6) 19 (v := undef) rfl rfl (.inr ⟨by rfl, rfl⟩) hS ?_
   simp only [Act.put, pU]
   refine takeJ (i := 7) 20 (v := undef) rfl rfl (.inr ⟨by rfl, rfl⟩) hS ?_
   simp only [Act.put, pU]
   refine takeJ (i := 8) 21 (v := undef) rfl rfl (.inr ⟨by rfl, rfl⟩) hS ?_
   simp only [Act.put, pU]
   refine takeJ (i := 9) 22 (v := undef) rfl rfl (.inr ⟨by rfl, rfl⟩) hS ?_
   simp only [Act.put, pU]
   refine takeJ (i := 10) 23 (v := undef) rfl rfl (.inr ⟨by rfl, rfl⟩) hS ?_
   simp only [Act.put, pU]
   refine takeK (i := 11) 24 (v := .bool false) rfl rfl hS ?_
   simp only [Act.put, pU]
   refine takeK (i := 12) 25 (v := .bool false) rfl rfl hS ?_
   simp only [Act.put, pU]
   refine takeJ (i := 13) 26 (v := undef) rfl rfl (.inr ⟨by rfl, rfl⟩) hS ?_
   simp only [Act.put, pU]
   refine takeJ (i := 14) 27 (v := undef) rfl rfl (.inr ⟨by rfl, rfl⟩) hS ?_
   simp only [Act.put, pU]
   refine takeJ (i := 15) 28 (v := undef) rfl rfl (.inr ⟨by rfl, rfl⟩) hS ?_
   simp only [Act.put, pU]
   refine takeJ (i := 16) 29 (v := undef) rfl rfl (.inr ⟨by rfl, rfl⟩) hS ?_
   simp only [Act.put, pU]
   refine takeJ (i := 17) 30 (v := undef) rfl rfl (.inr ⟨by rfl, rfl⟩) hS ?_
   simp only [Act.put, pU]
   refine takeJ (i := 18) 31 (v := undef) rfl rfl (.inr ⟨by rfl, rfl⟩) hS ?_
   simp only [Act.put, pU]
   refine takeJ (i := 19) 32 (v := undef) rfl rfl (.inr ⟨by rfl, rfl⟩) hS ?_
   simp only [Act.put, pU]
   refine takeJ (i := 20) 33 (v := undef) rfl rfl (.inr ⟨by rfl, rfl⟩) hS ?_
   simp only [Act.put, pU]
   refine takeJ (i := 21) 34 (v := undef) rfl rfl (.inr ⟨by rfl, rfl⟩) hS ?_
   simp only [Act.put, pU]
   refine takeK (i := 22) 35 (v := .bool false) rfl rfl hS ?_
   simp only [Act.put, pU]
   refine takeK (i := 23) 4 (v := .bool false) rfl rfl hS ?_
   simp only [Act.put, pU]
   refine wpAnyH_done (by kernel_rfl) ?_ _
   go_wp2_with fail
   go_ret
   exact ⟨rfl, HBA.out⟩
  ·have HLV := Hi hlv
   have hm1 : ¬ (3 : Int) ≤ (many : Int) := by rw [HLE.out, if_neg hlv] at hm; omega
   clear hm HLE h1 hlv
   go_enter Tryz.func118, Tryz.ntmps118
   go_upto_region 1 with (fail)
   rw [← HW1.out, ← HQQ.out, ← HPP.out]
   clear HW1 HQQ HPP
   have hlv := HLV.out
   go_upto_region 5 with (fail)
   clear hlv
   refine wp_region_held (S := fun _ => True) (by kernel_rfl) ?_
   change wpAnyH _ _ _ _ _ _ _ _ w1.drew
   obtain ⟨wa, HWA⟩ : ∃ wa, Hid (wa = w1.drew) := Hy
   rw [← HWA.out]
   have hS : True := trivial
   have HBA : Hid (Below w.heap.size w wa) := Hi (by rw [HWA.out]; exact HS1.out.cp.below.drew)
   clear HWA
   refine takeK (i := 0) 13 (v := .int .i64 (many : Int)) rfl rfl hS ?_
   simp only [Act.put, pU]
   refine takeK (i := 1) 14 (v := .int .i64 3) rfl rfl hS ?_
   simp only [Act.put, pU]
   refine takeK (i := 2) 15 (v := .bool false) rfl rfl hS ?_
   simp only [Act.put, pU]
   refine takeK (i := 3) 16 (v := .bool false) rfl rfl hS ?_
   simp only [Act.put, pU]
   refine takeJ (i := 4) 17 (v := undef) rfl rfl (.inr ⟨by rfl, rfl⟩) hS ?_
   simp only [Act.put, pU]
   refine takeJ (i := 5) 18 (v := undef) rfl rfl (.inr ⟨by rfl, rfl⟩) hS ?_
   simp only [Act.put, pU]
   refine takeJ (i := 6) 19 (v := undef) rfl rfl (.inr ⟨by rfl, rfl⟩) hS ?_
   simp only [Act.put, pU]
   refine takeJ (i := 7) 20 (v := undef) rfl rfl (.inr ⟨by rfl, rfl⟩) hS ?_
   simp only [Act.put, pU]
   refine takeJ (i := 8) 21 (v := undef) rfl rfl (.inr ⟨by rfl, rfl⟩) hS ?_
   simp only [Act.put, pU]
   refine takeJ (i := 9) 22 (v := undef) rfl rfl (.inr ⟨by rfl, rfl⟩) hS ?_
   simp only [Act.put, pU]
   refine takeJ (i := 10) 23 (v := undef) rfl rfl (.inr ⟨by rfl, rfl⟩) hS ?_
   simp only [Act.put, pU]
   refine takeK (i := 11) 24 (v := .bool false) rfl rfl hS ?_
   simp only [Act.put, pU]
   refine takeK (i := 12) 25 (v := .bool false) rfl rfl hS ?_
   simp only [Act.put, pU]
   refine takeJ (i := 13) 26 (v := undef) rfl rfl (.inr ⟨by rfl, rfl⟩) hS ?_
   simp only [Act.put, pU]
   refine takeJ (i := 14) 27 (v := undef) rfl rfl (.inr ⟨by rfl, rfl⟩) hS ?_
   simp only [Act.put, pU]
   refine takeJ (i := 15) 28 (v := undef) rfl rfl (.inr ⟨by rfl, rfl⟩) hS ?_
   simp only [Act.put, pU]
   refine takeJ (i := 16) 29 (v := undef) rfl rfl (.inr ⟨by rfl, rfl⟩) hS ?_
   simp only [Act.put, pU]
   refine takeJ (i := 17) 30 (v := undef) rfl rfl (.inr ⟨by rfl, rfl⟩) hS ?_
   simp only [Act.put, pU]
   refine takeJ (i := 18) 31 (v := undef) rfl rfl (.inr ⟨by rfl, rfl⟩) hS ?_
   simp only [Act.put, pU]
   refine takeJ (i := 19) 32 (v := undef) rfl rfl (.inr ⟨by rfl, rfl⟩) hS ?_
   simp only [Act.put, pU]
   refine takeJ (i := 20) 33 (v := undef) rfl rfl (.inr ⟨by rfl, rfl⟩) hS ?_
   simp only [Act.put, pU]
   refine takeJ (i := 21) 34 (v := undef) rfl rfl (.inr ⟨by rfl, rfl⟩) hS ?_
   simp only [Act.put, pU]
   refine takeK (i := 22) 35 (v := .bool false) rfl rfl hS ?_
   simp only [Act.put, pU]
   refine takeK (i := 23) 4 (v := .bool false) rfl rfl hS ?_
   simp only [Act.put, pU]
   refine wpAnyH_done (by kernel_rfl) ?_ _
   go_wp2_with fail
   go_ret
   exact ⟨rfl, HBA.out⟩
end Go.Proofs.YtafclmbecmgbnaaGreatDoor

/-
 ChkBelow. Conditions: as each theorem says.
-/
namespace Go.Proofs.YtafclmbecmgbnaaGreatDoor
open Go.RowKit
theorem Tryz.spotInfo : (Tryz.prog.info? 176).map (fun i => (i.zero, i.size, i.bytes)) = some (some (.agg #[.int .i64 0, .int .i64 0, .int .i64 0, .int .i64 0]), 4, 32) := by kernel_rfl
theorem Tryz.spotSize : (Tryz.prog.info? 176).map (·.size) = some 4 := by kernel_rfl
theorem Tryz.spotZero : ((Tryz.prog.info? 176).bind (·.zero)).isSome = true := by kernel_rfl
theorem Tryz.spotBuilt (a b c d : Int) : Tryz.prog.built 176 [(0, .int .i64 a), (1, .int .i64 b), (2, .int .i64 c), (3, .int .i64 d)] = some #[.int .i64 a, .int .i64 b, .int .i64 c, .int .i64 d] := by kernel_rfl
structure Sp where
 at_ : Int
 lv : Int
 lo : Int
 hi : Int
def spCells (s : Sp) : List Value := [.int .i64 s.at_, .int .i64 s.lv, .int .i64 s.lo, .int .i64 s.hi]
def endN (x : Nd) (hi : Int) (i : Nat) : Int := if i < x.keys.length then x.keys.getD i 0 else hi
def lowAt (x : Nd) (lo hi : Int) : Nat → Int
 | 0 => lo
 | i + 1 => endN x hi i
def belowK (x : Nd) (lv lo hi : Int) : Nat → List Sp
 | 0 => []
 | n + 1 => belowK x lv lo hi n ++ [⟨x.kids.getD n 0, lv + 1, lowAt x lo hi n, endN x hi n⟩]
def belowN (x : Nd) (lv lo hi : Int) : List Sp := belowK x lv lo hi x.kids.length
def spAll (l : List Sp) : List Value := l.flatMap spCells
theorem spAll_push (l : List Sp) (s : Sp) : spAll (l ++ [s]) = spAll l ++ spCells s := by simp [spAll]
theorem belowK_length (x : Nd) (lv lo hi : Int) : ∀ n, (belowK x lv lo hi n).length = n
 | 0 => rfl
 | n + 1 => by rw [belowK, List.length_append, belowK_length x lv lo hi n]; rfl
theorem FitS.carry {w : World} {p q : Nat} {l : Lay3} {x : Nd} {s lv lo hi : Int} {wr w' : World} (h : FitS w p q l x s lv lo hi wr) (hb : Below wr.heap.size wr w') (hq : q < wr.heap.size) : FitS w p q l x s lv lo hi w' :=
 ⟨h.cp.carry hb, (hb.cell (p := ⟨q, 0, none⟩) hq).trans h.c0, (hb.cell (p := ⟨q, 1, none⟩) hq).trans h.c1, (hb.cell (p := ⟨q, 2, none⟩) hq).trans h.c2, (hb.cell (p := ⟨q, 3, none⟩) hq).trans h.c3, h.pq⟩
theorem own_keep9 {w w' : World} {N : Nat} {T : TypeId} {s : Nat} {v : Value} {n : Nat} {xs : List Value} (h : w.ownsRow N T s v n xs) (hb : Below w.heap.size w w') : w'.ownsRow N T s v n xs := ownsRow_block h fun g hg => hb.block g (h.lt g hg).2
def BelRel (w1 : World) (x : Nd) (lv lo hi : Int) (v le i : Value) (wr : World) : Prop :=
 ∃ k, k ≤ x.kids.length ∧ i = .int .i64 (k : Int) ∧ le = .int .i64 (lowAt x lo hi k) ∧ wr.ownsRow w1.heap.size 176 4 v k (spAll (belowK x lv lo hi k)) ∧ Below w1.heap.size w1 wr
set_option maxHeartbeats 2000000 in
set_option maxRecDepth 100000 in
theorem chkBelow_any {w : World} {l : Lay3} {x : Nd} (h : NdIs w l x) (s lv lo hi : Int) (hlv : 0 ≤ lv ∧ lv ≤ 12) (hkn : x.kids.length ≤ 255) : Calls Tryz.prog 119 #[ndV l x, spV s lv lo hi] w
  fun e w' => ∃ v, e = .returned v ∧ w'.ownsRow w.heap.size 176 4 v x.kids.length (spAll (belowN x lv lo hi)) ∧ Below w.heap.size w w' := by
 obtain ⟨i0, hi0, hz0, hz1, hz2⟩ := info_parts Tryz.spotInfo
 obtain ⟨p, HPP⟩ : ∃ p, Hid (p = w.heap.size) := Hy
 obtain ⟨q, HQQ⟩ : ∃ q, Hid (q = w.heap.size + 1) := Hy
 obtain ⟨w1, HW1⟩ : ∃ w1, Hid (w1 = (w.alloc (.cells #[.slice l.A x.keys.length l.ca, .slice l.B x.vals.length l.cb, .slice l.C x.kids.length l.cc] 48)).alloc (.cells #[.int .i64 s, .int .i64 lv, .int .i64 lo, .int .i64 hi] 176)) := Hy
 have HS1 : Hid (FitS w p q l x s lv lo hi w1) := Hi (by rw [HW1.out, HPP.out, HQQ.out]; exact FitS.new h s lv lo hi)
 have HSZ : Hid (w1.heap.size = w.heap.size + 2 ∧ p < w1.heap.size ∧ q < w1.heap.size) := Hi (by rw [HW1.out, HPP.out, HQQ.out]; refine ⟨?_, ?_, ?_⟩ <;> simp <;> omega)
 have HKC : Hid (x.kids.length ≤ 255 ∧ x.keys.length ≤ maxLen) := Hi ⟨hkn, h.kl⟩
 have HLV := Hi hlv
 have c2 := HS1.out.cp.b.c2
 have e2 := HS1.out.c2
 obtain ⟨n, HN⟩ : ∃ n, Hid (n = x.kids.length) := Hy
 clear h hkn hlv
 go_enter Tryz.func119, Tryz.ntmps119
 go_upto_region 1 with (fail)
 rw [← HW1.out, ← HQQ.out, ← HPP.out]
 clear HW1 HQQ HPP
 rw [← HN.out] at c2
 go_wp2_with fail
 go_loopw [5, 6, 15] (fun v le i wr => BelRel w1 x lv lo hi v le i wr) (fun _ _ i _ => n - (intOf i).toNat)
 case atStart => exact ⟨0, Nat.zero_le _, rfl, rfl, World.ownsRow_nil _ _ _ _, Below.refl _ _⟩
 case round =>
  obtain ⟨k, hk, rfl, rfl, ho, hb⟩ := hrel
  have HO := Hi ho
  have HB := Hi hb
  have HF := Hi (HS1.out.carry hb HSZ.out.2.2)
  clear ho hb c2 e2
  have c2 := HF.out.cp.b.c2
  rw [← HN.out] at c2
  by_cases hlt : k < x.kids.length
  ·obtain ⟨C, HC, hc⟩ := nums_cell HF.out.cp.is.kids hlt
   rw [HC] at c2 ⊢
   obtain ⟨z, HZ⟩ : ∃ z, Hid (z = x.kids.getD k 0) := Hy
   rw [show x.kids[k] = z by rw [HZ.out, List.getD_eq_getElem?_getD, List.getElem?_eq_getElem hlt]; rfl] at hc
   obtain ⟨le, HLE⟩ : ∃ le, Hid (le = lowAt x lo hi k) := Hy
   rw [← HLE.out]
   have c0 := HF.out.cp.b.c0
   have e1 := HF.out.c1
   have e3 := HF.out.c3
   have hkn : (k : Int) < (n : Int) := by rw [HN.out]; omega
   have hadd : wrap64 (lv + 1) = lv + 1 := by have := HLV.out; unfold wrap64; omega
   have hbu := Tryz.spotBuilt z (lv + 1)
   obtain ⟨en, HEN⟩ : ∃ en, Hid (en = endN x hi k) := Hy
   obtain ⟨m, HM⟩ : ∃ m, Hid (m = x.keys.length) := Hy
   rw [← HM.out] at c0
   clear HC
   by_cases hm : k < x.keys.length
   ·obtain ⟨A, HA, hd⟩ := nums_cell HF.out.cp.is.keys hm
    rw [HA] at c0
    rw [show x.keys[k] = en by rw [HEN.out]; unfold endN; rw [if_pos hm, List.getD_eq_getElem?_getD, List.getElem?_eq_getElem hm]; rfl] at hd
    have hkm : (k : Int) < (m : Int) := by rw [HM.out]; omega
    clear HA hm
    go_wp2_with (with_reducible refine stop_at (o := ⟨some 40, _, _, _, _, _⟩) ?_)
    refine wpList_rows rfl 177 176 4 1 #[(0, .tmp 39)] rfl [[.int .i64 z, .int .i64 (lv + 1), .int .i64 le, .int .i64 en]] Tryz.underlying177 Tryz.spotSize Tryz.spotZero rfl (by decide) (by decide) (by simp) (by rfl) ?_
    intro w2 B HBB HRW HBE HBL
    go_wp2_with (with_reducible refine stop_at (o := ⟨some 41, _, _, _, _, _⟩) ?_)
    refine wpList_append_own _ rfl _ _ 177 rfl w1.heap.size 176 i0 _ 4 32 Tryz.underlying177 hi0 hz0 hz1 hz2 rfl (by decide) u5 k _ rfl (own_keep9 HO.out HBE.out) ⟨B, 0, none⟩ 1 1 [.int .i64 z, .int .i64 (lv + 1), .int .i64 le, .int .i64 en] rfl rfl (fun j u hu => by have := HRW.out 0 j _ u rfl hu; cases j <;> simpa [Addr.add] using this) (by simp [Value.oneCell']) (by have := HKC.out; unfold maxLen; omega) (by have := HKC.out; omega) (Nat.le_trans HB.out.size HBE.out.size) ?_
    intro v' w3 hown hgrow _
    have HO3 : Hid (w3.ownsRow w1.heap.size 176 4 v' (k + 1) (spAll (belowK x lv lo hi (k + 1)))) := Hi (by rw [show belowK x lv lo hi (k + 1) = belowK x lv lo hi k ++ [⟨x.kids.getD k 0, lv + 1, lowAt x lo hi k, endN x hi k⟩] from rfl, spAll_push, ← HZ.out, ← HLE.out, ← HEN.out]; exact hown)
    have HB3 : Hid (Below w1.heap.size w1 w3) := Hi (((HB.out.trans (HBE.out.mono HB.out.size))).grown hgrow (Nat.le_trans HB.out.size HBE.out.size) (fun g hg => ((own_keep9 HO.out HBE.out).lt g hg).1))
    clear hown hgrow HRW HBE HBL HBB HB HO
    go_wp2_with fail
    go_roundw
    case rel => exact ⟨k + 1, hlt, congrArg (Value.int .i64) (by have := HKC.out.1; unfold wrap64; omega), by rw [show lowAt x lo hi (k + 1) = endN x hi k from rfl, ← HEN.out], HO3.out, HB3.out⟩
    case measure => have := HKC.out.1; have := HN.out; rw [show wrap64 ((k : Int) + 1) = (k : Int) + 1 by unfold wrap64; omega]; simp [intOf]; omega
   ·obtain ⟨A, HA⟩ : ∃ A, Hid (A = l.A) := Hy
    rw [← HA.out] at c0
    obtain rfl : hi = en := by rw [HEN.out]; unfold endN; rw [if_neg hm]
    have hkm : ¬ (k : Int) < (m : Int) := by rw [HM.out]; omega
    clear HA hm
    go_wp2_with (with_reducible refine stop_at (o := ⟨some 40, _, _, _, _, _⟩) ?_)
    refine wpList_rows rfl 177 176 4 1 #[(0, .tmp 39)] rfl [[.int .i64 z, .int .i64 (lv + 1), .int .i64 le, .int .i64 hi]] Tryz.underlying177 Tryz.spotSize Tryz.spotZero rfl (by decide) (by decide) (by simp) (by rfl) ?_
    intro w2 B HBB HRW HBE HBL
    go_wp2_with (with_reducible refine stop_at (o := ⟨some 41, _, _, _, _, _⟩) ?_)
    refine wpList_append_own _ rfl _ _ 177 rfl w1.heap.size 176 i0 _ 4 32 Tryz.underlying177 hi0 hz0 hz1 hz2 rfl (by decide) u5 k _ rfl (own_keep9 HO.out HBE.out) ⟨B, 0, none⟩ 1 1 [.int .i64 z, .int .i64 (lv + 1), .int .i64 le, .int .i64 hi] rfl rfl (fun j u hu => by have := HRW.out 0 j _ u rfl hu; cases j <;> simpa [Addr.add] using this) (by simp [Value.oneCell']) (by have := HKC.out; unfold maxLen; omega) (by have := HKC.out; omega) (Nat.le_trans HB.out.size HBE.out.size) ?_
    intro v' w3 hown hgrow _
    have HO3 : Hid (w3.ownsRow w1.heap.size 176 4 v' (k + 1) (spAll (belowK x lv lo hi (k + 1)))) := Hi (by rw [show belowK x lv lo hi (k + 1) = belowK x lv lo hi k ++ [⟨x.kids.getD k 0, lv + 1, lowAt x lo hi k, endN x hi k⟩] from rfl, spAll_push, ← HZ.out, ← HLE.out, ← HEN.out]; exact hown)
    have HB3 : Hid (Below w1.heap.size w1 w3) := Hi (((HB.out.trans (HBE.out.mono HB.out.size))).grown hgrow (Nat.le_trans HB.out.size HBE.out.size) (fun g hg => ((own_keep9 HO.out HBE.out).lt g hg).1))
    clear hown hgrow HRW HBE HBL HBB HB HO
    go_wp2_with fail
    go_roundw
    case rel => exact ⟨k + 1, hlt, congrArg (Value.int .i64) (by have := HKC.out.1; unfold wrap64; omega), by rw [show lowAt x lo hi (k + 1) = endN x hi k from rfl, ← HEN.out], HO3.out, HB3.out⟩
    case measure => have := HKC.out.1; have := HN.out; rw [show wrap64 ((k : Int) + 1) = (k : Int) + 1 by unfold wrap64; omega]; simp [intOf]; omega
  ·obtain rfl : k = x.kids.length := by omega
   have hkn : ¬ ((x.kids.length : Nat) : Int) < (n : Int) := by rw [HN.out]; omega
   go_wp2_with fail
   go_ret
   exact ⟨u5, rfl, ownsRow_mono HO.out (by have := HSZ.out; omega), (HS1.out.cp.below).trans (HB.out.mono (by have := HSZ.out; omega))⟩
end Go.Proofs.YtafclmbecmgbnaaGreatDoor

/-
 ChkFirst. Conditions: as each theorem says.
-/
namespace Go.Proofs.YtafclmbecmgbnaaGreatDoor
open Go.RowKit
theorem chkMin_one {w : World} {g cap : Nat} {v : Value} (hv : w.cell? ⟨g, 0, none⟩ = some v) (F : Value) : Calls Tryz.prog 147 #[.slice (some ⟨g, 0, none⟩) 1 cap, F] w fun e w' => e = .returned v ∧ Below w.heap.size w w' := by
 have HV := Hi hv
 go_enter Tryz.func147, Tryz.ntmps147
 go_wp2_with fail
 go_loopw [5, 6] (fun m i wr => m = v ∧ i = .int .i64 1 ∧ Below w.heap.size w wr) (fun _ _ _ => 0)
 case atStart => exact ⟨rfl, rfl, Below.refl _ _⟩
 case round =>
  obtain ⟨rfl, rfl, hb⟩ := hrel
  have HB := Hi hb
  clear hb
  go_wp2_with fail
  go_ret
  exact ⟨rfl, HB.out⟩
theorem chkFirst_one {w : World} {g cap : Nat} {v : Value} (hv : w.cell? ⟨g, 0, none⟩ = some v) (hg : g < w.heap.size) : Calls Tryz.prog 120 #[.slice (some ⟨g, 0, none⟩) 1 cap] w fun e w' => e = .returned v ∧ Below w.heap.size w w' := by
 have HV := Hi hv
 have HG := Hi hg
 clear hv hg
 obtain ⟨w1, HW1⟩ : ∃ w1, Hid (w1 = (w.alloc (.cells #[.int .i64 9, .int .i64 4, .int .i64 7, .int .i64 1, .int .i64 3, .int .i64 2] 3)).alloc (.cells #[.slice (some ⟨w.heap.size, 0, none⟩) 6 6] 45)) := Hy
 have HB1 : Hid (Below w.heap.size w w1) := Hi (by rw [HW1.out]; exact ((Below.refl _ _).alloc (Nat.le_refl _) _).alloc (by simp) _)
 have HV1 := Hi ((HB1.out.cell (p := ⟨g, 0, none⟩) HG.out).trans HV.out)
 go_enter Tryz.func120, Tryz.ntmps120
 go_wp2_with fail
 rw [← HW1.out]
 refine (chkMin_one HV1.out _).mono ?_
 rintro e w2 ⟨rfl, hb⟩
 have HB2 := Hi (HB1.out.trans (hb.mono HB1.out.size))
 clear hb
 go_wp2_with fail
 go_ret
 exact ⟨rfl, HB2.out⟩
end Go.Proofs.YtafclmbecmgbnaaGreatDoor
