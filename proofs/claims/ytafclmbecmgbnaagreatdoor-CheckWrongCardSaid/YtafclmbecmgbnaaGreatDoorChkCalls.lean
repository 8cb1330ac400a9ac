/-
 ChkCalls. Conditions: as each theorem says.
-/
import Derived.Test.YtafclmbecmgbnaaGreatDoorSm
import Derived.Test.YtafclmbecmgbnaaGreatDoorChkSurvey
import Derived.Test.YtafclmbecmgbnaaGreatDoorSets
namespace Go.Proofs.YtafclmbecmgbnaaGreatDoor
open Go.RowKit Go.Maps
def Svd (S : TS) (root : Int) (s : Sv) : Prop :=
 (root = 0 ∧ s = ⟨[], [], 0, []⟩) ∨ (root ≠ 0 ∧ (-9223372036854775808 ≤ root ∧ root ≤ 9223372036854775807) ∧ s.wait = [] ∧ s.flt.length ≤ 1 ∧ (s.flt = [] → s.met.Nodup) ∧ ∃ N, N ≤ 3000 ∧ svRun S N (svBegin root) = s)
def fltZ (s : Sv) : Int := s.flt.headD 0
def depZ (s : Sv) : Int := if s.flt = [] then s.dep else 0
def sortZ (l : List Int) : List Int := l.mergeSort fun x y => decide (x ≤ y)
def PgsIs (w' : World) (b : Nat) (s : Sv) (v : Value) : Prop := (s.flt = [] → w'.ownsRow b 3 1 v s.met.length ((sortZ s.met).map (Value.int .i64))) ∧ (s.flt ≠ [] → v = .slice none 0 0)
def SvdPost (w : World) (s : Sv) (e : Ending) (w' : World) : Prop :=
 ∃ v u, e = .returned (.tuple #[v, .int .i64 (depZ s), u]) ∧ ErrFrom w' w.heap.size (fltZ s) u ∧ PgsIs w' w.heap.size s v ∧ Below w.heap.size w w'
section
variable {O : PgOwn} (H : PgSpec O)
include H
theorem survey_is {w0 : World} {K : Nat → Prop} {w : World} {P D n : Nat} {S : TS} {firm : Nat → List UInt8} (hl : LawT O w0 K w P D n S firm) (hg : Laid2 w0) {root : Int} {s : Sv} (h : Svd S root s) : Calls Tryz.prog 80 #[ptr P, .int .i64 root] w (SvdPost w s) := by
 rcases h with ⟨rfl, rfl⟩ | ⟨h0, h1, h2, h3, h4, N, h5, rfl⟩
 ·clear hl hg
  go_enter Tryz.func80, Tryz.ntmps80
  go_wp2_with fail
  go_ret3
  exact ⟨.slice none 0 0, .nilIface, rfl, .nil _ _, ⟨fun _ => by rw [show sortZ [] = [] by simp [sortZ]]; exact World.ownsRow_nil _ _ _ _, fun h => absurd rfl h⟩, Below.refl _ _⟩
 ·refine (survey_any H hl hg root h0 h1 N h5 h2 h3 h4).mono ?_
  rintro e w' ⟨hb, hp⟩
  obtain ⟨s, hs⟩ : ∃ s, s = svRun S N (svBegin root) := ⟨_, rfl⟩
  rw [← hs] at hp h4 h3 ⊢
  unfold SvdPost fltZ depZ PgsIs
  cases hf : s.flt with
  | nil =>
   rw [hf] at hp
   obtain ⟨v, rfl, h6⟩ := hp
   exact ⟨v, _, by rw [if_pos rfl], .nil _ _, ⟨fun _ => h6 (h4 hf), fun h => absurd rfl h⟩, hb⟩
  | cons c l =>
   rw [hf] at hp
   obtain ⟨v, rfl, h6⟩ := hp
   exact ⟨_, v, by rw [if_neg (by simp)], h6, ⟨(fun h => by cases h), fun _ => rfl⟩, hb⟩
theorem chkSound_is {w0 : World} {K : Nat → Prop} {w : World} {P D n : Nat} {S : TS} {firm : Nat → List UInt8} (hl : LawT O w0 K w P D n S firm) (hg : Laid2 w0) {root : Int} {s : Sv} (h : Svd S root s) : Calls Tryz.prog 31 #[ptr P, .int .i64 root] w (FromPost (fltZ s) w.heap.size w) := by
 have HC := Hi (survey_is H hl hg h)
 clear hl hg h
 go_enter Tryz.func31, Tryz.ntmps31
 go_wp2_with fail
 refine HC.out.mono ?_
 rintro e w' ⟨v, u, rfl, he, hp, hb⟩
 have HE := Hi he
 have HB := Hi hb
 clear he hb hp HC
 dsimp only
 go_wp2_with fail
 go_ret
 exact ⟨u, rfl, HE.out, HB.out⟩
theorem chkPages_is {w0 : World} {K : Nat → Prop} {w : World} {P D n : Nat} {S : TS} {firm : Nat → List UInt8} (hl : LawT O w0 K w P D n S firm) (hg : Laid2 w0) {root : Int} {s : Sv} (h : Svd S root s) : Calls Tryz.prog 32 #[ptr P, .int .i64 root] w
  fun e w' => ∃ v u, e = .returned (.tuple #[v, u]) ∧ ErrFrom w' w.heap.size (fltZ s) u ∧ PgsIs w' w.heap.size s v ∧ Below w.heap.size w w' := by
 have HC := Hi (survey_is H hl hg h)
 clear hl hg h
 go_enter Tryz.func32, Tryz.ntmps32
 go_wp2_with fail
 refine HC.out.mono ?_
 rintro e w' ⟨v, u, rfl, he, hp, hb⟩
 have HE := Hi he
 have HB := Hi hb
 have HP := Hi hp
 clear he hb hp HC
 dsimp only
 go_wp2_with fail
 go_ret2
 exact ⟨v, u, rfl, HE.out, HP.out, HB.out⟩
theorem chkDepth_is {w0 : World} {K : Nat → Prop} {w : World} {P D n : Nat} {S : TS} {firm : Nat → List UInt8} (hl : LawT O w0 K w P D n S firm) (hg : Laid2 w0) {root : Int} {s : Sv} (h : Svd S root s) : Calls Tryz.prog 33 #[ptr P, .int .i64 root] w
  fun e w' => ∃ u, e = .returned (.tuple #[.int .i64 (depZ s), u]) ∧ ErrFrom w' w.heap.size (fltZ s) u ∧ Below w.heap.size w w' := by
 have HC := Hi (survey_is H hl hg h)
 clear hl hg h
 go_enter Tryz.func33, Tryz.ntmps33
 go_wp2_with fail
 refine HC.out.mono ?_
 rintro e w' ⟨v, u, rfl, he, hp, hb⟩
 have HE := Hi he
 have HB := Hi hb
 clear he hb hp HC
 dsimp only
 go_wp2_with fail
 go_ret2
 exact ⟨u, rfl, HE.out, HB.out⟩
end
def setOfL (l : List Int) : List Nat := l.foldl withZ zeroSt
theorem setOfL_ok (l : List Int) : Bits.Ok (setOfL l) := by
 have : ∀ (l : List Int) (s : List Nat), Bits.Ok s → Bits.Ok (l.foldl withZ s) := by
  intro l
  induction l with
  | nil => intro s h; exact h
  | cons z l ih => intro s h; exact ih _ (withZ_ok h z)
 exact this l zeroSt noSt_ok
def wholeZ (S : TS) (s : Sv) : Int := if s.flt = [] then (if S.s.used = setOfL (sortZ s.met) then 0 else 2) else fltZ s
theorem setOfL_snoc (l : List Int) (z : Int) : setOfL (l ++ [z]) = withZ (setOfL l) z := by unfold setOfL; rw [List.foldl_append]; rfl
structure WhS (w : World) (b q : Nat) (v : Value) (l : List Int) (k : Nat) (wr : World) : Prop where
 set : SOwn wr q (setOfL (l.take k))
 row : wr.ownsRow b 3 1 v l.length (l.map (Value.int .i64))
 far : ∀ g, v.ownBlock = some g → g ≠ q
 below : Below w.heap.size w wr
 low : w.heap.size ≤ q
theorem setOfL_len (l : List Int) : (setOfL l).length = 30 := (setOfL_ok l).len
section
variable {O : PgOwn} (H : PgSpec O)
include H
set_option maxHeartbeats 1000000 in
set_option maxRecDepth 100000 in
theorem chkWhole_is {w0 : World} {K : Nat → Prop} {w : World} {P D n : Nat} {S : TS} {firm : Nat → List UInt8} (hl : LawT O w0 K w P D n S firm) (hg : Laid2 w0) {s : Sv} (h : Svd S S.s.sup.root s) : Calls Tryz.prog 24 #[ptr P] w (FromPost (wholeZ S s) w.heap.size w) := by
 have HL := Hi hl
 have HG := Hi hg
 have HSV := Hi h
 have hzs := Tryz.zeroSet
 clear hl hg h
 go_enter Tryz.func24, Tryz.ntmps24
 go_wp2_with fail
 refine (H.pgRoot HL.out.pg).mono ?_
 rintro e w1 ⟨rfl, hb⟩
 have HL1 := Hi (HL.out.carry H hb)
 have HB1 := Hi hb
 clear hb
 dsimp only
 go_wp2_with fail
 refine (chkPages_is H HL1.out HG.out HSV.out).mono ?_
 rintro e w2 ⟨v, u, rfl, he, hp, hb⟩
 have HL2 := Hi (HL1.out.carry H hb)
 have HB2 := Hi (HB1.out.trans (hb.mono HB1.out.size))
 have HE2 := Hi (he.mono HB1.out.size)
 have HP2 := Hi hp
 have HS1 := Hi HB1.out.size
 clear hb he hp HL1
 cases hf : s.flt with
 | cons c l =>
  have HF : Hid (wholeZ S s = fltZ s ∧ fltZ s = c) := Hi (by unfold wholeZ fltZ; rw [hf]; exact ⟨if_neg (by simp), rfl⟩)
  by_cases hc : c = 0
  ·have HC0 := Hi hc
   have hu := HE2.out
   rw [HF.out.2, hc] at hu
   obtain rfl := hu.zero
   have h3 := HP2.out.2 (by rw [hf]; simp)
   subst h3
   exact absurd hc (by
    rcases HSV.out with ⟨_, rfl⟩ | ⟨_, _, _, _, _, N, _, h⟩
    ·cases hf
    ·exact fun hc => (svRun_nz S N (s := svBegin S.s.sup.root) (fun c hc => by cases hc)) c (by rw [h, hf]; simp) hc)
  ·have hu := HE2.out
   rw [HF.out.2] at hu
   obtain ⟨tt, xx, rfl⟩ := hu.some hc
   have HU := Hi hu
   have HW : Hid (wholeZ S s = c) := Hi (by rw [HF.out.1, HF.out.2])
   clear hu hf hc
   dsimp only
   go_wp2_with fail
   go_ret
   rw [HW.out]
   exact ⟨_, rfl, HU.out, HB2.out⟩
 | nil =>
  have hu := HE2.out
  rw [show fltZ s = 0 by unfold fltZ; rw [hf]; rfl] at hu
  obtain rfl := hu.zero
  obtain ⟨l, HLL⟩ : ∃ l, Hid (l = sortZ s.met) := Hy
  have HLN : Hid (s.met.length = l.length) := Hi (by rw [HLL.out]; exact (List.mergeSort_perm _ _).length_eq.symm)
  have HROW : Hid (w2.ownsRow w1.heap.size 3 1 v l.length (l.map (Value.int .i64))) := Hi (by
   have := HP2.out.1 hf
   rw [HLN.out, ← HLL.out] at this
   exact this)
  have HWZ : Hid (wholeZ S s = if S.s.used = setOfL l then 0 else 2) := Hi (by unfold wholeZ; rw [if_pos hf, HLL.out])
  obtain ⟨st, HST⟩ : ∃ st, Hid (st = S.s.used) := Hy
  obtain ⟨nn, HNN⟩ : ∃ nn, Hid (nn = l.length) := Hy
  have HLB : Hid (l.length ≤ 3000) := Hi (by
   rw [← HLN.out]
   rcases HSV.out with ⟨_, rfl⟩ | ⟨_, _, _, _, _, N, h, rfl⟩
   ·simp
   ·have := svRun_met S N (svBegin S.s.sup.root)
    simp only [svBegin, List.length_nil] at this ⊢
    omega)
  obtain ⟨A, cap, hv, hA⟩ : ∃ A cap, v = .slice A l.length cap ∧ (0 < l.length → ∃ g, A = some ⟨g, 0, none⟩) := by
   rcases HROW.out.2 with ⟨h1, h2⟩ | ⟨g, cap, cur, h1, _⟩
   ·exact ⟨none, 0, by rw [h1, h2], fun h => by omega⟩
   ·exact ⟨_, cap, h1, fun _ => ⟨g, rfl⟩⟩
  subst hv
  have HAA := Hi hA
  clear hu hf HP2 HE2 hA
  rw [← HNN.out]
  dsimp only
  go_upto_region 5 with (fail)
  obtain ⟨q, HQQ⟩ : ∃ q, Hid (q = w2.heap.size) := Hy
  obtain ⟨wc, HWC⟩ : ∃ wc, Hid (wc = w2.alloc (.cells (stArr zeroSt) 63)) := Hy
  rw [← HWC.out, ← HQQ.out]
  have HW0 : Hid (WhS w w1.heap.size q (.slice A l.length cap) l 0 wc) := Hi (by
   rw [HWC.out, HQQ.out]
   have h3 := (Below.refl w2.heap.size w2).alloc (Nat.le_refl _) (.cells (stArr zeroSt) 63)
   refine ⟨by rw [List.take_zero]; exact SOwn.new _, HROW.out.alloc _, fun g hg => ?_, HB2.out.trans (h3.mono HB2.out.size), HB2.out.size⟩
   have := (HROW.out.lt g hg).2
   omega)
  clear HWC HQQ HROW HB2
  go_wp2_with fail
  go_loopw [20] (fun i wr => ∃ k, k ≤ l.length ∧ i = .int .i64 (k : Int) ∧ WhS w w1.heap.size q (.slice A l.length cap) l k wr) (fun i _ => l.length - (intOf i).toNat)
  case atStart => exact ⟨0, Nat.zero_le _, rfl, HW0.out⟩
  case round =>
   obtain ⟨k, hk, rfl, hs⟩ := hrel
   have HS := Hi hs
   clear hs HW0
   by_cases hlt : k < l.length
   ·obtain ⟨g, hg⟩ := HAA.out (by omega)
    subst hg
    obtain ⟨z, HZ⟩ : ∃ z, Hid (z = l[k]) := Hy
    have hc0 : wr.cell? ((⟨g, 0, none⟩ : Addr).add k) = some (.int .i64 z) := HS.out.row.cells rfl k _ (by rw [List.getElem?_map, List.getElem?_eq_getElem hlt, HZ.out]; rfl)
    have hc : wr.cell? ⟨g, k, none⟩ = some (.int .i64 z) := by rwa [show (⟨g, 0, none⟩ : Addr).add k = ⟨g, k, none⟩ by unfold Addr.add; split <;> simp_all] at hc0
    have hkn : (k : Int) < (nn : Int) := by rw [HNN.out]; omega
    obtain ⟨sk, HSK⟩ : ∃ sk, Hid (sk = setOfL (l.take k)) := Hy
    have HSO : Hid (SOwn wr q sk) := Hi (by rw [HSK.out]; exact HS.out.set)
    go_wp2_with (with_reducible refine set_stop (o := ⟨some 24, _, _, _, _, _⟩) ?_)
    unfold SetStop
    refine wpList_load_set (by rfl) _ rfl q rfl sk (by rw [HSK.out]; exact setOfL_len _) HSO.out.at_ ?_
    dsimp only [Act.put]
    go_wp2_with fail
    refine (With_any sk (by rw [HSK.out]; exact setOfL_ok _) z wr).mono ?_
    rintro e w3 ⟨rfl, hb⟩
    have HB3 := Hi hb
    have HSO3 := Hi (HSO.out.below hb (HSO.out.lt (by rw [HSK.out, setOfL_len]; decide)))
    clear hb hc hc0
    obtain ⟨sn, HSN⟩ : ∃ sn, Hid (sn = withZ sk z) := Hy
    rw [← HSN.out]
    dsimp only
    go_wp2_with (with_reducible refine set_stop (o := ⟨none, _, _, _, _, _⟩) ?_)
    unfold SetStop
    have HTK : Hid (sn = setOfL (l.take (k + 1))) := Hi (by
     rw [HSN.out, HSK.out, HZ.out, List.take_add_one, List.getElem?_eq_getElem hlt]
     exact (setOfL_snoc _ _).symm)
    refine wpList_store_set rfl _ _ rfl q sn sk (by rw [HTK.out]; exact setOfL_len _) (by rw [HSK.out]; exact setOfL_len _) rfl rfl HSO3.out ?_
    intro w4 HW4 HSO4
    have HS4 : Hid (WhS w w1.heap.size q (.slice (some ⟨g, 0, none⟩) l.length cap) l (k + 1) w4) := Hi (by
     have h3 := HS.out
     have h4 : Below w.heap.size w w3 := h3.below.trans (HB3.out.mono h3.below.size)
     refine ⟨by rw [← HTK.out]; exact HSO4.out, ?_, h3.far, below_cells_of h4 HW4.out h3.low, h3.low⟩
     refine ownsRow_block h3.row fun i hi => ?_
     rw [HW4.out, setCells_far9 q (h3.far i hi)]
     exact HB3.out.block i (h3.row.lt i hi).2)
    clear HS HB3 HSO HSO3 HW4 HSO4
    go_wp2_with fail
    go_roundw
    case rel => exact ⟨k + 1, hlt, congrArg (Value.int .i64) (by have := HLB.out; unfold wrap64; omega), HS4.out⟩
    case measure => have := HLB.out; rw [show wrap64 ((k : Int) + 1) = (k : Int) + 1 by unfold wrap64; omega]; simp [intOf]; omega
   ·obtain rfl : k = l.length := by omega
    have hkn : ¬ ((l.length : Nat) : Int) < (nn : Int) := by rw [HNN.out]; omega
    obtain ⟨sk, HSK⟩ : ∃ sk, Hid (sk = setOfL l) := Hy
    have HSO : Hid (SOwn wr q sk) := Hi (by have := HS.out.set; rw [List.take_length] at this; rw [HSK.out]; exact this)
    have HLW := Hi (HL.out.carry H HS.out.below)
    go_upto_region 10 with (fail)
    have HB9 := Hi HS.out.below
    have HSZ2 := HS1.out
    clear HS
    refine wp_region_held (S := fun w => SOwn w q sk) (by kernel_rfl) ?_
    change wpAnyH _ _ _ _ _ _ _ _ wr.drew
    obtain ⟨wa, HWA⟩ : ∃ wa, Hid (wa = wr.drew) := Hy
    rw [← HWA.out]
    have hS : SOwn wa q sk := by rw [HWA.out]; exact HSO.out.drew
    have HBA : Hid (Below wr.heap.size wr wa) := Hi (by rw [HWA.out]; exact (Below.refl _ _).drew)
    have HLA := Hi (HLW.out.carry H HBA.out)
    have HUA : Hid (Calls Tryz.prog 36 #[ptr P] wa fun e w' => e = .returned (stV st) ∧ Below wa.heap.size wa w') := Hi (by rw [HST.out]; exact H.used HLA.out.pg HLA.out.inv)
    have HSKL : Hid (sk.length = 30 ∧ st.length = 30) := Hi (by rw [HSK.out, HST.out]; exact ⟨setOfL_len _, HL.out.inv.usedOk.len⟩)
    clear HWA HSO
    refine takeK (i := 0) 28 (v := ptr P) rfl rfl hS ?_
    simp only [Act.put, pU]
    refine takeJ (i := 2) 30 (v := stV sk) rfl rfl (yieldsIf_set (by rfl) _ rfl q rfl sk HSKL.out.1 (fun _ h => h.at_)) hS ?_
    simp only [Act.put, pU]
    refine oneH (i := 1) (oi := ⟨some 29, _, _, _, _, _⟩) rfl (by kernel_rfl) (fun K0 hK => ?_)
    go_simp
    refine HUA.out.mono ?_
    rintro e wn ⟨rfl, hb⟩
    have hS2 := hS.below hb (hS.lt (by rw [HSKL.out.1]; decide))
    have HBN := Hi (HB9.out.trans ((HBA.out.trans (hb.mono HBA.out.size)).mono HB9.out.size))
    clear hb hS
    refine hK.out _ _ hS2 ?_
    clear hK K0
    have heq := fun w => equalIn_sets HSKL.out.2 HSKL.out.1 w
    have hgd := guardSet
    obtain ⟨ne, HNE⟩ : ∃ ne, Hid (ne = !decide (st = sk)) := Hy
    refine takeJ (i := 3) 31 (v := .bool ne) rfl rfl (.inl ⟨by rfl, fun _ _ => by go_simp; rw [HNE.out, Bool.not_not]⟩) hS2 ?_
    simp only [Act.put, pU]
    refine wpAnyH_done (by kernel_rfl) ?_ _
    clear heq hgd hS2
    have HRES : Hid (wholeZ S s = if ne = true then 2 else 0) := Hi (by
     rw [HWZ.out, HNE.out, HST.out, HSK.out]
     by_cases h : S.s.used = setOfL l <;> simp [h])
    cases ne with
    | true =>
     go_wp2_with fail
     refine (chkFault_any 2 (by decide) wn).mono ?_
     rintro e w9 ⟨u, rfl, he, hb⟩
     have HE9 := Hi he
     have HB10 := Hi hb
     clear he hb
     dsimp only
     go_wp2_with fail
     go_ret
     rw [HRES.out]
     exact ⟨u, rfl, HE9.out.mono HBN.out.size, HBN.out.trans (HB10.out.mono HBN.out.size)⟩
    | false =>
     go_wp2_with fail
     go_ret
     rw [HRES.out]
     exact ⟨_, rfl, .nil _ _, HBN.out⟩
end
end Go.Proofs.YtafclmbecmgbnaaGreatDoor
