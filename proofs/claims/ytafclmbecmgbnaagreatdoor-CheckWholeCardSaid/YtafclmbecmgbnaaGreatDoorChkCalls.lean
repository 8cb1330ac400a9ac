/-
 ChkCalls. Conditions: as each theorem says.
-/
import Derived.Test.YtafclmbecmgbnaaGreatDoorChkSurvey
set_option maxRecDepth 100000
set_option maxHeartbeats 1000000
namespace Go.Proofs.YtafclmbecmgbnaaGreatDoor
open Go.RowKit Go.Maps
def Svd (S : TS) (root : Int) (s : Sv) : Prop :=
 (root = 0 /\ s = ⟨[], [], 0, []⟩) \/ (root ≠ 0 /\ (-9223372036854775808 <= root /\ root <= 9223372036854775807) /\ s.wait = [] /\ s.flt.length <= 1 /\ (s.flt = [] -> s.met.Nodup) /\ ∃ N, N <= 3000 /\ xd S N (yd root) = s)
def XJ (s : Sv) : Int := s.flt.headD 0
def zcO (s : Sv) : Int := if s.flt = [] then s.dep else 0
def X8 (l : List Int) : List Int := l.mergeSort fun x y => decide (x <= y)
def zaY (w' : World) (b : Nat) (s : Sv) (v : Value) : Prop := (s.flt = [] -> w'.ownsRow b 3 1 v s.met.length ((X8 s.met).map (Value.int .i64))) /\ (s.flt ≠ [] -> v = .slice none 0 0)
def Qg (w : World) (s : Sv) (e : Ending) (w' : World) : Prop :=
 ∃ v u, e = .returned (.tuple #[v, .int .i64 (zcO s), u]) /\ zi w' w.1.size (XJ s) u /\ zaY w' w.1.size s v /\ Below w.1.size w w'
section
variable {O : yD} (H : yE O)
include H
theorem Yx {w0 : World} {K : Nat -> Prop} {w : World} {P D n : Nat} {S : TS} {firm : Nat -> List UInt8} (hl : yy O w0 K w P D n S firm) (hg : yH w0) {root : Int} {s : Sv} (h : Svd S root s) : Calls Tryz.prog 80 #[ptr P, .int .i64 root] w (Qg w s) := by
 rcases h with ⟨rfl, rfl⟩ | ⟨h0, h1, h2, h3, h4, N, h5, rfl⟩
 ·clear hl hg
  go_enter Tryz.func80, Tryz.ntmps80
  go_wp2_with fail;go_ret3;exact ⟨.slice none 0 0, .nilIface, rfl, .nil _ _, ⟨fun _ => by rw [show X8 [] = [] by simp [X8]]; exact World.ownsRow_nil _ _ _ _, fun h => absurd rfl h⟩, Below.refl _ _⟩
 ·refine (JY H hl hg root h0 h1 N h5 h2 h3 h4).mono ?_;rintro e w' ⟨hb, hp⟩;obtain ⟨s, hs⟩ : ∃ s, s = xd S N (yd root) := ⟨_, rfl⟩
  rw [<- hs] at hp h4 h3 ⊢;unfold Qg XJ zcO zaY;cases hf : s.flt with
  | nil =>
   rw [hf] at hp;obtain ⟨v, rfl, h6⟩ := hp;exact ⟨v, _, by rw [if_pos rfl], .nil _ _, ⟨fun _ => h6 (h4 hf), fun h => absurd rfl h⟩, hb⟩
  | cons c l =>
   rw [hf] at hp;obtain ⟨v, rfl, h6⟩ := hp;exact ⟨_, v, by rw [if_neg (by simp)], h6, ⟨(fun h => by cases h), fun _ => rfl⟩, hb⟩
theorem V0 {w0 : World} {K : Nat -> Prop} {w : World} {P D n : Nat} {S : TS} {firm : Nat -> List UInt8} (hl : yy O w0 K w P D n S firm) (hg : yH w0) {root : Int} {s : Sv} (h : Svd S root s) : Calls Tryz.prog 31 #[ptr P, .int .i64 root] w (yR (XJ s) w.1.size w) := by
 have HC := Hi (Yx H hl hg h);clear hl hg h
 go_enter Tryz.func31, Tryz.ntmps31
 go_wp2_with fail;refine HC.o.mono ?_;rintro e w' ⟨v, u, rfl, he, hp, hb⟩;have HE := Hi he;have HB := Hi hb;clear he hb hp HC;dsimp only;go_wp2_with fail
 go_ret
 exact ⟨u, rfl, HE.o, HB.o⟩
theorem VZ {w0 : World} {K : Nat -> Prop} {w : World} {P D n : Nat} {S : TS} {firm : Nat -> List UInt8} (hl : yy O w0 K w P D n S firm) (hg : yH w0) {root : Int} {s : Sv} (h : Svd S root s) : Calls Tryz.prog 32 #[ptr P, .int .i64 root] w
  fun e w' => ∃ v u, e = .returned (.tuple #[v, u]) /\ zi w' w.1.size (XJ s) u /\ zaY w' w.1.size s v /\ Below w.1.size w w' := by
 have HC := Hi (Yx H hl hg h);clear hl hg h
 go_enter Tryz.func32, Tryz.ntmps32
 go_wp2_with fail;refine HC.o.mono ?_;rintro e w' ⟨v, u, rfl, he, hp, hb⟩;have HE := Hi he;have HB := Hi hb;have HP := Hi hp;clear he hb hp HC;dsimp only;go_wp2_with fail
 go_ret2
 exact ⟨v, u, rfl, HE.o, HP.o, HB.o⟩
theorem VW {w0 : World} {K : Nat -> Prop} {w : World} {P D n : Nat} {S : TS} {firm : Nat -> List UInt8} (hl : yy O w0 K w P D n S firm) (hg : yH w0) {root : Int} {s : Sv} (h : Svd S root s) : Calls Tryz.prog 33 #[ptr P, .int .i64 root] w
  fun e w' => ∃ u, e = .returned (.tuple #[.int .i64 (zcO s), u]) /\ zi w' w.1.size (XJ s) u /\ Below w.1.size w w' := by
 have HC := Hi (Yx H hl hg h);clear hl hg h
 go_enter Tryz.func33, Tryz.ntmps33
 go_wp2_with fail;refine HC.o.mono ?_;rintro e w' ⟨v, u, rfl, he, hp, hb⟩;have HE := Hi he;have HB := Hi hb;clear he hb hp HC;dsimp only;go_wp2_with fail
 go_ret2
 exact ⟨u, rfl, HE.o, HB.o⟩
end
def vN (l : List Int) : List Nat := l.foldl kP zM
theorem Yv (l : List Int) : Bits.Ok (vN l) := by
 have : ∀ (l : List Int) (s : List Nat), Bits.Ok s -> Bits.Ok (l.foldl kP s) := by
  intro l;induction l with
  | nil => intro s h; exact h
  | cons z l ih => intro s h; exact ih _ (KO h z)
 exact this l zM xm
def jP (S : TS) (s : Sv) : Int := if s.flt = [] then (if S.s.used = vN (X8 s.met) then 0 else 2) else XJ s
theorem KG (l : List Int) (z : Int) : vN (l ++ [z]) = kP (vN l) z := by unfold vN; rw [List.foldl_append]; rfl
structure WhS (w : World) (b q : Nat) (v : Value) (l : List Int) (k : Nat) (wr : World) : Prop where
 set : yw wr q (vN (l.take k))
 row : wr.ownsRow b 3 1 v l.length (l.map (Value.int .i64))
 far : ∀ g, v.ownBlock = some g -> g ≠ q
 below : Below w.1.size w wr
 low : w.1.size <= q
theorem kN (l : List Int) : (vN l).length = 30 := (Yv l).len
section
variable {O : yD} (H : yE O)
include H
theorem V1 {w0 : World} {K : Nat -> Prop} {w : World} {P D n : Nat} {S : TS} {firm : Nat -> List UInt8} (hl : yy O w0 K w P D n S firm) (hg : yH w0) {s : Sv} (h : Svd S S.s.sup.root s) : Calls Tryz.prog 24 #[ptr P] w (yR (jP S s) w.1.size w) := by
 have HL := Hi hl;have HG := Hi hg;have HSV := Hi h;have hzs := Tryz.zeroSet;clear hl hg h
 go_enter Tryz.func24, Tryz.ntmps24
 go_wp2_with fail;refine (H.pgRoot HL.o.pg).mono ?_;rintro e w1 ⟨rfl, hb⟩;have HL1 := Hi (HL.o.carry H hb);have HB1 := Hi hb;clear hb;dsimp only;go_wp2_with fail;refine (VZ H HL1.o HG.o HSV.o).mono ?_;rintro e w2 ⟨v, u, rfl, he, hp, hb⟩;have HL2 := Hi (HL1.o.carry H hb);have HB2 := Hi (HB1.o.trans (hb.mono HB1.o.size));have HE2 := Hi (he.mono HB1.o.size);have HP2 := Hi hp;have HS1 := Hi HB1.o.size;clear hb he hp HL1;cases hf : s.flt with
 | cons c l =>
  have HF : Hid (jP S s = XJ s /\ XJ s = c) := Hi (by unfold jP XJ; rw [hf]; exact ⟨if_neg (by simp), rfl⟩);by_cases hc : c = 0
  ·have HC0 := Hi hc;have hu := HE2.o;rw [HF.o.2, hc] at hu;obtain rfl := hu.zero;have h3 := HP2.o.2 (by rw [hf]; simp);subst h3;exact absurd hc (by
    rcases HSV.o with ⟨_, rfl⟩ | ⟨_, _, _, _, _, N, _, h⟩
    ·cases hf
    ·exact fun hc => (zb8 S N (s := yd S.s.sup.root) (fun c hc => by cases hc)) c (by rw [h, hf]; simp) hc)
  ·have hu := HE2.o;rw [HF.o.2] at hu;obtain ⟨tt, xx, rfl⟩ := hu.some hc;have HU := Hi hu;have HW : Hid (jP S s = c) := Hi (by rw [HF.o.1, HF.o.2]);clear hu hf hc;dsimp only;go_wp2_with fail
   go_ret
   rw [HW.o];exact ⟨_, rfl, HU.o, HB2.o⟩
 | nil =>
  have hu := HE2.o;rw [show XJ s = 0 by unfold XJ; rw [hf]; rfl] at hu;obtain rfl := hu.zero;obtain ⟨l, HLL⟩ : ∃ l, Hid (l = X8 s.met) := Hy;have HLN : Hid (s.met.length = l.length) := Hi (by rw [HLL.o]; exact (List.mergeSort_perm _ _).length_eq.symm);have HROW : Hid (w2.ownsRow w1.1.size 3 1 v l.length (l.map (Value.int .i64))) := Hi (by
   have := HP2.o.1 hf;rw [HLN.o, <- HLL.o] at this;exact this)
  have HWZ : Hid (jP S s = if S.s.used = vN l then 0 else 2) := Hi (by unfold jP; rw [if_pos hf, HLL.o]);obtain ⟨st, HST⟩ : ∃ st, Hid (st = S.s.used) := Hy;obtain ⟨nn, HNN⟩ : ∃ nn, Hid (nn = l.length) := Hy;have HLB : Hid (l.length <= 3000) := Hi (by
   rw [<- HLN.o];rcases HSV.o with ⟨_, rfl⟩ | ⟨_, _, _, _, _, N, h, rfl⟩
   ·simp
   ·have := Yy S N (yd S.s.sup.root);simp only [yd, List.length_nil] at this ⊢;omega)
  obtain ⟨A, cap, hv, hA⟩ : ∃ A cap, v = .slice A l.length cap /\ (0 < l.length -> ∃ g, A = some ⟨g, 0, none⟩) := by
   rcases HROW.o.2 with ⟨h1, h2⟩ | ⟨g, cap, cur, h1, _⟩
   ·exact ⟨none, 0, by rw [h1, h2], fun h => by omega⟩
   ·exact ⟨_, cap, h1, fun _ => ⟨g, rfl⟩⟩
  subst hv;have HAA := Hi hA;clear hu hf HP2 HE2 hA;rw [<- HNN.o];dsimp only;go_upto_region 5 with (fail)
  obtain ⟨q, HQQ⟩ : ∃ q, Hid (q = w2.1.size) := Hy;obtain ⟨wc, HWC⟩ : ∃ wc, Hid (wc = w2.alloc (.cells (zY zM) 63)) := Hy;rw [<- HWC.o, <- HQQ.o];have HW0 : Hid (WhS w w1.1.size q (.slice A l.length cap) l 0 wc) := Hi (by
   rw [HWC.o, HQQ.o];have h3 := (Below.refl w2.1.size w2).alloc (Nat.le_refl _) (.cells (zY zM) 63);refine ⟨by rw [List.take_zero]; exact yw.new _, HROW.o.alloc _, fun g hg => ?_, HB2.o.trans (h3.mono HB2.o.size), HB2.o.size⟩;have := (HROW.o.lt g hg).2;omega)
  clear HWC HQQ HROW HB2;go_wp2_with fail
  go_loopw [20] (fun i wr => ∃ k, k <= l.length /\ i = .int .i64 (k : Int) /\ WhS w w1.1.size q (.slice A l.length cap) l k wr) (fun i _ => l.length - (intOf i).toNat)
  case atStart => exact ⟨0, Nat.zero_le _, rfl, HW0.o⟩
  case round =>
   obtain ⟨k, hk, rfl, hs⟩ := hrel;have HS := Hi hs;clear hs HW0;by_cases hlt : k < l.length
   ·obtain ⟨g, hg⟩ := HAA.o (by omega);subst hg;obtain ⟨z, HZ⟩ : ∃ z, Hid (z = l[k]) := Hy;have hc0 : wr.cell? ((⟨g, 0, none⟩ : Addr).add k) = some (.int .i64 z) := HS.o.row.cells rfl k _ (by rw [List.getElem?_map, List.getElem?_eq_getElem hlt, HZ.o]; rfl);have hc : wr.cell? ⟨g, k, none⟩ = some (.int .i64 z) := by rwa [show (⟨g, 0, none⟩ : Addr).add k = ⟨g, k, none⟩ by unfold Addr.add; split <;> simp_all] at hc0
    have hkn : (k : Int) < (nn : Int) := by rw [HNN.o]; omega
    obtain ⟨sk, HSK⟩ : ∃ sk, Hid (sk = vN (l.take k)) := Hy;have HSO : Hid (yw wr q sk) := Hi (by rw [HSK.o]; exact HS.o.set);go_wp2_with (with_reducible refine vt (o := ⟨some 24, _, _, _, _, _⟩) ?_);unfold qM;refine ya (by rfl) _ rfl q rfl sk (by rw [HSK.o]; exact kN _) HSO.o.at_ ?_;dsimp only [Act.put];go_wp2_with fail;refine (za8 sk (by rw [HSK.o]; exact Yv _) z wr).mono ?_;rintro e w3 ⟨rfl, hb⟩;have HB3 := Hi hb;have HSO3 := Hi (HSO.o.below hb (HSO.o.lt (by rw [HSK.o, kN]; decide)));clear hb hc hc0;obtain ⟨sn, HSN⟩ : ∃ sn, Hid (sn = kP sk z) := Hy;rw [<- HSN.o];dsimp only;go_wp2_with (with_reducible refine vt (o := ⟨none, _, _, _, _, _⟩) ?_);unfold qM;have HTK : Hid (sn = vN (l.take (k + 1))) := Hi (by
     rw [HSN.o, HSK.o, HZ.o, List.take_add_one, List.getElem?_eq_getElem hlt];exact (KG _ _).symm)
    refine yo rfl _ _ rfl q sn sk (by rw [HTK.o]; exact kN _) (by rw [HSK.o]; exact kN _) rfl rfl HSO3.o ?_;intro w4 HW4 HSO4;have HS4 : Hid (WhS w w1.1.size q (.slice (some ⟨g, 0, none⟩) l.length cap) l (k + 1) w4) := Hi (by
     have h3 := HS.o;have h4 : Below w.1.size w w3 := h3.below.trans (HB3.o.mono h3.below.size);refine ⟨by rw [<- HTK.o]; exact HSO4.o, ?_, h3.far, zy h4 HW4.o h3.low, h3.low⟩;refine zG h3.row fun i hi => ?_
     rw [HW4.o, Zd q (h3.far i hi)];exact HB3.o.block i (h3.row.lt i hi).2)
    clear HS HB3 HSO HSO3 HW4 HSO4;go_wp2_with fail
    go_roundw
    case rel => exact ⟨k + 1, hlt, congrArg (Value.int .i64) (by have := HLB.o; unfold wrap64; omega), HS4.o⟩
    case measure => have := HLB.o; rw [show wrap64 ((k : Int) + 1) = (k : Int) + 1 by unfold wrap64; omega]; simp [intOf]; omega
   ·obtain rfl : k = l.length := by omega
    have hkn : ¬ ((l.length : Nat) : Int) < (nn : Int) := by rw [HNN.o]; omega
    obtain ⟨sk, HSK⟩ : ∃ sk, Hid (sk = vN l) := Hy;have HSO : Hid (yw wr q sk) := Hi (by have := HS.o.set; rw [List.take_length] at this; rw [HSK.o]; exact this);have HLW := Hi (HL.o.carry H HS.o.below);go_upto_region 10 with (fail)
    have HB9 := Hi HS.o.below;have HSZ2 := HS1.o;clear HS;refine wp_region_held (S := fun w => yw w q sk) (by kernel_rfl) ?_;change wpAnyH _ _ _ _ _ _ _ _ wr.drew;obtain ⟨wa, HWA⟩ : ∃ wa, Hid (wa = wr.drew) := Hy;rw [<- HWA.o];have hS : yw wa q sk := by rw [HWA.o]; exact HSO.o.drew
    have HBA : Hid (Below wr.1.size wr wa) := Hi (by rw [HWA.o]; exact (Below.refl _ _).drew);have HLA := Hi (HLW.o.carry H HBA.o);have HUA : Hid (Calls Tryz.prog 36 #[ptr P] wa fun e w' => e = .returned (stV st) /\ Below wa.1.size wa w') := Hi (by rw [HST.o]; exact H.used HLA.o.pg HLA.o.inv);have HSKL : Hid (sk.length = 30 /\ st.length = 30) := Hi (by rw [HSK.o, HST.o]; exact ⟨kN _, HL.o.inv.usedOk.len⟩);clear HWA HSO;refine za (i := 0) 28 (v := ptr P) rfl rfl hS ?_;simp only [Act.put, pU];refine zh (i := 2) 30 (v := stV sk) rfl rfl (VH (by rfl) _ rfl q rfl sk HSKL.o.1 (fun _ h => h.at_)) hS ?_;simp only [Act.put, pU];refine zN (i := 1) (oi := ⟨some 29, _, _, _, _, _⟩) rfl (by kernel_rfl) (fun K0 hK => ?_);go_simp;refine HUA.o.mono ?_;rintro e wn ⟨rfl, hb⟩;have hS2 := hS.below hb (hS.lt (by rw [HSKL.o.1]; decide));have HBN := Hi (HB9.o.trans ((HBA.o.trans (hb.mono HBA.o.size)).mono HB9.o.size));clear hb hS;refine hK.out _ _ hS2 ?_;clear hK K0;have heq := fun w => Vo HSKL.o.2 HSKL.o.1 w
    have hgd := zbo;obtain ⟨ne, HNE⟩ : ∃ ne, Hid (ne = !decide (st = sk)) := Hy;refine zh (i := 3) 31 (v := .bool ne) rfl rfl (.inl ⟨by rfl, fun _ _ => by go_simp; rw [HNE.o, Bool.not_not]⟩) hS2 ?_;simp only [Act.put, pU];refine wpAnyH_done (by kernel_rfl) ?_ _;clear heq hgd hS2;have HRES : Hid (jP S s = if ne = true then 2 else 0) := Hi (by
     rw [HWZ.o, HNE.o, HST.o, HSK.o];by_cases h : S.s.used = vN l <;> simp [h])
    cases ne with
    | true =>
     go_wp2_with fail;refine (kt 2 (by decide) wn).mono ?_;rintro e w9 ⟨u, rfl, he, hb⟩;have HE9 := Hi he;have HB10 := Hi hb;clear he hb;dsimp only;go_wp2_with fail
     go_ret
     rw [HRES.o];exact ⟨u, rfl, HE9.o.mono HBN.o.size, HBN.o.trans (HB10.o.mono HBN.o.size)⟩
    | false =>
     go_wp2_with fail
     go_ret
     rw [HRES.o];exact ⟨_, rfl, .nil _ _, HBN.o⟩
end
end Go.Proofs.YtafclmbecmgbnaaGreatDoor
