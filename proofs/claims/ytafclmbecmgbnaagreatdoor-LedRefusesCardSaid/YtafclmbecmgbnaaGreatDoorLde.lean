/-
  Lde: several texts in one file. Conditions: as each part says.
-/
import Derived.Test.YtafclmbecmgbnaaGreatDoorLdd
/-
 LedAppend. Conditions: as each theorem says.
-/
set_option maxRecDepth 100000
set_option maxHeartbeats 2000000
namespace Go.Proofs.YtafclmbecmgbnaaGreatDoor
section
open Go.RowKit
theorem Ke {P : Program} (w : World) (t e : TypeId) (ie : TypeInfo) (hu : P.underlying t = some (.slice e)) (hi : P.info? e = some ie) : (Instr.buildSlice t 0 #[]).run P w = .ok (.slice (some ⟨w.1.size, 0, none⟩) 0 0) (w.alloc (.cells #[] e)) := by
 simp [Instr.buildSlice, run_underlying hu, sizeOf, typeInfo, hi, newRow, Instr.fill, show Array.range 0 = #[] from rfl]
theorem kP {P : Program} {ops : Array Oper} {rest : List Oper} {o : Oper} {a : Act} {w : World} {Q : Exit -> Act -> World -> Prop} (hg : o.guard = none) (t e : TypeId) (ie : TypeInfo) (ho : o.op = .buildSlice t 0 #[]) (hu : P.underlying t = some (.slice e)) (hi : P.info? e = some ie)
  (h : wpList P ops Q rest (a.put o.dst (.slice (some ⟨w.1.size, 0, none⟩) 0 0)) (w.alloc (.cells #[] e))) : wpList P ops Q (o :: rest) a w := by
 refine wpList_plain hg fun K hK => ?_
 unfold Oper.wp execOp;simp only [ho, List.map_toArray, List.map_nil, Sem.run_bind, Ke w t e ie hu hi, Result.andThen_ok];exact hK _ _ h
theorem YV (X Y : List Pr) : zh (X ++ Y) = zh X ++ zh Y := by simp [zh]
theorem vp {P : Program} {ops : Array Oper} {rest : List Oper} {o : Oper} {a : Act} {w : World} {Q : Exit -> Act -> World -> Prop} (hg : o.guard = none) (s x : Operand) (t e : TypeId) (ho : o.op = .call { callee := .builtin .append, args := #[s, x], argTypes := #[t, t] })
  (i : TypeInfo) (z : Value) (ht : P.underlying t = some (.slice e)) (hi : P.info? e = some i) (hz : i.zero = some z) (hsize : i.size = 2) (hby : i.bytes = 24) (hzs : z.cells.size = 2)
  {B N c : Nat} {v u : Value} {X Y : List Pr} {A : Option Addr} {T : TypeId} (hs : a.eval s = v) (hx : a.eval x = u) (hown : w.ownsRow B e 2 v X.length (zh X)) (hy : w.ownsRow N T 2 u Y.length (zh Y)) (hlen : X.length + Y.length <= 10000) (hB : B <= w.1.size) (hu : u = .slice A Y.length c)
  (h : ∀ v' w', w'.ownsRow B e 2 v' (X ++ Y).length (zh (X ++ Y)) -> w.grownBy w' v.ownBlock -> (v'.ownBlock = v.ownBlock \/ v'.ownBlock = some w.1.size) -> wpList P ops Q rest (a.put o.dst v') w') : wpList P ops Q (o :: rest) a w := by
 refine wpList_plain hg fun K hK => ?_
 subst hu;cases A with
 | none =>
  have h0 : Y = [] := by
   refine List.eq_nil_of_length_eq_zero ?_;rcases Nat.eq_zero_or_pos Y.length with h1 | h1
   ·exact h1
   ·obtain ⟨g, e1, _⟩ := kg hy h1;cases e1
  subst h0;obtain rfl : c = 0 := by
   rcases hy.2 with ⟨h1, _⟩ | ⟨g, cap, cur, h1, _⟩
   ·injection h1
   ·injection h1 with h1; cases h1
  have hrun := run_append_owned_none (P := P) (w := w) B t o.type e i 2 ht hi v _ _ hown;unfold Oper.wp execOp;simp only [ho, resolve, invoke, builtin, Sem.run_bind, Sem.run_pure, Result.andThen_ok, List.map_toArray, List.map_cons, List.map_nil, hs, hx, List.length_nil, hrun];exact hK _ _ (h v w (by rw [List.append_nil]; exact hown) ⟨rfl, rfl, rfl, Nat.le_refl _, fun _ _ _ => rfl⟩ (.inl rfl))
 | some q =>
  obtain ⟨g, rfl⟩ : ∃ g, q = ⟨g, 0, none⟩ := by
   rcases hy.2 with ⟨h1, _⟩ | ⟨g, cap, cur, h1, _⟩
   ·injection h1 with h1; cases h1
   ·injection h1 with h1; injection h1 with h1; exact ⟨g, h1⟩
  have hn : ∀ j u, (zh Y)[j]? = some u -> w.cell? ((⟨g, 0, none⟩ : Addr).add j) = some u := fun j u hu => by
   have hj : j < Y.length * 2 := by have := (List.getElem?_eq_some_iff.1 hu).1; rwa [jN] at this
   rw [show (⟨g, 0, none⟩ : Addr).add j = ⟨g, j, none⟩ from (by simp [Addr.add]; omega), World.ownsRow.cellAt hy j hj];exact hu
  have h1 : ∀ u ∈ zh Y, u.oneCell' = true := fun u hu => by
   unfold zh at hu;obtain ⟨p, _, hp⟩ := List.mem_flatMap.1 hu;rcases List.mem_cons.1 hp with hp | hp
   ·rw [hp]; rfl
   ·rw [List.mem_singleton.1 hp]; rfl
  obtain ⟨v', w', hr, h4, h5, _, h6⟩ := run_append_own_at (P := P) w B t o.type e i z 2 24 ht hi hz hsize hby hzs (by decide) _ _ _ hown ⟨g, 0, none⟩ Y.length c (zh Y) (jN Y) hn h1 (by unfold maxLen; omega) (by omega) hB;unfold Oper.wp execOp;simp only [ho, resolve, invoke, builtin, Sem.run_bind, Sem.run_pure, Result.andThen_ok, List.map_toArray, List.map_cons, List.map_nil, hs, hx, hr];exact hK _ _ (h v' w' (by rw [YV, List.length_append]; exact h4) h5 h6)
theorem zce {Q : Int -> Prop} {ps : List Pr} (h : ∀ p ∈ ps, Q p.1) {cs : List Pr} (hc : ∀ c ∈ cs, Q c.1) : ∀ p ∈ kR ps cs, Q p.1 := by
 induction cs generalizing ps with
 | nil => exact h
 | cons c r ih =>
  refine ih ?_ fun x hx => hc x (List.mem_cons_of_mem _ hx)
  unfold Yd;split
  ·intro p hp;rcases (W8 p).1 hp with rfl | ⟨h1, _⟩
   ·exact hc c List.mem_cons_self
   ·exact h p h1
  ·exact fun p hp => h p (List.mem_filter.1 hp).1
end
section
open Go.RowKit
theorem zai (w : World) : Calls Tryz.prog 52 #[.pointer none] w (vN 1 none w) := by
 have hz := Tryz.sbProg.zero;have hz2 := Tryz.zeroPage;obtain ⟨b, HB⟩ : ∃ b, Hid (b = w.1.size) := Hy;obtain ⟨w1, HW⟩ : ∃ w1, Hid (w1 = w.alloc (.cells (zR Sb.zero) 103)) := Hy;have HO : Hid (zU w1 b Sb.zero) := Hi (by rw [HW.o, HB.o]; exact zU.new _);have HBL : Hid (Below w.1.size w w1) := Hi (by rw [HW.o]; exact (Below.refl _ _).alloc (Nat.le_refl _) _);have hr := zay 0 w1;have HR := Hi hr;clear hr
 go_enter Tryz.func52, Tryz.ntmps52
 go_upto_region 1 with (fail)
 rw [<- HW.o, <- HB.o];clear HW;go_wp2_with fail;refine HR.o.mono ?_;rintro e w2 ⟨v, rfl, he, hb⟩;obtain ⟨t, x, rfl⟩ := he.some (by decide);have HE := Hi he.from_;have HO2 := Hi (HO.o.below hb HO.o.lt);have HB2 : Hid (Below w.1.size w w2) := Hi (HBL.o.trans (hb.mono HBL.o.size));have HS2 := Hi hb.size;clear he hb HR;go_wp2_with (with_reducible refine zc (o := ⟨none, _, _, _, _, _⟩) ?_);refine zu rfl _ _ _ rfl (zA zt) (zA zt) _ rfl rfl rfl (by rw [zr, zE]; exact Tryz.pageSize) rfl (yL _) ?_;obtain ⟨w3, HW⟩ : ∃ w3, Hid (w3 = w2.alloc (.cells (zA zt) 87)) := Hy;rw [<- HW.o];have hb3 : Below w2.1.size w2 w3 := by rw [HW.o]; exact (Below.refl _ _).alloc (Nat.le_refl _) _
 have HO3 := Hi (HO2.o.below hb3 HO2.o.lt);have HB3 : Hid (Below w.1.size w w3) := Hi (HB2.o.trans (hb3.mono HB2.o.size));have HE3 := Hi (HE.o.below hb3);have HS3 := Hi (Nat.le_trans HS2.o hb3.size);clear hb3 HW HE;go_wp2_with (with_reducible refine zc (o := ⟨some 17, _, _, _, _, _⟩) ?_);refine yR Tryz.sbProg rfl rfl ?_;go_wp2_with fail;refine (ym _ w1.1.size _ _ w3 HE3.o HS3.o).mono ?_;rintro e w4 ⟨v, rfl, he, hb⟩;have HE4 := Hi he;have HO4 := Hi (HO3.o.below hb HO3.o.lt);have HB4 : Hid (Below w.1.size w w4) := Hi (HB3.o.trans (hb.mono HB3.o.size));clear he hb;go_wp2_with (with_reducible refine zc (o := ⟨none, _, _, _, _, _⟩) ?_);refine yc Tryz.sbProg rfl _ _ rfl b Sb.zero Sb.zero Sb.Ok.zero Sb.Ok.zero rfl rfl HO4.o ?_;intro w5 HW5 HO5;go_wp2_with fail;have hb5 := zG HB4.o HW5.o (by rw [HB.o]; exact Nat.le_refl _);exact bodyPost_ret (yX Tryz.sbProg rfl _ _ b Sb.zero v rfl rfl HO5.o.at_ Sb.Ok.zero) rfl ⟨v, rfl, (HE4.o.lay HW5.o HO.o.lt).mono HBL.o.size, hb5⟩
theorem YH (w : World) : Calls Tryz.prog 43 #[.pointer none] w (Two (.pointer none) 1 w) := by
 have HH := Hi (YY (D := .pointer none) (w := w) 1 (by decide) (zai w))
 go_enter Tryz.func43, Tryz.ntmps43
 go_wp2_with fail;refine HH.o.mono ?_;rintro e w1 ⟨v, rfl, he, hb⟩;obtain ⟨t, y, rfl⟩ := he.some (by decide);have HE := Hi he;have HB := Hi hb;clear he hb HH;go_wp2_with fail;refine (ym _ w.1.size 1 _ w1 HE.o HB.o.size).mono ?_;rintro e w3 ⟨v, rfl, he, hb⟩;have HE3 := Hi he;have HB3 := Hi (HB.o.trans (hb.mono HB.o.size));clear he hb;go_wp2_with fail
 go_ret2
 exact ⟨v, rfl, HE3.o, HB3.o⟩
theorem XF (key : Int) (w : World) : Calls Tryz.prog 49 #[.pointer none, .int .i64 key] w (Two (.string ⟨#[]⟩) 9 w) := by
 go_enter Tryz.func49, Tryz.ntmps49
 go_wp2_with fail;refine (vi 9 (by decide) w).mono ?_;rintro e w1 ⟨v, rfl, he, hb⟩;have HE := Hi he;have HB := Hi hb;clear he hb;go_wp2_with fail
 go_ret2
 exact ⟨v, rfl, HE.o, HB.o⟩
theorem ZP (a b : Int) (w : World) : Calls Tryz.prog 44 #[.pointer none, .int .i64 a, .int .i64 b] w (Two (.slice none 0 0) 9 w) := by
 go_enter Tryz.func44, Tryz.ntmps44
 go_wp2_with fail;refine (vi 9 (by decide) w).mono ?_;rintro e w1 ⟨v, rfl, he, hb⟩;have HE := Hi he;have HB := Hi hb;clear he hb;go_wp2_with fail
 go_ret2
 exact ⟨v, rfl, HE.o, HB.o⟩
theorem ZQ (w : World) : Calls Tryz.prog 46 #[.pointer none] w (yN 9 w.1.size w) := by
 go_enter Tryz.func46, Tryz.ntmps46
 go_wp2_with fail;refine (vi 9 (by decide) w).mono ?_;rintro e w1 ⟨v, rfl, he, hb⟩;have HE := Hi he;have HB := Hi hb;clear he hb;go_wp2_with fail
 go_ret
 exact ⟨v, rfl, HE.o, HB.o⟩
theorem XE (w : World) : Calls Tryz.prog 40 #[.pointer none] w fun e w' => e = .returned (.int .u32 0) /\ Below w.1.size w w' := by
 go_enter Tryz.func40, Tryz.ntmps40
 go_wp2_with fail
 go_ret
 exact ⟨rfl, Below.refl _ _⟩
theorem ZN {A : Option Addr} {m cap : Nat} (w : World) : Calls Tryz.prog 41 #[.pointer none, .slice A m cap] w (yN 9 w.1.size w) := by
 go_enter_defers Tryz.func41, Tryz.ntmps41
 go_wp2_with fail;refine (vi 9 (by decide) w).mono ?_;rintro e w1 ⟨v, rfl, he, hb⟩;have HE := Hi he;have HB := Hi hb;clear he hb;go_wp2_with fail;exact ⟨_, results_tmp rfl _ _ _, v, rfl, HE.o, HB.o⟩
theorem Va {K : Nat -> Prop} {w : World} {b : Nat} {A : Option Addr} {cs : List Pr} {m cap : Nat} (hc : qX w K A cs) (hm : cs.length = m) (hno : ∃ c ∈ cs, ¬ yv c.1 c.2.size) (hm2 : m <= 1000) :
  Calls Tryz.prog 41 #[ptr b, .slice A m cap] w (yN 1 w.1.size w) := by
 have HC := Hi hc;have HM := Hi hm;have HNO := Hi hno;clear hc hm hno
 go_enter_defers Tryz.func41, Tryz.ntmps41
 go_wp2_with fail
 go_loopw [17] (fun u wr => ∃ j : Nat, j <= m /\ u = .int .i64 (j : Int) /\ (∀ c ∈ cs.take j, yv c.1 c.2.size) /\ Below w.1.size w wr) (fun u _ => m - (intOf u).toNat)
 case atStart => exact ⟨0, Nat.zero_le _, rfl, (fun c hc => by cases hc), .refl _ _⟩
 case round =>
  obtain ⟨j, hj, rfl, hy, hb⟩ := hrel;have HB := Hi hb;have HY := Hi hy;clear hb hy;by_cases hjm : j < m
  ·have hjl : j < cs.length := by rw [HM.o]; exact hjm
   obtain ⟨g, o, hA, hKg, hgl, hcc⟩ := HC.o (by omega);subst hA;obtain ⟨key, val, hcj⟩ : ∃ key val, cs[j]? = some (key, val) := ⟨_, _, List.getElem?_eq_getElem hjl⟩
   have h1 := (hcc j _ hcj).1;have h2 := (hcc j _ hcj).2;have c0 : wr.cell? ⟨g, o + j * 2, none⟩ = some (.int .i64 key) := (HB.o.cell (p := ⟨g, o + j * 2, none⟩) hgl).trans h1;have c1 : wr.cell? ⟨g, o + j * 2 + 1, none⟩ = some (.string val) := (HB.o.cell (p := ⟨g, o + j * 2 + 1, none⟩) hgl).trans h2;have HTK : Hid (cs.take (j + 1) = cs.take j ++ [(key, val)]) := Hi (by rw [List.take_add_one, hcj]; rfl);clear h1 h2 hcc hcj hKg hgl;by_cases hmj : yv key val.size
   ·have HMJ : Hid (decide (yv key val.size) = true) := Hi (decide_eq_true hmj);have HY2 : Hid (∀ c ∈ cs.take (j + 1), yv c.1 c.2.size) := Hi fun c hc => by
     rw [HTK.o, List.mem_append, List.mem_singleton] at hc;rcases hc with hc | rfl
     ·exact HY.o c hc
     ·exact hmj
    clear hmj;go_wp2_with fail;refine (Ym key val _).mono ?_;rw [HMJ.o];rintro e w2 ⟨rfl, hb⟩;have HB2 : Hid (Below w.1.size w w2) := Hi ((HB.o.alloc HB.o.size _).trans (hb.mono (by have := HB.o.size; simp; omega)));clear hb HB c0 c1;have hjw : wrap64 ((j : Int) + 1) = (j : Int) + 1 := by unfold wrap64; omega
    go_wp2_with fail
    go_roundw
    case rel => exact ⟨j + 1, hjm, by first | rfl | simp, HY2.o, HB2.o⟩
    case measure => simp [intOf]; omega
   ·have HMJ : Hid (decide (yv key val.size) = false) := Hi (decide_eq_false hmj);clear hmj;go_wp2_with fail;refine (Ym key val _).mono ?_;rw [HMJ.o];rintro e w2 ⟨rfl, hb⟩;have HB2 : Hid (Below w.1.size w w2) := Hi ((HB.o.alloc HB.o.size _).trans (hb.mono (by have := HB.o.size; simp; omega)));clear hb HB c0 c1;go_wp2_with fail;refine (vi 1 (by decide) w2).mono ?_;rintro e w3 ⟨v, rfl, he, hb⟩;have HE := Hi (he.mono HB2.o.size);have HB3 := Hi (HB2.o.trans (hb.mono HB2.o.size));clear he hb;go_wp2_with fail;exact ⟨_, results_tmp rfl _ _ _, v, rfl, HE.o, HB3.o⟩
  ·exfalso;obtain ⟨c, hc, hn⟩ := HNO.o;refine hn (HY.o c ?_);rw [List.take_of_length_le (by rw [HM.o]; omega)];exact hc
end
end Go.Proofs.YtafclmbecmgbnaaGreatDoor
