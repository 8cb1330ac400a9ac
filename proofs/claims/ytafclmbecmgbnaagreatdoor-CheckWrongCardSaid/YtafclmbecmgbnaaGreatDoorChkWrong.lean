/-
 ChkWrong. Conditions: as each theorem says.
-/
import Derived.Test.YtafclmbecmgbnaaGreatDoorSm
import Derived.Test.YtafclmbecmgbnaaGreatDoorChkLeafW
import Derived.Test.YtafclmbecmgbnaaGreatDoorChkWrGood
import Derived.Deep.CutBlock
namespace Go.Proofs.YtafclmbecmgbnaaGreatDoor
open Go.RowKit
def WrAt (O : PgOwn) (w : World) (P D V : Nat) (S : TS) (wx : World) : Prop := ∃ K : Nat → Prop, LawT O w K wx P D 30 S (fun _ => []) ∧ K V ∧ wx.cell? ⟨V, 0, none⟩ = some (ptr P)
structure WrKd (O : PgOwn) (w : World) (P D V g : Nat) (q : Int) (S : TS) (wx : World) (K : Nat → Prop) : Prop where
 law : LawT O w K wx P D 30 S (fun _ => [])
 kv : K V
 kg : K g
 vg : V ≠ g
 lo : w.heap.size ≤ g
 c0 : wx.cell? ⟨V, 0, none⟩ = some (ptr P)
 row : VRow wx g 3 [.int .i64 2, .int .i64 q]
def WrCut (O : PgOwn) (w : World) (P D V g nh : Nat) (s17 : Value) (wx : World) : Prop := ∃ (key : Int) (q : Nat) (fz : Int) (S : TS) (K : Nat → Prop), s17 = .int .i64 key ∧ (0 ≤ key ∧ key ≤ 4294967295) ∧ q < 240 ∧ WrKd O w P D V g (q : Int) S wx K ∧ WrGood S key q fz ∧ S.d.soft.length ≤ 3 ∧ fz = (if nh % 5 = 0 then 0 else if nh % 5 = 4 then 4 else 2)
theorem VRow.nums9 {w : World} {g : Nat} {e : TypeId} {zs : List Int} (h : VRow w g e (zs.map (Value.int .i64))) : Nums w .i64 (some ⟨g, 0, none⟩) zs := fun _ => ⟨⟨g, 0, none⟩, rfl, h.lt, fun i z hz => by
 rw [Addr.add_mid, Nat.zero_add]
 exact (h.cell i).trans (by rw [List.getElem?_map, hz]; rfl)⟩
section
variable {O : PgOwn} (H : PgSpec O)
include H
theorem WrKd.poke {w wx : World} {P D V g : Nat} {q : Int} {S : TS} {K : Nat → Prop} (h : WrKd O w P D V g q S wx K) (z : Int) : WrKd O w P D V g z S (wx.setCell ⟨g, 1, none⟩ (.int .i64 z)) K := by
 have ht : Turn (fun k => k = g) wx (wx.setCell ⟨g, 1, none⟩ (.int .i64 z)) := ⟨rfl, rfl, rfl, by rw [World.heap_setCell_size9]; exact Nat.le_refl _, fun k hk => World.heap_setCell_far9 _ _ _ hk.2⟩
 refine ⟨h.law.off H ht (fun k hk => by subst hk; exact ⟨h.kg, h.lo⟩) (fun k hk => .inl hk) (fun k hk => Nat.lt_of_lt_of_le (h.law.there k hk) ht.size) h.law.low, h.kv, h.kg, h.vg, h.lo, (World.cell?_setCell_other _ _ _ _ (by intro e; exact h.vg (congrArg Addr.block e).symm)).trans h.c0, ?_⟩
 exact h.row.setCell 1 _
theorem WrKd.leaf {w wx : World} {P D V g : Nat} {q : Int} {S : TS} {K : Nat → Prop} (h : WrKd O w P D V g q S wx K) (hg : Laid2 w) (hs : S.d.soft.length ≤ 100000) (x c : Nat) (hx : x ≤ 200) (hc : 1 ≤ c ∧ c ≤ 7) {k : Nat} (hf : S.s.first 30 = some k) :
  Calls Tryz.prog 28 #[.int .i64 (x : Int), .int .i64 (c : Int), .pointer (some ⟨V, 0, none⟩)] wx fun e w' =>
   e = .returned (.int .i64 (k : Int)) ∧ WrKd O w P D V g q ⟨S.d.write k (pgB (pageP (layN (lvN x c)))), S.s.at_ k, upd S.data k (layN (lvN x c))⟩ w' K := by
 refine (chkLeaf_any H h.law hg hs h.c0 h.kv x c hx ⟨hc.1, by omega⟩ hf (lvN_right hx hc)).mono ?_
 rintro e w' ⟨rfl, hl2, hk⟩
 exact ⟨rfl, hl2, h.kv, h.kg, h.vg, h.lo, (World.cell?_of_block (w := wx) (a := ⟨V, 0, none⟩) (hk.block V h.kv)).trans h.c0, h.row.keep (hk.block g h.kg)⟩
theorem WrAt.leaf {w wx : World} {P D V : Nat} {S : TS} (h : WrAt O w P D V S wx) (hg : Laid2 w) (hs : S.d.soft.length ≤ 100000) (x c : Nat) (hx : x ≤ 200) (hc : 1 ≤ c ∧ c ≤ 7) {k : Nat} (hf : S.s.first 30 = some k) :
  Calls Tryz.prog 28 #[.int .i64 (x : Int), .int .i64 (c : Int), .pointer (some ⟨V, 0, none⟩)] wx fun e w' =>
   e = .returned (.int .i64 (k : Int)) ∧ WrAt O w P D V ⟨S.d.write k (pgB (pageP (layN (lvN x c)))), S.s.at_ k, upd S.data k (layN (lvN x c))⟩ w' := by
 obtain ⟨K, hl, hV, hc0⟩ := h
 refine (chkLeaf_any H hl hg hs hc0 hV x c hx ⟨hc.1, by omega⟩ hf (lvN_right hx hc)).mono ?_
 rintro e w' ⟨rfl, hl2, hk⟩
 exact ⟨rfl, K, hl2, hV, (World.cell?_of_block (w := wx) (a := ⟨V, 0, none⟩) (hk.block V hV)).trans hc0⟩
set_option maxRecDepth 100000 in
set_option maxHeartbeats 4000000 in
theorem chkWrong_walk0 (hnil : ∀ w, Calls Tryz.prog 31 #[.pointer none, .int .i64 5] w (FromPost 9 w.heap.size w)) (na nb nc nh : Nat) (ha : na < 256) (hb : nb < 256) (hc : nc < 256) (hh : nh < 256) (w : World) (hg : Laid2 w) :
  Calls Tryz.prog 4 #[.int .u8 (na : Int), .int .u8 (nb : Int), .int .u8 (nc : Int), .int .u8 (nh : Int)] w fun e w' => e = .returned (.bool true) ∧ Below w.heap.size w w' := by
 have HG := Hi hg
 have hmf : ∀ (fn : Fn) (first cap : Array Value) (w : World), (Instr.makeFunc fn first cap).run Tryz.prog w = .ok (.func fn first cap) w := fun _ _ _ _ => rfl
 obtain ⟨x, HX⟩ : ∃ x : Nat, Hid (x = na % 50) := Hy
 obtain ⟨y, HY⟩ : ∃ y : Nat, Hid (y = 100 + nb % 50) := Hy
 obtain ⟨c, HC⟩ : ∃ c : Nat, Hid (c = 3 + nc % 5) := Hy
 clear hg
 go_enter Tryz.func4, Tryz.ntmps4
 go_wp2_with fail
 refine (awake11_any H _ HG.out).mono ?_
 rintro e w1 ⟨rfl, hb1⟩
 have HB1 := Hi hb1
 clear hb1
 dsimp only
 go_wp2_with fail
 refine (New_yes 30 (by decide) (by decide) w1).mono ?_
 rintro e w2 ⟨D, rfl, hd2, hb2⟩
 have HF := Hi (Format_new H (n := 30) (by decide) (by decide) (fun _ => []) HB1.out hd2 hb2 HG.out)
 clear hd2 hb2
 dsimp only
 go_wp2_with fail
 refine HF.out.mono ?_
 rintro e w3 ⟨P, rfl, hl⟩
 have HL : Hid (LawT O w (· < w1.heap.size) w3 P D 30 (S0 30) (fun _ => [])) := Hi hl
 clear hl HF
 go_upto_region 7 with (fail)
 obtain ⟨V, HV⟩ : ∃ V, Hid (V = w3.heap.size) := Hy
 obtain ⟨w4, HW4⟩ : ∃ w4, Hid (w4 = w3.alloc (.cells #[.pointer (some ⟨P, 0, none⟩)] 30)) := Hy
 rw [← HV.out, ← HW4.out, show (na : Int) % 50 = (x : Int) by rw [HX.out]; omega, show 100 + (nb : Int) % 50 = (y : Int) by rw [HY.out]; omega]
 have HA4 : Hid (WrAt O w P D V (S0 30) w4) := Hi ⟨_, HL.out.grow H (w' := w4) (by rw [HW4.out]; exact (Below.refl _ _).alloc (Nat.le_refl _) _), .inr ⟨Nat.le_of_eq HV.out.symm, by rw [HV.out, HW4.out]; simp⟩, by rw [HW4.out, HV.out]; simp⟩
 have hx : x < 50 := by rw [HX.out]; omega
 have hy : 100 ≤ y ∧ y < 150 := by rw [HY.out]; omega
 have hcc : 3 ≤ c ∧ c ≤ 7 := by rw [HC.out]; omega
 have HL1 := Hi (HA4.out.leaf H HG.out (Nat.zero_le _) x c (by omega) ⟨by omega, hcc.2⟩ pw_first.1)
 have hce : wrap64 (3 + (wrap64 (nc : Int)).tmod 5) = (c : Int) := by
  rw [show wrap64 (nc : Int) = (nc : Int) by unfold wrap64; omega, Int.tmod_eq_emod_of_nonneg (by omega), show 3 + (nc : Int) % 5 = (c : Int) by rw [HC.out]; omega]
  unfold wrap64
  omega
 clear HV HW4 HL HB1 HX HY HC ha hb hc
 go_wp2_with fail
 refine HL1.out.mono ?_
 rintro e w5 ⟨rfl, ha5⟩
 obtain ⟨S1, HS1⟩ : ∃ S1 : TS, Hid (S1 = ⟨(S0 30).d.write 2 (pgB (pageP (layN (lvN x c)))), (S0 30).s.at_ 2, upd (S0 30).data 2 (layN (lvN x c))⟩) := Hy
 rw [← HS1.out] at ha5
 have HA5 := Hi ha5
 have HD1 : Hid (S1.d.soft.length ≤ 1) := Hi (by rw [HS1.out]; exact Nat.le_refl _)
 have HL2 := Hi (HA5.out.leaf H HG.out (by have := HD1.out; omega) y 3 (by omega) (by decide) (k := 3) (by rw [HS1.out]; exact pw_first.2.1))
 clear ha5 HL1 HA4 hce
 go_wp2_with fail
 refine HL2.out.mono ?_
 rintro e w6 ⟨rfl, ha6⟩
 obtain ⟨S2, HS2⟩ : ∃ S2 : TS, Hid (S2 = ⟨S1.d.write 3 (pgB (pageP (layN (lvN y 3)))), S1.s.at_ 3, upd S1.data 3 (layN (lvN y 3))⟩) := Hy
 rw [← HS2.out] at ha6
 have HA6 := Hi ha6
 have HD2 : Hid (S2.d.soft.length ≤ 2) := Hi (by rw [HS2.out, HS1.out]; exact Nat.le_refl _)
 have HE2 : Hid (∃ d0, S2 = ⟨d0, (pw0.at_ 2).at_ 3, wrD x c y⟩) := Hi (by rw [HS2.out, HS1.out]; exact ⟨_, rfl⟩)
 clear ha6 HL2 HA5 HD1 HS1 HS2
 obtain ⟨g, HGG⟩ : ∃ g, Hid (g = w6.heap.size) := Hy
 obtain ⟨w7, HW7⟩ : ∃ w7, Hid (w7 = w6.alloc (.cells #[.int .i64 2, .int .i64 3] 3)) := Hy
 have HK7 : Hid (∃ K, WrKd O w P D V g 3 S2 w7 K) := Hi (by
  obtain ⟨K, hl, hV, h0⟩ := HA6.out
  have hb : Below w6.heap.size w6 w7 := by rw [HW7.out]; exact (Below.refl _ _).alloc (Nat.le_refl _) _
  have hlt := hl.there V hV
  refine ⟨_, hl.grow H hb, .inl hV, .inr ⟨Nat.le_of_eq HGG.out.symm, by rw [HGG.out, HW7.out]; simp⟩, by rw [HGG.out]; omega, by rw [HGG.out]; exact hl.below.size, (hb.cell (p := ⟨V, 0, none⟩) hlt).trans h0, ?_⟩
  rw [HW7.out, HGG.out]
  exact VRow.new _ _ _)
 obtain ⟨m, HM⟩ : ∃ m : Nat, Hid (m = nh % 5) := Hy
 have hm5 : m < 5 := by rw [HM.out]; omega
 have hn5 : ((nh : Int) % 5) = (m : Int) := by rw [HM.out]; omega
 go_upto_region 8 with (fail)
 rw [← HGG.out, ← HW7.out]
 clear HGG HW7 HA6
 go_upto_block 0 with (fail)
 go_cut [16, 17] from 59 to 79 (fun s16 s17 wx => s16 = .slice (some ⟨g, 0, none⟩) 2 2 ∧ Hid (WrCut O w P D V g nh s17 wx))
 case first =>
  obtain ⟨K, hk7⟩ := HK7.out
  have HK8 := Hi hk7
  have hE := HE2.out
  clear hk7 HK7
  go_upto_region 10 with (fail)
  rw [hn5]
  have hmc : m = 0 ∨ m = 1 ∨ m = 2 ∨ m = 3 ∨ m = 4 := by omega
  rcases hmc with rfl | rfl | rfl | rfl | rfl
  ·obtain ⟨d0, hE⟩ := hE
   go_wp2_with fail
   go_meet
   exact ⟨rfl, Hi ⟨(y : Int), 3, 0, S2, K, rfl, ⟨by omega, by omega⟩, by decide, HK8.out, by rw [hE]; exact wr_good0 hx hcc hy, by have := HD2.out; omega, by rw [← HM.out]; rfl⟩⟩
  ·obtain ⟨d0, hE⟩ := hE
   go_wp2_with fail
   go_meet
   exact ⟨rfl, Hi ⟨(y : Int) + 1, 3, 2, S2, K, rfl, ⟨by omega, by omega⟩, by decide, HK8.out, by rw [hE]; exact wr_good1 hx hcc hy, by have := HD2.out; omega, by rw [← HM.out]; rfl⟩⟩
  ·obtain ⟨d0, hE⟩ := hE
   have HLF := Hi (HK8.out.leaf H HG.out (by have := HD2.out; omega) y 2 (by omega) (by decide) (k := 4) (by rw [hE]; exact pw_first.2.2.1))
   go_wp2_with fail
   refine HLF.out.mono ?_
   rintro e w8 ⟨rfl, hk8⟩
   have HK9 := Hi hk8
   clear hk8 HLF
   have cg : w8.cell? ⟨g, 1, none⟩ = some (.int .i64 3) := (HK9.out.row.cell 1).trans rfl
   have fg : w8.frozen? ⟨g, 1, none⟩ = false := HK9.out.row.frozen 1
   go_wp2_with fail
   go_meet
   exact ⟨rfl, Hi ⟨(y : Int), 4, 2, _, K, rfl, ⟨by omega, by omega⟩, by decide, HK9.out.poke H 4, by rw [hE]; exact wr_good2 hx hcc hy, by (have h := HD2.out); show (S2.d.soft ++ [_]).length ≤ 3; rw [List.length_append]; exact Nat.add_le_add h (Nat.le_refl 1), by rw [← HM.out]; rfl⟩⟩
  ·obtain ⟨d0, hE⟩ := hE
   go_wp2_with fail
   go_meet
   exact ⟨rfl, Hi ⟨(x : Int), 3, 2, S2, K, rfl, ⟨by omega, by omega⟩, by decide, HK8.out, by rw [hE]; exact wr_good3 hx hcc hy, by have := HD2.out; omega, by rw [← HM.out]; rfl⟩⟩
  ·obtain ⟨d0, hE⟩ := hE
   have cg : w7.cell? ⟨g, 1, none⟩ = some (.int .i64 3) := (HK8.out.row.cell 1).trans rfl
   have fg : w7.frozen? ⟨g, 1, none⟩ = false := HK8.out.row.frozen 1
   go_wp2_with fail
   go_meet
   exact ⟨rfl, Hi ⟨(y : Int), 29, 4, S2, K, rfl, ⟨by omega, by omega⟩, by decide, HK8.out.poke H 29, by rw [hE]; exact wr_good4 hx hcc hy, by have := HD2.out; omega, by rw [← HM.out]; rfl⟩⟩
 case rest =>
  obtain ⟨rfl, hcw⟩ := hcut
  obtain ⟨key, q, fz, S, K, rfl, hkey, hq, hkd, hgood, hsoft, hfz⟩ := hcw.out
  obtain ⟨k, hfk, hrr, hgd⟩ := hgood
  have HKD := Hi hkd
  have HSO := Hi hsoft
  have HFZ := Hi hfz
  have HFK := Hi hfk
  have HRR := Hi hrr
  have HGD := Hi hgd
  have hz := Tryz.zeroNode
  clear hcw hkd hsoft hfz hfk hrr hgd HK7 HE2 HD2
  go_wp2_with fail
  obtain ⟨gk, HGK⟩ : ∃ gk, Hid (gk = wc.heap.size) := Hy
  obtain ⟨w9, HW9⟩ : ∃ w9, Hid (w9 = wc.alloc (.cells #[.int .i64 key] 3)) := Hy
  rw [← HGK.out, ← HW9.out]
  have HB9 : Hid (Below wc.heap.size wc w9) := Hi (by rw [HW9.out]; exact (Below.refl _ _).alloc (Nat.le_refl _) _)
  have HRK : Hid (VRow w9 gk 3 [.int .i64 key]) := Hi (by rw [HW9.out, HGK.out]; exact VRow.new _ _ _)
  have HRW : Hid (VRow w9 g 3 [.int .i64 2, .int .i64 (q : Int)]) := Hi (HKD.out.row.keep (HB9.out.block g HKD.out.row.lt))
  have HLY := Hi (Lay_yes (w := w9) (l := ⟨some ⟨gk, 0, none⟩, none, some ⟨g, 0, none⟩, 1, 0, 2⟩) (x := wrR key q) ⟨VRow.nums9 (zs := [key]) HRK.out, Strs.none_ _ _, VRow.nums9 (zs := [2, (q : Int)]) HRW.out, by show 1 ≤ maxLen; unfold maxLen; omega, Nat.zero_le _, by show 2 ≤ maxLen; unfold maxLen; omega, (fun z hz => by rw [List.mem_singleton.1 hz]; omega), (fun v hv => by cases hv), (fun z hz => by
   simp only [List.mem_cons, List.not_mem_nil, or_false] at hz
   omega)⟩ HRR.out)
  obtain ⟨t, HT⟩ : ∃ t : ByteArray, Hid (t = ⟨(layN (wrR key q)).toArray⟩) := Hy
  have HTL : Hid (t.data.toList = layN (wrR key q)) := Hi (by rw [HT.out])
  have HTS : Hid (t.size ≤ 120) := Hi (by rw [HT.out]; show (layN (wrR key q)).toArray.size ≤ 120; simpa using layN_fits HRR.out)
  rw [← HT.out] at HLY
  have HL9 := Hi (HKD.out.law.carry H HB9.out)
  have HC9 : Hid (w9.cell? ⟨V, 0, none⟩ = some (ptr P)) := Hi ((HB9.out.cell (p := ⟨V, 0, none⟩) (below_block HKD.out.c0)).trans HKD.out.c0)
  have HKV := Hi HKD.out.kv
  clear HKD HRK HRW HW9 HGK HT HB9 hz
  refine HLY.out.mono ?_
  rintro e w10 ⟨rfl, hb⟩
  have HL10 := Hi (HL9.out.carry H hb)
  have c10 : w10.cell? ⟨V, 0, none⟩ = some (ptr P) := (hb.cell (p := ⟨V, 0, none⟩) (below_block HC9.out)).trans HC9.out
  have HNW := Hi (H.newYes HL10.out.pg HL10.out.inv HL10.out.up (HL10.out.laidK HG.out) (by have := HSO.out; omega) t HTS.out k HFK.out)
  clear hb HLY HL9 HC9
  dsimp only
  go_wp2_with fail
  refine HNW.out.mono ?_
  rintro e w11 ⟨rfl, hp, hk⟩
  rw [HTL.out] at hp
  obtain ⟨S1, HS1⟩ : ∃ S1 : TS, Hid (S1 = ⟨S.d.write k (pgB (pageP (layN (wrR key q)))), S.s.at_ k, upd S.data k (layN (wrR key q))⟩) := Hy
  have HL11 : Hid (LawT O w K w11 P D 30 S1 (fun _ => [])) := Hi (by
   rw [HS1.out]
   exact HL10.out.turned hp hk (HL10.out.inv.laid HFK.out (layN_fits HRR.out)) HL10.out.up)
  have c11 : w11.cell? ⟨V, 0, none⟩ = some (ptr P) := (World.cell?_of_block (w := w10) (a := ⟨V, 0, none⟩) (hk.block V HKV.out)).trans c10
  have HGD1 := Hi (HGD.out S1.d)
  clear hp hk HNW c10 HTL HTS HL10 HGD
  dsimp only
  go_wp2_with fail
  refine (Num_nil _).mono ?_
  rintro e w' ⟨rfl, rfl⟩
  dsimp only
  go_wp2_with fail
  refine (Num_nil _).mono ?_
  rintro e w' ⟨rfl, rfl⟩
  dsimp only
  go_wp2_with fail
  refine (Num_nil _).mono ?_
  rintro e w' ⟨rfl, rfl⟩
  dsimp only
  go_wp2_with fail
  obtain ⟨s, hsv, hfl, hdp, hcm⟩ := HGD1.out
  have HSV : Hid (Svd S1 (k : Int) s) := Hi (by rw [HS1.out] at hsv ⊢; exact hsv)
  have HFL := Hi hfl
  have HDP := Hi hdp
  have HCM := Hi hcm
  have HSD := Hi (chkSound_is H HL11.out HG.out HSV.out)
  rw [HFL.out] at HSD
  clear hsv hfl hdp hcm HGD1
  refine HSD.out.mono ?_
  rintro e w12 ⟨u1, rfl, he1, hb⟩
  have HL12 := Hi (HL11.out.carry H hb)
  have HE1 := Hi he1
  have c12 : w12.cell? ⟨V, 0, none⟩ = some (ptr P) := (hb.cell (p := ⟨V, 0, none⟩) (below_block c11)).trans c11
  clear he1 hb c11 HL11 HSD
  dsimp only
  go_wp2_with fail
  refine (chkPages_is H HL12.out HG.out HSV.out).mono ?_
  rintro e w13 ⟨v2, u2, rfl, he2, -, hb⟩
  rw [HFL.out] at he2
  have HE2' := Hi he2
  have HE1' := Hi (HE1.out.below hb)
  have HL13 := Hi (HL12.out.carry H hb)
  have c13 : w13.cell? ⟨V, 0, none⟩ = some (ptr P) := (hb.cell (p := ⟨V, 0, none⟩) (below_block c12)).trans c12
  clear he2 hb c12 HL12 HE1
  dsimp only
  go_wp2_with fail
  refine (chkDepth_is H HL13.out HG.out HSV.out).mono ?_
  rintro e w14 ⟨u3, rfl, he3, hb⟩
  rw [HFL.out] at he3
  rw [HDP.out]
  have HE3 := Hi he3
  have HE2 := Hi (HE2'.out.below hb)
  have HE1 := Hi (HE1'.out.below hb)
  have HL14 := Hi (HL13.out.carry H hb)
  have c14 : w14.cell? ⟨V, 0, none⟩ = some (ptr P) := (hb.cell (p := ⟨V, 0, none⟩) (below_block c13)).trans c13
  clear he3 hb c13 HL13 HE1' HE2' HFL HDP
  have HX14 := Hi (HL14.out.laid HG.out)
  by_cases hm0 : m = 0
  ·subst hm0
   obtain rfl : fz = 0 := by rw [HFZ.out, ← HM.out]; rfl
   rw [if_pos rfl]
   dsimp only
   go_wp2_with fail
   refine (Num_any 0 u1 w14 HE1.out.is HX14.out.err).mono ?_
   rintro e w15 ⟨rfl, hb⟩
   have HL15 := Hi (HL14.out.carry H hb)
   have HE2b := Hi (HE2.out.below hb)
   have HE3b := Hi (HE3.out.below hb)
   have c15 : w15.cell? ⟨V, 0, none⟩ = some (ptr P) := (hb.cell (p := ⟨V, 0, none⟩) (below_block c14)).trans c14
   have HX15 := Hi (HL15.out.laid HG.out)
   clear hb HL14 HE1 HE2 HE3 c14 HX14
   dsimp only
   go_wp2_with fail
   refine (Num_any 0 u2 w15 HE2b.out.is HX15.out.err).mono ?_
   rintro e w16 ⟨rfl, hb⟩
   have HL16 := Hi (HL15.out.carry H hb)
   have HE3c := Hi (HE3b.out.below hb)
   have c16 : w16.cell? ⟨V, 0, none⟩ = some (ptr P) := (hb.cell (p := ⟨V, 0, none⟩) (below_block c15)).trans c15
   have HX16 := Hi (HL16.out.laid HG.out)
   clear hb HL15 HE2b HE3b c15 HX15
   dsimp only
   go_wp2_with fail
   refine (Num_any 0 u3 w16 HE3c.out.is HX16.out.err).mono ?_
   rintro e w17 ⟨rfl, hb⟩
   have HL17 := Hi (HL16.out.carry H hb)
   have c17 : w17.cell? ⟨V, 0, none⟩ = some (ptr P) := (hb.cell (p := ⟨V, 0, none⟩) (below_block c16)).trans c16
   clear hb HL16 HE3c c16 HX16
   obtain ⟨hro, hge, hcw⟩ := HCM.out trivial
   have HRO : Hid (rootOk S1.s (k : Int) = true) := Hi (by rw [HS1.out]; exact hro)
   have HGE : Hid (S1.s.sup.gen + 1 < 4294967296) := Hi (by rw [HS1.out]; exact hge)
   obtain ⟨s2, hsv2, hwz⟩ := hcw (S1.commit (k : Int)).d
   have HSV2 : Hid (Svd (S1.commit (k : Int)) (S1.commit (k : Int)).s.sup.root s2) := Hi (by rw [HS1.out] at hsv2 ⊢; exact hsv2)
   have HWZ : Hid (wholeZ (S1.commit (k : Int)) s2 = 0) := Hi (by rw [HS1.out] at hwz ⊢; exact hwz)
   clear hro hge hcw hsv2 hwz HCM
   dsimp only
   go_wp2_with fail
   refine (H.commitYes HL17.out.pg HL17.out.inv HL17.out.up (HL17.out.laidK HG.out) (k : Int) HRO.out HGE.out).mono ?_
   rintro e w18 ⟨rfl, hp, hk⟩
   have HL18 : Hid (LawT O w K w18 P D 30 (S1.commit (k : Int)) S1.data) := Hi (HL17.out.turned hp hk (HL17.out.inv.committed HGE.out HRO.out) HL17.out.up)
   have c18 : w18.cell? ⟨V, 0, none⟩ = some (ptr P) := (World.cell?_of_block (w := w17) (a := ⟨V, 0, none⟩) (hk.block V HKV.out)).trans c17
   have HWH := Hi (chkWhole_is H HL18.out HG.out HSV2.out)
   rw [HWZ.out] at HWH
   clear hp hk HL17 c17
   dsimp only
   go_wp2_with fail
   refine (Num_nil _).mono ?_
   rintro e w' ⟨rfl, rfl⟩
   dsimp only
   go_wp2_with fail
   refine HWH.out.mono ?_
   rintro e w19 ⟨u9, rfl, he, hb⟩
   obtain rfl : u9 = .nilIface := ErrFrom.zero he
   have HL19 := Hi (HL18.out.carry H hb)
   clear he hb HL18 HWH c18
   dsimp only
   go_wp2_with fail
   refine (Num_nil _).mono ?_
   rintro e w' ⟨rfl, rfl⟩
   dsimp only
   go_wp2_with fail
   go_ret
   exact ⟨rfl, HL19.out.below⟩
  ·have hfz0 : fz ≠ 0 := by
    rw [HFZ.out, ← HM.out, if_neg hm0]
    split <;> decide
   rw [if_neg hfz0]
   by_cases hm4 : m = 4
   ·subst hm4
    obtain rfl : fz = 4 := by rw [HFZ.out, ← HM.out]; rfl
    dsimp only
    go_wp2_with fail
    refine (Num_any 4 u1 w14 HE1.out.is HX14.out.err).mono ?_
    rintro e w15 ⟨rfl, hb⟩
    have HL15 := Hi (HL14.out.carry H hb)
    have HE2b := Hi (HE2.out.below hb)
    have HE3b := Hi (HE3.out.below hb)
    have c15 : w15.cell? ⟨V, 0, none⟩ = some (ptr P) := (hb.cell (p := ⟨V, 0, none⟩) (below_block c14)).trans c14
    have HX15 := Hi (HL15.out.laid HG.out)
    clear hb HL14 HE1 HE2 HE3 c14 HX14
    dsimp only
    go_wp2_with fail
    refine (Num_any 4 u2 w15 HE2b.out.is HX15.out.err).mono ?_
    rintro e w16 ⟨rfl, hb⟩
    have HL16 := Hi (HL15.out.carry H hb)
    have HE3c := Hi (HE3b.out.below hb)
    have c16 : w16.cell? ⟨V, 0, none⟩ = some (ptr P) := (hb.cell (p := ⟨V, 0, none⟩) (below_block c15)).trans c15
    have HX16 := Hi (HL16.out.laid HG.out)
    clear hb HL15 HE2b HE3b c15 HX15
    dsimp only
    go_wp2_with fail
    refine (Num_any 4 u3 w16 HE3c.out.is HX16.out.err).mono ?_
    rintro e w17 ⟨rfl, hb⟩
    have HL17 := Hi (HL16.out.carry H hb)
    have c17 : w17.cell? ⟨V, 0, none⟩ = some (ptr P) := (hb.cell (p := ⟨V, 0, none⟩) (below_block c16)).trans c16
    clear hb HL16 HE3c c16 HX16
    dsimp only
    go_wp2_with fail
    refine (hnil w17).mono ?_
    rintro e w18 ⟨u9, rfl, he, hb⟩
    have HL18 := Hi (HL17.out.carry H hb)
    have HE9 := Hi he
    have HX18 := Hi (HL18.out.laid HG.out)
    clear he hb HL17 c17
    dsimp only
    go_wp2_with fail
    refine (Num_any 9 u9 w18 HE9.out.is HX18.out.err).mono ?_
    rintro e w19 ⟨rfl, hb⟩
    have HL19 := Hi (HL18.out.carry H hb)
    clear hb HL18 HE9 HX18
    dsimp only
    go_wp2_with fail
    go_ret
    exact ⟨rfl, HL19.out.below⟩
   ·obtain rfl : fz = 2 := by rw [HFZ.out, ← HM.out, if_neg hm0, if_neg hm4]
    dsimp only
    go_wp2_with fail
    refine (Num_any 2 u1 w14 HE1.out.is HX14.out.err).mono ?_
    rintro e w15 ⟨rfl, hb⟩
    have HL15 := Hi (HL14.out.carry H hb)
    have HE2b := Hi (HE2.out.below hb)
    have HE3b := Hi (HE3.out.below hb)
    have c15 : w15.cell? ⟨V, 0, none⟩ = some (ptr P) := (hb.cell (p := ⟨V, 0, none⟩) (below_block c14)).trans c14
    have HX15 := Hi (HL15.out.laid HG.out)
    clear hb HL14 HE1 HE2 HE3 c14 HX14
    dsimp only
    go_wp2_with fail
    refine (Num_any 2 u2 w15 HE2b.out.is HX15.out.err).mono ?_
    rintro e w16 ⟨rfl, hb⟩
    have HL16 := Hi (HL15.out.carry H hb)
    have HE3c := Hi (HE3b.out.below hb)
    have c16 : w16.cell? ⟨V, 0, none⟩ = some (ptr P) := (hb.cell (p := ⟨V, 0, none⟩) (below_block c15)).trans c15
    have HX16 := Hi (HL16.out.laid HG.out)
    clear hb HL15 HE2b HE3b c15 HX15
    dsimp only
    go_wp2_with fail
    refine (Num_any 2 u3 w16 HE3c.out.is HX16.out.err).mono ?_
    rintro e w17 ⟨rfl, hb⟩
    have HL17 := Hi (HL16.out.carry H hb)
    have c17 : w17.cell? ⟨V, 0, none⟩ = some (ptr P) := (hb.cell (p := ⟨V, 0, none⟩) (below_block c16)).trans c16
    clear hb HL16 HE3c c16 HX16
    dsimp only
    go_wp2_with fail
    refine (hnil w17).mono ?_
    rintro e w18 ⟨u9, rfl, he, hb⟩
    have HL18 := Hi (HL17.out.carry H hb)
    have HE9 := Hi he
    have HX18 := Hi (HL18.out.laid HG.out)
    clear he hb HL17 c17
    dsimp only
    go_wp2_with fail
    refine (Num_any 9 u9 w18 HE9.out.is HX18.out.err).mono ?_
    rintro e w19 ⟨rfl, hb⟩
    have HL19 := Hi (HL18.out.carry H hb)
    clear hb HL18 HE9 HX18
    dsimp only
    go_wp2_with fail
    go_ret
    exact ⟨rfl, HL19.out.below⟩
end
end Go.Proofs.YtafclmbecmgbnaaGreatDoor
