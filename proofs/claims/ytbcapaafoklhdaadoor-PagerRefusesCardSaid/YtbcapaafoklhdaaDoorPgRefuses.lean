/-
  The walk of the statement PagerRefuses: it answers true, and no memory that was there has turned. Conditions: the pager's calls are as PgSpec says; errors.errorType and crc.halved are laid.
-/
import Derived.Test.YtbcapaafoklhdaaDoorPgLaw
import Derived.Test.YtbcapaafoklhdaaDoorSets
namespace Go.Proofs.YtbcapaafoklhdaaDoor
open Go.RowKit

theorem prefuses_long {O : PgOwn} (H : PgSpec O) (z r : Int) (t : ByteArray) (hl : 500 < t.size) (w : World) (hg : Laid2 w) :
    Calls Tryd.prog 5 #[.int .i64 z, .string t, .int .i64 r] w fun e w' => e = .returned (.bool true) ∧ Below w.heap.size w w' := by
  have HG := Lib.hid hg
  have hd : decide ((500 : Int) < (t.size : Int)) = true := by simp; omega
  clear hg
  go_enter Tryd.func5, Tryd.ntmps5
  go_wp2_with fail
  refine (awake_any H _ HG.out).mono ?_
  rintro e w1 ⟨rfl, hb⟩
  have HB := Lib.hid hb
  have HG1 := Lib.hid (HG.out.carry hb)
  clear hb
  go_wp2_with fail
  refine (awake_any H _ HG1.out).mono ?_
  rintro e w2 ⟨rfl, hb⟩
  have HB2 := Lib.hid (HB.out.trans (hb.mono HB.out.size))
  clear hb
  go_wp2_with fail
  go_ret
  exact ⟨rfl, HB2.out⟩
/-- a literal without parts, at a guarded step -/
theorem wpList_build_setG {ops : Array Oper} {rest : List Oper} {o : Oper} {a : Act} {w : World} {Q : Exit → Act → World → Prop} (hw : Region.wanted o (yielded ops a.tmps) = true) (ho : o.op = .build 53 #[])
    (h : wpList Tryd.prog ops Q rest (a.put o.dst (stV zeroSt)) w) : wpList Tryd.prog ops Q (o :: rest) a w :=
  wpList_step fun _ hK => by
    rw [if_pos hw]
    exact wp_build 53 #[] ho (by simp [Tryd.builtSet]) (hK _ _ (by simpa [Tryd.builtSet] using h))
/-- a formatted disk, K kept -/
theorem format_k {O : PgOwn} (H : PgSpec O) {w0 w : World} {K : Nat → Prop} {D n : Nat} (h3 : 3 ≤ n) (hn : n ≤ 240) (data : Nat → List UInt8) (hb : Below w0.heap.size w0 w) (hd : DiskAt K w D n (Dk.new n)) (ht : There K w) (hlow : ∀ k, k < w0.heap.size → K k) (hg : Laid2 w0) :
    Calls Tryd.prog 11 #[ptr D] w fun e w' => ∃ P, e = .returned (.tuple #[ptr P, .nilIface]) ∧ LawP O w0 K w' P D n (switchD (Dk.new n) (Sb.bare 1)) (Pst.opened (Sb.bare 1)) data data ∧ Kept K w w' := by
  have hbk : ∀ w', Kept K w w' → Below w0.heap.size w0 w' := fun w' hk => hb.trans ((hk.less8 hlow).below fun _ h => h)
  refine (H.formatYes 1 hd ht (fun w' hk => hg.carry (hbk w' hk)) rfl h3 (.inl ⟨bestD_new h3, rfl⟩) (by decide)).mono ?_
  rintro e w' ⟨P, rfl, hp, hk⟩
  exact ⟨P, rfl, ⟨hp, PInv.start h3 hn data, rfl, hbk w' hk, hlow⟩, hk⟩
/-- the head: what nil answers -/
theorem rootOk_bare {r : Int} {g : Nat} : rootOk (Pst.opened (Sb.bare g)) r = decide (r = 0) := by
  have hu : ∀ k, k < 240 → Bits.has (Pst.opened (Sb.bare g)).used k = false := fun k hk => by
    have hb : Bits.Ok (Bits.both (Pst.opened (Sb.bare g)).sup.used (Pst.opened (Sb.bare g)).new) := noSt_ok.both noSt_ok
    unfold Pst.used
    rw [Bits.has_minus hb (Nat.le_refl _), Bits.has_both (s := (Pst.opened (Sb.bare g)).sup.used) (t := (Pst.opened (Sb.bare g)).new) noSt_ok noSt_ok hk]
    show ((Bits.has noSt k || Bits.has noSt k) && _) = false
    rw [has_noSt]
    rfl
  unfold rootOk hasI
  by_cases h : 0 ≤ r ∧ r < 240
  · rw [decide_eq_true h, Bool.true_and, hu r.toNat (by omega), Bool.or_false]
  · rw [decide_eq_false h, Bool.false_and, Bool.or_false]
set_option maxRecDepth 100000 in
set_option maxHeartbeats 4000000 in
theorem prefuses_out {O : PgOwn} (H : PgSpec O) (z r : Int) (t : ByteArray) (hl : t.size ≤ 500) (hz : z < 1 ∨ (1 ≤ z ∧ 40 < z)) (w : World) (hg : Laid2 w) :
    Calls Tryd.prog 5 #[.int .i64 z, .string t, .int .i64 r] w fun e w' => e = .returned (.bool true) ∧ Below w.heap.size w w' := by
  have HG := Lib.hid hg
  have hd : decide ((500 : Int) < (t.size : Int)) = false := by simp; omega
  have HGK : Hid (∀ w', Below w.heap.size w w' → Laid2 w') := Lib.hid fun w' h => hg.carry h
  clear hg
  go_enter Tryd.func5, Tryd.ntmps5
  go_wp2_with fail
  refine (awake_any H _ HG.out).mono ?_
  rintro e w1 ⟨rfl, hb⟩
  have HB := Lib.hid hb
  clear hb
  go_wp2_with fail
  refine (H.nilLoad w1 2).mono ?_
  rintro e w2 ⟨a, rfl, he, hb⟩
  have HA := Lib.hid he.is
  clear he
  have HBX := Lib.hid (HB.out.trans (hb.mono HB.out.size))
  clear hb HB
  have HB := HBX
  clear HBX
  unfold txt
  go_wp2_with fail
  refine (H.nilNew w2 t).mono ?_
  rintro e w3 ⟨b, rfl, he, hb⟩
  have HBB := Lib.hid he.is
  clear he
  have HAX := Lib.hid (HA.out.carry hb)
  clear HA
  have HA := HAX
  clear HAX
  have HBX := Lib.hid (HB.out.trans (hb.mono HB.out.size))
  clear hb HB
  have HB := HBX
  clear HBX
  go_wp2_with fail
  refine (H.nilAbort w3).mono ?_
  rintro e w4 ⟨rfl, hb⟩
  have HAX := Lib.hid (HA.out.carry hb)
  clear HA
  have HA := HAX
  clear HAX
  have HBBX := Lib.hid (HBB.out.carry hb)
  clear HBB
  have HBB := HBBX
  clear HBBX
  have HBX := Lib.hid (HB.out.trans (hb.mono HB.out.size))
  clear hb HB
  have HB := HBX
  clear HBX
  go_wp2_with fail
  refine (Num_any 9 a w4 HA.out (HGK.out _ HB.out).err).mono ?_
  rintro e w5 ⟨rfl, hb⟩
  have HBBX := Lib.hid (HBB.out.carry hb)
  clear HBB
  have HBB := HBBX
  clear HBBX
  have HBX := Lib.hid (HB.out.trans (hb.mono HB.out.size))
  clear hb HB
  have HB := HBX
  clear HBX
  go_wp2_with fail
  refine (Num_any 9 b w5 HBB.out (HGK.out _ HB.out).err).mono ?_
  rintro e w6 ⟨rfl, hb⟩
  have HBX := Lib.hid (HB.out.trans (hb.mono HB.out.size))
  clear hb HB
  have HB := HBX
  clear HBX
  go_wp2_with fail
  refine (H.nilDrop w6 2).mono ?_
  rintro e w7 ⟨v, rfl, he, hb⟩
  have HV := Lib.hid he.is
  clear he
  have HBX := Lib.hid (HB.out.trans (hb.mono HB.out.size))
  clear hb HB
  have HB := HBX
  clear HBX
  go_wp2_with fail
  refine (Num_any 9 v w7 HV.out (HGK.out _ HB.out).err).mono ?_
  rintro e w8 ⟨rfl, hb⟩
  have HBX := Lib.hid (HB.out.trans (hb.mono HB.out.size))
  clear hb HB
  have HB := HBX
  clear HBX
  go_wp2_with fail
  refine (H.nilCommit w8 0).mono ?_
  rintro e w9 ⟨u, rfl, he, hb⟩
  have HU := Lib.hid he.is
  clear he
  have HBX := Lib.hid (HB.out.trans (hb.mono HB.out.size))
  clear hb HB
  have HB := HBX
  clear HBX
  go_wp2_with fail
  refine (Num_any 9 u w9 HU.out (HGK.out _ HB.out).err).mono ?_
  rintro e w10 ⟨rfl, hb⟩
  have HBX := Lib.hid (HB.out.trans (hb.mono HB.out.size))
  clear hb HB
  have HB := HBX
  clear HBX
  go_wp2_with fail
  refine (H.nilRoot w10).mono ?_
  rintro e w11 ⟨rfl, hb⟩
  have HBX := Lib.hid (HB.out.trans (hb.mono HB.out.size))
  clear hb HB
  have HB := HBX
  clear HBX
  go_wp2_with fail
  refine (H.nilGen w11).mono ?_
  rintro e w12 ⟨rfl, hb⟩
  have HBX := Lib.hid (HB.out.trans (hb.mono HB.out.size))
  clear hb HB
  have HB := HBX
  clear HBX
  go_wp2_with fail
  refine (H.nilUsed w12).mono ?_
  rintro e w13 ⟨rfl, hb⟩
  have HBX := Lib.hid (HB.out.trans (hb.mono HB.out.size))
  clear hb HB
  have HB := HBX
  clear HBX
  go_wp2_with (with_reducible refine stop_at (o := ⟨some 75, _, _, _, _, _⟩) ?_)
  refine wpList_build_setG (by rfl) rfl ?_
  have heq := equalIn_same zeroSt_length
  have hgd := guardSet
  rcases hz with hz | ⟨hz, hz2⟩
  · go_wp2_with fail
    go_ret
    exact ⟨rfl, HB.out⟩
  · have hd2 : decide (z < 1) = false := by simp; omega
    go_wp2_with fail
    go_ret
    exact ⟨rfl, HB.out⟩
set_option maxRecDepth 100000 in
set_option maxHeartbeats 4000000 in
theorem prefuses_small {O : PgOwn} (H : PgSpec O) (z r : Int) (t : ByteArray) (hl : t.size ≤ 500) (hz : 1 ≤ z ∧ z < 3) (w : World) (hg : Laid2 w) :
    Calls Tryd.prog 5 #[.int .i64 z, .string t, .int .i64 r] w fun e w' => e = .returned (.bool true) ∧ Below w.heap.size w w' := by
  obtain ⟨n, rfl⟩ : ∃ n : Nat, z = (n : Int) := ⟨z.toNat, by omega⟩
  have hz1 : 1 ≤ n := by omega
  have hz2 : n < 3 := by omega
  have hd1 : decide ((n : Int) < 1) = false := by simp; omega
  have hd2 : decide ((40 : Int) < (n : Int)) = false := by simp; omega
  have hd3 : decide ((n : Int) < 3) = true := by simp; omega
  clear hz
  have HG := Lib.hid hg
  have hd : decide ((500 : Int) < (t.size : Int)) = false := by simp; omega
  have HGK : Hid (∀ w', Below w.heap.size w w' → Laid2 w') := Lib.hid fun w' h => hg.carry h
  clear hg
  go_enter Tryd.func5, Tryd.ntmps5
  go_wp2_with fail
  refine (awake_any H _ HG.out).mono ?_
  rintro e w1 ⟨rfl, hb⟩
  have HB := Lib.hid hb
  clear hb
  go_wp2_with fail
  refine (H.nilLoad w1 2).mono ?_
  rintro e w2 ⟨a, rfl, he, hb⟩
  have HA := Lib.hid he.is
  clear he
  have HBX := Lib.hid (HB.out.trans (hb.mono HB.out.size))
  clear hb HB
  have HB := HBX
  clear HBX
  unfold txt
  go_wp2_with fail
  refine (H.nilNew w2 t).mono ?_
  rintro e w3 ⟨b, rfl, he, hb⟩
  have HBB := Lib.hid he.is
  clear he
  have HAX := Lib.hid (HA.out.carry hb)
  clear HA
  have HA := HAX
  clear HAX
  have HBX := Lib.hid (HB.out.trans (hb.mono HB.out.size))
  clear hb HB
  have HB := HBX
  clear HBX
  go_wp2_with fail
  refine (H.nilAbort w3).mono ?_
  rintro e w4 ⟨rfl, hb⟩
  have HAX := Lib.hid (HA.out.carry hb)
  clear HA
  have HA := HAX
  clear HAX
  have HBBX := Lib.hid (HBB.out.carry hb)
  clear HBB
  have HBB := HBBX
  clear HBBX
  have HBX := Lib.hid (HB.out.trans (hb.mono HB.out.size))
  clear hb HB
  have HB := HBX
  clear HBX
  go_wp2_with fail
  refine (Num_any 9 a w4 HA.out (HGK.out _ HB.out).err).mono ?_
  rintro e w5 ⟨rfl, hb⟩
  have HBBX := Lib.hid (HBB.out.carry hb)
  clear HBB
  have HBB := HBBX
  clear HBBX
  have HBX := Lib.hid (HB.out.trans (hb.mono HB.out.size))
  clear hb HB
  have HB := HBX
  clear HBX
  go_wp2_with fail
  refine (Num_any 9 b w5 HBB.out (HGK.out _ HB.out).err).mono ?_
  rintro e w6 ⟨rfl, hb⟩
  have HBX := Lib.hid (HB.out.trans (hb.mono HB.out.size))
  clear hb HB
  have HB := HBX
  clear HBX
  go_wp2_with fail
  refine (H.nilDrop w6 2).mono ?_
  rintro e w7 ⟨v, rfl, he, hb⟩
  have HV := Lib.hid he.is
  clear he
  have HBX := Lib.hid (HB.out.trans (hb.mono HB.out.size))
  clear hb HB
  have HB := HBX
  clear HBX
  go_wp2_with fail
  refine (Num_any 9 v w7 HV.out (HGK.out _ HB.out).err).mono ?_
  rintro e w8 ⟨rfl, hb⟩
  have HBX := Lib.hid (HB.out.trans (hb.mono HB.out.size))
  clear hb HB
  have HB := HBX
  clear HBX
  go_wp2_with fail
  refine (H.nilCommit w8 0).mono ?_
  rintro e w9 ⟨u, rfl, he, hb⟩
  have HU := Lib.hid he.is
  clear he
  have HBX := Lib.hid (HB.out.trans (hb.mono HB.out.size))
  clear hb HB
  have HB := HBX
  clear HBX
  go_wp2_with fail
  refine (Num_any 9 u w9 HU.out (HGK.out _ HB.out).err).mono ?_
  rintro e w10 ⟨rfl, hb⟩
  have HBX := Lib.hid (HB.out.trans (hb.mono HB.out.size))
  clear hb HB
  have HB := HBX
  clear HBX
  go_wp2_with fail
  refine (H.nilRoot w10).mono ?_
  rintro e w11 ⟨rfl, hb⟩
  have HBX := Lib.hid (HB.out.trans (hb.mono HB.out.size))
  clear hb HB
  have HB := HBX
  clear HBX
  go_wp2_with fail
  refine (H.nilGen w11).mono ?_
  rintro e w12 ⟨rfl, hb⟩
  have HBX := Lib.hid (HB.out.trans (hb.mono HB.out.size))
  clear hb HB
  have HB := HBX
  clear HBX
  go_wp2_with fail
  refine (H.nilUsed w12).mono ?_
  rintro e w13 ⟨rfl, hb⟩
  have HBX := Lib.hid (HB.out.trans (hb.mono HB.out.size))
  clear hb HB
  have HB := HBX
  clear HBX
  go_wp2_with (with_reducible refine stop_at (o := ⟨some 75, _, _, _, _, _⟩) ?_)
  refine wpList_build_setG (by rfl) rfl ?_
  have heq := equalIn_same zeroSt_length
  have hgd := guardSet
  go_wp2_with fail
  refine (New_yes n hz1 (by omega) w13).mono ?_
  rintro e w14 ⟨D, rfl, hd14, hb⟩
  have HD := Lib.hid hd14
  have HB14 : Hid (Below w.heap.size w w14) := Lib.hid (HB.out.trans (hb.mono HB.out.size))
  clear hd14 hb HB
  go_wp2_with fail
  refine (H.openNo HD.out (HGK.out _ HB14.out).crc 1 (.inr (.inl ⟨rfl, hz2, rfl⟩))).mono ?_
  rintro e w15 ⟨c, rfl, he, hb⟩
  have HC := Lib.hid he.is
  have HD15 := Lib.hid (HD.out.carry hb)
  have HB15 : Hid (Below w.heap.size w w15) := Lib.hid (HB14.out.trans (hb.mono HB14.out.size))
  clear he hb HD HB14
  go_wp2_with fail
  refine (H.formatNo HD15.out (HGK.out _ HB15.out).crc rfl hz2).mono ?_
  rintro e w16 ⟨f, rfl, he, hb⟩
  have HE := Lib.hid he.is
  have HC16 := Lib.hid (HC.out.carry hb)
  have HB16 : Hid (Below w.heap.size w w16) := Lib.hid (HB15.out.trans (hb.mono HB15.out.size))
  clear he hb HD15 HB15 HC
  go_wp2_with fail
  refine (Num_any 1 c w16 HC16.out (HGK.out _ HB16.out).err).mono ?_
  rintro e w17 ⟨rfl, hb⟩
  have HE17 := Lib.hid (HE.out.carry hb)
  have HB17 : Hid (Below w.heap.size w w17) := Lib.hid (HB16.out.trans (hb.mono HB16.out.size))
  clear hb HB16 HE HC16
  go_wp2_with fail
  refine (Num_any 1 f w17 HE17.out (HGK.out _ HB17.out).err).mono ?_
  rintro e w18 ⟨rfl, hb⟩
  have HB18 : Hid (Below w.heap.size w w18) := Lib.hid (HB17.out.trans (hb.mono HB17.out.size))
  clear hb HB17 HE17
  go_wp2_with fail
  go_ret
  exact ⟨rfl, HB18.out⟩
set_option maxRecDepth 100000 in
set_option maxHeartbeats 4000000 in
theorem prefuses_zero {O : PgOwn} (H : PgSpec O) (z : Int) (t : ByteArray) (hl : t.size ≤ 500) (hz : 3 ≤ z ∧ z ≤ 40)  (w : World) (hg : Laid2 w) :
    Calls Tryd.prog 5 #[.int .i64 z, .string t, .int .i64 0] w fun e w' => e = .returned (.bool true) ∧ Below w.heap.size w w' := by
  obtain ⟨n, rfl⟩ : ∃ n : Nat, z = (n : Int) := ⟨z.toNat, by omega⟩
  have hz1 : 1 ≤ n := by omega
  have hz2 : n ≤ 40 := by omega
  have hd1 : decide ((n : Int) < 1) = false := by simp; omega
  have hd2 : decide ((40 : Int) < (n : Int)) = false := by simp; omega
  have hz3 : 3 ≤ n := by omega
  have hd3 : decide ((n : Int) < 3) = false := by simp; omega
  clear hz
  have HG := Lib.hid hg
  have hd : decide ((500 : Int) < (t.size : Int)) = false := by simp; omega
  have HGK : Hid (∀ w', Below w.heap.size w w' → Laid2 w') := Lib.hid fun w' h => hg.carry h
  clear hg
  go_enter Tryd.func5, Tryd.ntmps5
  go_wp2_with fail
  refine (awake_any H _ HG.out).mono ?_
  rintro e w1 ⟨rfl, hb⟩
  have HB := Lib.hid hb
  clear hb
  go_wp2_with fail
  refine (H.nilLoad w1 2).mono ?_
  rintro e w2 ⟨a, rfl, he, hb⟩
  have HA := Lib.hid he.is
  clear he
  have HBX := Lib.hid (HB.out.trans (hb.mono HB.out.size))
  clear hb HB
  have HB := HBX
  clear HBX
  unfold txt
  go_wp2_with fail
  refine (H.nilNew w2 t).mono ?_
  rintro e w3 ⟨b, rfl, he, hb⟩
  have HBB := Lib.hid he.is
  clear he
  have HAX := Lib.hid (HA.out.carry hb)
  clear HA
  have HA := HAX
  clear HAX
  have HBX := Lib.hid (HB.out.trans (hb.mono HB.out.size))
  clear hb HB
  have HB := HBX
  clear HBX
  go_wp2_with fail
  refine (H.nilAbort w3).mono ?_
  rintro e w4 ⟨rfl, hb⟩
  have HAX := Lib.hid (HA.out.carry hb)
  clear HA
  have HA := HAX
  clear HAX
  have HBBX := Lib.hid (HBB.out.carry hb)
  clear HBB
  have HBB := HBBX
  clear HBBX
  have HBX := Lib.hid (HB.out.trans (hb.mono HB.out.size))
  clear hb HB
  have HB := HBX
  clear HBX
  go_wp2_with fail
  refine (Num_any 9 a w4 HA.out (HGK.out _ HB.out).err).mono ?_
  rintro e w5 ⟨rfl, hb⟩
  have HBBX := Lib.hid (HBB.out.carry hb)
  clear HBB
  have HBB := HBBX
  clear HBBX
  have HBX := Lib.hid (HB.out.trans (hb.mono HB.out.size))
  clear hb HB
  have HB := HBX
  clear HBX
  go_wp2_with fail
  refine (Num_any 9 b w5 HBB.out (HGK.out _ HB.out).err).mono ?_
  rintro e w6 ⟨rfl, hb⟩
  have HBX := Lib.hid (HB.out.trans (hb.mono HB.out.size))
  clear hb HB
  have HB := HBX
  clear HBX
  go_wp2_with fail
  refine (H.nilDrop w6 2).mono ?_
  rintro e w7 ⟨v, rfl, he, hb⟩
  have HV := Lib.hid he.is
  clear he
  have HBX := Lib.hid (HB.out.trans (hb.mono HB.out.size))
  clear hb HB
  have HB := HBX
  clear HBX
  go_wp2_with fail
  refine (Num_any 9 v w7 HV.out (HGK.out _ HB.out).err).mono ?_
  rintro e w8 ⟨rfl, hb⟩
  have HBX := Lib.hid (HB.out.trans (hb.mono HB.out.size))
  clear hb HB
  have HB := HBX
  clear HBX
  go_wp2_with fail
  refine (H.nilCommit w8 0).mono ?_
  rintro e w9 ⟨u, rfl, he, hb⟩
  have HU := Lib.hid he.is
  clear he
  have HBX := Lib.hid (HB.out.trans (hb.mono HB.out.size))
  clear hb HB
  have HB := HBX
  clear HBX
  go_wp2_with fail
  refine (Num_any 9 u w9 HU.out (HGK.out _ HB.out).err).mono ?_
  rintro e w10 ⟨rfl, hb⟩
  have HBX := Lib.hid (HB.out.trans (hb.mono HB.out.size))
  clear hb HB
  have HB := HBX
  clear HBX
  go_wp2_with fail
  refine (H.nilRoot w10).mono ?_
  rintro e w11 ⟨rfl, hb⟩
  have HBX := Lib.hid (HB.out.trans (hb.mono HB.out.size))
  clear hb HB
  have HB := HBX
  clear HBX
  go_wp2_with fail
  refine (H.nilGen w11).mono ?_
  rintro e w12 ⟨rfl, hb⟩
  have HBX := Lib.hid (HB.out.trans (hb.mono HB.out.size))
  clear hb HB
  have HB := HBX
  clear HBX
  go_wp2_with fail
  refine (H.nilUsed w12).mono ?_
  rintro e w13 ⟨rfl, hb⟩
  have HBX := Lib.hid (HB.out.trans (hb.mono HB.out.size))
  clear hb HB
  have HB := HBX
  clear HBX
  go_wp2_with (with_reducible refine stop_at (o := ⟨some 75, _, _, _, _, _⟩) ?_)
  refine wpList_build_setG (by rfl) rfl ?_
  have heq := equalIn_same zeroSt_length
  have hgd := guardSet
  go_wp2_with fail
  refine (New_yes n hz1 (by omega) w13).mono ?_
  rintro e w14 ⟨D, rfl, hd14, hb⟩
  have HD := Lib.hid hd14
  have HB14 : Hid (Below w.heap.size w w14) := Lib.hid (HB.out.trans (hb.mono HB.out.size))
  have HS : Hid (w.heap.size ≤ w13.heap.size ∧ w13.heap.size ≤ w14.heap.size) := Lib.hid ⟨HB.out.size, hb.size⟩
  clear hd14 hb HB
  go_wp2_with fail
  refine (H.openNo HD.out (HGK.out _ HB14.out).crc 4 (.inr (.inr ⟨rfl, hz3, bestD_new hz3, rfl⟩))).mono ?_
  rintro e w15 ⟨c, rfl, he, hb⟩
  obtain ⟨K, HK⟩ : ∃ K : Nat → Prop, Hid (K = fun k => k < w13.heap.size ∨ (w14.heap.size ≤ k ∧ k < w15.heap.size)) := ⟨_, Lib.hid rfl⟩
  have HC : Hid (ErrK K w15 4 c) := Lib.hid (he.errK fun k h1 h2 => by rw [HK.out]; exact .inr ⟨h1, h2⟩)
  have HD15 : Hid (DiskAt K w15 D n (Dk.new n)) := Lib.hid (HD.out.more hb fun k hk => by
    rw [HK.out] at hk
    rcases hk with hk | hk
    · exact .inl hk
    · exact .inr hk.1)
  have HT15 : Hid (There K w15) := Lib.hid fun k hk => by
    rw [HK.out] at hk
    have h1 := hb.size
    have h2 := HS.out
    rcases hk with hk | hk <;> omega
  have HKL : Hid (∀ k, k < w.heap.size → K k) := Lib.hid fun k hk => by
    rw [HK.out]
    have h2 := HS.out
    exact .inl (by omega)
  have HB15 : Hid (Below w.heap.size w w15) := Lib.hid (HB14.out.trans (hb.mono HB14.out.size))
  clear he hb HD HB14
  go_wp2_with fail
  refine (format_k H hz3 (by omega) (fun _ => []) HB15.out HD15.out HT15.out HKL.out HG.out).mono ?_
  rintro e w16 ⟨P, rfl, hl, hk⟩
  have HL := Lib.hid hl
  have HC16 := Lib.hid (HC.out.kept hk)
  clear hl hk HD15 HT15 HC HB15
  have HR0 : Hid (rootOk (Pst.opened (Sb.bare 1)) 0 = true) := Lib.hid (by rw [rootOk_bare]; rfl)
  go_wp2_with fail
  refine (H.commitYes HL.out.pg HL.out.inv HL.out.up (HL.out.laidK HG.out) 0 HR0.out (by decide)).mono ?_
  rintro e w17 ⟨rfl, hp, hk⟩
  have HL17 := Lib.hid (HL.out.turned hp hk (HL.out.inv.committed (by decide) HR0.out) rfl)
  have HC17 := Lib.hid (HC16.out.kept hk)
  clear hp hk HL HC16
  have hpg := HL17.out.pg
  obtain ⟨B, hO, hD, hT, hBK⟩ := hpg
  have HO := Lib.hid hO
  have HD17 := Lib.hid hD
  have HT17 : Hid (There (fun b => K b ∨ B b) w17) := Lib.hid fun k hk => hk.elim (fun h => hT k h) fun h => H.lt HO.out k h
  clear hO hD hT hBK
  go_wp2_with fail
  refine (H.formatYes 3 HD17.out HT17.out (fun w' hk => HG.out.carry (HL17.out.belowK (hk.less8 fun k h => .inl h))) HL17.out.up hz3 (.inr ⟨_, HL17.out.inv.bestD, HL17.out.inv.held.good, rfl⟩) (by decide)).mono ?_
  rintro e w18 ⟨Q, rfl, hq, hk⟩
  have HQ := Lib.hid hq
  have HO18 := Lib.hid (H.carry HO.out fun b hb => hk.block b (.inr hb))
  have HC18 := Lib.hid (HC17.out.kept (hk.less8 fun k h => .inl h)).is
  have HB18 := Lib.hid (HL17.out.belowK (hk.less8 fun k h => .inl h))
  clear hq hk HD17 HT17 HO HC17 HL17
  go_wp2_with fail
  refine (Num_any 4 c w18 HC18.out (HGK.out _ HB18.out).err).mono ?_
  rintro e w19 ⟨rfl, hb⟩
  have HQ19 := Lib.hid (H.pgCarry HQ.out hb)
  have HO19 := Lib.hid (H.carry HO18.out fun b hb2 => hb.block b (H.lt HO18.out b hb2))
  have HB19 : Hid (Below w.heap.size w w19) := Lib.hid (HB18.out.trans (hb.mono HB18.out.size))
  clear hb HQ HO18 HB18 HC18
  go_wp2_with fail
  refine (Num_nil _).mono ?_
  rintro e w' ⟨rfl, rfl⟩
  go_wp2_with fail
  refine (Num_nil _).mono ?_
  rintro e w' ⟨rfl, rfl⟩
  go_wp2_with fail
  refine (Num_nil _).mono ?_
  rintro e w' ⟨rfl, rfl⟩
  go_wp2_with fail
  refine (H.pgGen HQ19.out).mono ?_
  rintro e w20 ⟨rfl, hb⟩
  have HQ20 := Lib.hid (H.pgCarry HQ19.out hb)
  have HO20 := Lib.hid (H.carry HO19.out fun b hb2 => hb.block b (H.lt HO19.out b hb2))
  have HB20 : Hid (Below w.heap.size w w20) := Lib.hid (HB19.out.trans (hb.mono HB19.out.size))
  clear hb HQ19 HO19 HB19
  rw [show (Pst.opened (Sb.bare 3)).sup.gen = 3 from rfl]
  go_wp2_with fail
  refine (H.gen HO20.out).mono ?_
  rintro e w21 ⟨rfl, hb⟩
  have HQ21 := Lib.hid (H.pgCarry HQ20.out hb)
  have HB21 : Hid (Below w.heap.size w w21) := Lib.hid (HB20.out.trans (hb.mono HB20.out.size))
  clear hb HQ20 HO20 HB20
  rw [show ((Pst.opened (Sb.bare 1)).commit 0).sup.gen = 2 from rfl]
  go_wp2_with fail
  refine (H.pgRoot HQ21.out).mono ?_
  rintro e w22 ⟨rfl, hb⟩
  have HB22 : Hid (Below w.heap.size w w22) := Lib.hid (HB21.out.trans (hb.mono HB21.out.size))
  clear hb HQ21 HB21
  rw [show (Pst.opened (Sb.bare 3)).sup.root = 0 from rfl]
  go_wp2_with fail
  go_ret
  exact ⟨rfl, HB22.out⟩
set_option maxRecDepth 100000 in
set_option maxHeartbeats 4000000 in
theorem prefuses_root {O : PgOwn} (H : PgSpec O) (z r : Int) (t : ByteArray) (hl : t.size ≤ 500) (hz : 3 ≤ z ∧ z ≤ 40) (hr : r ≠ 0)  (w : World) (hg : Laid2 w) :
    Calls Tryd.prog 5 #[.int .i64 z, .string t, .int .i64 r] w fun e w' => e = .returned (.bool true) ∧ Below w.heap.size w w' := by
  obtain ⟨n, rfl⟩ : ∃ n : Nat, z = (n : Int) := ⟨z.toNat, by omega⟩
  have hz1 : 1 ≤ n := by omega
  have hz2 : n ≤ 40 := by omega
  have hd1 : decide ((n : Int) < 1) = false := by simp; omega
  have hd2 : decide ((40 : Int) < (n : Int)) = false := by simp; omega
  have hz3 : 3 ≤ n := by omega
  have hd3 : decide ((n : Int) < 3) = false := by simp; omega
  have hr0 : (r == 0) = false := by simp [hr]
  have HRN := Lib.hid hr
  clear hz hr
  have HG := Lib.hid hg
  have hd : decide ((500 : Int) < (t.size : Int)) = false := by simp; omega
  have HGK : Hid (∀ w', Below w.heap.size w w' → Laid2 w') := Lib.hid fun w' h => hg.carry h
  clear hg
  go_enter Tryd.func5, Tryd.ntmps5
  go_wp2_with fail
  refine (awake_any H _ HG.out).mono ?_
  rintro e w1 ⟨rfl, hb⟩
  have HB := Lib.hid hb
  clear hb
  go_wp2_with fail
  refine (H.nilLoad w1 2).mono ?_
  rintro e w2 ⟨a, rfl, he, hb⟩
  have HA := Lib.hid he.is
  clear he
  have HBX := Lib.hid (HB.out.trans (hb.mono HB.out.size))
  clear hb HB
  have HB := HBX
  clear HBX
  unfold txt
  go_wp2_with fail
  refine (H.nilNew w2 t).mono ?_
  rintro e w3 ⟨b, rfl, he, hb⟩
  have HBB := Lib.hid he.is
  clear he
  have HAX := Lib.hid (HA.out.carry hb)
  clear HA
  have HA := HAX
  clear HAX
  have HBX := Lib.hid (HB.out.trans (hb.mono HB.out.size))
  clear hb HB
  have HB := HBX
  clear HBX
  go_wp2_with fail
  refine (H.nilAbort w3).mono ?_
  rintro e w4 ⟨rfl, hb⟩
  have HAX := Lib.hid (HA.out.carry hb)
  clear HA
  have HA := HAX
  clear HAX
  have HBBX := Lib.hid (HBB.out.carry hb)
  clear HBB
  have HBB := HBBX
  clear HBBX
  have HBX := Lib.hid (HB.out.trans (hb.mono HB.out.size))
  clear hb HB
  have HB := HBX
  clear HBX
  go_wp2_with fail
  refine (Num_any 9 a w4 HA.out (HGK.out _ HB.out).err).mono ?_
  rintro e w5 ⟨rfl, hb⟩
  have HBBX := Lib.hid (HBB.out.carry hb)
  clear HBB
  have HBB := HBBX
  clear HBBX
  have HBX := Lib.hid (HB.out.trans (hb.mono HB.out.size))
  clear hb HB
  have HB := HBX
  clear HBX
  go_wp2_with fail
  refine (Num_any 9 b w5 HBB.out (HGK.out _ HB.out).err).mono ?_
  rintro e w6 ⟨rfl, hb⟩
  have HBX := Lib.hid (HB.out.trans (hb.mono HB.out.size))
  clear hb HB
  have HB := HBX
  clear HBX
  go_wp2_with fail
  refine (H.nilDrop w6 2).mono ?_
  rintro e w7 ⟨v, rfl, he, hb⟩
  have HV := Lib.hid he.is
  clear he
  have HBX := Lib.hid (HB.out.trans (hb.mono HB.out.size))
  clear hb HB
  have HB := HBX
  clear HBX
  go_wp2_with fail
  refine (Num_any 9 v w7 HV.out (HGK.out _ HB.out).err).mono ?_
  rintro e w8 ⟨rfl, hb⟩
  have HBX := Lib.hid (HB.out.trans (hb.mono HB.out.size))
  clear hb HB
  have HB := HBX
  clear HBX
  go_wp2_with fail
  refine (H.nilCommit w8 0).mono ?_
  rintro e w9 ⟨u, rfl, he, hb⟩
  have HU := Lib.hid he.is
  clear he
  have HBX := Lib.hid (HB.out.trans (hb.mono HB.out.size))
  clear hb HB
  have HB := HBX
  clear HBX
  go_wp2_with fail
  refine (Num_any 9 u w9 HU.out (HGK.out _ HB.out).err).mono ?_
  rintro e w10 ⟨rfl, hb⟩
  have HBX := Lib.hid (HB.out.trans (hb.mono HB.out.size))
  clear hb HB
  have HB := HBX
  clear HBX
  go_wp2_with fail
  refine (H.nilRoot w10).mono ?_
  rintro e w11 ⟨rfl, hb⟩
  have HBX := Lib.hid (HB.out.trans (hb.mono HB.out.size))
  clear hb HB
  have HB := HBX
  clear HBX
  go_wp2_with fail
  refine (H.nilGen w11).mono ?_
  rintro e w12 ⟨rfl, hb⟩
  have HBX := Lib.hid (HB.out.trans (hb.mono HB.out.size))
  clear hb HB
  have HB := HBX
  clear HBX
  go_wp2_with fail
  refine (H.nilUsed w12).mono ?_
  rintro e w13 ⟨rfl, hb⟩
  have HBX := Lib.hid (HB.out.trans (hb.mono HB.out.size))
  clear hb HB
  have HB := HBX
  clear HBX
  go_wp2_with (with_reducible refine stop_at (o := ⟨some 75, _, _, _, _, _⟩) ?_)
  refine wpList_build_setG (by rfl) rfl ?_
  have heq := equalIn_same zeroSt_length
  have hgd := guardSet
  go_wp2_with fail
  refine (New_yes n hz1 (by omega) w13).mono ?_
  rintro e w14 ⟨D, rfl, hd14, hb⟩
  have HD := Lib.hid hd14
  have HB14 : Hid (Below w.heap.size w w14) := Lib.hid (HB.out.trans (hb.mono HB.out.size))
  have HS : Hid (w.heap.size ≤ w13.heap.size ∧ w13.heap.size ≤ w14.heap.size) := Lib.hid ⟨HB.out.size, hb.size⟩
  clear hd14 hb HB
  go_wp2_with fail
  refine (H.openNo HD.out (HGK.out _ HB14.out).crc 4 (.inr (.inr ⟨rfl, hz3, bestD_new hz3, rfl⟩))).mono ?_
  rintro e w15 ⟨c, rfl, he, hb⟩
  obtain ⟨K, HK⟩ : ∃ K : Nat → Prop, Hid (K = fun k => k < w13.heap.size ∨ (w14.heap.size ≤ k ∧ k < w15.heap.size)) := ⟨_, Lib.hid rfl⟩
  have HC : Hid (ErrK K w15 4 c) := Lib.hid (he.errK fun k h1 h2 => by rw [HK.out]; exact .inr ⟨h1, h2⟩)
  have HD15 : Hid (DiskAt K w15 D n (Dk.new n)) := Lib.hid (HD.out.more hb fun k hk => by
    rw [HK.out] at hk
    rcases hk with hk | hk
    · exact .inl hk
    · exact .inr hk.1)
  have HT15 : Hid (There K w15) := Lib.hid fun k hk => by
    rw [HK.out] at hk
    have h1 := hb.size
    have h2 := HS.out
    rcases hk with hk | hk <;> omega
  have HKL : Hid (∀ k, k < w.heap.size → K k) := Lib.hid fun k hk => by
    rw [HK.out]
    have h2 := HS.out
    exact .inl (by omega)
  have HB15 : Hid (Below w.heap.size w w15) := Lib.hid (HB14.out.trans (hb.mono HB14.out.size))
  clear he hb HD HB14
  go_wp2_with fail
  refine (format_k H hz3 (by omega) (fun _ => []) HB15.out HD15.out HT15.out HKL.out HG.out).mono ?_
  rintro e w16 ⟨P, rfl, hl, hk⟩
  have HL := Lib.hid hl
  have HC16 := Lib.hid (HC.out.kept hk)
  clear hl hk HD15 HT15 HC HB15
  have HR0 : Hid (rootOk (Pst.opened (Sb.bare 1)) r = false) := Lib.hid (by rw [rootOk_bare]; exact decide_eq_false HRN.out)
  go_wp2_with fail
  refine (H.commitNo HL.out.pg HL.out.inv r HR0.out).mono ?_
  rintro e w17 ⟨f, rfl, he, hb⟩
  obtain ⟨K2, hKK, hl17, hf17⟩ := HL.out.err H hb he
  have HL17 := Lib.hid hl17
  have HF17 := Lib.hid hf17
  have HC17 : Hid (ErrK K2 w17 4 c) := Lib.hid ((HC16.out.kept (Kept.of_below hb HL.out.there)).more hKK)
  clear he hb hl17 hf17 hKK HL HC16
  have hpg := HL17.out.pg
  obtain ⟨B, hO, hD, hT, hBK⟩ := hpg
  have HO := Lib.hid hO
  have HD17 := Lib.hid hD
  have HT17 : Hid (There (fun b => K2 b ∨ B b) w17) := Lib.hid fun k hk => hk.elim (fun h => hT k h) fun h => H.lt HO.out k h
  clear hO hD hT hBK
  go_wp2_with fail
  refine (H.formatYes 2 HD17.out HT17.out (fun w' hk => HG.out.carry (HL17.out.belowK (hk.less8 fun k h => .inl h))) HL17.out.up hz3 (.inr ⟨_, HL17.out.inv.bestD, HL17.out.inv.held.good, rfl⟩) (by decide)).mono ?_
  rintro e w18 ⟨Q, rfl, hq, hk⟩
  have HQ := Lib.hid hq
  have HO18 := Lib.hid (H.carry HO.out fun b hb => hk.block b (.inr hb))
  have HC18 := Lib.hid (HC17.out.kept (hk.less8 fun k h => .inl h)).is
  have HF18 := Lib.hid (HF17.out.kept (hk.less8 fun k h => .inl h)).is
  have HB18 := Lib.hid (HL17.out.belowK (hk.less8 fun k h => .inl h))
  clear hq hk HD17 HT17 HO HC17 HL17 HF17
  go_wp2_with fail
  refine (Num_any 4 c w18 HC18.out (HGK.out _ HB18.out).err).mono ?_
  rintro e w19 ⟨rfl, hb⟩
  have HQ19 := Lib.hid (H.pgCarry HQ.out hb)
  have HO19 := Lib.hid (H.carry HO18.out fun b hb2 => hb.block b (H.lt HO18.out b hb2))
  have HF19 := Lib.hid (HF18.out.carry hb)
  have HB19 : Hid (Below w.heap.size w w19) := Lib.hid (HB18.out.trans (hb.mono HB18.out.size))
  clear hb HQ HO18 HB18 HC18 HF18
  go_wp2_with fail
  refine (Num_nil _).mono ?_
  rintro e w' ⟨rfl, rfl⟩
  go_wp2_with fail
  refine (Num_any 1 f w19 HF19.out (HGK.out _ HB19.out).err).mono ?_
  rintro e w19a ⟨rfl, hb⟩
  have HQX := Lib.hid (H.pgCarry HQ19.out hb)
  have HOX := Lib.hid (H.carry HO19.out fun b hb2 => hb.block b (H.lt HO19.out b hb2))
  have HFX := Lib.hid (HF19.out.carry hb)
  have HBX : Hid (Below w.heap.size w w19a) := Lib.hid (HB19.out.trans (hb.mono HB19.out.size))
  clear hb HQ19 HO19 HF19 HB19
  have HQ19 := HQX
  have HO19 := HOX
  have HF19 := HFX
  have HB19 := HBX
  clear HQX HOX HFX HBX
  go_wp2_with fail
  refine (Num_any 1 f w19a HF19.out (HGK.out _ HB19.out).err).mono ?_
  rintro e w19b ⟨rfl, hb⟩
  have HQX := Lib.hid (H.pgCarry HQ19.out hb)
  have HOX := Lib.hid (H.carry HO19.out fun b hb2 => hb.block b (H.lt HO19.out b hb2))
  have HFX := Lib.hid (HF19.out.carry hb)
  have HBX : Hid (Below w.heap.size w w19b) := Lib.hid (HB19.out.trans (hb.mono HB19.out.size))
  clear hb HQ19 HO19 HF19 HB19
  have HQ19 := HQX
  have HO19 := HOX
  have HF19 := HFX
  have HB19 := HBX
  clear HQX HOX HFX HBX
  go_wp2_with fail
  refine (Num_nil _).mono ?_
  rintro e w' ⟨rfl, rfl⟩
  go_wp2_with fail
  refine (H.pgGen HQ19.out).mono ?_
  rintro e w20 ⟨rfl, hb⟩
  have HQ20 := Lib.hid (H.pgCarry HQ19.out hb)
  have HO20 := Lib.hid (H.carry HO19.out fun b hb2 => hb.block b (H.lt HO19.out b hb2))
  have HB20 : Hid (Below w.heap.size w w20) := Lib.hid (HB19.out.trans (hb.mono HB19.out.size))
  clear hb HQ19 HO19 HB19
  rw [show (Pst.opened (Sb.bare 2)).sup.gen = 2 from rfl]
  go_wp2_with fail
  refine (H.gen HO20.out).mono ?_
  rintro e w21 ⟨rfl, hb⟩
  have HQ21 := Lib.hid (H.pgCarry HQ20.out hb)
  have HB21 : Hid (Below w.heap.size w w21) := Lib.hid (HB20.out.trans (hb.mono HB20.out.size))
  clear hb HQ20 HO20 HB20
  rw [show (Pst.opened (Sb.bare 1)).sup.gen = 1 from rfl]
  go_wp2_with fail
  refine (H.pgRoot HQ21.out).mono ?_
  rintro e w22 ⟨rfl, hb⟩
  have HB22 : Hid (Below w.heap.size w w22) := Lib.hid (HB21.out.trans (hb.mono HB21.out.size))
  clear hb HQ21 HB21
  rw [show (Pst.opened (Sb.bare 2)).sup.root = 0 from rfl]
  go_wp2_with fail
  go_ret
  exact ⟨rfl, HB22.out⟩
theorem prefuses_walk {O : PgOwn} (H : PgSpec O) (z : Int) (t : ByteArray) (r : Int) (w : World) (hg : Laid2 w) :
    Calls Tryd.prog 5 #[.int .i64 z, .string t, .int .i64 r] w fun e w' => e = .returned (.bool true) ∧ Below w.heap.size w w' := by
  by_cases hl : t.size ≤ 500
  · by_cases h1 : 1 ≤ z
    · by_cases h2 : 40 < z
      · exact prefuses_out H z r t hl (.inr ⟨h1, h2⟩) w hg
      · by_cases h3 : z < 3
        · exact prefuses_small H z r t hl ⟨h1, h3⟩ w hg
        · by_cases h0 : r = 0
          · subst h0
            exact prefuses_zero H z t hl ⟨by omega, by omega⟩ w hg
          · exact prefuses_root H z r t hl ⟨by omega, by omega⟩ h0 w hg
    · exact prefuses_out H z r t hl (.inl (by omega)) w hg
  · exact prefuses_long H z r t (by omega) w hg
end Go.Proofs.YtbcapaafoklhdaaDoor
