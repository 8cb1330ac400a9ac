/-
  The walk of the statement PackBack: it answers true, and no memory that was there has turned. Conditions: the arguments are within their kinds, and the package variable errors.errorType holds the handle of the type error.
-/
import Derived.Test.YtkdofddhijcahaaDoorPackParse
import Derived.Test.YtkdofddhijcahaaDoorPackGetsWalk
import Derived.Deep.RegionLaw
import Derived.StillTactics
namespace Go.Proofs.YtkdofddhijcahaaDoor
open Go.RowKit

/-- the widths and the numbers that a statement makes of its arguments -/
def wsOf (bs : List Nat) : List Nat := bs.map fun b => 1 + b % 4
def nsOf (bs cs : List Nat) : List Nat := (bs.zip cs).map fun x => x.2 % 256 ^ (1 + x.1 % 4)
theorem wsOf_length (bs : List Nat) : (wsOf bs).length = bs.length := by simp [wsOf]
theorem nsOf_length {bs cs : List Nat} (h : bs.length ≤ cs.length) : (nsOf bs cs).length = bs.length := by simp [nsOf]; omega
theorem wsOf_take {bs : List Nat} {j : Nat} (h : j < bs.length) : (wsOf bs).take (j + 1) = (wsOf bs).take j ++ [1 + bs[j] % 4] := by
  rw [List.take_add_one, List.getElem?_eq_getElem (by rw [wsOf_length]; exact h)]
  simp [wsOf]
theorem nsOf_take {bs cs : List Nat} {j : Nat} (h : j < bs.length) (h2 : j < cs.length) : (nsOf bs cs).take (j + 1) = (nsOf bs cs).take j ++ [cs[j] % 256 ^ (1 + bs[j] % 4)] := by
  have h3 : j < (nsOf bs cs).length := by simp [nsOf]; omega
  rw [List.take_add_one, List.getElem?_eq_getElem h3]
  simp [nsOf]
theorem wsOf_widths {bs : List Nat} (h : bs.length ≤ 40) : Widths (wsOf bs) := by
  refine ⟨by rw [wsOf_length]; exact h, fun n hn => ?_⟩
  obtain ⟨b, _, rfl⟩ := List.mem_map.1 hn
  omega
theorem wsOf_fit (bs cs : List Nat) : FitAll (wsOf bs) (nsOf bs cs) := by
  intro i h1 h2
  simp only [wsOf, nsOf, List.getElem_map, List.getElem_zip]
  exact Nat.mod_lt _ (Nat.pow_pos (by decide))

theorem numCells_append (a b : List Nat) : numCells (a ++ b) = numCells a ++ numCells b := by simp [numCells, ints]
theorem Nums.at_' {w : World} {k : IntKind} {A : Option Addr} {zs : List Int} {a : Addr} (h : Nums w k A zs) (e : A = some a) {i : Nat} {z : Int} (hz : zs[i]? = some z) : w.cell? (a.add i) = some (.int k z) := by
  obtain ⟨a', e', hc⟩ := h.at_ hz
  obtain rfl : a' = a := Option.some.inj (e'.symm.trans e)
  exact hc
/-- two rows of a call's own lie apart -/
def Sep (u v : Value) : Prop := ∀ g, u.ownBlock = some g → v.ownBlock ≠ some g
theorem Sep.kept {u v : Value} (h : Sep u v) : v.ownBlock = none ∨ v.ownBlock ≠ u.ownBlock := by
  cases hv : v.ownBlock with
  | none => exact .inl rfl
  | some g => exact .inr (fun e => h g e.symm hv)
theorem Sep.symm {u v : Value} (h : Sep u v) : Sep v u := fun g h1 h2 => h g h2 h1

theorem Sep.nil (v : Value) : Sep (.slice none 0 0) v := fun g h => by simp [Value.ownBlock] at h
/-- behind an append to the one row the other one is as it was, and apart -/
theorem append_other {w w1 : World} {B n m g c : Nat} {e : TypeId} {o : Obj} {u v : Value} {ys : List Value} (hv : w.ownsRow B e 1 v n ys) (hs : Sep u v) (hg : (w.alloc o).grownBy w1 u.ownBlock) (hat : u.ownBlock = some g ∨ g = w.heap.size + 1) :
    w1.ownsRow B e 1 v n ys ∧ Sep (.slice (some ⟨g, 0, none⟩) m c) v := by
  refine ⟨(hv.alloc o).kept hg hs.kept, fun g' h1 h2 => ?_⟩
  have hgg : g = g' := by simpa [Value.ownBlock] using h1
  subst hgg
  rcases hat with h | h
  · exact hs g h h2
  · have := (hv.lt g h2).2
    omega

theorem grown_of_drew {w w1 : World} {r : Option Nat} (h : w.drew.grownBy w1 r) : w.grownBy w1 r := ⟨h.os, h.tape, h.output, h.size, h.block⟩
theorem own_form {w : World} {B n : Nat} {e : TypeId} {v : Value} {xs : List Value} (h : w.ownsRow B e 1 v n xs) : ∃ A c, v = .slice A n c := by
  rcases h.2 with ⟨rfl, rfl⟩ | ⟨g, c, cur, rfl, _⟩
  · exact ⟨_, _, rfl⟩
  · exact ⟨_, _, rfl⟩

def BuildRel (B : Nat) (bs cs : List Nat) (w : World) (u v i : Value) (wr : World) : Prop :=
  ∃ j : Nat, j ≤ bs.length ∧ i = .int .i64 (j : Int) ∧ wr.ownsRow B 3 1 u j (numCells ((wsOf bs).take j)) ∧ wr.ownsRow B 3 1 v j (numCells ((nsOf bs cs).take j)) ∧ Sep u v ∧ Below B w wr

def SameRel (A5 A6 A7 : Option Addr) (bs cs : List Nat) (w : World) (i : Value) (wr : World) : Prop :=
  ∃ j : Nat, j ≤ bs.length ∧ i = .int .i64 (j : Int) ∧ Nums wr .i64 A5 (ints (wsOf bs)) ∧ Nums wr .i64 A6 (ints (nsOf bs cs)) ∧ Nums wr .i64 A7 (ints (nsOf bs cs)) ∧ Below w.heap.size w wr

set_option maxHeartbeats 4000000 in
set_option maxRecDepth 100000 in
theorem back_short (bs cs : List Nat) (A A2 : Option Addr) (cap cap2 : Nat) (w : World) (hb : ∀ n ∈ bs, n < 256) (hc : ∀ n ∈ cs, n < 4294967296) (h40 : bs.length ≤ 40) (hbc : bs.length ≤ cs.length)
    (hA : Nums w .u8 A (ints bs)) (hA2 : Nums w .u32 A2 (ints cs)) (hg : Laid w) :
    Calls Tryd.prog 3 #[.slice A bs.length cap, .slice A2 cs.length cap2] w fun e w' => e = .returned (.bool true) ∧ Below w.heap.size w w' := by
  obtain ⟨i0, hi, hz0, hz1, hz2⟩ := info_parts Tryd.infoInt
  have HBS := Lib.hid hb
  have HCS := Lib.hid hc
  have HA := Lib.hid hA
  have HA2 := Lib.hid hA2
  have HG := Lib.hid hg
  have hl1 : decide ((bs.length : Int) > 40) = false := by simp; omega
  have hl2 : decide (cs.length < bs.length) = false := by simp; omega
  clear hb hc hA hA2 hg
  go_enter Tryd.func3, Tryd.ntmps3
  go_wp2_with fail
  refine (awake_any _).mono ?_
  rintro e w1 ⟨rfl, hb1⟩
  have HB1 := Lib.hid hb1
  clear hb1
  go_wp2_with fail
  go_loopw [5, 6, 7] (fun u v i wr => BuildRel w.heap.size bs cs w u v i wr) (fun _ _ i _ => bs.length - (intOf i).toNat)
  case atStart => exact ⟨0, Nat.zero_le _, rfl, World.ownsRow_nil _ _ _ _, World.ownsRow_nil _ _ _ _, Sep.nil _, HB1.out⟩
  case round =>
    obtain ⟨j, hj, rfl, ho1, ho2, hsep, hbw⟩ := hrel
    have HO1 := Lib.hid ho1
    have HO2 := Lib.hid ho2
    have HS := Lib.hid hsep
    have HB := Lib.hid hbw
    clear ho1 ho2 hsep hbw
    by_cases hlt : j < bs.length
    · have hlt2 : j < cs.length := by omega
      obtain ⟨a, rfl, hca⟩ := (HA.out.carry HB.out).at_ (ints_at hlt)
      obtain ⟨a2, rfl, hca2⟩ := (HA2.out.carry HB.out).at_ (ints_at hlt2)
      obtain ⟨b, HEb⟩ : ∃ b, Hid (b = bs[j]) := ⟨_, Lib.hid rfl⟩
      obtain ⟨c, HEc⟩ : ∃ c, Hid (c = cs[j]) := ⟨_, Lib.hid rfl⟩
      rw [← HEb.out] at hca
      rw [← HEc.out] at hca2
      have hb9 : b < 256 := by rw [HEb.out]; exact HBS.out _ (List.getElem_mem hlt)
      have hc9 : c < 4294967296 := by rw [HEc.out]; exact HCS.out _ (List.getElem_mem hlt2)
      obtain ⟨k, HK⟩ : ∃ k, Hid (k = 1 + b % 4) := ⟨_, Lib.hid rfl⟩
      obtain ⟨p, HP⟩ : ∃ p, Hid (p = 256 ^ k) := ⟨_, Lib.hid rfl⟩
      obtain ⟨x, HX⟩ : ∃ x, Hid (x = c % p) := ⟨_, Lib.hid rfl⟩
      have h1 : 1 ≤ k := by rw [HK.out]; omega
      have h4 : k ≤ 4 := by rw [HK.out]; omega
      have hp0 : 0 < p := by rw [HP.out]; exact Nat.pow_pos (by decide)
      have E : Hid ((1 : Int) + (b : Int) % 4 = (k : Int)) := Lib.hid (by rw [HK.out]; omega)
      go_upto_region 8 with (fail)
      rw [E.out]
      go_wp2_with (at_builtin; refine wpList_append_lies _ rfl _ _ 25 rfl w.heap.size 3 i0 (.int .i64 0) 1 8 Tryd.underlying25 hi hz0 hz1 hz2 rfl (by decide) u5 _ _ rfl (HO1.out.alloc _) ⟨wr.heap.size, 0, none⟩ 1 1 [.int .i64 (k : Int)] rfl rfl (news_one wr 3 _ rfl).1 (news_one wr 3 _ rfl).2 (by decide) (by unfold maxLen; omega) (by omega) (by have := HB.out.size; simp; omega) (wr.heap.size + 1) (by simp) ?_; intro g cap3 w2 hown1 hgrow hat hg1)
      have e2 := append_other (m := j + 1) (c := cap3) HO2.out HS.out hgrow hat
      have HO1' : Hid (w2.ownsRow w.heap.size 3 1 (.slice (some ⟨g, 0, none⟩) (j + 1) cap3) (j + 1) (numCells ((wsOf bs).take (j + 1)))) := Lib.hid (by
        rw [wsOf_take hlt, ← HEb.out, ← HK.out, numCells_append]; exact hown1)
      have HO2' := Lib.hid e2.1
      have HS' := Lib.hid e2.2
      have HB' := Lib.hid ((HB.out.alloc HB.out.size _).grown hgrow (by have := HB.out.size; simp; omega) (fun g hg => (HO1.out.lt g hg).1))
      have hca3 : w2.cell? (a2.add j) = some (.int .u32 (c : Int)) := ((HA2.out.carry HB'.out).at_' rfl (ints_at hlt2)).trans (by rw [HEc.out])
      have hsz2 := HB'.out.size
      clear e2 hown1 hgrow hat hg1 hca hca2 HO1 HO2 HS HB
      go_wp2_with fail
      have q1 : IntKind.i64.wrap (c : Int) = c := IntWalk.i64_in _ (by omega)
      have q3 : IntKind.i64.wrap (8 * (k : Int)) = 8 * (k : Int) := IntWalk.i64_in _ (by omega)
      have q4 : (0 : Int) ≤ 8 * (k : Int) := by omega
      have q6 : ¬ (p : Int) = 0 := by omega
      have q7 : ¬ p = 0 := by omega
      have q5 := wrap_pow h4 HP.out
      have q8 : (c : Int).tmod p = (x : Int) := by rw [HX.out]; exact (Int.ofNat_tmod c p).symm
      go_region_law
        ((refine step_append_lies _ (by rfl) _ _ _ (by rfl) w.heap.size 3 i0 _ 1 8 Tryd.underlying25 hi hz0 hz1 hz2 rfl (by omega) u6 j (numCells ((nsOf bs cs).take j)) (by rfl) ((HO2'.out.alloc _).drew)
            ⟨w2.heap.size, 0, none⟩ 1 1 [.int .i64 (x : Int)] (by rfl) (by rfl) (World.news_of_block (cs := #[.int .i64 (x : Int)]) (t := 3) (fr := (0, 0)) (heap_alloc_new w2 _)) (by simp [Value.oneCell'])
            (by omega) (by unfold maxLen; omega) (by omega) (by simp; omega) (w2.heap.size + 1) (by simp) ?_; intro gg cap4 w3 hown3 hgrow3 hat3 hlt3))
      clear q1 q3 q5 q8
      all_goals
        have e3 := append_other (m := j + 1) (c := cap4) HO1'.out HS'.out.symm (grown_of_drew hgrow3) hat3
        have HO2n : Hid (w3.ownsRow w.heap.size 3 1 (.slice (some ⟨gg, 0, none⟩) (j + 1) cap4) (j + 1) (numCells ((nsOf bs cs).take (j + 1)))) := Lib.hid (by
          rw [nsOf_take hlt hlt2, ← HEb.out, ← HEc.out, ← HK.out, ← HP.out, ← HX.out, numCells_append]; exact hown3)
        have HO1n := Lib.hid e3.1
        have HSn := Lib.hid e3.2.symm
        have HBn := Lib.hid ((HB'.out.alloc HB'.out.size _).drew.grown hgrow3 (by have := HB'.out.size; simp; omega) (fun g hg => (HO2'.out.lt g hg).1))
        clear e3 hown3 hgrow3 hat3 hlt3 HO1' HO2' HS' HB' hca3
        go_wp2_with fail
        go_roundw
        case rel => exact ⟨j + 1, hlt, by go_num, HO1n.out, HO2n.out, HSn.out, HBn.out⟩
        case measure => simp [intOf]; omega
    · obtain rfl : j = bs.length := by omega
      have o1 := HO1.out
      have o2 := HO2.out
      rw [List.take_of_length_le (by rw [wsOf_length]; exact Nat.le_refl _)] at o1
      rw [List.take_of_length_le (by rw [nsOf_length hbc]; exact Nat.le_refl _)] at o2
      obtain ⟨A5, c5, rfl⟩ := own_form o1
      obtain ⟨A6, c6, rfl⟩ := own_form o2
      have HN5 := Lib.hid (Nums.own (k := .i64) o1)
      have HN6 := Lib.hid (Nums.own (k := .i64) o2)
      clear o1 o2 HO1 HO2 HS
      have F := Fields_yes (wsOf bs) (nsOf bs cs) A5 A6 c5 c6 wr (wsOf_widths h40) HN5.out HN6.out (by rw [wsOf_length, nsOf_length hbc]) (wsOf_fit bs cs)
      rw [wsOf_length, nsOf_length hbc] at F
      have HF := Lib.hid F
      clear F
      go_wp2_with fail
      refine HF.out.mono ?_
      obtain ⟨s, HSt⟩ : ∃ s : ByteArray, Hid (s = ⟨(lays ((wsOf bs).zip (nsOf bs cs))).toArray⟩) := ⟨_, Lib.hid rfl⟩
      unfold FieldsPost
      rw [← HSt.out]
      rintro e w2 ⟨rfl, hb2⟩
      have HB2 := Lib.hid (HB.out.trans (hb2.mono HB.out.size))
      have HN5b := Lib.hid (HN5.out.carry hb2)
      have HN6b := Lib.hid (HN6.out.carry hb2)
      clear hb2 HF HB HN5 HN6
      have HSL : Hid (s.data.toList = lays ((wsOf bs).zip (nsOf bs cs))) := Lib.hid (by rw [HSt.out])
      have HSZ : Hid (s.size = (wsOf bs).sum) := Lib.hid (by
        have e : s.data.toList.length = s.size := by rw [Array.length_toList]; rfl
        have e2 := laid_length (ws := wsOf bs) (ns := nsOf bs cs) (j := (wsOf bs).length) (Nat.le_refl _) (by rw [wsOf_length, nsOf_length hbc]; exact Nat.le_refl _)
        rw [laid_all (by rw [wsOf_length, nsOf_length hbc]), List.take_length] at e2
        rw [← e, HSL.out, e2])
      have F := Parse_yes (wsOf bs) s A5 c5 w2 (wsOf_widths h40) HN5b.out HSZ.out
      rw [HSL.out, splits_lays (by rw [wsOf_length, nsOf_length hbc]) (wsOf_fit bs cs), wsOf_length] at F
      have HF := Lib.hid F
      clear F
      go_wp2_with fail
      refine HF.out.mono ?_
      rintro e w3 ⟨A7, c7, rfl, hn7, hb3⟩
      rw [nsOf_length hbc]
      have HN7 := Lib.hid hn7
      have HN5c := Lib.hid (HN5b.out.carry hb3)
      have HN6c := Lib.hid (HN6b.out.carry hb3)
      have HB3 := Lib.hid (HB2.out.trans (hb3.mono HB2.out.size))
      clear hn7 hb3 HF HB2 HN5b HN6b
      go_wp2_with fail
      go_loopw [13] (fun i wr => SameRel A5 A6 A7 bs cs w i wr) (fun i _ => bs.length - (intOf i).toNat)
      case atStart => exact ⟨0, Nat.zero_le _, rfl, HN5c.out, HN6c.out, HN7.out, HB3.out⟩
      case round =>
        rename_i wr2 _
        obtain ⟨i, hi9, rfl, hn5, hn6, hn7, hb4⟩ := hrel
        have HN5 := Lib.hid hn5
        have HN6 := Lib.hid hn6
        have HN7' := Lib.hid hn7
        have HB4 := Lib.hid hb4
        clear hn5 hn6 hn7 hb4 HN5c HN6c HN7 HB3
        by_cases hlt9 : i < bs.length
        · have hlt8 : i < (nsOf bs cs).length := by rw [nsOf_length hbc]; exact hlt9
          obtain ⟨a6, rfl, hc6⟩ := HN6.out.at_ (ints_at hlt8)
          obtain ⟨a7, rfl, hc7⟩ := HN7'.out.at_ (ints_at hlt8)
          obtain ⟨y, HY⟩ : ∃ y, Hid (y = (nsOf bs cs)[i]) := ⟨_, Lib.hid rfl⟩
          rw [← HY.out] at hc6 hc7
          go_wp2_with fail
          go_quiet (fail)
          go_wp2_with fail
          go_roundw
          case rel => exact ⟨i + 1, hlt9, by go_num, HN5.out, HN6.out, HN7'.out, below_drewN_of HB4.out _⟩
          case measure => simp [intOf]; omega
        · obtain rfl : i = bs.length := by omega
          have F := Size_yes (wsOf bs) A5 c5 _ (wsOf_widths h40) HN5.out
          rw [wsOf_length, ← HSZ.out] at F
          have HF := Lib.hid F
          clear F
          go_wp2_with fail
          refine (Num_nil _).mono ?_
          rintro e w5 ⟨rfl, rfl⟩
          go_wp2_with fail
          refine (Num_nil _).mono ?_
          rintro e w5 ⟨rfl, rfl⟩
          go_wp2_with fail
          refine HF.out.mono ?_
          rintro e w5 ⟨rfl, rfl⟩
          go_wp2_with fail
          go_ret
          exact ⟨rfl, HB4.out⟩

set_option maxHeartbeats 1000000 in
theorem back_long (n m : Nat) (A A2 : Option Addr) (cap cap2 : Nat) (w : World) (h : 40 < n ∨ (n ≤ 40 ∧ m < n)) :
    Calls Tryd.prog 3 #[.slice A n cap, .slice A2 m cap2] w fun e w' => e = .returned (.bool true) ∧ Below w.heap.size w w' := by
  rcases h with h | ⟨h, h2⟩
  · have hl1 : decide ((n : Int) > 40) = true := by simp; omega
    go_enter Tryd.func3, Tryd.ntmps3
    go_wp2_with fail
    refine (awake_any _).mono ?_
    rintro e w1 ⟨rfl, hb1⟩
    have HB1 := Lib.hid hb1
    clear hb1
    go_wp2_with fail
    refine (awake_any _).mono ?_
    rintro e w2 ⟨rfl, hb2⟩
    have HB2 : Hid (Below w.heap.size w w2) := Lib.hid (HB1.out.trans (hb2.mono HB1.out.size))
    clear hb2
    go_wp2_with fail
    go_ret
    exact ⟨rfl, HB2.out⟩
  · have hl1 : decide ((n : Int) > 40) = false := by simp; omega
    have hl2 : decide (m < n) = true := by simp; omega
    go_enter Tryd.func3, Tryd.ntmps3
    go_wp2_with fail
    refine (awake_any _).mono ?_
    rintro e w1 ⟨rfl, hb1⟩
    have HB1 := Lib.hid hb1
    clear hb1
    go_wp2_with fail
    refine (awake_any _).mono ?_
    rintro e w2 ⟨rfl, hb2⟩
    have HB2 : Hid (Below w.heap.size w w2) := Lib.hid (HB1.out.trans (hb2.mono HB1.out.size))
    clear hb2
    go_wp2_with fail
    go_ret
    exact ⟨rfl, HB2.out⟩
theorem back_walk (bs cs : List Nat) (A A2 : Option Addr) (cap cap2 : Nat) (w : World) (hb : ∀ n ∈ bs, n < 256) (hc : ∀ n ∈ cs, n < 4294967296)
    (hA : Nums w .u8 A (ints bs)) (hA2 : Nums w .u32 A2 (ints cs)) (hg : Laid w) :
    Calls Tryd.prog 3 #[.slice A bs.length cap, .slice A2 cs.length cap2] w fun e w' => e = .returned (.bool true) ∧ Below w.heap.size w w' := by
  by_cases h40 : bs.length ≤ 40
  · by_cases hbc : bs.length ≤ cs.length
    · exact back_short bs cs A A2 cap cap2 w hb hc h40 hbc hA hA2 hg
    · exact back_long _ _ A A2 cap cap2 w (.inr ⟨h40, by omega⟩)
  · exact back_long _ _ A A2 cap cap2 w (.inl (by omega))
end Go.Proofs.YtkdofddhijcahaaDoor
