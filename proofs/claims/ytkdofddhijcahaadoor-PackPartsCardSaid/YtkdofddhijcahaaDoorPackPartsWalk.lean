/-
  The walk of the statement PackParts: it answers true, and no memory that was there has turned. Conditions: the arguments are within their kinds.
-/
import Derived.Test.YtkdofddhijcahaaDoorPackBackWalk
import Derived.StillTailTactics
import Derived.BigQuiet
namespace Go.Proofs.YtkdofddhijcahaaDoor
open Go.RowKit

theorem own_cap {w : World} {B n c : Nat} {e : TypeId} {A : Option Addr} {xs : List Value} (h : w.ownsRow B e 1 (.slice A n c) n xs) : n ≤ c := by
  rcases h.2 with ⟨hv, hn⟩ | ⟨g, c', cur, hv, _, _, hc, _⟩
  · omega
  · injection hv with _ _ h3
    omega

theorem Widths.take {ws : List Nat} (h : Widths ws) (m : Nat) : Widths (ws.take m) := ⟨by rw [List.length_take]; have := h.1; omega, fun n hn => h.2 n (List.mem_of_mem_take hn)⟩
theorem Widths.drop {ws : List Nat} (h : Widths ws) (m : Nat) : Widths (ws.drop m) := ⟨by rw [List.length_drop]; have := h.1; omega, fun n hn => h.2 n (List.mem_of_mem_drop hn)⟩
theorem FitAll.take {ws ns : List Nat} (h : FitAll ws ns) (m : Nat) : FitAll (ws.take m) (ns.take m) := fun i h1 h2 => by
  simp only [List.getElem_take]
  exact h i (by simp at h1; omega) (by simp at h2; omega)
theorem FitAll.drop {ws ns : List Nat} (h : FitAll ws ns) (m : Nat) : FitAll (ws.drop m) (ns.drop m) := fun i h1 h2 => by
  simp only [List.getElem_drop]
  exact h (m + i) (by simp at h1; omega) (by simp at h2; omega)
/-- the bytes of the first k fields, and of those behind -/
def headOf (bs cs : List Nat) (k : Nat) : List UInt8 := lays (((wsOf bs).take k).zip ((nsOf bs cs).take k))
def tailOf (bs cs : List Nat) (k : Nat) : List UInt8 := lays (((wsOf bs).drop k).zip ((nsOf bs cs).drop k))
theorem head_tail (bs cs : List Nat) (k : Nat) : lays ((wsOf bs).zip (nsOf bs cs)) = headOf bs cs k ++ tailOf bs cs k := by
  unfold headOf tailOf
  have e1 : ((wsOf bs).take k).zip ((nsOf bs cs).take k) = ((wsOf bs).zip (nsOf bs cs)).take k := List.take_zipWith.symm
  have e2 : ((wsOf bs).drop k).zip ((nsOf bs cs).drop k) = ((wsOf bs).zip (nsOf bs cs)).drop k := List.drop_zipWith.symm
  rw [e1, e2, ← lays_append, List.take_append_drop]
theorem fields_head {bs cs : List Nat} {A A2 : Option Addr} {cap cap2 : Nat} {w : World} (k : Nat) (h40 : bs.length ≤ 40) (hbc : bs.length ≤ cs.length) (hk : k ≤ bs.length) (h1 : Nums w .i64 A (ints (wsOf bs))) (h2 : Nums w .i64 A2 (ints (nsOf bs cs))) :
    Calls Tryd.prog 8 #[.slice A k cap, .slice A2 k cap2] w (FieldsPost (headOf bs cs k) w) := by
  have l1 : ((wsOf bs).take k).length = k := by rw [List.length_take, wsOf_length]; omega
  have l2 : ((nsOf bs cs).take k).length = k := by rw [List.length_take, nsOf_length hbc]; omega
  have h := Fields_yes ((wsOf bs).take k) ((nsOf bs cs).take k) A A2 cap cap2 w ((wsOf_widths h40).take k) (by rw [← ints_take]; exact h1.take k) (by rw [← ints_take]; exact h2.take k) (by rw [l1, l2]) ((wsOf_fit bs cs).take k)
  rw [l1, l2] at h
  exact h
theorem fields_tail {bs cs : List Nat} {A A2 : Option Addr} {cap cap2 c c2 : Nat} {w : World} (k : Nat) (h40 : bs.length ≤ 40) (hbc : bs.length ≤ cs.length) (hc : bs.length ≤ c) (hc2 : bs.length ≤ c2) (h1 : Nums w .i64 A (ints (wsOf bs))) (h2 : Nums w .i64 A2 (ints (nsOf bs cs))) :
    Calls Tryd.prog 8 #[.slice (if c = k then A else A.map (·.add k)) (bs.length - k) cap, .slice (if c2 = k then A2 else A2.map (·.add k)) (bs.length - k) cap2] w (FieldsPost (tailOf bs cs k) w) := by
  have l1 : ((wsOf bs).drop k).length = bs.length - k := by rw [List.length_drop, wsOf_length]
  have l2 : ((nsOf bs cs).drop k).length = bs.length - k := by rw [List.length_drop, nsOf_length hbc]
  have h := Fields_yes ((wsOf bs).drop k) ((nsOf bs cs).drop k) (if c = k then A else A.map (·.add k)) (if c2 = k then A2 else A2.map (·.add k)) cap cap2 w ((wsOf_widths h40).drop k)
    (by rw [← ints_drop]; exact h1.drop (by rw [ints_length, wsOf_length]; exact hc)) (by rw [← ints_drop]; exact h2.drop (by rw [ints_length, nsOf_length hbc]; exact hc2)) (by rw [l1, l2]) ((wsOf_fit bs cs).drop k)
  rw [l1, l2] at h
  exact h

theorem Num_nil_q (w : World) : Calls Tryd.prog 10 #[.nilIface] w fun e w' => e = .returned (.int .i64 0) ∧ w' = w := (Num_nil w).mono fun _ _ h => ⟨h.1, h.2.symm⟩
theorem size_whole {bs : List Nat} {A : Option Addr} {c : Nat} {w : World} (h40 : bs.length ≤ 40) (h : Nums w .i64 A (ints (wsOf bs))) : Calls Tryd.prog 11 #[.slice A bs.length c] w fun e w' => e = .returned (.int .i64 ((wsOf bs).sum : Int)) ∧ w' = w := by
  have h9 := Size_yes (wsOf bs) A c w (wsOf_widths h40) h
  rw [wsOf_length] at h9
  exact h9.mono fun _ _ h => ⟨h.1, h.2.symm⟩
theorem size_head {bs : List Nat} {A : Option Addr} {c k : Nat} {w : World} (h40 : bs.length ≤ 40) (hk : k ≤ bs.length) (h : Nums w .i64 A (ints (wsOf bs))) : Calls Tryd.prog 11 #[.slice A k c] w fun e w' => e = .returned (.int .i64 (((wsOf bs).take k).sum : Int)) ∧ w' = w := by
  have h9 := Size_yes ((wsOf bs).take k) A c w ((wsOf_widths h40).take k) (by rw [← ints_take]; exact h.take k)
  rw [List.length_take, wsOf_length, Nat.min_eq_left hk] at h9
  exact h9.mono fun _ _ h => ⟨h.1, h.2.symm⟩
theorem size_tail {bs : List Nat} {A : Option Addr} {c cap k : Nat} {w : World} (h40 : bs.length ≤ 40) (hc : bs.length ≤ c) (h : Nums w .i64 A (ints (wsOf bs))) : Calls Tryd.prog 11 #[.slice (if c = k then A else A.map (·.add k)) (bs.length - k) cap] w fun e w' => e = .returned (.int .i64 (((wsOf bs).drop k).sum : Int)) ∧ w' = w := by
  have h9 := Size_yes ((wsOf bs).drop k) (if c = k then A else A.map (·.add k)) cap w ((wsOf_widths h40).drop k) (by rw [← ints_drop]; exact h.drop (by rw [ints_length, wsOf_length]; exact hc))
  rw [List.length_drop, wsOf_length] at h9
  exact h9.mono fun _ _ h => ⟨h.1, h.2.symm⟩

set_option maxHeartbeats 4000000 in
set_option maxRecDepth 100000 in
theorem parts_short (bs cs : List Nat) (m k9 : Nat) (A A2 : Option Addr) (cap cap2 : Nat) (w : World) (hb : ∀ n ∈ bs, n < 256) (hc : ∀ n ∈ cs, n < 4294967296) (h40 : bs.length ≤ 40) (hbc : bs.length ≤ cs.length)
    (hA : Nums w .u8 A (ints bs)) (hA2 : Nums w .u32 A2 (ints cs)) (hm : m < 256) (hk9 : k9 = m % (bs.length + 1)) :
    Calls Tryd.prog 5 #[.slice A bs.length cap, .slice A2 cs.length cap2, .int .u8 m] w fun e w' => e = .returned (.bool true) ∧ Below w.heap.size w w' := by
  obtain ⟨i0, hi, hz0, hz1, hz2⟩ := info_parts Tryd.infoInt
  have HBS := Lib.hid hb
  have HCS := Lib.hid hc
  have HA := Lib.hid hA
  have HA2 := Lib.hid hA2
  have HK9 := Lib.hid hk9
  have hk8 : k9 ≤ bs.length := by rw [hk9]; have := Nat.mod_lt m (show 0 < bs.length + 1 by omega); omega
  have hl1 : decide ((bs.length : Int) > 40) = false := by simp; omega
  have hl2 : decide (cs.length < bs.length) = false := by simp; omega
  clear hb hc hA hA2 hk9
  go_enter Tryd.func5, Tryd.ntmps5
  go_wp2_with fail
  refine (awake_any _).mono ?_
  rintro e w1 ⟨rfl, hb1⟩
  have HB1 := Lib.hid hb1
  clear hb1
  go_wp2_with fail
  go_loopw [7, 8, 9] (fun u v i wr => BuildRel w.heap.size bs cs w u v i wr) (fun _ _ i _ => bs.length - (intOf i).toNat)
  case atStart => exact ⟨0, Nat.zero_le _, rfl, World.ownsRow_nil _ _ _ _, World.ownsRow_nil _ _ _ _, Sep.nil _, HB1.out⟩
  case round =>
    obtain ⟨j, hj, rfl, ho1, ho2, hsep, hbw⟩ := hrel
    have HO1 := Lib.hid ho1
    have HO2 := Lib.hid ho2
    have HS := Lib.hid hsep
    have HB := Lib.hid hbw
    clear ho1 ho2 hsep hbw
    by_cases hlt : j < bs.length
    · have hlt2 : j < cs.length := by omega
      obtain ⟨a, rfl, hca⟩ := (HA.out.carry HB.out).at_ (ints_at hlt)
      obtain ⟨a2, rfl, hca2⟩ := (HA2.out.carry HB.out).at_ (ints_at hlt2)
      obtain ⟨b, HEb⟩ : ∃ b, Hid (b = bs[j]) := ⟨_, Lib.hid rfl⟩
      obtain ⟨c, HEc⟩ : ∃ c, Hid (c = cs[j]) := ⟨_, Lib.hid rfl⟩
      rw [← HEb.out] at hca
      rw [← HEc.out] at hca2
      have hb9 : b < 256 := by rw [HEb.out]; exact HBS.out _ (List.getElem_mem hlt)
      have hc9 : c < 4294967296 := by rw [HEc.out]; exact HCS.out _ (List.getElem_mem hlt2)
      obtain ⟨k, HK⟩ : ∃ k, Hid (k = 1 + b % 4) := ⟨_, Lib.hid rfl⟩
      obtain ⟨p, HP⟩ : ∃ p, Hid (p = 256 ^ k) := ⟨_, Lib.hid rfl⟩
      obtain ⟨x, HX⟩ : ∃ x, Hid (x = c % p) := ⟨_, Lib.hid rfl⟩
      have h1 : 1 ≤ k := by rw [HK.out]; omega
      have h4 : k ≤ 4 := by rw [HK.out]; omega
      have hp0 : 0 < p := by rw [HP.out]; exact Nat.pow_pos (by decide)
      have E : Hid ((1 : Int) + (b : Int) % 4 = (k : Int)) := Lib.hid (by rw [HK.out]; omega)
      go_upto_region 8 with (fail)
      rw [E.out]
      go_wp2_with (at_builtin; refine wpList_append_lies _ rfl _ _ 25 rfl w.heap.size 3 i0 (.int .i64 0) 1 8 Tryd.underlying25 hi hz0 hz1 hz2 rfl (by decide) u7 _ _ rfl (HO1.out.alloc _) ⟨wr.heap.size, 0, none⟩ 1 1 [.int .i64 (k : Int)] rfl rfl (news_one wr 3 _ rfl).1 (news_one wr 3 _ rfl).2 (by decide) (by unfold maxLen; omega) (by omega) (by have := HB.out.size; simp; omega) (wr.heap.size + 1) (by simp) ?_; intro g cap3 w2 hown1 hgrow hat hg1)
      have e2 := append_other (m := j + 1) (c := cap3) HO2.out HS.out hgrow hat
      have HO1' : Hid (w2.ownsRow w.heap.size 3 1 (.slice (some ⟨g, 0, none⟩) (j + 1) cap3) (j + 1) (numCells ((wsOf bs).take (j + 1)))) := Lib.hid (by
        rw [wsOf_take hlt, ← HEb.out, ← HK.out, numCells_append]; exact hown1)
      have HO2' := Lib.hid e2.1
      have HS' := Lib.hid e2.2
      have HB' := Lib.hid ((HB.out.alloc HB.out.size _).grown hgrow (by have := HB.out.size; simp; omega) (fun g hg => (HO1.out.lt g hg).1))
      have hca3 : w2.cell? (a2.add j) = some (.int .u32 (c : Int)) := ((HA2.out.carry HB'.out).at_' rfl (ints_at hlt2)).trans (by rw [HEc.out])
      have hsz2 := HB'.out.size
      clear e2 hown1 hgrow hat hg1 hca hca2 HO1 HO2 HS HB
      go_wp2_with fail
      have q1 : IntKind.i64.wrap (c : Int) = c := IntWalk.i64_in _ (by omega)
      have q3 : IntKind.i64.wrap (8 * (k : Int)) = 8 * (k : Int) := IntWalk.i64_in _ (by omega)
      have q4 : (0 : Int) ≤ 8 * (k : Int) := by omega
      have q6 : ¬ (p : Int) = 0 := by omega
      have q7 : ¬ p = 0 := by omega
      have q5 := wrap_pow h4 HP.out
      have q8 : (c : Int).tmod p = (x : Int) := by rw [HX.out]; exact (Int.ofNat_tmod c p).symm
      go_region_law
        ((refine step_append_lies _ (by rfl) _ _ _ (by rfl) w.heap.size 3 i0 _ 1 8 Tryd.underlying25 hi hz0 hz1 hz2 rfl (by omega) u8 j (numCells ((nsOf bs cs).take j)) (by rfl) ((HO2'.out.alloc _).drew)
            ⟨w2.heap.size, 0, none⟩ 1 1 [.int .i64 (x : Int)] (by rfl) (by rfl) (World.news_of_block (cs := #[.int .i64 (x : Int)]) (t := 3) (fr := (0, 0)) (heap_alloc_new w2 _)) (by simp [Value.oneCell'])
            (by omega) (by unfold maxLen; omega) (by omega) (by simp; omega) (w2.heap.size + 1) (by simp) ?_; intro gg cap4 w3 hown3 hgrow3 hat3 hlt3))
      clear q1 q3 q5 q8
      all_goals
        have e3 := append_other (m := j + 1) (c := cap4) HO1'.out HS'.out.symm (grown_of_drew hgrow3) hat3
        have HO2n : Hid (w3.ownsRow w.heap.size 3 1 (.slice (some ⟨gg, 0, none⟩) (j + 1) cap4) (j + 1) (numCells ((nsOf bs cs).take (j + 1)))) := Lib.hid (by
          rw [nsOf_take hlt hlt2, ← HEb.out, ← HEc.out, ← HK.out, ← HP.out, ← HX.out, numCells_append]; exact hown3)
        have HO1n := Lib.hid e3.1
        have HSn := Lib.hid e3.2.symm
        have HBn := Lib.hid ((HB'.out.alloc HB'.out.size _).drew.grown hgrow3 (by have := HB'.out.size; simp; omega) (fun g hg => (HO2'.out.lt g hg).1))
        clear e3 hown3 hgrow3 hat3 hlt3 HO1' HO2' HS' HB' hca3
        go_wp2_with fail
        go_roundw
        case rel => exact ⟨j + 1, hlt, by go_num, HO1n.out, HO2n.out, HSn.out, HBn.out⟩
        case measure => simp [intOf]; omega
    · obtain rfl : j = bs.length := by omega
      have o1 := HO1.out
      have o2 := HO2.out
      rw [List.take_of_length_le (by rw [wsOf_length]; exact Nat.le_refl _)] at o1
      rw [List.take_of_length_le (by rw [nsOf_length hbc]; exact Nat.le_refl _)] at o2
      obtain ⟨A5, c5, rfl⟩ := own_form o1
      obtain ⟨A6, c6, rfl⟩ := own_form o2
      have hc5 : bs.length ≤ c5 := own_cap o1
      have hc6 : bs.length ≤ c6 := own_cap o2
      have HN5 := Lib.hid (Nums.own (k := .i64) o1)
      have HN6 := Lib.hid (Nums.own (k := .i64) o2)
      clear o1 o2 HO1 HO2 HS
      have F := Fields_yes (wsOf bs) (nsOf bs cs) A5 A6 c5 c6 wr (wsOf_widths h40) HN5.out HN6.out (by rw [wsOf_length, nsOf_length hbc]) (wsOf_fit bs cs)
      rw [wsOf_length, nsOf_length hbc] at F
      have HF := Lib.hid F
      clear F
      go_upto_region 11 with (fail)
      have e9 : (m : Int) % ((bs.length : Int) + 1) = (k9 : Int) := by rw [HK9.out, Int.natCast_emod]; rfl
      rw [e9]
      clear e9
      go_wp2_with fail
      refine HF.out.mono ?_
      obtain ⟨s, HSt⟩ : ∃ s : ByteArray, Hid (s = ⟨(lays ((wsOf bs).zip (nsOf bs cs))).toArray⟩) := ⟨_, Lib.hid rfl⟩
      unfold FieldsPost
      rw [← HSt.out]
      rintro e w2 ⟨rfl, hb2⟩
      have HB2 := Lib.hid (HB.out.trans (hb2.mono HB.out.size))
      have HN5b := Lib.hid (HN5.out.carry hb2)
      have HN6b := Lib.hid (HN6.out.carry hb2)
      clear hb2 HF HB HN5 HN6
      go_wp2_with fail
      have r1 : (k9 : Int) ≤ (c5 : Int) := by omega
      have r2 : (k9 : Int) ≤ (c6 : Int) := by omega
      have r3 : (0 : Int) ≤ (k9 : Int) := by omega
      have HFa := Lib.hid (fields_head (A := A5) (A2 := A6) (cap := c5) (cap2 := c6) (w := w2.drew) k9 h40 hbc hk8 HN5b.out HN6b.out)
      go_region_law ((go_simp; go_at_call 8; refine HFa.out.mono ?_; rintro e w3 ⟨rfl, hb3⟩))
      obtain ⟨sa, HSa⟩ : ∃ s : ByteArray, Hid (s = ⟨(headOf bs cs k9).toArray⟩) := ⟨_, Lib.hid rfl⟩
      rw [← HSa.out]
      have HB3 := Lib.hid (HB2.out.trans (((Below.refl _ _).drew.trans hb3).mono HB2.out.size))
      have HN5c := Lib.hid ((HN5b.out.drew).carry hb3)
      have HN6c := Lib.hid ((HN6b.out.drew).carry hb3)
      clear hb3 HFa HB2 HN5b HN6b
      go_wp2_with fail
      have r4 : (k9 : Int) ≤ (bs.length : Int) := by omega
      have HFb := Lib.hid (fields_tail (A := A5) (A2 := A6) (cap := c5 - k9) (cap2 := c6 - k9) (c := c5) (c2 := c6) (w := w3.drew) k9 h40 hbc hc5 hc6 HN5c.out HN6c.out)
      go_region_law ((go_simp; go_at_call 8; refine HFb.out.mono ?_; rintro e w4 ⟨rfl, hb4⟩))
      obtain ⟨sb, HSb⟩ : ∃ s : ByteArray, Hid (s = ⟨(tailOf bs cs k9).toArray⟩) := ⟨_, Lib.hid rfl⟩
      rw [← HSb.out]
      have HB4 := Lib.hid (HB3.out.trans (((Below.refl _ _).drew.trans hb4).mono HB3.out.size))
      have HN5d := Lib.hid ((HN5c.out.drew).carry hb4)
      clear hb4 HFb HB3 HN5c HN6c
      obtain ⟨t1, HT1⟩ : ∃ t, Hid (t = ((wsOf bs).take k9).sum) := ⟨_, Lib.hid rfl⟩
      obtain ⟨t2, HT2⟩ : ∃ t, Hid (t = ((wsOf bs).drop k9).sum) := ⟨_, Lib.hid rfl⟩
      obtain ⟨t3, HT3⟩ : ∃ t, Hid (t = (wsOf bs).sum) := ⟨_, Lib.hid rfl⟩
      have ht3 : t3 ≤ 160 := by rw [HT3.out]; exact (wsOf_widths h40).sum
      have HTT : Hid (t3 = t1 + t2) := Lib.hid (by rw [HT1.out, HT2.out, HT3.out, ← List.sum_append, List.take_append_drop])
      have S1 := Lib.hid (fun n => size_whole (c := c5) h40 (HN5d.out.drewN n))
      have S2 := Lib.hid (fun n => size_head (c := c5) h40 hk8 (HN5d.out.drewN n))
      have S3 := Lib.hid (fun n => size_tail (c := c5) (cap := c5 - k9) (k := k9) h40 hc5 (HN5d.out.drewN n))
      rw [← HT3.out] at S1
      rw [← HT1.out] at S2
      rw [← HT2.out] at S3
      have hcat : ∀ w, (Op.stringOp .add sa sb).run Tryd.prog w = .ok (.string (sa ++ sb)) w := fun w => run_string_add_sum w sa sb (by
        have e := congrArg List.length (head_tail bs cs k9)
        have e2 := laid_length (ws := wsOf bs) (ns := nsOf bs cs) (j := (wsOf bs).length) (Nat.le_refl _) (by rw [wsOf_length, nsOf_length hbc]; exact Nat.le_refl _)
        rw [laid_all (by rw [wsOf_length, nsOf_length hbc]), List.take_length] at e2
        have e3 : sa.size = (headOf bs cs k9).length := by rw [HSa.out]; rfl
        have e4 : sb.size = (tailOf bs cs k9).length := by rw [HSb.out]; rfl
        rw [List.length_append] at e
        have := HT3.out
        omega)
      have heq : (s.toList == (sa ++ sb).toList) = true := by
        rw [HSt.out, HSa.out, HSb.out, ByteArray.toList_eq, ByteArray.toList_eq, ByteArray.data_append]
        simp [head_tail bs cs k9]
      obtain ⟨A5t, HA5⟩ : ∃ X, Hid (X = if c5 = k9 then A5 else A5.map (·.add k9)) := ⟨_, Lib.hid rfl⟩
      obtain ⟨A6t, HA6⟩ : ∃ X, Hid (X = if c6 = k9 then A6 else A6.map (·.add k9)) := ⟨_, Lib.hid rfl⟩
      rw [← HA5.out, ← HA6.out]
      have q9 : IntKind.i64.wrap ((t1 : Int) + (t2 : Int)) = (t1 : Int) + t2 := IntWalk.i64_in _ (by have := HTT.out; omega)
      go_wp2_with fail
      go_quiet (first | (go_at_call 10; exact Calls.quiet_of_same (Num_nil_q _)) | (go_at_call 11; first | (with_reducible exact Calls.quiet_of_same (S1.out _)) | (with_reducible exact Calls.quiet_of_same (S2.out _)) | (with_reducible exact Calls.quiet_of_same (S3.out _))))
      clear q9 hcat heq
      rw [← HA5.out]
      go_wp2_with fail
      go_ret
      exact ⟨ret_bool (by have := HTT.out; simp; omega), below_drewN_of HB4.out _⟩

set_option maxHeartbeats 1000000 in
theorem parts_long (n m c : Nat) (A A2 : Option Addr) (cap cap2 : Nat) (w : World) (h : 40 < n ∨ (n ≤ 40 ∧ m < n)) :
    Calls Tryd.prog 5 #[.slice A n cap, .slice A2 m cap2, .int .u8 (c : Int)] w fun e w' => e = .returned (.bool true) ∧ Below w.heap.size w w' := by
  rcases h with h | ⟨h, h2⟩
  · have hl1 : decide ((n : Int) > 40) = true := by simp; omega
    go_enter Tryd.func5, Tryd.ntmps5
    go_wp2_with fail
    refine (awake_any _).mono ?_
    rintro e w1 ⟨rfl, hb1⟩
    have HB1 := Lib.hid hb1
    clear hb1
    go_wp2_with fail
    refine (awake_any _).mono ?_
    rintro e w2 ⟨rfl, hb2⟩
    have HB2 : Hid (Below w.heap.size w w2) := Lib.hid (HB1.out.trans (hb2.mono HB1.out.size))
    clear hb2
    go_wp2_with fail
    go_ret
    exact ⟨rfl, HB2.out⟩
  · have hl1 : decide ((n : Int) > 40) = false := by simp; omega
    have hl2 : decide (m < n) = true := by simp; omega
    go_enter Tryd.func5, Tryd.ntmps5
    go_wp2_with fail
    refine (awake_any _).mono ?_
    rintro e w1 ⟨rfl, hb1⟩
    have HB1 := Lib.hid hb1
    clear hb1
    go_wp2_with fail
    refine (awake_any _).mono ?_
    rintro e w2 ⟨rfl, hb2⟩
    have HB2 : Hid (Below w.heap.size w w2) := Lib.hid (HB1.out.trans (hb2.mono HB1.out.size))
    clear hb2
    go_wp2_with fail
    go_ret
    exact ⟨rfl, HB2.out⟩
theorem parts_walk (bs cs : List Nat) (m : Nat) (A A2 : Option Addr) (cap cap2 : Nat) (w : World) (hb : ∀ n ∈ bs, n < 256) (hc : ∀ n ∈ cs, n < 4294967296)
    (hA : Nums w .u8 A (ints bs)) (hA2 : Nums w .u32 A2 (ints cs)) (hm : m < 256) :
    Calls Tryd.prog 5 #[.slice A bs.length cap, .slice A2 cs.length cap2, .int .u8 (m : Int)] w fun e w' => e = .returned (.bool true) ∧ Below w.heap.size w w' := by
  by_cases h40 : bs.length ≤ 40
  · by_cases hbc : bs.length ≤ cs.length
    · exact parts_short bs cs m _ A A2 cap cap2 w hb hc h40 hbc hA hA2 hm rfl
    · exact parts_long _ _ m A A2 cap cap2 w (.inr ⟨h40, by omega⟩)
  · exact parts_long _ _ m A A2 cap cap2 w (.inl (by omega))
end Go.Proofs.YtkdofddhijcahaaDoor
