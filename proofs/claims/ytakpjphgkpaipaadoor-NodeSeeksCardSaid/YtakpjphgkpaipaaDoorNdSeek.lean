/-
  The contracts of slices.BinarySearch over numbers and of the program's own Seek of layer 9. Conditions: none beyond the premises of each theorem.
-/
import Derived.Test.YtakpjphgkpaipaaDoorNdRight
import Derived.Test.YtakpjphgkpaipaaDoorStop
namespace Go.Proofs.YtakpjphgkpaipaaDoor
open Go.RowKit

theorem nan1_any (z : Int) (w : World) : Calls Tryd.prog 41 #[.int .i64 z] w fun e w' => e = .returned (.bool false) ∧ w = w' := by
  go_enter Tryd.func41, Tryd.ntmps41
  go_wp2_with fail
  go_ret
  exact ⟨ret_bool (by simp), rfl⟩
theorem nan2_any (z : Int) (w : World) : Calls Tryd.prog 48 #[.int .i64 z] w fun e w' => e = .returned (.bool false) ∧ w = w' := by
  go_enter Tryd.func48, Tryd.ntmps48
  go_wp2_with fail
  go_ret
  exact ⟨ret_bool (by simp), rfl⟩
theorem cmpLess_any (y z : Int) (w : World) : Calls Tryd.prog 40 #[.int .i64 y, .int .i64 z] w fun e w' => e = .returned (.bool (decide (y < z))) ∧ w = w' := by
  go_enter Tryd.func40, Tryd.ntmps40
  go_wp2_with fail
  refine (nan2_any y w).mono ?_
  rintro e w' ⟨rfl, rfl⟩
  go_wp2_with fail
  go_ret
  exact ⟨ret_bool (by simp), rfl⟩
/-- between i and j it may stand -/
def Halve (keys : List Int) (key : Int) (i j : Value) : Prop := ∃ a b : Nat, a ≤ b ∧ b ≤ keys.length ∧ i = .int .i64 (a : Int) ∧ j = .int .i64 (b : Int) ∧ (∀ k (hk : k < keys.length), k < a → keys[k] < key) ∧ (∀ k (hk : k < keys.length), b ≤ k → key ≤ keys[k])
set_option maxRecDepth 100000 in
set_option maxHeartbeats 1000000 in
theorem Binary_any {w : World} {A : Option Addr} {cap : Nat} {keys : List Int} (h : Nums w .i64 A keys) (hs : keys.Pairwise (· < ·)) (hl : keys.length ≤ 1000) (key : Int) :
    Calls Tryd.prog 32 #[.slice A keys.length cap, .int .i64 key] w fun e w' => e = .returned (.tuple #[.int .i64 (less keys key : Int), .bool (decide (keys[less keys key]? = some key))]) ∧ w = w' := by
  have HV := Lib.hid h
  have HS := Lib.hid hs
  obtain ⟨lz, HLZ⟩ : ∃ lz : Int, Hid (lz = (less keys key : Int)) := ⟨_, Lib.hid rfl⟩
  obtain ⟨fz, HFZ⟩ : ∃ fz : Bool, Hid (fz = decide (keys[less keys key]? = some key)) := ⟨_, Lib.hid rfl⟩
  rw [← HLZ.out, ← HFZ.out]
  clear h hs
  go_enter Tryd.func32, Tryd.ntmps32
  go_wp2_with fail
  go_loop [7, 8] (fun i j => Halve keys key i j) (fun i j => (intOf j).toNat - (intOf i).toNat)
  case atStart => exact ⟨0, keys.length, Nat.zero_le _, Nat.le_refl _, rfl, rfl, fun k hk h => absurd h (Nat.not_lt_zero k), fun k hk h => absurd hk (by omega)⟩
  case round =>
    obtain ⟨a, b, hab, hb, rfl, rfl, h1, h2⟩ := hrel
    have H1 := Lib.hid h1
    have H2 := Lib.hid h2
    clear h1 h2
    by_cases hlt : a < b
    · have hb4 : (b : Int) ≤ 1000 := by omega
      have hab2 : (a : Int) < (b : Int) := by omega
      obtain ⟨m, HM⟩ : ∃ m, Hid (m = (a + b) / 2) := ⟨_, Lib.hid rfl⟩
      have HMI : Hid (((a : Int) + (b : Int)) / 2 = (m : Int)) := Lib.hid (by rw [HM.out]; omega)
      have hm1 : a ≤ m := by rw [HM.out]; omega
      have hm2 : m < b := by rw [HM.out]; omega
      have hmn : m < keys.length := by omega
      obtain ⟨ad, rfl, hc⟩ := nums_cell HV.out hmn
      obtain ⟨z, HZ⟩ : ∃ z, Hid (z = keys[m]) := ⟨_, Lib.hid rfl⟩
      rw [← HZ.out] at hc
      go_upto_region 5 with (fail)
      rw [HMI.out]
      go_wp2_with fail
      refine (cmpLess_any z key _).mono ?_
      by_cases hz : z < key
      · rw [decide_eq_true hz]
        have HZL := Lib.hid hz
        clear hz
        rintro e w' ⟨rfl, rfl⟩
        go_wp2_with fail
        go_round
        case rel =>
          refine ⟨m + 1, b, by omega, hb, by go_num, rfl, fun k hk hlt2 => ?_, H2.out⟩
          rcases Nat.lt_or_ge k m with h3 | h3
          · have := List.pairwise_iff_getElem.1 HS.out k m hk hmn h3
            have := HZL.out
            have := HZ.out
            omega
          · obtain rfl : k = m := by omega
            rw [← HZ.out]
            exact HZL.out
        case measure => simp [intOf]; omega
      · rw [decide_eq_false hz]
        have HZL := Lib.hid hz
        clear hz
        rintro e w' ⟨rfl, rfl⟩
        go_wp2_with fail
        go_round
        case rel =>
          refine ⟨a, m, hm1, by omega, rfl, by go_num, H1.out, fun k hk hle => ?_⟩
          rcases Nat.lt_or_ge m k with h3 | h3
          · have := List.pairwise_iff_getElem.1 HS.out m k hmn hk h3
            have := HZL.out
            have := HZ.out
            omega
          · obtain rfl : k = m := by omega
            rw [← HZ.out]
            have := HZL.out
            omega
        case measure => simp [intOf]; omega
    · obtain rfl : a = b := by omega
      have HL : Hid (less keys key = a) := Lib.hid (less_of HS.out key hb (fun i hi => H1.out i (by omega) hi) (fun hi => by have := H2.out a hi (Nat.le_refl _); omega))
      have HLA : Hid (lz = (a : Int)) := Lib.hid (by rw [HLZ.out, HL.out])
      by_cases hin : a < keys.length
      · obtain ⟨ad, rfl, hc⟩ := nums_cell HV.out hin
        obtain ⟨z, HZ⟩ : ∃ z, Hid (z = keys[a]) := ⟨_, Lib.hid rfl⟩
        rw [← HZ.out] at hc
        have HF : Hid (keys[a]? = some z) := Lib.hid (by rw [List.getElem?_eq_getElem hin, HZ.out])
        by_cases hz : z = key
        · have HB : Hid (fz = true) := Lib.hid (by rw [HFZ.out, HL.out, HF.out]; exact decide_eq_true (by rw [hz]))
          subst hz
          go_wp2_with fail
          go_ret2
          exact ⟨by rw [HLA.out, HB.out]; rfl, rfl⟩
        · have HB : Hid (fz = false) := Lib.hid (by rw [HFZ.out, HL.out, HF.out]; exact decide_eq_false (fun h => hz (Option.some.inj h)))
          have hz2 : (z == key) = false := beq_eq_false_iff_ne.2 hz
          go_wp2_with fail
          refine (nan1_any z _).mono ?_
          rintro e w' ⟨rfl, rfl⟩
          go_wp2_with fail
          go_ret2
          exact ⟨by rw [HLA.out, HB.out]; rfl, rfl⟩
      · have HB : Hid (fz = false) := Lib.hid (by rw [HFZ.out, HL.out]; exact decide_eq_false (by rw [List.getElem?_eq_none (by omega)]; exact fun h => by cases h))
        go_wp2_with fail
        go_ret2
        exact ⟨by rw [HLA.out, HB.out]; rfl, rfl⟩
set_option maxRecDepth 100000 in
theorem Seek_any {w : World} {l : Lay3} {x : Nd} (h : NdIs w l x) (key : Int) : Calls Tryd.prog 20 #[ndV l x, .int .i64 key] w fun e w' => e = .returned (.tuple #[.int .i64 ((seekN x key).1 : Int), .bool (seekN x key).2]) ∧ Below w.heap.size w w' := by
  obtain ⟨A, B, C, ca, cb, cc⟩ := l
  obtain ⟨p, HP⟩ : ∃ p, Hid (p = w.heap.size) := ⟨_, Lib.hid rfl⟩
  obtain ⟨w1, HW⟩ : ∃ w1, Hid (w1 = w.alloc (.cells #[.slice A x.keys.length ca, .slice B x.vals.length cb, .slice C x.kids.length cc] 32)) := ⟨_, Lib.hid rfl⟩
  have HBX : Hid (NdBox w1 p ⟨A, B, C, ca, cb, cc⟩ x) := Lib.hid (by rw [HW.out, HP.out]; exact NdBox.new (l := ⟨A, B, C, ca, cb, cc⟩) (x := x) _)
  have HBL : Hid (Below w.heap.size w w1) := Lib.hid (by rw [HW.out]; exact (Below.refl _ _).alloc (Nat.le_refl _) _)
  have HN := Lib.hid (h.carry HBL.out)
  obtain ⟨V, HVV⟩ : ∃ V, Hid (V = Value.tuple #[.int .i64 ((seekN x key).1 : Int), .bool (seekN x key).2]) := ⟨_, Lib.hid rfl⟩
  rw [← HVV.out]
  obtain ⟨rr, HRR⟩ : ∃ rr, Hid (rr = rightN x) := ⟨_, Lib.hid rfl⟩
  clear h
  go_enter Tryd.func20, Tryd.ntmps20
  go_upto_region 1 with (fail)
  rw [← HW.out, ← HP.out]
  clear HW HP
  go_wp2_with (with_reducible refine stop_at (o := ⟨some 6, _, _, _, _, _⟩) ?_)
  refine wpList_load_nd Tryd.ndProg (by rfl) _ rfl p rfl ⟨A, B, C, ca, cb, cc⟩ x HBX.out ?_
  go_wp2_with fail
  refine (Right_any HN.out).mono ?_
  rw [← HRR.out]
  rintro e w2 ⟨rfl, hb⟩
  have HBX2 := Lib.hid (HBX.out.carry hb HBX.out.lt)
  have HN2 := Lib.hid (HN.out.carry hb)
  have HB2 := Lib.hid (HBL.out.trans (hb.mono HBL.out.size))
  clear hb
  have c0 : w2.cell? ⟨p, 0, none⟩ = some (.slice A x.keys.length ca) := HBX2.out.c0
  cases rr with
  | false =>
    have HE : Hid (V = .tuple #[.int .i64 0, .bool false]) := Lib.hid (by rw [HVV.out]; unfold seekN; rw [if_neg (by rw [← HRR.out]; decide)]; rfl)
    go_wp2_with fail
    go_ret2
    exact ⟨by rw [HE.out]; rfl, HB2.out⟩
  | true =>
    have HE : Hid (V = .tuple #[.int .i64 (less x.keys key : Int), .bool (decide (x.keys[less x.keys key]? = some key))]) := Lib.hid (by rw [HVV.out]; unfold seekN; rw [if_pos HRR.out.symm])
    have HK := Lib.hid (keysB_iff.1 (right_parts HRR.out.symm).1).2
    have hk7 : x.keys.length ≤ 1000 := Nat.le_trans (right_parts HRR.out.symm).2.1 (by decide)
    obtain ⟨lz, HLZ⟩ : ∃ lz : Int, Hid (lz = (less x.keys key : Int)) := ⟨_, Lib.hid rfl⟩
    obtain ⟨fz, HFZ⟩ : ∃ fz : Bool, Hid (fz = decide (x.keys[less x.keys key]? = some key)) := ⟨_, Lib.hid rfl⟩
    rw [← HLZ.out, ← HFZ.out] at HE
    go_wp2_with fail
    refine (Binary_any HN2.out.keys HK.out hk7 key).mono ?_
    rw [← HLZ.out, ← HFZ.out]
    rintro e w' ⟨rfl, rfl⟩
    go_wp2_with fail
    go_ret2
    exact ⟨by rw [HE.out]; rfl, HB2.out⟩
end Go.Proofs.YtakpjphgkpaipaaDoor
