/-
  The contract of rec.mayBe: whether all parts lie within their bounds. Conditions: none beyond the premises of each theorem.
-/
import Derived.Test.YtjjlghdcpkkdhaaDoorRecMath
import Derived.Test.YtjjlghdcpkkdhaaDoorErrFrom
import Derived.Test.YtjjlghdcpkkdhaaDoorStop
import Derived.Test.YtjjlghdcpkkdhaaDoorRegionHead
namespace Go.Proofs.YtjjlghdcpkkdhaaDoor
open Go.RowKit

/-- a part: its number, the least and the most -/
structure Prt where
  num : Int
  least : Int
  most : Int
def Prt.ok (p : Prt) : Bool := decide (p.least ≤ p.num ∧ p.num ≤ p.most)
/-- parts in memory -/
def Prts (w : World) (b : Nat) (ps : List Prt) : Prop := ∀ j (h : j < ps.length), w.cell? ⟨b, j * 3, none⟩ = some (.int .i64 ps[j].num) ∧ w.cell? ⟨b, j * 3 + 1, none⟩ = some (.int .i64 ps[j].least) ∧ w.cell? ⟨b, j * 3 + 2, none⟩ = some (.int .i64 ps[j].most)
theorem Prts.below {w w' : World} {b B : Nat} {ps : List Prt} (h : Prts w b ps) (hb : Below B w w') (hB : b < B) : Prts w' b ps := fun j hj => by
  obtain ⟨h1, h2, h3⟩ := h j hj
  exact ⟨(hb.cell (p := ⟨b, j * 3, none⟩) hB).trans h1, (hb.cell (p := ⟨b, j * 3 + 1, none⟩) hB).trans h2, (hb.cell (p := ⟨b, j * 3 + 2, none⟩) hB).trans h3⟩
def MayRel (w : World) (ps : List Prt) (i : Value) (wr : World) : Prop := ∃ j : Nat, j ≤ ps.length ∧ i = .int .i64 (j : Int) ∧ (∀ k (h : k < ps.length), k < j → ps[k].ok = true) ∧ Below w.heap.size w wr
set_option maxRecDepth 100000 in
theorem mayBe_any (ps : List Prt) (b cap : Nat) (w : World) (hps : Prts w b ps) (hb : b < w.heap.size) (hl : ps.length ≤ 100) :
    Calls Tryd.prog 23 #[.slice (some ⟨b, 0, none⟩) ps.length cap] w fun e w' => e = .returned (.bool (ps.all Prt.ok)) ∧ Below w.heap.size w w' := by
  have HP := Lib.hid hps
  have HB := Lib.hid hb
  clear hps hb
  go_enter Tryd.func23, Tryd.ntmps23
  go_wp2_with fail
  go_loopw [7] (fun i wr => MayRel w ps i wr) (fun i _ => ps.length - (intOf i).toNat)
  case atStart => exact ⟨0, Nat.zero_le _, rfl, fun k _ h => absurd h (Nat.not_lt_zero k), Below.refl _ _⟩
  case round =>
    obtain ⟨j, hj, rfl, hok, hbw⟩ := hrel
    have HO := Lib.hid hok
    have HW := Lib.hid hbw
    clear hok hbw
    by_cases hlt : j < ps.length
    · obtain ⟨c0, c1, c2⟩ := (HP.out.below HW.out HB.out) j hlt
      obtain ⟨p, HPJ⟩ : ∃ p, Hid (p = ps[j]) := ⟨_, Lib.hid rfl⟩
      rw [← HPJ.out] at c0 c1 c2
      by_cases h1 : p.num < p.least
      · have h1' : decide (p.num < p.least) = true := decide_eq_true h1
        go_wp2_with fail
        go_ret
        refine ⟨ret_bool ?_, HW.out.alloc HW.out.size _⟩
        refine (List.all_eq_false.2 ⟨p, HPJ.out ▸ List.getElem_mem hlt, ?_⟩).symm
        simp [Prt.ok]
        omega
      · have h1' : decide (p.num < p.least) = false := decide_eq_false h1
        by_cases h2 : p.num > p.most
        · have h2' : decide (p.num > p.most) = true := decide_eq_true h2
          go_wp2_with fail
          go_ret
          refine ⟨ret_bool ?_, HW.out.alloc HW.out.size _⟩
          refine (List.all_eq_false.2 ⟨p, HPJ.out ▸ List.getElem_mem hlt, ?_⟩).symm
          simp [Prt.ok]
          omega
        · have h2' : decide (p.num > p.most) = false := decide_eq_false h2
          go_wp2_with fail
          go_roundw
          case rel =>
            refine ⟨j + 1, hlt, by go_num, fun k hk hkj => ?_, HW.out.alloc HW.out.size _⟩
            rcases Nat.lt_or_ge k j with h | h
            · exact HO.out k hk h
            · obtain rfl : k = j := by omega
              rw [← HPJ.out]
              simp [Prt.ok]
              omega
          case measure => simp [intOf]; omega
    · obtain rfl : j = ps.length := by omega
      go_wp2_with fail
      go_ret
      refine ⟨ret_bool ?_, HW.out⟩
      refine (List.all_eq_true.2 fun p hp => ?_).symm
      obtain ⟨k, hk, rfl⟩ := List.getElem_of_mem hp
      exact HO.out k hk hk
end Go.Proofs.YtjjlghdcpkkdhaaDoor
