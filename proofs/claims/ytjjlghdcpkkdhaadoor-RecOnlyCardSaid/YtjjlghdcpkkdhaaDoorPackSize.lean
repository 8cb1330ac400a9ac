/-
  The contracts of pack.Size, pack.Fields and pack.Parse. Conditions: none beyond the premises of each theorem.
-/
import Derived.Test.YtjjlghdcpkkdhaaDoorPackGet
import Derived.Test.YtjjlghdcpkkdhaaDoorNums
namespace Go.Proofs.YtjjlghdcpkkdhaaDoor
open Go.RowKit

/-- widths that may be -/
def Widths (ws : List Nat) : Prop := ws.length ≤ 40 ∧ ∀ n ∈ ws, 1 ≤ n ∧ n ≤ 4
theorem Widths.at_ {ws : List Nat} (h : Widths ws) {i : Nat} (hi : i < ws.length) : 1 ≤ ws[i] ∧ ws[i] ≤ 4 := h.2 _ (List.getElem_mem hi)
theorem Widths.sum {ws : List Nat} (h : Widths ws) : ws.sum ≤ 160 := by
  have := sum_le_of (fun n hn => (h.2 n hn).2)
  have := h.1
  omega
def SizeRel (zs : List Nat) (s i : Value) : Prop := ∃ k : Nat, k ≤ zs.length ∧ i = .int .i64 (k : Int) ∧ s = .int .i64 ((zs.take k).sum : Int)
set_option maxHeartbeats 1000000 in
theorem Size_yes (ws : List Nat) (A : Option Addr) (cap : Nat) (w : World) (hw : Widths ws) (hn : Nums w .i64 A (ints ws)) :
    Calls Tryd.prog 42 #[.slice A ws.length cap] w fun e w' => e = .returned (.int .i64 (ws.sum : Int)) ∧ w = w' := by
  have HW := Lib.hid hw
  have HN := Lib.hid hn
  have h40 := hw.1
  have hsum := hw.sum
  clear hw hn
  go_enter Tryd.func42, Tryd.ntmps42
  go_wp2
  go_loop [3, 11] (fun s i => SizeRel ws s i) (fun _ i => ws.length - (intOf i).toNat)
  case atStart => exact ⟨0, Nat.zero_le _, rfl, rfl⟩
  case round =>
    obtain ⟨k, hk, rfl, rfl⟩ := hrel
    by_cases hlt : k < ws.length
    · obtain ⟨a, rfl, hc⟩ := HN.out.at_ (ints_at hlt)
      obtain ⟨n, HE⟩ : ∃ n, Hid (n = ws[k]) := ⟨_, Lib.hid rfl⟩
      obtain ⟨s, HS⟩ : ∃ s, Hid (s = (ws.take k).sum) := ⟨_, Lib.hid rfl⟩
      have hs : s ≤ 160 := by have := sum_take_le ws k; rw [HS.out]; omega
      rw [← HE.out] at hc
      rw [← HS.out]
      have h1 : 1 ≤ n := by rw [HE.out]; exact (HW.out.at_ hlt).1
      have h4 : n ≤ 4 := by rw [HE.out]; exact (HW.out.at_ hlt).2
      go_wp2_with fail
      refine (isWidth_yes n _ h1 h4).mono ?_
      rintro e w' ⟨rfl, rfl⟩
      go_wp2
      go_round
      case rel =>
        refine ⟨k + 1, hlt, by go_num, ?_⟩
        rw [sum_take_succ hlt, ← HS.out, ← HE.out]
        go_num
      case measure => simp [intOf]; omega
    · obtain rfl : k = ws.length := by omega
      go_wp2
      go_ret
      exact ⟨rfl, rfl⟩

set_option maxHeartbeats 1000000 in
theorem Size_long (zs : List Int) (A : Option Addr) (cap : Nat) (w : World) (h : 40 < zs.length) :
    Calls Tryd.prog 42 #[.slice A zs.length cap] w fun e w' => e = .returned (.int .i64 (-1)) ∧ w = w' := by
  go_enter Tryd.func42, Tryd.ntmps42
  go_wp2
  go_ret
  exact ⟨rfl, rfl⟩

/-- the first q are widths, and the next one isn't -/
def WrongAt (zs : List Int) (q : Nat) : Prop := q < zs.length ∧ (∀ i, i < q → ∃ n : Nat, zs[i]? = some (n : Int) ∧ 1 ≤ n ∧ n ≤ 4) ∧ ∃ z, zs[q]? = some z ∧ (z < 1 ∨ 4 < z)
def WrongRel (q : Nat) (s i : Value) : Prop := ∃ k t : Nat, k ≤ q ∧ t ≤ 4 * k ∧ i = .int .i64 (k : Int) ∧ s = .int .i64 (t : Int)
set_option maxHeartbeats 1000000 in
theorem Size_wrong (zs : List Int) (q : Nat) (A : Option Addr) (cap : Nat) (w : World) (hq : WrongAt zs q) (h40 : zs.length ≤ 40) (hn : Nums w .i64 A zs) :
    Calls Tryd.prog 42 #[.slice A zs.length cap] w fun e w' => e = .returned (.int .i64 (-1)) ∧ w = w' := by
  obtain ⟨hql, hqi, z, hqz, hzz⟩ := hq
  have HI := Lib.hid hqi
  have HZ := Lib.hid hqz
  have HZZ := Lib.hid hzz
  have HN := Lib.hid hn
  clear hqi hqz hzz hn
  go_enter Tryd.func42, Tryd.ntmps42
  go_wp2
  go_loop [3, 11] (fun s i => WrongRel q s i) (fun _ i => zs.length - (intOf i).toNat)
  case atStart => exact ⟨0, 0, Nat.zero_le _, Nat.zero_le _, rfl, rfl⟩
  case round =>
    obtain ⟨k, t, hk, ht, rfl, rfl⟩ := hrel
    by_cases hlt : k < q
    · obtain ⟨n, hz, h1, h4⟩ := HI.out k hlt
      obtain ⟨a, rfl, hc⟩ := HN.out.at_ hz
      clear hz
      have hlt2 : k < zs.length := by omega
      go_wp2_with fail
      refine (isWidth_yes n _ h1 h4).mono ?_
      rintro e w' ⟨rfl, rfl⟩
      go_wp2
      go_round
      case rel => exact ⟨k + 1, t + n, hlt, by omega, by go_num, by go_num⟩
      case measure => simp [intOf]; omega
    · obtain rfl : q = k := by omega
      obtain ⟨a, rfl, hc⟩ := HN.out.at_ HZ.out
      go_wp2_with fail
      refine (isWidth_no z _ HZZ.out).mono ?_
      rintro e w' ⟨rfl, rfl⟩
      go_wp2
      go_ret
      exact ⟨rfl, rfl⟩
/-- numbers are widths, or one isn't -/
theorem widths_or (zs : List Int) : (∃ ws : List Nat, zs = ints ws ∧ ∀ n ∈ ws, 1 ≤ n ∧ n ≤ 4) ∨ ∃ q, WrongAt zs q := by
  induction zs with
  | nil => exact .inl ⟨[], rfl, by simp⟩
  | cons z r ih =>
    by_cases hz : z < 1 ∨ 4 < z
    · exact .inr ⟨0, by simp, fun i hi => by omega, z, rfl, hz⟩
    · rcases ih with ⟨ws, rfl, h⟩ | ⟨q, h1, h2, h3⟩
      · refine .inl ⟨z.toNat :: ws, ?_, ?_⟩
        · have e : ((z.toNat : Nat) : Int) = z := by omega
          simp [ints, e]
        · intro n hn
          rcases List.mem_cons.1 hn with rfl | hn
          · omega
          · exact h n hn
      · refine .inr ⟨q + 1, by simp; omega, fun i hi => ?_, by simpa using h3⟩
        cases i with
        | zero => exact ⟨z.toNat, by simp; omega, by omega, by omega⟩
        | succ i => simpa using h2 i (by omega)

/-- Fields and Parse of widths that may not be -/
def BadWidths (w : World) (A : Option Addr) (zs : List Int) : Prop := 40 < zs.length ∨ (zs.length ≤ 40 ∧ Nums w .i64 A zs ∧ ∃ q, WrongAt zs q)
theorem Size_bad (zs : List Int) (A : Option Addr) (cap : Nat) (w : World) (h : BadWidths w A zs) : Calls Tryd.prog 42 #[.slice A zs.length cap] w fun e w' => e = .returned (.int .i64 (-1)) ∧ w = w' := by
  rcases h with h | ⟨h1, h2, q, h3⟩
  · exact Size_long zs A cap w h
  · exact Size_wrong zs q A cap w h3 h1 h2
set_option maxHeartbeats 1000000 in
theorem Fields_bad (zs ms : List Int) (A A2 : Option Addr) (cap cap2 : Nat) (w : World) (h : BadWidths w A zs) :
    Calls Tryd.prog 38 #[.slice A zs.length cap, .slice A2 ms.length cap2] w (GetFault (.string ⟨#[]⟩) 1 w) := by
  have H := Lib.hid h
  clear h
  go_enter Tryd.func38, Tryd.ntmps38
  go_wp2_with fail
  refine (Size_bad zs A cap _ H.out).mono ?_
  rintro e w' ⟨rfl, rfl⟩
  go_wp2_with fail
  refine (packFault_any 1 _).mono ?_
  rintro e w' ⟨v, l, rfl, hc, hb⟩
  have HC := Lib.hid hc
  have HB := Lib.hid hb
  clear hc hb
  go_wp2_with fail
  go_ret2
  exact ⟨_, _, rfl, HC.out, HB.out⟩
set_option maxHeartbeats 1000000 in
theorem Parse_bad (zs : List Int) (s : ByteArray) (A : Option Addr) (cap : Nat) (w : World) (h : BadWidths w A zs) :
    Calls Tryd.prog 41 #[.slice A zs.length cap, .string s] w (GetFault (.slice none 0 0) 1 w) := by
  have H := Lib.hid h
  clear h
  go_enter Tryd.func41, Tryd.ntmps41
  go_wp2_with fail
  refine (Size_bad zs A cap _ H.out).mono ?_
  rintro e w' ⟨rfl, rfl⟩
  go_wp2_with fail
  refine (packFault_any 1 _).mono ?_
  rintro e w' ⟨v, l, rfl, hc, hb⟩
  have HC := Lib.hid hc
  have HB := Lib.hid hb
  clear hc hb
  go_wp2_with fail
  go_ret2
  exact ⟨_, _, rfl, HC.out, HB.out⟩
set_option maxHeartbeats 1000000 in
theorem Fields_count (ws : List Nat) (ms : List Int) (A A2 : Option Addr) (cap cap2 : Nat) (w : World) (hw : Widths ws) (hn : Nums w .i64 A (ints ws)) (hl : ms.length ≠ ws.length) :
    Calls Tryd.prog 38 #[.slice A ws.length cap, .slice A2 ms.length cap2] w (GetFault (.string ⟨#[]⟩) 1 w) := by
  have HW := Lib.hid hw
  have HN := Lib.hid hn
  have hl1 : ((ms.length : Int) != (ws.length : Int)) = true := by simp; omega
  have hsum := hw.sum
  clear hw hn hl
  go_enter Tryd.func38, Tryd.ntmps38
  go_wp2_with fail
  refine (Size_yes ws A cap _ HW.out HN.out).mono ?_
  rintro e w' ⟨rfl, rfl⟩
  go_wp2_with fail
  refine (packFault_any 1 _).mono ?_
  rintro e w' ⟨v, l, rfl, hc, hb⟩
  have HC := Lib.hid hc
  have HB := Lib.hid hb
  clear hc hb
  go_wp2_with fail
  go_ret2
  exact ⟨_, _, rfl, HC.out, HB.out⟩
set_option maxHeartbeats 1000000 in
theorem Parse_form (ws : List Nat) (s : ByteArray) (A : Option Addr) (cap : Nat) (w : World) (hw : Widths ws) (hn : Nums w .i64 A (ints ws)) (hl : s.size ≠ ws.sum) :
    Calls Tryd.prog 41 #[.slice A ws.length cap, .string s] w (GetFault (.slice none 0 0) 2 w) := by
  have HW := Lib.hid hw
  have HN := Lib.hid hn
  have hl1 : ((s.size : Int) != (ws.sum : Int)) = true := by simp; omega
  have hsum := hw.sum
  clear hw hn hl
  go_enter Tryd.func41, Tryd.ntmps41
  go_wp2_with fail
  refine (Size_yes ws A cap _ HW.out HN.out).mono ?_
  rintro e w' ⟨rfl, rfl⟩
  go_wp2_with fail
  refine (packFault_any 2 _).mono ?_
  rintro e w' ⟨v, l, rfl, hc, hb⟩
  have HC := Lib.hid hc
  have HB := Lib.hid hb
  clear hc hb
  go_wp2_with fail
  go_ret2
  exact ⟨_, _, rfl, HC.out, HB.out⟩
end Go.Proofs.YtjjlghdcpkkdhaaDoor
