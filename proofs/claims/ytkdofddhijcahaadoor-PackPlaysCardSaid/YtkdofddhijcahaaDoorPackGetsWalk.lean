/-
  The walk of the statement PackGets: it answers true, and no memory that was there has turned. Conditions: the arguments are within their kinds, and the package variable errors.errorType holds the handle of the type error.
-/
import Derived.Test.YtkdofddhijcahaaDoorPackGet
import Derived.Deep.DeepCutAuto
import Derived.Laws.Concat
namespace Go.Proofs.YtkdofddhijcahaaDoor
open Go.RowKit

set_option maxHeartbeats 1000000 in
theorem awake_any (w : World) : Calls Tryd.prog 7 #[] w fun e w' => e = .returned (.bool true) ∧ Below w.heap.size w w' := by
  go_enter Tryd.func7, Tryd.ntmps7
  go_wp2_with fail
  refine (Put_yes 2 258 w (by decide) (by decide) (by decide)).mono ?_
  rintro e w' ⟨rfl, hb⟩
  have HB := Lib.hid hb
  clear hb
  have e : (⟨(be 2 258).toArray⟩ : ByteArray) = ⟨#[1, 2]⟩ := by rfl
  rw [e]
  clear e
  go_wp2_with fail
  go_ret
  exact ⟨rfl, HB.out⟩

set_option maxHeartbeats 1000000 in
theorem gets_long (m n : Nat) (t : ByteArray) (w : World) (hl : 300 < t.size) :
    Calls Tryd.prog 6 #[.int .u8 m, .int .u32 n, .string t] w fun e w' => e = .returned (.bool true) ∧ Below w.heap.size w w' := by
  have hl' : decide ((t.size : Int) > 300) = true := by simp; omega
  go_enter Tryd.func6, Tryd.ntmps6
  go_wp2_with fail
  refine (awake_any _).mono ?_
  rintro e w1 ⟨rfl, hb1⟩
  have HB1 := Lib.hid hb1
  clear hb1
  go_wp2_with fail
  refine (awake_any _).mono ?_
  rintro e w2 ⟨rfl, hb2⟩
  have HB2 : Hid (Below w.heap.size w w2) := Lib.hid (HB1.out.trans (hb2.mono HB1.out.size))
  clear hb2
  go_wp2_with fail
  go_ret
  exact ⟨rfl, HB2.out⟩

set_option maxHeartbeats 2000000 in
theorem gets_short (m k n p x : Nat) (t : ByteArray) (w : World) (hm : m < 256) (hn : n < 4294967296) (hl : t.size ≤ 300) (hk : k = 1 + m % 4) (hp : p = 256 ^ k) (hx : x = n % p) (hg : Laid w) :
    Calls Tryd.prog 6 #[.int .u8 m, .int .u32 n, .string t] w fun e w' => e = .returned (.bool true) ∧ Below w.heap.size w w' := by
  have h1 : 1 ≤ k := by omega
  have h4 : k ≤ 4 := by omega
  have hp0 : 0 < p := by rw [hp]; exact Nat.pow_pos (by decide)
  have E : Hid ((1 : Int) + (m : Int) % 4 = (k : Int)) := Lib.hid (by omega)
  have HX : Hid (x < 256 ^ k) := Lib.hid (by rw [hx, ← hp]; exact Nat.mod_lt _ hp0)
  have hx9 : x < 4294967296 := Nat.lt_of_lt_of_le HX.out (pow_le4 h4)
  have HXD := Lib.hid hx
  have HP := Lib.hid hp
  have HG := Lib.hid hg
  have hl' : decide ((t.size : Int) > 300) = false := by simp; omega
  clear hk hp hx hg
  go_enter Tryd.func6, Tryd.ntmps6
  go_wp2_with fail
  refine (awake_any _).mono ?_
  rintro e w1 ⟨rfl, hb1⟩
  have HB1 := Lib.hid hb1
  clear hb1
  go_upto_region 4 with (fail)
  rw [E.out]
  have q5 := wrap64_pow h4 HP.out
  have q6 : ¬ (p : Int) = 0 := by omega
  go_upto_region 5 with (fail)
  clear q5 q6
  have q8 : (n : Int) % (p : Int) = (x : Int) := by rw [HXD.out]; exact (Int.natCast_emod n p).symm
  rw [q8]
  clear q8
  go_wp2_with fail
  refine (Put_yes k x _ h1 h4 HX.out).mono ?_
  obtain ⟨s, HS⟩ : ∃ s : ByteArray, Hid (s = ⟨(be k x).toArray⟩) := ⟨_, Lib.hid rfl⟩
  rw [← HS.out]
  have HSL : Hid (s.data.toList = be k x) := Lib.hid (by rw [HS.out])
  have hsz : s.size = k := by
    have e : s.data.toList.length = s.size := by rw [Array.length_toList]; rfl
    rw [← e, HSL.out, be_length]
  have hs4 : s.size ≤ 4 := by omega
  have hsk : k ≤ s.size := by omega
  have hz : ((s.size : Int) == (k : Int)) = true := by rw [hsz]; simp
  clear hsz
  rintro e w2 ⟨rfl, hb2⟩
  have HB2 : Hid (Below w.heap.size w w2) := Lib.hid (HB1.out.trans (hb2.mono HB1.out.size))
  clear hb2 HB1
  have hcat : ∀ w, (Op.stringOp .add s t).run Tryd.prog w = .ok (.string (s ++ t)) w := fun w => run_string_add_sum w s t (by omega)
  go_wp2_with fail
  refine (Get_yes (s ++ t) k _ h1 h4 (by rw [ByteArray.size_append]; omega)).mono ?_
  have e1 : num ((s ++ t).data.toList.take k) = x := by
    rw [ByteArray.data_append, Array.toList_append, HSL.out, List.take_append_of_le_length (by rw [be_length]; exact Nat.le_refl _), be_full, num_be HX.out]
  rw [e1]
  clear e1 hcat
  rintro e w3 ⟨rfl, rfl⟩
  go_wp2_with fail
  refine (Get_short (s.extract 0 (k - 1)) k _ h1 h4 (by rw [ByteArray.size_extract]; omega)).mono ?_
  rintro e w4 ⟨v, l, rfl, hc, hb4⟩
  have HC := Lib.hid hc
  have HB4 : Hid (Below w.heap.size w w4) := Lib.hid (HB2.out.trans (hb4.mono HB2.out.size))
  clear hc hb4 HB2
  go_wp2_with fail
  refine (Num_nil _).mono ?_
  rintro e w5 ⟨rfl, rfl⟩
  go_wp2_with fail
  refine (Num_chain 2 v l _ HC.out (HG.out.carry HB4.out)).mono ?_
  rintro e w6 ⟨rfl, hb6⟩
  have HB6 : Hid (Below w.heap.size w w6) := Lib.hid (HB4.out.trans (hb6.mono HB4.out.size))
  clear hb6 HB4
  go_wp2_with fail
  go_ret
  exact ⟨rfl, HB6.out⟩
theorem gets_walk (m n : Nat) (t : ByteArray) (w : World) (hm : m < 256) (hn : n < 4294967296) (hg : Laid w) :
    Calls Tryd.prog 6 #[.int .u8 m, .int .u32 n, .string t] w fun e w' => e = .returned (.bool true) ∧ Below w.heap.size w w' := by
  by_cases hl : 300 < t.size
  · exact gets_long m n t w hl
  · exact gets_short m _ n _ _ t w hm hn (by omega) rfl rfl rfl hg
end Go.Proofs.YtkdofddhijcahaaDoor
