/-
  The contract of Right (layer 14): whether a map is right. Conditions: none beyond the premises of each theorem.
-/
import Derived.Test.YtiffgmgefpoblaaDoorGridJoined
namespace Go.Proofs.YtiffgmgefpoblaaDoor
open Go.RowKit

theorem drop_nil (p : UInt8 → Bool) : ∀ l : List UInt8, l.dropWhile p = [] ↔ ∀ x ∈ l, p x = true
  | [] => by simp
  | y :: l => by
    rw [List.dropWhile_cons]
    cases hy : p y with
    | true =>
      simp only [if_true]
      rw [drop_nil p l]
      simp [hy]
    | false => simp [hy]
theorem drop_head (p : UInt8 → Bool) : ∀ (l : List UInt8) (y : UInt8) (r : List UInt8), l.dropWhile p = y :: r → p y = false
  | [], _, _, h => by simp at h
  | z :: l, y, r, h => by
    rw [List.dropWhile_cons] at h
    cases hz : p z with
    | true => rw [hz] at h; exact drop_head p l y r h
    | false =>
      rw [hz] at h
      simp at h
      rw [← h.1]
      exact hz
theorem sign_has (x : UInt8) : (([35, 46, 67, 80] : List UInt8).contains x) = Grid.sign x := by
  rw [Bool.eq_iff_iff, List.contains_iff_mem]
  unfold Grid.sign
  simp [or_assoc]
theorem trim_nil (l : List UInt8) : Lib.trimS l [35, 46, 67, 80] = [] ↔ l.all Grid.sign = true := by
  unfold Lib.trimS Lib.trimLeftS Lib.trimRightS
  simp only [sign_has]
  rw [drop_nil, List.all_eq_true]
  constructor
  · intro h x hx
    cases hd : l.reverse.dropWhile Grid.sign with
    | nil => exact (drop_nil _ _).1 hd x (by simpa using hx)
    | cons y r =>
      have h1 := h y (by rw [hd]; simp)
      rw [drop_head _ _ _ _ hd] at h1
      cases h1
  · intro h x hx
    rw [(drop_nil _ _).2 (fun x hx => h x (by simpa using hx))] at hx
    simp at hx
/-- a map's value -/
abbrev mapV (W H : Int) (s : ByteArray) : Value := .agg #[.int .i64 W, .int .i64 H, .string s]
noncomputable def rightM (W H : Int) (s : ByteArray) : Bool := Grid.rightB W H s.data.toList
theorem size_list (s : ByteArray) : s.data.toList.length = s.size := by rw [Array.length_toList]; rfl
set_option maxRecDepth 100000 in
theorem Right_any (W H : Int) (s : ByteArray) (hs : s.size ≤ maxLen) (w : World) :
    Calls Tryd.prog 21 #[.agg #[.int .i64 W, .int .i64 H, .string s]] w fun e w' => e = .returned (.bool (rightM W H s)) ∧ Below w.heap.size w w' := by
  unfold maxLen at hs
  obtain ⟨w1, HW1⟩ : ∃ w1, Hid (w1 = w.alloc (.cells #[.int .i64 W, .int .i64 H, .string s] 30)) := ⟨_, Lib.hid rfl⟩
  obtain ⟨q, HQ⟩ : ∃ q, Hid (q = w.heap.size) := ⟨_, Lib.hid rfl⟩
  have HM : Hid (MapAt w1 q W H s) := Lib.hid (by rw [HW1.out, HQ.out]; exact heap_alloc_new w _)
  have HB : Hid (Below w.heap.size w w1) := Lib.hid (by rw [HW1.out]; exact (Below.refl _ _).alloc (Nat.le_refl _) _)
  have HQB : Hid (q < w1.heap.size) := Lib.hid HM.out.lt
  go_enter Tryd.func21, Tryd.ntmps21
  go_upto_region 1 with (fail)
  rw [← HQ.out, ← HW1.out]
  clear HW1 HQ
  have c0 := HM.out.w_
  have c1 := HM.out.h_
  have c2 := HM.out.s_
  go_wp2_with fail
  refine (sized_any W H s w1).mono ?_
  obtain ⟨z, HZ⟩ : ∃ z, Hid (z = decide (Grid.sized W H s.size)) := ⟨_, Lib.hid rfl⟩
  rw [← HZ.out]
  rintro e w2 ⟨rfl, hb⟩
  have HB2 := Lib.hid (HB.out.trans (hb.mono HB.out.size))
  have HM2 : Hid (MapAt w2 q W H s) := Lib.hid ((hb.block q HQB.out).trans HM.out)
  clear hb c0 c1 c2
  cases z with
  | false =>
    go_wp2_with fail
    go_ret
    refine ⟨ret_bool9 ?_, HB2.out⟩
    have := of_decide_eq_false HZ.out.symm
    exact (Grid.rightB_not (by rw [size_list]; exact this)).symm
  | true =>
    have hz := of_decide_eq_true HZ.out.symm
    obtain ⟨a, h, rfl, rfl, h1, h8, hh1, hh8, hn, _⟩ := Grid.sized_nat hz
    have HZZ := Lib.hid hz
    clear hz
    have c0 := HM2.out.w_
    have c1 := HM2.out.h_
    have c2 := HM2.out.s_
    have HTR : Hid (Calls Tryd.prog 33 #[.string s, .string ⟨#[35, 46, 67, 80]⟩] w2 fun e w' => e = .returned (.string ⟨(Lib.trimS s.data.toList [35, 46, 67, 80]).toArray⟩) ∧ Below w2.heap.size w2 w') := Lib.hid (Any.strings_Trim_laid trimL (by kernel_rfl) s ⟨#[35, 46, 67, 80]⟩ w2 (by omega) (by decide) (ascii_of_all (by decide)))
    obtain ⟨r, HR⟩ : ∃ r : ByteArray, Hid (r = ⟨(Lib.trimS s.data.toList [35, 46, 67, 80]).toArray⟩) := ⟨_, Lib.hid rfl⟩
    rw [← HR.out] at HTR
    obtain ⟨g, HG⟩ : ∃ g, Hid (g = s.data.toList.all Grid.sign) := ⟨_, Lib.hid rfl⟩
    have hg : r.toList.isEmpty = g := by
      rw [HG.out, Bool.eq_iff_iff, ← trim_nil, HR.out, ByteArray.toList_eq, List.isEmpty_iff]
    go_wp2_with fail
    refine HTR.out.mono ?_
    rintro e w3 ⟨rfl, hb⟩
    have hb2 := HB2.out.size
    have HM3 : Hid (MapAt w3 q a h s) := Lib.hid ((hb.block q HM2.out.lt).trans HM2.out)
    have HB3 := Lib.hid (HB2.out.trans (hb.mono hb2))
    clear hb hb2 c0 c1 c2 HTR
    have c0 := HM3.out.w_
    have c1 := HM3.out.h_
    have c2 := HM3.out.s_
    cases g with
    | false =>
      go_wp2_with fail
      go_ret
      exact ⟨ret_bool9 (Grid.rightB_signs HG.out.symm).symm, HB3.out⟩
    | true =>
      have he := Grid.rightB_joined (xs := s.data.toList) (by rw [size_list]; exact HZZ.out) HG.out.symm
      go_wp2_with fail
      refine (joined_any a h h1 h8 ⟨hh1, hh8⟩ s hn w3).mono ?_
      rintro e w4 ⟨rfl, hb⟩
      dsimp only
      rw [show Grid.joinedB s.data.toList a = rightM (a : Int) (h : Int) s by unfold rightM; rw [he]; simp]
      obtain ⟨z, HZ2⟩ : ∃ z, Hid (z = rightM (a : Int) (h : Int) s) := ⟨_, Lib.hid rfl⟩
      rw [← HZ2.out]
      have HB4 := Lib.hid (HB3.out.trans (hb.mono HB3.out.size))
      clear hb he
      go_wp2_with fail
      go_ret
      exact ⟨ret_bool9 HZ2.out, HB4.out⟩
end Go.Proofs.YtiffgmgefpoblaaDoor
