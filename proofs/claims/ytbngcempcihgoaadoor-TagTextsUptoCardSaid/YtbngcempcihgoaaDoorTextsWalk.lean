/-
  The contract of the document's own answer Text, and the walk of the statement TagTexts: for every number and at most 40 tags it answers true, and no memory that was there has turned. Conditions: the package variable errors.errorType holds the handle of the type error; the tags together have at most 1048576 bytes.
-/
import Derived.Test.YtbngcempcihgoaaDoorMoreWalk
import Derived.Deep.QuietTactic
import Derived.BigQuiet
import Derived.IntWalk
namespace Go.Proofs.YtbngcempcihgoaaDoor
open Go.RowKit Go.Extern.Stop Go.Stop Go.Extern

def TextRel (n : Int) (ss : List ByteArray) (w : World) (g : Nat) (s i : Value) (wr : World) : Prop :=
  ∃ k : Nat, k ≤ ss.length ∧ g = ss.length - k ∧ i = .int .i64 k ∧ s = .string (textB n (ss.take k).reverse) ∧ Below w.heap.size w wr

theorem numText_in (n : Int) (h : 0 ≤ n ∧ n < 100) : textB n [] = (⟨#[102, 97, 117, 108, 116]⟩ : ByteArray) ++ ⟨#[32]⟩ ++ digs n := by
  rw [textB_nil, numText, if_pos h]
  apply Go.WideShapes.bytes_inj
  simp
theorem numText_out (n : Int) (h : ¬ (0 ≤ n ∧ n < 100)) : textB n [] = (⟨#[102, 97, 117, 108, 116]⟩ : ByteArray) := by
  rw [textB_nil, numText, if_neg h]

set_option maxHeartbeats 4000000 in
set_option maxRecDepth 100000 in
theorem Text_any (n : Int) (A : Option Addr) (len cap : Nat) (ss : List ByteArray) (w : World) (hs : Strs w A len ss) (hlen : len ≤ 1000) (hbk : bulk ss ≤ 2000000) :
    Calls Tryd.prog 15 #[.int .i64 n, .slice A len cap] w fun e w' => e = .returned (.string (textB n ss.reverse)) ∧ Below w.heap.size w w' := by
  have HS := Lib.hid hs
  have HK := Lib.hid hbk
  clear hs hbk
  have hcv := run_convert_bytes_arg (P := Tryd.prog) (w.alloc (.cells #[.int .u8 (48 + n / 10), .int .u8 (48 + n % 10)] 5)) 49 5 Tryd.underlying49 Tryd.underlying5 w.heap.size 0 2 2 [48 + n / 10, 48 + n % 10] rfl
    (fun i hi => by match i, hi with
      | 0, _ => simp
      | 1, _ => simp) 9 Tryd.underlying9
  by_cases h0 : 0 ≤ n
  · by_cases h1 : n < 100
    · have HN := Lib.hid (numText_in n ⟨h0, h1⟩)
      go_enter Tryd.func15, Tryd.ntmps15
      go_wp2
      go_loopg [5, 6] ss.length (fun g s i wr => TextRel n ss w g s i wr)
      case atStart => exact ⟨0, Nat.zero_le _, rfl, rfl, by rw [List.take_zero, List.reverse_nil, HN.out]; rfl, (Below.refl _ _).alloc (Nat.le_refl _) _⟩
      case round =>
        obtain ⟨k, hk, rfl, rfl, rfl, hb⟩ := hrel
        have hl : ss.length = len := HS.out.1
        have hkl : k ≤ len := by omega
        by_cases hlt : k < len
        · obtain ⟨a, rfl, hab, hcell⟩ := HS.out.2 (by omega)
          obtain ⟨s, hsk⟩ : ∃ s, ss[k]? = some s := ⟨_, List.getElem?_eq_getElem (by omega)⟩
          have hc := (hb.cell (p := a.add k) (by rw [block_of_add]; exact hab)).trans (hcell k _ hsk)
          have etake : (ss.take (k + 1)).reverse = s :: (ss.take k).reverse := by rw [List.take_add_one, hsk]; simp
          have hsz : bulk (s :: (ss.take k).reverse) ≤ bulk ss := by rw [← etake, bulk_reverse]; exact bulk_take _ _
          rw [bulk_cons] at hsz
          have HE := Lib.hid etake
          have HB := Lib.hid hb
          have HL := Lib.hid hl
          have HKK := Lib.hid hk
          obtain ⟨T, hT⟩ : ∃ T, T = textB n (ss.take k).reverse := ⟨_, rfl⟩
          have hTs := textB_size n (ss.take k).reverse
          rw [← hT] at hTs ⊢
          have HT := Lib.hid hT
          have hcat : ∀ w, (Op.stringOp .add s ⟨#[46]⟩).run Tryd.prog w = .ok (.string (s ++ ⟨#[46]⟩)) w := fun w => run_string_add_sum w s _ (by have e : (⟨#[46]⟩ : ByteArray).size = 1 := rfl; have := HK.out; rw [e]; omega)
          have hcat2 : ∀ w, (Op.stringOp .add (s ++ ⟨#[46]⟩) T).run Tryd.prog w = .ok (.string (s ++ ⟨#[46]⟩ ++ T)) w := fun w => run_string_add_sum w _ _ (by
            have e : (⟨#[46]⟩ : ByteArray).size = 1 := rfl
            have := HK.out
            rw [ByteArray.size_append, e]
            omega)
          clear hcell hsk hb hl hk etake hsz hT hTs
          go_wp2
          go_roundg (ss.length - (k + 1))
          case measure => have := HL.out; omega
          case rel => exact ⟨k + 1, by have := HL.out; omega, rfl, by go_num, by rw [HE.out, textB_cons, HT.out], HB.out⟩
        · have HB := Lib.hid hb
          have HL := Lib.hid hl
          clear hb hl
          go_wp2
          go_ret
          have e : ss.take k = ss := List.take_of_length_le (by have := HL.out; omega)
          exact ⟨congrArg (fun z => Ending.returned (.string z)) (show textB n (ss.take k).reverse = textB n ss.reverse by rw [e]), HB.out⟩
    · have HN := Lib.hid (numText_out n (fun h => h1 h.2))
      go_enter Tryd.func15, Tryd.ntmps15
      go_wp2
      go_loopg [5, 6] ss.length (fun g s i wr => TextRel n ss w g s i wr)
      case atStart => exact ⟨0, Nat.zero_le _, rfl, rfl, by rw [List.take_zero, List.reverse_nil, HN.out], Below.refl _ _⟩
      case round =>
        obtain ⟨k, hk, rfl, rfl, rfl, hb⟩ := hrel
        have hl : ss.length = len := HS.out.1
        have hkl : k ≤ len := by omega
        by_cases hlt : k < len
        · obtain ⟨a, rfl, hab, hcell⟩ := HS.out.2 (by omega)
          obtain ⟨s, hsk⟩ : ∃ s, ss[k]? = some s := ⟨_, List.getElem?_eq_getElem (by omega)⟩
          have hc := (hb.cell (p := a.add k) (by rw [block_of_add]; exact hab)).trans (hcell k _ hsk)
          have etake : (ss.take (k + 1)).reverse = s :: (ss.take k).reverse := by rw [List.take_add_one, hsk]; simp
          have hsz : bulk (s :: (ss.take k).reverse) ≤ bulk ss := by rw [← etake, bulk_reverse]; exact bulk_take _ _
          rw [bulk_cons] at hsz
          have HE := Lib.hid etake
          have HB := Lib.hid hb
          have HL := Lib.hid hl
          have HKK := Lib.hid hk
          obtain ⟨T, hT⟩ : ∃ T, T = textB n (ss.take k).reverse := ⟨_, rfl⟩
          have hTs := textB_size n (ss.take k).reverse
          rw [← hT] at hTs ⊢
          have HT := Lib.hid hT
          have hcat : ∀ w, (Op.stringOp .add s ⟨#[46]⟩).run Tryd.prog w = .ok (.string (s ++ ⟨#[46]⟩)) w := fun w => run_string_add_sum w s _ (by have e : (⟨#[46]⟩ : ByteArray).size = 1 := rfl; have := HK.out; rw [e]; omega)
          have hcat2 : ∀ w, (Op.stringOp .add (s ++ ⟨#[46]⟩) T).run Tryd.prog w = .ok (.string (s ++ ⟨#[46]⟩ ++ T)) w := fun w => run_string_add_sum w _ _ (by
            have e : (⟨#[46]⟩ : ByteArray).size = 1 := rfl
            have := HK.out
            rw [ByteArray.size_append, e]
            omega)
          clear hcell hsk hb hl hk etake hsz hT hTs
          go_wp2
          go_roundg (ss.length - (k + 1))
          case measure => have := HL.out; omega
          case rel => exact ⟨k + 1, by have := HL.out; omega, rfl, by go_num, by rw [HE.out, textB_cons, HT.out], HB.out⟩
        · have HB := Lib.hid hb
          have HL := Lib.hid hl
          clear hb hl
          go_wp2
          go_ret
          have e : ss.take k = ss := List.take_of_length_le (by have := HL.out; omega)
          exact ⟨congrArg (fun z => Ending.returned (.string z)) (show textB n (ss.take k).reverse = textB n ss.reverse by rw [e]), HB.out⟩
  · have HN := Lib.hid (numText_out n (fun h => h0 h.1))
    go_enter Tryd.func15, Tryd.ntmps15
    go_wp2
    go_loopg [5, 6] ss.length (fun g s i wr => TextRel n ss w g s i wr)
    case atStart => exact ⟨0, Nat.zero_le _, rfl, rfl, by rw [List.take_zero, List.reverse_nil, HN.out], Below.refl _ _⟩
    case round =>
      obtain ⟨k, hk, rfl, rfl, rfl, hb⟩ := hrel
      have hl : ss.length = len := HS.out.1
      have hkl : k ≤ len := by omega
      by_cases hlt : k < len
      · obtain ⟨a, rfl, hab, hcell⟩ := HS.out.2 (by omega)
        obtain ⟨s, hsk⟩ : ∃ s, ss[k]? = some s := ⟨_, List.getElem?_eq_getElem (by omega)⟩
        have hc := (hb.cell (p := a.add k) (by rw [block_of_add]; exact hab)).trans (hcell k _ hsk)
        have etake : (ss.take (k + 1)).reverse = s :: (ss.take k).reverse := by rw [List.take_add_one, hsk]; simp
        have hsz : bulk (s :: (ss.take k).reverse) ≤ bulk ss := by rw [← etake, bulk_reverse]; exact bulk_take _ _
        rw [bulk_cons] at hsz
        have HE := Lib.hid etake
        have HB := Lib.hid hb
        have HL := Lib.hid hl
        have HKK := Lib.hid hk
        obtain ⟨T, hT⟩ : ∃ T, T = textB n (ss.take k).reverse := ⟨_, rfl⟩
        have hTs := textB_size n (ss.take k).reverse
        rw [← hT] at hTs ⊢
        have HT := Lib.hid hT
        have hcat : ∀ w, (Op.stringOp .add s ⟨#[46]⟩).run Tryd.prog w = .ok (.string (s ++ ⟨#[46]⟩)) w := fun w => run_string_add_sum w s _ (by have e : (⟨#[46]⟩ : ByteArray).size = 1 := rfl; have := HK.out; rw [e]; omega)
        have hcat2 : ∀ w, (Op.stringOp .add (s ++ ⟨#[46]⟩) T).run Tryd.prog w = .ok (.string (s ++ ⟨#[46]⟩ ++ T)) w := fun w => run_string_add_sum w _ _ (by
          have e : (⟨#[46]⟩ : ByteArray).size = 1 := rfl
          have := HK.out
          rw [ByteArray.size_append, e]
          omega)
        clear hcell hsk hb hl hk etake hsz hT hTs
        go_wp2
        go_roundg (ss.length - (k + 1))
        case measure => have := HL.out; omega
        case rel => exact ⟨k + 1, by have := HL.out; omega, rfl, by go_num, by rw [HE.out, textB_cons, HT.out], HB.out⟩
      · have HB := Lib.hid hb
        have HL := Lib.hid hl
        clear hb hl
        go_wp2
        go_ret
        have e : ss.take k = ss := List.take_of_length_le (by have := HL.out; omega)
        exact ⟨congrArg (fun z => Ending.returned (.string z)) (show textB n (ss.take k).reverse = textB n ss.reverse by rw [e]), HB.out⟩

theorem below_drewN {B : Nat} {a w : World} (h : Below B a w) (n : Nat) : Below B a (w.drewN n) := ⟨h.os, h.tape, h.output, h.size, h.block⟩

set_option maxHeartbeats 4000000 in
theorem texts_long (n : Int) (A : Option Addr) (len cap : Nat) (w : World) (hlen : 40 < len) (hg : Laid w) :
    Calls Tryd.prog 4 #[.int .i64 n, .slice A len cap] w fun e w' => e = .returned (.bool true) ∧ Below w.heap.size w w' := by
  have HG := Lib.hid hg
  clear hg
  go_enter Tryd.func4, Tryd.ntmps4
  go_wp2_with fail
  refine (awake_any _ HG.out).mono ?_
  rintro e w1 ⟨rfl, hb⟩
  have HG1 := Lib.hid (HG.out.carry hb)
  have HB := Lib.hid hb
  clear hb
  go_wp2_with fail
  refine (awake_any _ HG1.out).mono ?_
  rintro e w2 ⟨rfl, hb2⟩
  have HB2 := Lib.hid hb2
  clear hb2
  go_wp2
  go_ret
  exact ⟨rfl, HB.out.trans (HB2.out.mono HB.out.size)⟩

set_option maxHeartbeats 4000000 in
set_option maxRecDepth 100000 in
theorem texts_short (n : Int) (A : Option Addr) (len cap : Nat) (ss : List ByteArray) (w : World) (hs : Strs w A len ss) (hlen : ¬ 40 < len) (hg : Laid w) (hbk : bulk ss ≤ 2000000) :
    Calls Tryd.prog 4 #[.int .i64 n, .slice A len cap] w fun e w' => e = .returned (.bool true) ∧ Below w.heap.size w w' := by
  have m1 := Tryd.methodErrTag
  have m2 := Tryd.methodErrno
  have HG := Lib.hid hg
  have HS := Lib.hid hs
  have HK := Lib.hid hbk
  have HSL := Lib.hid hs.1
  have hd40 : decide ((40 : Int) < (len : Int)) = false := by simp; omega
  clear hg hs hbk
  go_enter Tryd.func4, Tryd.ntmps4
  go_wp2_with fail
  refine (awake_any _ HG.out).mono ?_
  rintro e w1 ⟨rfl, hb⟩
  have HS1 := Lib.hid (HS.out.carry hb)
  have HB1 := Lib.hid hb
  clear hb HG HS
  go_wp2_with fail
  refine (tagged_any n A len cap ss w1 HS1.out (by omega)).mono ?_
  rintro e w2 ⟨v, rfl, hc, hb⟩
  have HC2 := Lib.hid hc
  have HS2 := Lib.hid (HS1.out.carry hb)
  have HB2 := Lib.hid (HB1.out.trans (hb.mono HB1.out.size))
  clear hc hb HS1 HB1
  obtain ⟨k, hk⟩ := HC2.out.links
  have HKL := Lib.hid hk
  clear hk
  go_wp2_with fail
  refine (Tags_any k _ _ w2 HKL.out (by simp; have := HSL.out; omega)).mono ?_
  rintro e w3 ⟨A3, cap3, rfl, hs3, hb⟩
  have hle : ss.reverse.length = len := by simp; exact HSL.out
  rw [hle] at hs3 ⊢
  have HC3 := Lib.hid (HC2.out.carry rfl hb)
  have HS3 := Lib.hid (HS2.out.carry hb)
  have HT3 := Lib.hid hs3
  have HB3 := Lib.hid (HB2.out.trans (hb.mono HB2.out.size))
  clear hb HC2 HS2 HB2 HKL hs3 hle
  have hcv := HC3.out
  obtain ⟨L, hL⟩ : ∃ L, L = ss.reverse := ⟨_, rfl⟩
  rw [← hL] at hcv
  have HLB : Hid (bulk L ≤ 2000000) := by
    have := HK.out
    have e : bulk L = bulk ss := by rw [hL, bulk_reverse]
    exact (by omega : bulk L ≤ 2000000)
  have HLL := Lib.hid hL
  clear HC3 hL
  cases hcv with
  | base =>
    go_wp2_with fail
    refine (errno_text n w3).mono ?_
    rintro e w4 ⟨rfl, hb⟩
    have HS4 := Lib.hid (HS3.out.carry hb)
    have HT4 := Lib.hid (HT3.out.carry hb)
    have HB4 := Lib.hid (HB3.out.trans (hb.mono HB3.out.size))
    clear hb HS3 HT3 HB3
    go_wp2_with fail
    refine (Text_any n A len cap ss w4 HS4.out (by omega) HK.out).mono ?_
    rw [← HLL.out]
    rintro e w5 ⟨rfl, hb⟩
    have HS5 := Lib.hid (HS4.out.carry hb)
    have HT5 := Lib.hid (HT4.out.carry hb)
    have HB5 := Lib.hid (HB4.out.trans (hb.mono HB4.out.size))
    clear hb HS4 HT4 HB4
    go_wp2_with fail
    go_loopg [7] len (fun g i wr => ∃ k q : Nat, k ≤ len ∧ g = len - k ∧ i = .int .i64 k ∧ wr = w5.drewN q)
    case atStart => exact ⟨0, 0, Nat.zero_le _, rfl, rfl, rfl⟩
    case round =>
      obtain ⟨k, q, hk, rfl, rfl, rfl⟩ := hrel
      by_cases hlt : k < len
      · obtain ⟨a, rfl, hab, hcell⟩ := HS5.out.2 (by omega)
        obtain ⟨a3, rfl, hab3, hcell3⟩ := HT5.out.2 (by omega)
        obtain ⟨m, hm⟩ : ∃ m, m = len - 1 - k := ⟨_, rfl⟩
        obtain ⟨s, hsm⟩ : ∃ s, ss[m]? = some s := ⟨_, List.getElem?_eq_getElem (by have := HSL.out; omega)⟩
        have hrk : ss.reverse[k]? = some s := by
          rw [List.getElem?_reverse (by have := HSL.out; omega)]
          have e : ss.length - 1 - k = m := by have := HSL.out; omega
          rw [e, hsm]
        have hcL : w5.cell? (a.add m) = some (.string s) := hcell m s hsm
        have hcT : w5.cell? (a3.add k) = some (.string s) := hcell3 k s hrk
        have hw1 : IntKind.i64.wrap ((len : Int) - 1) = (len : Int) - 1 := IntWalk.i64_in _ (by omega)
        have hw2 : IntKind.i64.wrap ((len : Int) - 1 - (k : Int)) = (m : Int) := by rw [IntWalk.i64_in _ (by omega)]; omega
        have hm0 : (0 : Int) ≤ (m : Int) := by omega
        have hm1 : (m : Int) < (len : Int) := by omega
        have hk0 : (0 : Int) ≤ (k : Int) := by omega
        have hk1 : (k : Int) < (len : Int) := by omega
        clear hcell hcell3 hab hab3 hm hsm hrk
        go_wp2_with fail
        go_quiet (fail)
        clear hw1 hw2
        go_wp2
        go_roundg (len - (k + 1))
        case measure => omega
        case rel => exact ⟨k + 1, _, by omega, rfl, by go_num, rfl⟩
      · go_wp2
        go_ret
        exact ⟨rfl, below_drewN HB5.out q⟩
  | tag b s' t x l h0 h1 hlt hch =>
    have HT := Lib.hid (Chain.tag b s' t x l h0 h1 hlt hch)
    clear h0 h1 hlt hch
    go_wp2_with fail
    refine (error_text n b _ w3 HT.out (by have := HLB.out; omega)).mono ?_
    rintro e w4 ⟨rfl, hb⟩
    have HS4 := Lib.hid (HS3.out.carry hb)
    have HT4 := Lib.hid (HT3.out.carry hb)
    have HB4 := Lib.hid (HB3.out.trans (hb.mono HB3.out.size))
    clear hb HS3 HT3 HB3
    go_wp2_with fail
    refine (Text_any n A len cap ss w4 HS4.out (by omega) HK.out).mono ?_
    rw [← HLL.out]
    rintro e w5 ⟨rfl, hb⟩
    have HS5 := Lib.hid (HS4.out.carry hb)
    have HT5 := Lib.hid (HT4.out.carry hb)
    have HB5 := Lib.hid (HB4.out.trans (hb.mono HB4.out.size))
    clear hb HS4 HT4 HB4
    go_wp2_with fail
    go_loopg [7] len (fun g i wr => ∃ k q : Nat, k ≤ len ∧ g = len - k ∧ i = .int .i64 k ∧ wr = w5.drewN q)
    case atStart => exact ⟨0, 0, Nat.zero_le _, rfl, rfl, rfl⟩
    case round =>
      obtain ⟨k, q, hk, rfl, rfl, rfl⟩ := hrel
      by_cases hlt : k < len
      · obtain ⟨a, rfl, hab, hcell⟩ := HS5.out.2 (by omega)
        obtain ⟨a3, rfl, hab3, hcell3⟩ := HT5.out.2 (by omega)
        obtain ⟨m, hm⟩ : ∃ m, m = len - 1 - k := ⟨_, rfl⟩
        obtain ⟨s, hsm⟩ : ∃ s, ss[m]? = some s := ⟨_, List.getElem?_eq_getElem (by have := HSL.out; omega)⟩
        have hrk : ss.reverse[k]? = some s := by
          rw [List.getElem?_reverse (by have := HSL.out; omega)]
          have e : ss.length - 1 - k = m := by have := HSL.out; omega
          rw [e, hsm]
        have hcL : w5.cell? (a.add m) = some (.string s) := hcell m s hsm
        have hcT : w5.cell? (a3.add k) = some (.string s) := hcell3 k s hrk
        have hw1 : IntKind.i64.wrap ((len : Int) - 1) = (len : Int) - 1 := IntWalk.i64_in _ (by omega)
        have hw2 : IntKind.i64.wrap ((len : Int) - 1 - (k : Int)) = (m : Int) := by rw [IntWalk.i64_in _ (by omega)]; omega
        have hm0 : (0 : Int) ≤ (m : Int) := by omega
        have hm1 : (m : Int) < (len : Int) := by omega
        have hk0 : (0 : Int) ≤ (k : Int) := by omega
        have hk1 : (k : Int) < (len : Int) := by omega
        clear hcell hcell3 hab hab3 hm hsm hrk
        go_wp2_with fail
        go_quiet (fail)
        clear hw1 hw2
        go_wp2
        go_roundg (len - (k + 1))
        case measure => omega
        case rel => exact ⟨k + 1, _, by omega, rfl, by go_num, rfl⟩
      · go_wp2
        go_ret
        exact ⟨rfl, below_drewN HB5.out q⟩
end Go.Proofs.YtbngcempcihgoaaDoor
