/-
  Lengths of texts, and the walk of the statement TagMore: for every number, at most 40 tags and every name it answers true, and no memory that was there has turned. Conditions: the package variable errors.errorType holds the handle of the type error; the tags and the name together have at most 1048576 bytes.
-/
import Derived.Test.YtbngcempcihgoaaDoorNilWalk
namespace Go.Proofs.YtbngcempcihgoaaDoor
open Go.RowKit Go.Extern.Stop Go.Stop Go.Extern

theorem Tryd.methodErrTag (h : Value) (w : World) : (Go.method 222 36 h "Error").run Tryd.prog w = .ok (16, h) w := by kernel_rfl

/-- the bytes of texts, and one for each -/
def bulk (l : List ByteArray) : Nat := (l.map fun s => s.size + 1).sum
theorem bulk_reverse (l : List ByteArray) : bulk l.reverse = bulk l := by unfold bulk; rw [List.map_reverse, List.sum_reverse]
theorem bulk_cons (s : ByteArray) (l : List ByteArray) : bulk (s :: l) = s.size + 1 + bulk l := by simp [bulk]
theorem bulk_take (k : Nat) (l : List ByteArray) : bulk (l.take k) ≤ bulk l := by
  induction l generalizing k with
  | nil => simp [bulk]
  | cons s l ih =>
    cases k with
    | zero => simp [bulk]
    | succ k => rw [List.take_succ_cons, bulk_cons, bulk_cons]; have := ih k; omega
theorem numText_size (n : Int) : (numText n).size ≤ 8 := by
  unfold numText
  split
  · rw [ByteArray.size_append]
    have e1 : (⟨#[102, 97, 117, 108, 116, 32]⟩ : ByteArray).size = 6 := rfl
    have e2 : (digs n).size = 2 := rfl
    omega
  · have e1 : (⟨#[102, 97, 117, 108, 116]⟩ : ByteArray).size = 5 := rfl
    omega
theorem chainText_length (n : Int) (l : List ByteArray) : (chainText n l).length = bulk l + (numText n).size := by
  induction l with
  | nil => simp only [chainText, lenS]; simp [bulk]
  | cons s l ih => simp only [chainText, List.length_append, List.length_cons, lenS, ih, bulk_cons]; omega

/-- the text as the string that is answered -/
def textB (n : Int) (l : List ByteArray) : ByteArray := ⟨(chainText n l).toArray⟩
theorem textB_nil (n : Int) : textB n [] = numText n := by
  apply Go.WideShapes.bytes_inj
  simp [textB, chainText]
theorem textB_cons (n : Int) (s : ByteArray) (l : List ByteArray) : textB n (s :: l) = s ++ ⟨#[46]⟩ ++ textB n l := by
  apply Go.WideShapes.bytes_inj
  simp [textB, chainText]
theorem textB_size (n : Int) (l : List ByteArray) : (textB n l).size ≤ bulk l + 8 := by
  have h := lenS (textB n l)
  have e : (textB n l).data.toList = chainText n l := by simp [textB]
  rw [e, chainText_length] at h
  have := numText_size n
  omega

theorem error_text (n : Int) (p : Nat) (l : List ByteArray) (w : World) (hc : Chain w n (.iface 36 (.pointer (some ⟨p, 0, none⟩))) l) (hlen : bulk l ≤ 4000000) :
    Calls Tryd.prog 16 #[.pointer (some ⟨p, 0, none⟩)] w fun e w' => e = .returned (.string (textB n l)) ∧ Below w.heap.size w w' := by
  have hc' := hc
  cases hc' with
  | tag _ s t x l' _ _ _ _ => exact error_chain n p s l' w hc (by rw [chainText_length]; have := numText_size n; omega)
theorem errno_text (n : Int) (w : World) : Calls Tryd.prog 18 #[.int .i64 n] w fun e w' => e = .returned (.string (textB n [])) ∧ Below w.heap.size w w' := by
  rw [textB_nil]; exact errno_any n w

set_option maxHeartbeats 4000000 in
theorem more_long (n : Int) (s : ByteArray) (A : Option Addr) (len cap : Nat) (w : World) (hlen : 40 < len) (hg : Laid w) :
    Calls Tryd.prog 6 #[.int .i64 n, .slice A len cap, .string s] w fun e w' => e = .returned (.bool true) ∧ Below w.heap.size w w' := by
  have HG := Lib.hid hg
  clear hg
  go_enter Tryd.func6, Tryd.ntmps6
  go_wp2_with fail
  refine (awake_any _ HG.out).mono ?_
  rintro e w1 ⟨rfl, hb⟩
  have HG1 := Lib.hid (HG.out.carry hb)
  have HB := Lib.hid hb
  clear hb
  go_wp2_with fail
  refine (awake_any _ HG1.out).mono ?_
  rintro e w2 ⟨rfl, hb2⟩
  have HB2 := Lib.hid hb2
  clear hb2
  go_wp2
  go_ret
  exact ⟨rfl, HB.out.trans (HB2.out.mono HB.out.size)⟩

set_option maxHeartbeats 4000000 in
set_option maxRecDepth 100000 in
theorem more_short (n : Int) (s : ByteArray) (A : Option Addr) (len cap : Nat) (ss : List ByteArray) (w : World) (hs : Strs w A len ss) (hlen : ¬ 40 < len) (hg : Laid w) (hbk : bulk ss + s.size ≤ 2000000) :
    Calls Tryd.prog 6 #[.int .i64 n, .slice A len cap, .string s] w fun e w' => e = .returned (.bool true) ∧ Below w.heap.size w w' := by
  have m1 := Tryd.methodErrTag
  have m2 := Tryd.methodErrno
  have HG := Lib.hid hg
  have HS := Lib.hid hs
  have HK := Lib.hid hbk
  have HSL := Lib.hid hs.1
  have hcat : ∀ w, (Op.stringOp .add s ⟨#[46]⟩).run Tryd.prog w = .ok (.string (s ++ ⟨#[46]⟩)) w := fun w => run_string_add_sum w s _ (by have e : (⟨#[46]⟩ : ByteArray).size = 1 := rfl; rw [e]; omega)
  have hcat2 : ∀ w, (Op.stringOp .add (s ++ ⟨#[46]⟩) (textB n ss.reverse)).run Tryd.prog w = .ok (.string (s ++ ⟨#[46]⟩ ++ textB n ss.reverse)) w := fun w => run_string_add_sum w _ _ (by
    have e : (⟨#[46]⟩ : ByteArray).size = 1 := rfl
    have e2 := textB_size n ss.reverse
    rw [bulk_reverse] at e2
    rw [ByteArray.size_append, e]
    omega)
  clear hg hs hbk
  go_enter Tryd.func6, Tryd.ntmps6
  go_wp2_with fail
  refine (awake_any _ HG.out).mono ?_
  rintro e w1 ⟨rfl, hb⟩
  have HG1 := Lib.hid (HG.out.carry hb)
  have HS1 := Lib.hid (HS.out.carry hb)
  have HB1 := Lib.hid hb
  clear hb HG HS
  go_wp2_with fail
  refine (tagged_any n A len cap ss w1 HS1.out (by omega)).mono ?_
  rintro e w2 ⟨v, rfl, hc, hb⟩
  have HC2 := Lib.hid hc
  have HG2 := Lib.hid (HG1.out.carry hb)
  have HB2 := Lib.hid (HB1.out.trans (hb.mono HB1.out.size))
  clear hc hb HG1 HS1 HB1
  go_wp2_with fail
  refine (Tag_chain s n v _ w2 HC2.out).mono ?_
  rintro e w3 ⟨rfl, hc, hb⟩
  obtain ⟨p, hp⟩ : ∃ p, p = w2.heap.size := ⟨_, rfl⟩
  rw [← hp] at hc ⊢
  have HF3 := Lib.hid hc
  have HC3 := Lib.hid (HC2.out.carry rfl hb)
  have HG3 := Lib.hid (HG2.out.carry hb)
  have HB3 := Lib.hid (HB2.out.trans (hb.mono HB2.out.size))
  clear hc hb HG2 HC2 HB2 hp
  obtain ⟨k, hk⟩ := HF3.out.links
  have HKL := Lib.hid hk
  clear hk
  go_wp2_with fail
  refine (Tags_any k _ _ w3 HKL.out (by simp; have := HSL.out; omega)).mono ?_
  rintro e w4 ⟨A4, cap4, rfl, hs, hb⟩
  have HF4 := Lib.hid (HF3.out.carry rfl hb)
  have HC4 := Lib.hid (HC3.out.carry rfl hb)
  have HG4 := Lib.hid (HG3.out.carry hb)
  have HB4 := Lib.hid (HB3.out.trans (hb.mono HB3.out.size))
  obtain ⟨a4, rfl, ha4, hcell⟩ := hs.2 (by simp)
  have c0 : w4.cell? a4 = some (.string s) := by simpa [Addr.add] using hcell 0 s rfl
  clear hb HF3 HC3 HG3 HB3 HKL hs hcell ha4
  have hle : (s :: ss.reverse).length = len + 1 := by simp; exact HSL.out
  rw [hle]
  go_wp2_with fail
  refine (error_text n p _ w4 HF4.out (by rw [bulk_cons, bulk_reverse]; have := HK.out; omega)).mono ?_
  rintro e w5 ⟨rfl, hb⟩
  have HF5 := Lib.hid (HF4.out.carry rfl hb)
  have HC5 := Lib.hid (HC4.out.carry rfl hb)
  have HG5 := Lib.hid (HG4.out.carry hb)
  have HB5 := Lib.hid (HB4.out.trans (hb.mono HB4.out.size))
  clear hb HF4 HC4 HG4 HB4 c0 hle
  rw [textB_cons]
  have hcv := HC5.out
  obtain ⟨L, hL⟩ : ∃ L, L = ss.reverse := ⟨_, rfl⟩
  rw [← hL] at hcv hcat2 ⊢
  have HLB : Hid (bulk L ≤ 2000000) := by
    have := HK.out
    have e : bulk L = bulk ss := by rw [hL, bulk_reverse]
    exact (by omega : bulk L ≤ 2000000)
  clear HC5
  rw [← hL] at HF5
  clear hL
  cases hcv with
  | base =>
    go_wp2_with fail
    refine (errno_text n w5).mono ?_
    rintro e w6 ⟨rfl, hb⟩
    have HF6 := Lib.hid (HF5.out.carry rfl hb)
    have HG6 := Lib.hid (HG5.out.carry hb)
    have HB6 := Lib.hid (HB5.out.trans (hb.mono HB5.out.size))
    clear hb HF5 HG5 HB5
    go_wp2_with fail
    refine (Num_chain n _ _ w6 HF6.out HG6.out).mono ?_
    rintro e w7 ⟨rfl, hb⟩
    have HB7 := Lib.hid (HB6.out.trans (hb.mono HB6.out.size))
    clear hb
    go_wp2
    go_ret
    exact ⟨rfl, HB7.out⟩
  | tag b s' t x l h0 h1 hlt hch =>
    have HT := Lib.hid (Chain.tag b s' t x l h0 h1 hlt hch)
    clear h0 h1 hlt hch
    go_wp2_with fail
    refine (error_text n b _ w5 HT.out (by have := HLB.out; omega)).mono ?_
    rintro e w6 ⟨rfl, hb⟩
    have HF6 := Lib.hid (HF5.out.carry rfl hb)
    have HG6 := Lib.hid (HG5.out.carry hb)
    have HB6 := Lib.hid (HB5.out.trans (hb.mono HB5.out.size))
    clear hb HF5 HG5 HB5
    go_wp2_with fail
    refine (Num_chain n _ _ w6 HF6.out HG6.out).mono ?_
    rintro e w7 ⟨rfl, hb⟩
    have HB7 := Lib.hid (HB6.out.trans (hb.mono HB6.out.size))
    clear hb
    go_wp2
    go_ret
    exact ⟨rfl, HB7.out⟩
end Go.Proofs.YtbngcempcihgoaaDoor
