/-
  The contract of the document's own Of for layer 6: the set of the numbers that a list tells of. Conditions: none beyond the premises of each theorem.
-/
import Derived.Test.YteceihjnlncbkaaSetList
namespace Go.Proofs.Yteceihjnlncbkaa
open Go.RowKit
open Bits (Ok has with_ without count countBelow first both ofK)

/-- the list of 240 truth values -/
def tells (f : Nat → Bool) : List Bool := (List.range 240).map f
theorem tells_at (f : Nat → Bool) {k : Nat} (h : k < 240) : (tells f).getD k false = f k := by
  simp [tells, List.getD_eq_getElem?_getD, h]
/-- the set of those for which f is true -/
def ofF (f : Nat → Bool) : List Nat := ofK (tells f) 240
theorem ofF_ok (f : Nat → Bool) : Ok (ofF f) := (Bits.ofK_spec (tells f) 240 (Nat.le_refl _)).1
theorem ofF_has (f : Nat → Bool) {m : Nat} (h : m < 240) : has (ofF f) m = f m := by
  unfold ofF
  rw [(Bits.ofK_spec (tells f) 240 (Nat.le_refl _)).2.2 m h, decide_eq_true h, Bool.true_and, tells_at f h]
theorem ofF_eq {f : Nat → Bool} {s : List Nat} (hs : Ok s) (h : ∀ n, n < 240 → f n = has s n) : ofF f = s := Bits.ext (ofF_ok f) hs fun n hn => by rw [ofF_has f hn, h n hn]
theorem Try.zeroArr (w : World) : (zeroValue 22).run Try.prog w = .ok (stV zeroSt) w :=
  (zero_of_info (show (Try.prog.info? 22).map (fun i => (i.zero, i.size)) = some (some (stV zeroSt), 30) by kernel_rfl)).1 w
theorem loadArr {w : World} {b : Nat} {s : List Nat} (h : w.rangeAt b 0 (stCells s)) (hl : s.length = 30) : (loadVar 22 ⟨b, 0, none⟩).run Try.prog w = .ok (stV s) w :=
  run_loadVar_mid w b 0 22 (stCells s) _ h Try.underlying22 rfl (by rw [stCells_length, hl]; exact Try.arrSize)
theorem results_arr {fn : Func} {p : Tmp} (h : fn.results = #[.cell p 22]) (tmps : Array Value) (w : World) (b : Nat) (s : List Nat)
    (hp : tmps.getD p undef = .pointer (some ⟨b, 0, none⟩)) (hc : w.rangeAt b 0 (stCells s)) (hl : s.length = 30) : (results fn tmps).run Try.prog w = .ok (stV s) w := by
  have hp' : tmps[p]?.getD undef = .pointer (some ⟨b, 0, none⟩) := by simpa using hp
  simp [results, h, hp', asAddr, loadArr hc hl]
theorem wpList_store_arr {ops : Array Oper} {rest : List Oper} {op : Oper} {a : Act} {w : World} {Q : Exit → Act → World → Prop} (hgd : op.guard = none) (x y : Operand) (ho : op.op = .store 22 x y)
    (b : Nat) (s t : List Nat) (hl : s.length = 30) (hs : t.length = 30) (hx : a.eval x = .pointer (some ⟨b, 0, none⟩)) (hy : a.eval y = stV s) (hb : SOwn w b t)
    (h : ∀ w2, Hid (w2 = w.setCells b 0 (stCells s)) → Hid (SOwn w2 b s) → wpList Try.prog ops Q rest (a.put op.dst undef) w2) : wpList Try.prog ops Q (op :: rest) a w :=
  wpList_store_mid hgd _ x y ho b 0 (stArr s) hx hy (by rw [stArr_size, hl, ← hs]; exact hb.there) (by rw [stArr_size, hl]; exact Try.arrSize) (stArr_all s) (h _ (Lib.hid rfl) (Lib.hid (hb.lay (by omega))))

/-- how far Of has come -/
structure OfSt (w : World) (r g : Nat) (f : Nat → Bool) (s : List Nat) (wr : World) : Prop where
  res : SOwn wr r zeroSt
  own : SOwn wr (r + 1) s
  row : BRow wr g f
  below : Below w.heap.size w wr
theorem OfSt.put {w : World} {r g : Nat} {f : Nat → Bool} {s : List Nat} {wr : World} (h : OfSt w r g f s wr) {i : Nat} (hi : i < s.length) (v : Nat) (hg : g ≠ r + 1) (hb : w.heap.size ≤ r + 1) : OfSt w r g f (s.set i v) (wr.setCell ⟨r + 1, i, none⟩ (.int .u8 (v : Int))) :=
  ⟨h.res.other (by omega) _ _, h.own.put hi v, h.row.other (Ne.symm hg) _ _, h.below.setCell hb _⟩
def OfRel (w : World) (r g : Nat) (f : Nat → Bool) (n : Value) (wr : World) : Prop :=
  ∃ k : Nat, k ≤ 240 ∧ n = .int .i64 k ∧ OfSt w r g f (ofK (tells f) k) wr
def PowRel (q : Nat) (b i : Value) : Prop := ∃ j : Nat, j ≤ q ∧ i = .int .i64 j ∧ b = .int .u8 ((2 ^ j : Nat) : Int)
set_option maxRecDepth 100000 in
theorem RefOf_any (f : Nat → Bool) (g cap : Nat) (w : World) (hr : BRow w g f) :
    Calls Try.prog 13 #[.slice (some ⟨g, 0, none⟩) 240 cap] w fun e w' => e = .returned (stV (ofF f)) ∧ Below w.heap.size w w' := by
  have hz := Try.zeroArr
  obtain ⟨w1, HW⟩ : ∃ w1, Hid (w1 = (w.alloc (.cells (stArr zeroSt) 22)).alloc (.cells (stArr zeroSt) 22)) := ⟨_, Lib.hid rfl⟩
  obtain ⟨r, HRR⟩ : ∃ r, Hid (r = w.heap.size) := ⟨_, Lib.hid rfl⟩
  have HG := Lib.hid hr.lt
  have HST : Hid (OfSt w r g f zeroSt w1) := Lib.hid (by
    have hb : Below w.heap.size w w1 := by rw [HW.out]; exact ((Below.refl _ _).alloc (Nat.le_refl _) _).alloc (by simp) _
    refine ⟨?_, ?_, hr.carry hb, hb⟩
    · rw [HW.out, HRR.out]
      exact (SOwn.new _).below ((Below.refl _ _).alloc (Nat.le_refl _) _) (by simp)
    · rw [HW.out, HRR.out]
      have := SOwn.new (w := w.alloc (.cells (stArr zeroSt) 22)) (s := zeroSt) 22
      simpa using this)
  clear hr
  go_enter Try.func13, Try.ntmps13
  go_wp2_with fail
  rw [← HW.out, ← HRR.out]
  go_loopw [4] (fun n wr => OfRel w r g f n wr) (fun n _ => 240 - (intOf n).toNat)
  case atStart => exact ⟨0, by decide, rfl, HST.out⟩
  case round =>
    obtain ⟨k, hk, rfl, hst⟩ := hrel
    have HS := Lib.hid hst
    clear hst HST
    obtain ⟨s, HSS⟩ : ∃ s, Hid (s = ofK (tells f) k) := ⟨_, Lib.hid rfl⟩
    rw [← HSS.out] at HS
    by_cases hlt : k < 240
    · have hc := HS.out.row.at_ k hlt
      obtain ⟨v, HV⟩ : ∃ v, Hid (v = f k) := ⟨_, Lib.hid rfl⟩
      rw [← HV.out] at hc
      have hk2 : (k : Int) < 240 := by omega
      cases v with
      | true =>
        obtain ⟨i, HI⟩ : ∃ i, Hid (i = k / 8) := ⟨_, Lib.hid rfl⟩
        obtain ⟨q, HQ⟩ : ∃ q, Hid (q = k % 8) := ⟨_, Lib.hid rfl⟩
        have hki : (k : Int) / 8 = (i : Int) := by rw [HI.out]; omega
        have hkq : (k : Int) % 8 = (q : Int) := by rw [HQ.out]; omega
        have hi2 : (i : Int) < 30 := by have := HI.out; omega
        go_wp2_with fail
        go_loop [5, 6] (fun b j => PowRel q b j) (fun _ j => q - (intOf j).toNat)
        case atStart => exact ⟨0, Nat.zero_le _, rfl, rfl⟩
        case round =>
          obtain ⟨j, hj, rfl, rfl⟩ := hrel
          obtain ⟨p, HP⟩ : ∃ p, Hid (p = 2 ^ j) := ⟨_, Lib.hid rfl⟩
          rw [← HP.out]
          have hq8 : q < 8 := by rw [HQ.out]; omega
          by_cases hjl : j < q
          · have hp : p ≤ 64 := by
              rw [HP.out]
              have : (2 : Nat) ^ j ≤ 2 ^ 6 := Nat.pow_le_pow_right (by decide) (by omega)
              simpa using this
            go_wp2
            go_round
            case rel => exact ⟨j + 1, hjl, by go_num, by rw [Nat.pow_succ, ← HP.out]; go_num⟩
            case measure => simp [intOf]; omega
          · obtain rfl : j = q := by omega
            have hspec := Bits.ofK_spec (tells f) k hk
            rw [← HSS.out] at hspec
            obtain ⟨x, HX⟩ : ∃ x, Hid (x = Bits.at_ s i) := ⟨_, Lib.hid rfl⟩
            have hx : x < p := by have := hspec.2.1; rw [HX.out, HP.out, HI.out]; rw [HQ.out]; exact this
            have hp : p ≤ 128 := by
              rw [HP.out]
              have : (2 : Nat) ^ j ≤ 2 ^ 7 := Nat.pow_le_pow_right (by decide) (by omega)
              simpa using this
            have hsl : s.length = 30 := hspec.1.len
            have hcs := set_at HS.out.own.at_ (i := i) (by omega)
            have hfs := HS.out.own.free i
            rw [← HX.out] at hcs
            clear hspec
            have HOF : Hid (ofK (tells f) (k + 1) = s.set i (x + p)) := Lib.hid (by
              rw [ofK, tells_at f hlt, ← HV.out, if_pos rfl, ← HSS.out, HX.out, HI.out, HP.out, HQ.out])
            have HGR : Hid (g ≠ r + 1) := Lib.hid (by have := HG.out; have := HRR.out; omega)
            have HWR : Hid (w.heap.size ≤ r + 1) := Lib.hid (by have := HRR.out; omega)
            go_wp2_with fail
            go_roundw
            case rel =>
              refine ⟨k + 1, hlt, by go_num, ?_⟩
              rw [HOF.out]
              have := HS.out.put (i := i) (by omega) (x + p) HGR.out HWR.out
              simpa using this
            case measure => simp [intOf]; omega
      | false =>
        go_wp2_with fail
        go_roundw
        case rel => exact ⟨k + 1, hlt, by go_num, by rw [ofK, tells_at f hlt, ← HV.out, if_neg (by decide), ← HSS.out]; exact HS.out⟩
        case measure => simp [intOf]; omega
    · obtain rfl : k = 240 := by omega
      have hl : s.length = 30 := by rw [HSS.out]; exact (ofF_ok f).len
      go_wp2_with (with_reducible refine set_stop (o := ⟨some 38, _, _, _, _, _⟩) ?_)
      refine wpList_load_arr (by rfl) _ rfl (r + 1) rfl s hl HS.out.own.at_ ?_
      refine wpList_store_arr rfl _ _ rfl r s zeroSt hl zeroSt_length rfl rfl HS.out.res ?_
      intro w4 HW4 HO4
      go_wp2_with fail
      refine bodyPost_ret (results_arr rfl _ _ r s rfl HO4.out.at_ hl) rfl ⟨by rw [HSS.out]; rfl, ?_⟩
      exact below_cells_of HS.out.below HW4.out (by rw [HRR.out]; exact Nat.le_refl _)
end Go.Proofs.Yteceihjnlncbkaa
