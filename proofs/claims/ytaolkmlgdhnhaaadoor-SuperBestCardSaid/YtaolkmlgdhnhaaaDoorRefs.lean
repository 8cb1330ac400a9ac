/-
  Refs: several texts in one file. Conditions: as each part says.
-/
import Derived.Test.YtaolkmlgdhnhaaaDoorPacks
import Derived.Test.YtaolkmlgdhnhaaaDoorFrames
import Derived.Deep.QuietTactic
import Derived.BigQuiet
/-
  The contract of the document's own sum, bit by bit. Conditions: none beyond the premises of each theorem.
-/
namespace Go.Proofs.YtaolkmlgdhnhaaaDoor
open Go.RowKit Crc

theorem val_odd (r : BitVec 32) : val r % (2 : Int) = if r.getLsbD 0 then 1 else 0 := by
  unfold val
  have e : r.getLsbD 0 = decide (r.toNat % 2 = 1) := by
    rw [BitVec.getLsbD, Nat.testBit_zero]
  rw [e]
  by_cases h : r.toNat % 2 = 1
  · simp [h]; omega
  · simp [h]; omega
theorem val_half (r : BitVec 32) : val r / (2 : Int) = val (r >>> 1) := by
  unfold val
  rw [BitVec.toNat_ushiftRight, Nat.shiftRight_eq_div_pow]
  omega
theorem val_poly (r : BitVec 32) : bits .xor .u32 (val r) 3988292384 = val (r ^^^ poly) := val_xor r poly
theorem val_not (r : BitVec 32) : 4294967295 - val r = val (r ^^^ ones) := by
  have e : r ^^^ ones = ~~~r := by
    have : ones = BitVec.allOnes 32 := by decide
    rw [this, BitVec.xor_allOnes]
  rw [e]
  unfold val
  rw [BitVec.toNat_not]
  have := r.isLt
  omega

theorem val_tdiv (r : BitVec 32) : (val r).tdiv 2 % (4294967296 : Int) = val (r >>> 1) := by
  have h0 := val_lo r
  have h1 := val_hi r
  rw [Int.tdiv_eq_ediv_of_nonneg h0, Int.emod_eq_of_lt (by omega) (by omega), val_half]
theorem val_tmod (r : BitVec 32) : (val r).tmod 2 = if r.getLsbD 0 then 1 else 0 := by
  rw [Int.tmod_eq_emod_of_nonneg (val_lo r), val_odd]
theorem val_half_odd (r : BitVec 32) (h : r.getLsbD 0 = true) : bits .xor .u32 ((val r).tdiv 2 % (4294967296 : Int)) 3988292384 = val (half r) := by
  rw [val_tdiv, val_poly, half, if_pos h]
theorem val_half_even (r : BitVec 32) (h : ¬ r.getLsbD 0 = true) : (val r).tdiv 2 % (4294967296 : Int) = val (half r) := by
  rw [val_tdiv, half, if_neg h]

set_option maxHeartbeats 1000000 in
set_option maxRecDepth 100000 in
theorem RefSum_any (s : ByteArray) (w : World) (hs : s.size ≤ maxLen) :
    Calls Tryd.prog 53 #[.string s] w fun e w' => e = .returned (.int .u32 (val (sum s))) ∧ w = w' := by
  unfold maxLen at hs
  go_enter Tryd.func53, Tryd.ntmps53
  go_wp2
  go_loop [3, 4, 5, 6] (fun r i _ _ => ∃ k : Nat, k ≤ s.size ∧ i = .int .i64 k ∧ r = .int .u32 (val (reg ones (s.data.toList.take k)))) (fun _ i _ _ => s.size - (intOf i).toNat)
  case atStart => exact ⟨0, Nat.zero_le _, rfl, rfl⟩
  case round =>
    obtain ⟨k, hk, rfl, rfl⟩ := hrel
    by_cases hlt : k < s.size
    · have HT : Hid (reg ones (s.data.toList.take (k + 1)) = hn 8 (reg ones (s.data.toList.take k) ^^^ wide s[k])) :=
        Lib.hid (by rw [take_snoc s k hlt, reg_append]; rfl)
      generalize reg ones (s.data.toList.take k) = R at HT ⊢
      have b0 := val_lo R
      have b1 := val_hi R
      have e1 := val_wide' R s[k]
      generalize hR1 : R ^^^ wide s[k] = R1 at e1 HT
      have E1 := Lib.hid e1
      clear hR1 e1
      go_upto_region 6 with (fail)
      rw [E1.out]
      clear E1
      clear b0 b1
      go_wp2
      go_loop [3, 5, 6] (fun r i _ => ∃ m : Nat, m ≤ 8 ∧ i = .int .i64 m ∧ r = .int .u32 (val (hn m R1))) (fun _ i _ => 8 - (intOf i).toNat)
      case atStart => exact ⟨0, Nat.zero_le _, rfl, rfl⟩
      case round =>
        obtain ⟨m, hm, rfl, rfl⟩ := hrel
        by_cases hm8 : m < 8
        · have HM : Hid (hn (m + 1) R1 = half (hn m R1)) := Lib.hid rfl
          generalize hn m R1 = P at HM ⊢
          by_cases hp : P.getLsbD 0 = true
          · have ho : (val P).tmod 2 = 1 := by rw [val_tmod, if_pos hp]
            have E := Lib.hid (val_half_odd P hp)
            clear hp
            go_wp2
            go_round
            case rel => exact ⟨m + 1, by omega, by go_num, by rw [HM.out, E.out]⟩
            case measure => simp [intOf]; omega
          · have ho : (val P).tmod 2 = 0 := by rw [val_tmod, if_neg hp]
            have E := Lib.hid (val_half_even P hp)
            clear hp
            go_wp2
            go_round
            case rel => exact ⟨m + 1, by omega, by go_num, by rw [HM.out, E.out]⟩
            case measure => simp [intOf]; omega
        · obtain rfl : m = 8 := by omega
          go_wp2
          go_round
          case rel => exact ⟨k + 1, by omega, by go_num, by rw [HT.out]⟩
          case measure => simp [intOf]; omega
    · have b0 := val_lo (reg ones (List.take k s.data.toList))
      have b1 := val_hi (reg ones (List.take k s.data.toList))
      go_wp2
      go_ret
      refine ⟨?_, rfl⟩
      rw [List.take_of_length_le (by rw [lenS]; omega), val_not]
      rfl
end Go.Proofs.YtaolkmlgdhnhaaaDoor

/-
  The contracts of the document's own Put and Get for layer 3, of numbers in range alone (XPackRef has them with all the rest of the layer). Conditions: none beyond the premises of each theorem.
-/
namespace Go.Proofs.YtaolkmlgdhnhaaaDoor
open Go.RowKit

/-- a text of one byte -/
theorem one_text (w : World) (c : UInt8) : (convert 65 9 (.slice (some ⟨w.heap.size, 0, none⟩) 1 1)).run Tryd.prog (w.alloc (.cells #[.int .u8 (c.toNat : Int)] 5)) = .ok (.string ⟨#[c]⟩) (w.alloc (.cells #[.int .u8 (c.toNat : Int)] 5)) := by
  have hr : Row (w.alloc (.cells #[.int .u8 (c.toNat : Int)] 5)) w.heap.size [c] := by
    intro i hi
    obtain rfl : i = 0 := by simp at hi; omega
    exact ⟨by simp, by simp⟩
  exact hr.text 1 1 rfl
def RefPutRel (B k n : Nat) (w : World) (x s i : Value) (wr : World) : Prop := ∃ j : Nat, j ≤ k ∧ i = .int .i64 (j : Int) ∧ x = .int .i64 ((n / 256 ^ j : Nat) : Int) ∧ s = .string ⟨(be j n).toArray⟩ ∧ Below B w wr
set_option maxHeartbeats 1000000 in
theorem RefPut_nat (k n : Nat) (w : World) (h4 : k ≤ 4) (hn : n < 4294967296) : Calls Tryd.prog 32 #[.int .i64 k, .int .i64 n] w fun e w' => e = .returned (.string ⟨(be k n).toArray⟩) ∧ Below w.heap.size w w' := by
  go_enter Tryd.func32, Tryd.ntmps32
  go_wp2
  go_loopw [1, 5, 6] (fun x s i wr => RefPutRel w.heap.size k n w x s i wr) (fun _ _ i _ => k - (intOf i).toNat)
  case atStart => exact ⟨0, Nat.zero_le _, rfl, by simp, rfl, Below.refl _ _⟩
  case round =>
    obtain ⟨j, hj, rfl, rfl, rfl, hb⟩ := hrel
    have HB := Lib.hid hb
    clear hb
    obtain ⟨x, HX⟩ : ∃ x, Hid (x = n / 256 ^ j) := ⟨_, Lib.hid rfl⟩
    have hx : x < 4294967296 := by rw [HX.out]; exact Nat.lt_of_le_of_lt (Nat.div_le_self _ _) hn
    obtain ⟨s, HS⟩ : ∃ s : ByteArray, Hid (s = ⟨(be j n).toArray⟩) := ⟨_, Lib.hid rfl⟩
    have hs : s.size ≤ 4 := by rw [HS.out]; show (be j n).length ≤ 4; rw [be_length]; omega
    rw [← HX.out, ← HS.out]
    by_cases hlt : j < k
    · obtain ⟨c, HC⟩ : ∃ c : UInt8, Hid (c = UInt8.ofNat x) := ⟨_, Lib.hid rfl⟩
      have hcv := one_text wr c
      have hcat : ∀ w, (Op.stringOp .add ⟨#[c]⟩ s).run Tryd.prog w = .ok (.string (⟨#[c]⟩ ++ s)) w := fun w => run_string_add_sum w _ _ (by
        have e : (⟨#[c]⟩ : ByteArray).size = 1 := rfl
        omega)
      have hcx : (x : Int) % 256 = (c.toNat : Int) := by rw [HC.out, UInt8.toNat_ofNat']; omega
      go_wp2_with fail
      go_roundw
      case rel =>
        refine ⟨j + 1, hlt, by go_num, ?_, ?_, HB.out.alloc HB.out.size _⟩
        · rw [Nat.pow_succ, ← Nat.div_div_eq_div_mul, ← HX.out]; go_num
        · rw [be_cons, ← HX.out, ← HC.out, HS.out]
          congr 1
      case measure => simp [intOf]; omega
    · obtain rfl : j = k := by omega
      go_wp2
      go_ret
      exact ⟨by rw [← HS.out]; rfl, HB.out⟩
theorem add_byte (m : Nat) (c : UInt8) (hm : m < 16777216) : wrap64 (256 * (m : Int) + wrap64 (c.toNat : Int)) = ((256 * m + c.toNat : Nat) : Int) := by
  have hc := c.toNat_lt
  have e1 : wrap64 (c.toNat : Int) = (c.toNat : Int) := by unfold wrap64; omega
  rw [e1]
  unfold wrap64
  omega
def RefGetRel (s : ByteArray) (k : Nat) (n i : Value) : Prop := ∃ j : Nat, j ≤ k ∧ i = .int .i64 (j : Int) ∧ n = .int .i64 (num (s.data.toList.take j) : Int)
set_option maxHeartbeats 1000000 in
theorem RefGet_nat (s : ByteArray) (k : Nat) (w : World) (h4 : k ≤ 4) (hs : k ≤ s.size) : Calls Tryd.prog 33 #[.string s, .int .i64 k] w fun e w' => e = .returned (.int .i64 (num (s.data.toList.take k) : Int)) ∧ w = w' := by
  go_enter Tryd.func33, Tryd.ntmps33
  go_wp2
  go_loop [5, 6] (fun n i => RefGetRel s k n i) (fun _ i => k - (intOf i).toNat)
  case atStart => exact ⟨0, Nat.zero_le _, rfl, rfl⟩
  case round =>
    obtain ⟨j, hj, rfl, rfl⟩ := hrel
    obtain ⟨m, HM⟩ : ∃ m, Hid (m = num (s.data.toList.take j)) := ⟨_, Lib.hid rfl⟩
    rw [← HM.out]
    by_cases hlt : j < k
    · have hlt2 : j < s.size := by omega
      have hm : m < 16777216 := by
        have h1 := num_take_lt s.data.toList j
        have h2 : 256 ^ j ≤ 256 ^ 3 := Nat.pow_le_pow_right (by decide) (by omega)
        rw [HM.out]
        exact Nat.lt_of_lt_of_le h1 h2
      go_wp2
      go_round
      case rel =>
        refine ⟨j + 1, hlt, by go_num, ?_⟩
        rw [num_take (by rw [Array.length_toList]; exact hlt2), ← HM.out]
        exact congrArg (Value.int .i64) (add_byte m _ hm)
      case measure => simp [intOf]; omega
    · obtain rfl : j = k := by omega
      go_wp2
      go_ret
      exact ⟨ret_int (by rw [HM.out]), rfl⟩

theorem be_num : ∀ (l : List UInt8), be l.length (num l) = l := by
  have h : ∀ k (l : List UInt8), l.length = k → be k (num l) = l := by
    intro k
    induction k with
    | zero => intro l hl; obtain rfl := List.eq_nil_of_length_eq_zero hl; rfl
    | succ k ih =>
      intro l hl
      have hne : l ≠ [] := by rintro rfl; simp at hl
      have e := List.dropLast_concat_getLast hne
      have hd := ih l.dropLast (by simp [hl])
      rw [← e, num_snoc]
      have hc := (l.getLast hne).toNat_lt
      rw [be, show (256 * num l.dropLast + (l.getLast hne).toNat) / 256 = num l.dropLast by omega, hd]
      congr 1
      congr 1
      exact UInt8.toNat_inj.1 (by rw [UInt8.toNat_ofNat']; omega)
  exact fun l => h _ l rfl
end Go.Proofs.YtaolkmlgdhnhaaaDoor

/-
  The contracts of the document's own answers for layer 5: Lay and Read. Conditions: none beyond the premises of each theorem.
-/
namespace Go.Proofs.YtaolkmlgdhnhaaaDoor
open Go.RowKit

theorem Tryd.infoArr : (Tryd.prog.info? 45).map (fun i => (i.zero, i.size)) = some (some (pgV zeroPg), 128) := by kernel_rfl
theorem Tryd.arrSize : (Tryd.prog.info? 45).map (·.size) = some 128 := by kernel_rfl
theorem Tryd.zeroArr (w : World) : (zeroValue 45).run Tryd.prog w = .ok (pgV zeroPg) w := (zero_of_info Tryd.infoArr).1 w
/-- a text of two bytes -/
theorem two_text (w : World) (a b : UInt8) : (convert 65 9 (.slice (some ⟨w.heap.size, 0, none⟩) 2 2)).run Tryd.prog (w.alloc (.cells #[.int .u8 (a.toNat : Int), .int .u8 (b.toNat : Int)] 5)) = .ok (.string ⟨#[a, b]⟩) (w.alloc (.cells #[.int .u8 (a.toNat : Int), .int .u8 (b.toNat : Int)] 5)) := by
  have hr : Row (w.alloc (.cells #[.int .u8 (a.toNat : Int), .int .u8 (b.toNat : Int)] 5)) w.heap.size [a, b] := by
    intro i hi
    have : i = 0 ∨ i = 1 := by simp at hi; omega
    rcases this with rfl | rfl <;> exact ⟨by simp, by simp⟩
  exact hr.text 2 2 rfl
theorem app_arr (a b : List UInt8) : (⟨a.toArray⟩ : ByteArray) ++ ⟨b.toArray⟩ = ⟨(a ++ b).toArray⟩ := by
  apply ByteArray.ext
  simp
theorem arr_of (s : ByteArray) : s = ⟨s.data.toList.toArray⟩ := by simp
def PadRel (h : List UInt8) (s : Value) : Prop := ∃ (j : Nat) (u : ByteArray), h.length + j ≤ 124 ∧ s = .string u ∧ u = ⟨(h ++ List.replicate j 0).toArray⟩
theorem run_add_arr (a b : List UInt8) (h : a.length + b.length ≤ 1000) (w : World) : (Op.stringOp .add ⟨a.toArray⟩ ⟨b.toArray⟩).run Tryd.prog w = .ok (.string ⟨(a ++ b).toArray⟩) w := by
  rw [← app_arr]
  exact run_string_add_sum w _ _ (by rw [toArr_size, toArr_size]; omega)
/-- how far the document's Lay has come -/
def CopyRel (w : World) (r b : Nat) (l : List UInt8) (i : Value) (wr : World) : Prop := ∃ j : Nat, j ≤ 128 ∧ i = .int .i64 (j : Int) ∧ Own wr b (l.take j ++ List.replicate (128 - j) 0) ∧ Own wr r (List.replicate 128 0) ∧ Below r w wr
theorem range_put {w : World} {b j : Nat} {l : List UInt8} (h : w.rangeAt b 0 (pgCells (pgB l))) (hj : j < l.length) (c : UInt8) : (w.setCell ⟨b, j, none⟩ (.int .u8 (c.toNat : Int))).rangeAt b 0 (pgCells (pgB (l.set j c))) := fun i v hv => by
  rw [Nat.zero_add]
  have hi : i < l.length := by
    have := (List.getElem?_eq_some_iff.1 hv).1
    simpa [pgCells, pgB] using this
  have e : ∀ (l : List UInt8) (j : Nat), (pgCells (pgB l))[j]? = (l[j]?).map fun c => Value.int .u8 (c.toNat : Int) := fun l j => by simp [pgCells, pgB]; rfl
  rw [e] at hv
  have hcj := h j (.int .u8 (l[j].toNat : Int)) (by rw [e, List.getElem?_eq_getElem hj]; rfl)
  rw [Nat.zero_add] at hcj
  by_cases hij : j = i
  · subst hij
    rw [World.cell?_setCell_same _ _ _ hcj, ← hv]
    simp [hj]
  · rw [World.cell?_setCell_other _ _ _ _ (fun x => hij (Addr.mk.inj x).2.1)]
    have := h i v (by rw [e, ← hv, List.getElem?_set_ne hij])
    rwa [Nat.zero_add] at this
theorem take_put {y x : List UInt8} {j : Nat} (hy : j < y.length) (hx : x.length = y.length) : (y.take j ++ x.drop j).set j y[j] = y.take (j + 1) ++ x.drop (j + 1) := by
  have ht : (y.take j).length = j := by rw [List.length_take]; omega
  have e : x.drop j = x[j]'(by omega) :: x.drop (j + 1) := List.drop_eq_getElem_cons (by omega)
  rw [List.set_append_right _ _ (by rw [ht]; exact Nat.le_refl _), ht, Nat.sub_self, e, List.set_cons_zero, List.take_succ_eq_append_getElem hy, List.append_assoc]
  rfl
theorem results_cell_mid {P : Program} {fn : Func} {p : Tmp} {ty : TypeId} (h : fn.results = #[.cell p ty]) (tmps : Array Value) (w : World) (b o : Nat) (cs : List Value) (d : TypeDesc)
    (hp : tmps.getD p undef = .pointer (some ⟨b, o, none⟩)) (hc : w.rangeAt b o cs) (hu : P.underlying ty = some d) (hd : d.isRow = true) (hi : (P.info? ty).map (·.size) = some cs.length) :
    (results fn tmps).run P w = .ok (.agg cs.toArray) w := by
  have hp' : tmps[p]?.getD undef = .pointer (some ⟨b, o, none⟩) := by simpa using hp
  simp [results, h, hp', asAddr, run_loadVar_mid w b o ty cs d hc hu hd hi]
theorem Own.put {w : World} {b j : Nat} {x y : List UInt8} (h : Own w b (y.take j ++ x.drop j)) (hy : j < y.length) (hx : x.length = y.length) : Own (w.setCell ⟨b, j, none⟩ (.int .u8 (y[j].toNat : Int))) b (y.take (j + 1) ++ x.drop (j + 1)) := by
  have hl : j < (y.take j ++ x.drop j).length := by rw [List.length_append, List.length_take, List.length_drop]; omega
  have := range_put h.at_ hl y[j]
  rw [take_put hy hx] at this
  exact ⟨this, fun i => by rw [World.frozen?_setCell]; exact h.free i⟩
theorem Own.apart {w : World} {b c j : Nat} {x : List UInt8} (h : Own w b x) (hne : b ≠ c) (u : Value) : Own (w.setCell ⟨c, j, none⟩ u) b x :=
  ⟨fun i v hv => by rw [World.cell?_setCell_other _ _ _ _ (fun e => hne (Addr.mk.inj e).1.symm)]; exact h.at_ i v hv, fun i => by rw [World.frozen?_setCell]; exact h.free i⟩
theorem Own.cell {w : World} {b j : Nat} {x : List UInt8} (h : Own w b x) (hj : j < x.length) : w.cell? ⟨b, j, none⟩ = some (.int .u8 (x[j].toNat : Int)) := by
  have := h.at_ j (.int .u8 (x[j].toNat : Int)) (by simp [pgCells, pgB, hj])
  rwa [Nat.zero_add] at this
end Go.Proofs.YtaolkmlgdhnhaaaDoor

/-
  The contract of the document's own Read for layer 5. Conditions: none beyond the premises of each theorem.
-/
namespace Go.Proofs.YtaolkmlgdhnhaaaDoor
open Go.RowKit

/-- what the document's own Read answers -/
def RefReadAns (l : List UInt8) (w : World) (e : Ending) (w' : World) : Prop :=
  e = .returned (.tuple #[.int .i64 (if codeB l = 0 then ((kB l).toNat : Int) else 0), .string (if codeB l = 0 then ⟨(dB l).toArray⟩ else ⟨#[]⟩), .int .i64 (codeB l)]) ∧ Below w.heap.size w w'
theorem RefGet_q (s : ByteArray) (k : Nat) (w : World) (h4 : k ≤ 4) (hs : k ≤ s.size) : Calls Tryd.prog 33 #[.string s, .int .i64 k] w fun e w' => e = .returned (.int .i64 (num (s.data.toList.take k) : Int)) ∧ w' = w := (RefGet_nat s k w h4 hs).mono fun _ _ ⟨a, b⟩ => ⟨a, b.symm⟩
theorem RefSum_q (s : ByteArray) (w : World) (hs : s.size ≤ maxLen) : Calls Tryd.prog 53 #[.string s] w fun e w' => e = .returned (.int .u32 (val (sum s))) ∧ w' = w := (RefSum_any s w hs).mono fun _ _ ⟨a, b⟩ => ⟨a, b.symm⟩
theorem sumOk_num {l : List UInt8} (hl : l.length = 128) : sumOk l = true ↔ num (l.take 4) = (Crc.more 0#32 (l.drop 4)).toNat := by
  have h4 : (l.take 4).length = 4 := by rw [List.length_take]; omega
  unfold sumOk sumB
  rw [decide_eq_true_eq]
  constructor
  · intro h
    rw [h, num_be (BitVec.isLt _)]
  · intro h
    rw [← h]
    have := be_num (l.take 4)
    rw [h4] at this
    exact this.symm
set_option maxRecDepth 100000 in
set_option maxHeartbeats 4000000 in
theorem RefRead_sum (l : List UInt8) (hl : l.length = 128) (hc : sumOk l = false) (w : World) : Calls Tryd.prog 38 #[pgV (pgB l)] w (RefReadAns l w) := by
  have HL := Lib.hid hl
  have HC := Lib.hid hc
  obtain ⟨b, HB⟩ : ∃ b, Hid (b = w.heap.size) := ⟨_, Lib.hid rfl⟩
  obtain ⟨z, HZ⟩ : ∃ z : ByteArray, Hid (z = ⟨l.toArray⟩) := ⟨_, Lib.hid rfl⟩
  have HZL : Hid (z.data.toList = l) := Lib.hid (by rw [HZ.out])
  have HZS : Hid (z.size = 128) := Lib.hid (by rw [HZ.out, toArr_size]; exact hl)
  have hcv := range_text (n := 128) (cap := 128) (Own.new (w := w) (x := l) 45).at_ hl
  rw [← HZ.out] at hcv
  clear hl hc
  have hz4 : 4 ≤ z.size := by rw [HZS.out]; decide
  have hz5 : (4 : Int) ≤ (z.size : Int) := by omega
  obtain ⟨x, HX⟩ : ∃ x, Hid (x = num (l.take 4)) := ⟨_, Lib.hid rfl⟩
  obtain ⟨y, HY⟩ : ∃ y, Hid (y = (Crc.more 0#32 (l.drop 4)).toNat) := ⟨_, Lib.hid rfl⟩
  obtain ⟨u, HU⟩ : ∃ u : ByteArray, Hid (u = z.extract 4 z.size) := ⟨_, Lib.hid rfl⟩
  have hy : y < 4294967296 := by rw [HY.out]; exact BitVec.isLt _
  have HXY : Hid (x ≠ y) := Lib.hid (by
    intro e
    rw [HX.out, HY.out] at e
    have := (sumOk_num HL.out).2 e
    rw [HC.out] at this
    cases this)
  have G1 : Hid (∀ w', Calls Tryd.prog 33 #[.string z, .int .i64 4] w' fun e w'' => e = .returned (.int .i64 (x : Int)) ∧ w'' = w') := Lib.hid (fun w' => by
    have := RefGet_q z 4 w' (by decide) hz4
    rw [HZL.out, ← HX.out] at this
    exact this)
  have G2 : Hid (∀ w', Calls Tryd.prog 53 #[.string u] w' fun e w'' => e = .returned (.int .u32 (y : Int)) ∧ w'' = w') := Lib.hid (fun w' => by
    have hul : u.data.toList = l.drop 4 := by
      have e : (z.extract 4 z.size).data.toList = (z.data.toList.drop 4).take (z.size - 4) := by simp
      rw [HU.out, e, HZL.out, HZS.out, List.take_of_length_le (by rw [List.length_drop, HL.out]; decide)]
    have hus : u.size ≤ maxLen := by
      have : u.size = (l.drop 4).length := by rw [← hul, Array.length_toList]; rfl
      rw [this, List.length_drop, HL.out]
      decide
    have := RefSum_q u w' hus
    rw [show val (sum u) = (y : Int) by rw [HY.out, ← hul]; rfl] at this
    exact this)
  go_enter Tryd.func38, Tryd.ntmps38
  go_wp2_with fail
  clear hcv
  obtain ⟨w0, HW0⟩ : ∃ w0, Hid (w0 = w.alloc (.cells (pgArr (pgB l)) 45)) := ⟨_, Lib.hid rfl⟩
  rw [← HW0.out, ← HB.out]
  have HB0 : Hid (Below w.heap.size w w0) := Lib.hid (by rw [HW0.out]; exact (Below.refl _ _).alloc (Nat.le_refl _) _)
  have HO0 : Hid (Own w0 b l) := Lib.hid (by rw [HW0.out, HB.out]; exact Own.new _)
  have hu : z.extract 4 z.size = u := HU.out.symm
  clear HW0
  have hne1 : (x == y) = false := by simpa using HXY.out
  have hne2 : ((x : Int) == (y : Int)) = false := by simp; have := HXY.out; omega
  have hne3 : ((x : Int) != (y : Int)) = true := by simp [bne, hne2]
  go_quiet (first | (go_at_call 33; exact Calls.quiet_of_same (G1.out _)) | (go_at_call 53; exact Calls.quiet_of_same (G2.out _)))
  go_wp2_with fail
  go_ret3
  have hc3 : codeB l = 3 := by unfold codeB; rw [HC.out]; rfl
  exact ⟨by rw [hc3]; rfl, below_drewN_of HB0.out nq⟩
/-- the bytes behind the data, looked at up to j -/
def ZeroRel (l : List UInt8) (w0 : World) (i : Value) (wr : World) : Prop := ∃ j : Nat, 6 + nB l ≤ j ∧ j ≤ 128 ∧ i = .int .i64 (j : Int) ∧ (∀ q, 6 + nB l ≤ q → q < j → l.getD q 0 = 0) ∧ w0 = wr
theorem restZ_iff {l : List UInt8} (hl : l.length = 128) (hn : nB l ≤ 120) : restZ l = true ↔ ∀ q, 6 + nB l ≤ q → q < 128 → l.getD q 0 = 0 := by
  unfold restZ
  rw [List.all_eq_true]
  constructor
  · intro h q h1 h2
    have hm : l.getD q 0 ∈ l.drop (6 + nB l) := by
      rw [List.getD_eq_getElem?_getD, List.getElem?_eq_getElem (by omega)]
      refine List.mem_iff_getElem.2 ⟨q - (6 + nB l), by rw [List.length_drop]; omega, ?_⟩
      rw [List.getElem_drop]
      simp only [Option.getD_some]
      congr 1
      omega
    simpa using h _ hm
  · intro h x hx
    obtain ⟨q, hq, rfl⟩ := List.mem_iff_getElem.1 hx
    rw [List.length_drop] at hq
    have := h (6 + nB l + q) (by omega) (by omega)
    rw [List.getD_eq_getElem?_getD, List.getElem?_eq_getElem (by omega)] at this
    rw [List.getElem_drop]
    simpa using this
set_option maxRecDepth 100000 in
set_option maxHeartbeats 4000000 in
theorem RefRead_ok (l : List UInt8) (hl : l.length = 128) (hc : sumOk l = true) (w : World) : Calls Tryd.prog 38 #[pgV (pgB l)] w (RefReadAns l w) := by
  have HL := Lib.hid hl
  have HC := Lib.hid hc
  obtain ⟨b, HB⟩ : ∃ b, Hid (b = w.heap.size) := ⟨_, Lib.hid rfl⟩
  obtain ⟨z, HZ⟩ : ∃ z : ByteArray, Hid (z = ⟨l.toArray⟩) := ⟨_, Lib.hid rfl⟩
  have HZL : Hid (z.data.toList = l) := Lib.hid (by rw [HZ.out])
  have HZS : Hid (z.size = 128) := Lib.hid (by rw [HZ.out, toArr_size]; exact hl)
  have hcv := range_text (n := 128) (cap := 128) (Own.new (w := w) (x := l) 45).at_ hl
  rw [← HZ.out] at hcv
  clear hl hc
  have hz4 : 4 ≤ z.size := by rw [HZS.out]; decide
  have hz5 : (4 : Int) ≤ (z.size : Int) := by omega
  obtain ⟨y, HY⟩ : ∃ y, Hid (y = (Crc.more 0#32 (l.drop 4)).toNat) := ⟨_, Lib.hid rfl⟩
  obtain ⟨u, HU⟩ : ∃ u : ByteArray, Hid (u = z.extract 4 z.size) := ⟨_, Lib.hid rfl⟩
  have hy : y < 4294967296 := by rw [HY.out]; exact BitVec.isLt _
  have HXY : Hid (num (l.take 4) = y) := Lib.hid (by rw [HY.out]; exact (sumOk_num HL.out).1 HC.out)
  have G1 : Hid (∀ w', Calls Tryd.prog 33 #[.string z, .int .i64 4] w' fun e w'' => e = .returned (.int .i64 (y : Int)) ∧ w'' = w') := Lib.hid (fun w' => by
    have := RefGet_q z 4 w' (by decide) hz4
    rw [HZL.out, HXY.out] at this
    exact this)
  have G2 : Hid (∀ w', Calls Tryd.prog 53 #[.string u] w' fun e w'' => e = .returned (.int .u32 (y : Int)) ∧ w'' = w') := Lib.hid (fun w' => by
    have hul : u.data.toList = l.drop 4 := by
      have e : (z.extract 4 z.size).data.toList = (z.data.toList.drop 4).take (z.size - 4) := by simp
      rw [HU.out, e, HZL.out, HZS.out, List.take_of_length_le (by rw [List.length_drop, HL.out]; decide)]
    have hus : u.size ≤ maxLen := by
      have : u.size = (l.drop 4).length := by rw [← hul, Array.length_toList]; rfl
      rw [this, List.length_drop, HL.out]
      decide
    have := RefSum_q u w' hus
    rw [show val (sum u) = (y : Int) by rw [HY.out, ← hul]; rfl] at this
    exact this)
  go_enter Tryd.func38, Tryd.ntmps38
  go_wp2_with fail
  clear hcv
  obtain ⟨w0, HW0⟩ : ∃ w0, Hid (w0 = w.alloc (.cells (pgArr (pgB l)) 45)) := ⟨_, Lib.hid rfl⟩
  rw [← HW0.out, ← HB.out]
  have HB0 : Hid (Below w.heap.size w w0) := Lib.hid (by rw [HW0.out]; exact (Below.refl _ _).alloc (Nat.le_refl _) _)
  have HO0 : Hid (Own w0 b l) := Lib.hid (by rw [HW0.out, HB.out]; exact Own.new _)
  have hu : z.extract 4 z.size = u := HU.out.symm
  clear HW0
  go_quiet (first | (go_at_call 33; exact Calls.quiet_of_same (G1.out _)) | (go_at_call 53; exact Calls.quiet_of_same (G2.out _)))
  obtain ⟨w2, HW2⟩ : ∃ w2, Hid (w2 = w0.drewN nq) := ⟨_, Lib.hid rfl⟩
  rw [← HW2.out]
  have HB2 : Hid (Below w.heap.size w w2) := Lib.hid (by rw [HW2.out]; exact below_drewN_of HB0.out nq)
  have HO2 : Hid (Own w2 b l) := Lib.hid (by rw [HW2.out]; exact ⟨HO0.out.at_, HO0.out.free⟩)
  clear HW2 HO0 HB0
  have hk := kB_lt l
  have hn := nB_lt l
  obtain ⟨k, HK⟩ : ∃ k, Hid (k = (kB l).toNat) := ⟨_, Lib.hid rfl⟩
  obtain ⟨n, HN⟩ : ∃ n, Hid (n = nB l) := ⟨_, Lib.hid rfl⟩
  have c4 : w2.cell? ⟨b, 4, none⟩ = some (.int .u8 (k : Int)) := by
    have := HO2.out.at_ 4 (.int .u8 ((kB l).toNat : Int)) (by simp [pgCells, pgB, kB, HL.out])
    rw [HK.out]; simpa using this
  have c5 : w2.cell? ⟨b, 5, none⟩ = some (.int .u8 (n : Int)) := by
    have := HO2.out.at_ 5 (.int .u8 (nB l : Int)) (by simp [pgCells, pgB, nB, HL.out])
    rw [HN.out]; simpa using this
  rw [← HK.out] at hk
  rw [← HN.out] at hn
  by_cases hk0 : k = 0
  · have hc2 : codeB l = 2 := by
      unfold codeB
      have : kB l = 0 := UInt8.toNat_inj.1 (by rw [← HK.out, hk0]; rfl)
      rw [if_pos HC.out, this]
      simp
    have HC2 := Lib.hid hc2
    subst hk0
    clear hc2
    go_wp2_with fail
    go_ret3
    exact ⟨by rw [HC2.out]; rfl, HB2.out⟩
  · have hk1 : ((k : Int) == 0) = false := by simp; omega
    by_cases hlong : 120 < n
    · have hc2 : codeB l = 2 := by
        unfold codeB
        rw [if_pos HC.out, if_pos (by rw [← HN.out]; exact hlong)]
      have HC2 := Lib.hid hc2
      have hd : decide ((120 : Int) < (n : Int)) = true := by simp; omega
      clear hc2
      go_wp2_with fail
      go_ret3
      exact ⟨by rw [HC2.out]; rfl, HB2.out⟩
    · have hc0 : codeB l = if restZ l = true then 0 else 2 := by
        refine codeB_ref HL.out HC.out (by rw [← HN.out]; omega) (fun e => hk0 ?_)
        rw [HK.out, e]
        rfl
      have HC0 := Lib.hid hc0
      have hd : decide ((120 : Int) < (n : Int)) = false := by simp; omega
      clear hc0 hk0
      go_wp2_with fail
      go_loopw [7] (fun i wr => ZeroRel l w2 i wr) (fun i _ => 128 - (intOf i).toNat)
      case atStart => exact ⟨6 + n, by rw [← HN.out]; exact Nat.le_refl _, by omega, by go_num, fun q h1 h2 => absurd h2 (by rw [← HN.out] at h1; omega), rfl⟩
      case round =>
        obtain ⟨j, hj0, hj, rfl, hq, rfl⟩ := hrel
        have HQ := Lib.hid hq
        have HJ0 := Lib.hid hj0
        clear hq hj0
        by_cases hlt : j < 128
        · have hjl : j < l.length := by rw [HL.out]; exact hlt
          have c1 := HO2.out.cell hjl
          by_cases hx : l[j] = 0
          · rw [hx] at c1
            have c1' : w2.cell? ⟨b, j, none⟩ = some (.int .u8 0) := c1
            clear c1
            go_wp2_with fail
            go_roundw
            case rel =>
              refine ⟨j + 1, by have := HJ0.out; omega, hlt, by go_num, fun q h1 h2 => ?_, rfl⟩
              by_cases e : q < j
              · exact HQ.out q h1 e
              · obtain rfl : q = j := by omega
                rw [List.getD_eq_getElem?_getD, List.getElem?_eq_getElem hjl]
                exact hx
            case measure => simp [intOf]; omega
          · have hc2 : codeB l = 2 := by
              rw [HC0.out, if_neg]
              intro h
              have := (restZ_iff HL.out (by rw [← HN.out]; omega)).1 h j HJ0.out hlt
              rw [List.getD_eq_getElem?_getD, List.getElem?_eq_getElem hjl] at this
              exact hx this
            have HC2 := Lib.hid hc2
            obtain ⟨x, HX⟩ : ∃ x, Hid (x = l[j].toNat) := ⟨_, Lib.hid rfl⟩
            rw [← HX.out] at c1
            have hx0 : x ≠ 0 := fun e => hx (UInt8.toNat_inj.1 (by rw [← HX.out, e]; rfl))
            have e1 : ((x : Int) == 0) = false := by simp; omega
            have e2 : ((x : Int) != 0) = true := by simp [bne, e1]
            clear hc2 hx hx0
            go_wp2_with fail
            go_ret3
            exact ⟨by rw [HC2.out]; rfl, HB2.out⟩
        · obtain rfl : j = 128 := by omega
          have hc1 : codeB l = 0 := by
            rw [HC0.out, if_pos ((restZ_iff HL.out (by rw [← HN.out]; omega)).2 fun q h1 h2 => HQ.out q h1 h2)]
          have HC1 := Lib.hid hc1
          clear hc1
          obtain ⟨v, HV⟩ : ∃ v : ByteArray, Hid (v = ⟨(dB l).toArray⟩) := ⟨_, Lib.hid rfl⟩
          have hn0 : n ≤ 120 := by omega
          have hsl : z.extract 6 (6 + n) = v := by
            apply ByteArray.ext
            apply Array.toList_inj.1
            rw [HV.out]
            have e : (z.extract 6 (6 + n)).data.toList = (z.data.toList.drop 6).take (6 + n - 6) := by simp
            rw [e, HZL.out, show 6 + n - 6 = n by omega, HN.out]
            rfl
          have hz6 : (6 : Int) + (n : Int) ≤ (z.size : Int) := by rw [HZS.out]; omega
          have HSL := Lib.hid hsl
          clear hsl
          go_wp2_with fail
          refine wp_region_reads (by kernel_rfl) (by kernel_rfl) (fun w3 HW => ?_)
          have HB3 : Hid (Below w.heap.size w w3) := Lib.hid (by rw [HW.out]; exact HB2.out.drew)
          have c4' : w3.cell? ⟨b, 4, none⟩ = some (.int .u8 (k : Int)) := by rw [HW.out]; exact c4
          have ek : IntKind.i64.wrap (k : Int) = (k : Int) := IntWalk.i64_in _ (by omega)
          have en : IntKind.i64.wrap (6 + (n : Int)) = 6 + (n : Int) := IntWalk.i64_in _ (by omega)
          have et : (6 + (n : Int)).toNat = 6 + n := by omega
          have q1 : (0 : Int) ≤ 6 + (n : Int) := by omega
          have q2 : (6 : Int) ≤ 6 + (n : Int) := by omega
          have hsl := HSL.out
          clear HW c4 c5
          iterate 10 still_step
          refine wpStill_nil ?_
          clear ek en et hsl q1 q2
          go_wp2_with fail
          go_ret3
          refine ⟨?_, HB3.out⟩
          rw [HC1.out, if_pos rfl, if_pos rfl, ← HV.out, ← HK.out]
          rfl
theorem RefRead_any (l : List UInt8) (hl : l.length = 128) (w : World) : Calls Tryd.prog 38 #[pgV (pgB l)] w (RefReadAns l w) := by
  cases hs : sumOk l
  · exact RefRead_sum l hl hs w
  · exact RefRead_ok l hl hs w
end Go.Proofs.YtaolkmlgdhnhaaaDoor
