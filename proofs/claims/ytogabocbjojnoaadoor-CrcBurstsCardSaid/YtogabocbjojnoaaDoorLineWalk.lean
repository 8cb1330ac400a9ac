/-
  The walk of the statement CrcLine: it answers true, and no memory that was there has turned. Condition: the package variable crc.halved holds its sixteen words.
-/
import Derived.Test.YtogabocbjojnoaaDoorCutWalk
import Derived.OwnWalk
import Derived.RegionTactic
import Derived.Laws.BytesArg
import Derived.Laws.OwnMore
import Derived.Laws.IdiomStrings
import Derived.Deep.DeepCutAuto
namespace Go.Proofs.YtogabocbjojnoaaDoor
open Go.RowKit Crc

/-- a block that begins with these bytes, none of them shut -/
def Row (w : World) (B : Nat) (xs : List UInt8) : Prop := ∀ i (h : i < xs.length), w.cell? ⟨B, i, none⟩ = some (.int .u8 (xs[i].toNat : Int)) ∧ w.frozen? ⟨B, i, none⟩ = false
theorem Row.drew {w : World} {B : Nat} {xs : List UInt8} (h : Row w B xs) : Row w.drew B xs := h
theorem Row.drewN {w : World} {B : Nat} {xs : List UInt8} (h : Row w B xs) (n : Nat) : Row (w.drewN n) B xs := h
theorem Row.store {w : World} {B : Nat} {xs : List UInt8} (h : Row w B xs) (j : Nat) (c : UInt8) : Row (w.setCell ⟨B, j, none⟩ (.int .u8 (c.toNat : Int))) B (xs.set j c) := by
  intro i hi
  simp only [List.length_set] at hi
  refine ⟨?_, by rw [World.frozen?_setCell]; exact (h i hi).2⟩
  by_cases e : j = i
  · subst e
    rw [World.cell?_setCell_same _ _ _ (h j hi).1]
    simp
  · rw [World.cell?_setCell_other w ⟨B, j, none⟩ ⟨B, i, none⟩ _ (fun h => e (Addr.mk.inj h).2.1), (h i hi).1, List.getElem_set_ne e]
/-- a row of a made slice: all zero -/
theorem Row.made {w : World} {base B n cap : Nat} (h : w.ownsRow base 5 1 (.slice (some ⟨B, 0, none⟩) n cap) n (madeCells (Value.int .u8 0).cells (n * 1)).toList) : Row w B (List.replicate n 0) := by
  intro i hi
  simp only [List.length_replicate] at hi
  refine ⟨?_, h.frozenAt i⟩
  rw [h.cellAt i (by omega)]
  simp [madeCells, hi, Value.cells, Nat.mod_one]
/-- the text of such a row -/
theorem Row.text {w : World} {B : Nat} {xs : List UInt8} (h : Row w B xs) (cap n : Nat) (hn : xs.length = n) : (convert 27 9 (.slice (some ⟨B, 0, none⟩) n cap)).run Tryd.prog w = .ok (.string ⟨xs.toArray⟩) w := by
  have e := run_convert_bytes_arg (P := Tryd.prog) w 27 5 Tryd.underlying27 Tryd.underlying5 B 0 n cap (xs.map fun c => (c.toNat : Int)) (by simp [hn])
    (fun i hi => by
      have hi' : i < xs.length := by omega
      rw [Nat.zero_add, (h i hi').1]
      simp [List.getD, hi']) 9 Tryd.underlying9
  rw [e]
  have e2 : (strOfNums (xs.map fun c => (c.toNat : Int))) = ⟨xs.toArray⟩ := by
    unfold strOfNums
    rw [List.map_map]
    have : (xs.map ((fun n : Int => UInt8.ofNat n.toNat) ∘ fun c : UInt8 => (c.toNat : Int))) = xs := by
      rw [List.map_congr_left (g := id) (fun c _ => by simp), List.map_id]
    rw [this]
  rw [e2]
theorem Tryd.info5 : (Tryd.prog.info? 5).map (fun i => (i.zero, i.size, i.bytes)) = some (some (.int .u8 0), 1, 1) := by kernel_rfl

set_option maxHeartbeats 1000000 in
theorem line_long (s t u : ByteArray) (n : Nat) (w : World) (hn : n = min (min s.size t.size) u.size) (hl : 800 < n) (hg : Laid w) :
    Calls Tryd.prog 7 #[.string s, .string t, .string u] w fun e w' => e = .returned (.bool true) ∧ Below w.heap.size w w' := by
  have HG := Lib.hid hg
  have HN := Lib.hid hn
  clear hg hn
  have hl1 : decide ((n : Int) > 800) = true := by simp; omega
  go_enter Tryd.func7, Tryd.ntmps7
  go_upto_region 1 with fail
  go_cut [7] (fun s7 wx => s7 = .int .i64 (n : Int) ∧ w = wx)
  case first =>
    go_upto_region 2 with fail
    all_goals (go_meet; exact ⟨by congr 1; have := HN.out; omega, rfl⟩)
  case rest =>
    obtain ⟨rfl, rfl⟩ := hcut
    go_wp2_with fail
    refine (awake_any _ HG.out).mono ?_
    rintro e w' ⟨rfl, rfl⟩
    go_wp2_with fail
    refine (awake_any _ HG.out).mono ?_
    rintro e w' ⟨rfl, rfl⟩
    go_wp2_with fail
    go_ret
    exact ⟨rfl, Below.refl _ _⟩

theorem xor_u8 (a b : UInt8) : bits .xor .u8 (a.toNat : Int) (b.toNat : Int) = ((a ^^^ b).toNat : Int) := by
  rw [u8_xor_nat _ _ a.toNat_lt b.toNat_lt, UInt8.toNat_xor]

theorem mixed_set {s t u : ByteArray} {k : Nat} {xs : List UInt8} (h : ∀ j (h : j < xs.length) (h1 : j < s.size) (h2 : j < t.size) (h3 : j < u.size), j < k → xs[j] = s[j] ^^^ t[j] ^^^ u[j]) (h1 : k < s.size) (h2 : k < t.size) (h3 : k < u.size) :
    ∀ j (h : j < (xs.set k (s[k] ^^^ t[k] ^^^ u[k])).length) (h1 : j < s.size) (h2 : j < t.size) (h3 : j < u.size), j < k + 1 → (xs.set k (s[k] ^^^ t[k] ^^^ u[k]))[j] = s[j] ^^^ t[j] ^^^ u[j] := by
  intro j hj g1 g2 g3 hjk
  by_cases e : k = j
  · subst e
    rw [List.getElem_set_self]
  · rw [List.getElem_set_ne e]
    exact h j (by simpa using hj) g1 g2 g3 (by omega)
theorem line_sum {s t u : ByteArray} {n : Nat} {xs : List UInt8} (hs : n ≤ s.size) (ht : n ≤ t.size) (hu : n ≤ u.size) (hx : xs.length = n) (h : ∀ j (h : j < xs.length) (h1 : j < s.size) (h2 : j < t.size) (h3 : j < u.size), xs[j] = s[j] ^^^ t[j] ^^^ u[j]) :
    (bits BinOp.xor IntKind.u32 (bits BinOp.xor IntKind.u32 (val (sum (s.extract 0 n))) (val (sum (t.extract 0 n)))) (val (sum (u.extract 0 n))) == val (sum ⟨xs.toArray⟩)) = true := by
  rw [val_xor, val_xor, val_beq]
  have l : ∀ v : ByteArray, n ≤ v.size → (v.data.toList.take n).length = n := fun v hv => by rw [List.length_take, lenS]; omega
  have e := more_three (s.data.toList.take n) (t.data.toList.take n) (u.data.toList.take n) xs (by rw [l s hs, l t ht]) (by rw [l t ht, l u hu]) (by rw [l u hu, hx])
    (fun i hi h1 h2 h3 => by
      rw [h i hi (by omega) (by omega) (by omega), List.getElem_take, List.getElem_take, List.getElem_take]
      rfl)
  unfold sum
  rw [extract_data0, extract_data0, extract_data0, e]
  simp
theorem below_drewN_of {B : Nat} {w w' : World} (h : Below B w w') (n : Nat) : Below B w (w'.drewN n) := ⟨h.os, h.tape, h.output, h.size, h.block⟩

set_option maxHeartbeats 2000000 in
theorem line_short (s t u : ByteArray) (n : Nat) (w : World) (hn : n = min (min s.size t.size) u.size) (hl : n ≤ 800) (hg : Laid w) :
    Calls Tryd.prog 7 #[.string s, .string t, .string u] w fun e w' => e = .returned (.bool true) ∧ Below w.heap.size w w' := by
  have hns : n ≤ s.size := by omega
  have hnt : n ≤ t.size := by omega
  have hnu : n ≤ u.size := by omega
  have HG := Lib.hid hg
  have HN := Lib.hid hn
  clear hg hn
  obtain ⟨i0, hi, hz0, hz1, hz2⟩ := info_parts Tryd.info5
  have hl1 : decide ((n : Int) > 800) = false := by simp; omega
  go_enter Tryd.func7, Tryd.ntmps7
  go_upto_region 1 with fail
  go_cut [7] (fun s7 wx => s7 = .int .i64 (n : Int) ∧ w = wx)
  case first =>
    go_upto_region 2 with fail
    all_goals (go_meet; exact ⟨by congr 1; have := HN.out; omega, rfl⟩)
  case rest =>
    obtain ⟨rfl, rfl⟩ := hcut
    go_wp2_with fail
    refine (awake_any _ HG.out).mono ?_
    rintro e w' ⟨rfl, rfl⟩
    go_wp2_with (at_make; refine wpList_make_full _ rfl _ _ 27 rfl w.heap.size 5 i0 (.int .u8 0) 1 Tryd.underlying27 hi hz0 hz1 .i64 .i64 _ _ n rfl rfl rfl rfl (by rw [hz2]; omega) (by unfold maxLen; omega) (Nat.le_refl _) ?_; intro w1 hown1 hgrow1)
    have HR := Lib.hid (Row.made hown1)
    have HB := Lib.hid ((Below.refl w.heap.size w).grown hgrow1 (Nat.le_refl _) (fun _ h => by cases h))
    clear hown1 hgrow1 hi hz0 hz1 hz2
    obtain ⟨B, HBd⟩ : ∃ B, Hid (B = w.heap.size) := ⟨_, Lib.hid rfl⟩
    rw [← HBd.out] at HR ⊢
    go_loopw [9] (fun i wr => ∃ (k : Nat) (xs : List UInt8), k ≤ n ∧ i = .int .i64 k ∧ Hid (xs.length = n) ∧ Hid (∀ j (h : j < xs.length) (h1 : j < s.size) (h2 : j < t.size) (h3 : j < u.size), j < k → xs[j] = s[j] ^^^ t[j] ^^^ u[j]) ∧ Hid (Row wr B xs) ∧ Hid (Below w.heap.size w wr)) (fun i _ => n - (intOf i).toNat)
    case atStart => exact ⟨0, List.replicate n 0, Nat.zero_le _, rfl, Lib.hid (by simp), Lib.hid (fun j _ _ _ _ h => absurd h (by omega)), HR, HB⟩
    case round =>
      obtain ⟨k, xs, hk, rfl, HL, HX, HR', HB'⟩ := hrel
      clear HR HB
      by_cases hlt : k < n
      · have h1 : k < s.size := by omega
        have h2 : k < t.size := by omega
        have h3 : k < u.size := by omega
        have hc := (HR'.out k (by rw [HL.out]; omega)).1
        have hf := (HR'.out k (by rw [HL.out]; omega)).2
        go_wp2_with fail
        go_region
        go_wp2_with fail
        go_roundw
        case rel =>
          refine ⟨k + 1, xs.set k (s[k] ^^^ t[k] ^^^ u[k]), by omega, by go_num, Lib.hid (by rw [List.length_set]; exact HL.out), Lib.hid (mixed_set HX.out h1 h2 h3), Lib.hid ?_, Lib.hid ?_⟩
          · rw [xor_u8, xor_u8]; exact (HR'.out.store k _).drew
          · exact (HB'.out.setCell (Nat.le_of_eq HBd.out.symm) _).drew
        case measure => simp [intOf]; omega
      · have hcv : ∀ m, (convert 27 9 (.slice (some ⟨B, 0, none⟩) n n)).run Tryd.prog (wr.drewN m) = .ok (.string ⟨xs.toArray⟩) (wr.drewN m) := fun m => (HR'.out.drewN m).text n n HL.out
        have HG' := Lib.hid (HG.out.carry HB'.out)
        have hx9 : Hid ((⟨xs.toArray⟩ : ByteArray).size ≤ maxLen) := Lib.hid (by
          have e : (⟨xs.toArray⟩ : ByteArray).size = xs.length := rfl
          rw [e, HL.out]; unfold maxLen; omega)
        go_wp2_with fail
        go_quiet (first | (go_at_call 10; exact Calls.quiet_of_same (sum_q _ _ (by first | exact hx9.out | (unfold maxLen; simp; omega)) (HG'.out.drewN _))))
        go_wp2_with fail
        go_ret
        refine ⟨ret_true (line_sum hns hnt hnu HL.out (fun j h h1 h2 h3 => HX.out j h h1 h2 h3 (by have := HL.out; omega))), ?_⟩
        exact below_drewN_of HB'.out _
theorem line_walk (s t u : ByteArray) (w : World) (hg : Laid w) :
    Calls Tryd.prog 7 #[.string s, .string t, .string u] w fun e w' => e = .returned (.bool true) ∧ Below w.heap.size w w' := by
  by_cases h : 800 < min (min s.size t.size) u.size
  · exact line_long s t u _ w rfl h hg
  · exact line_short s t u _ w rfl (by omega) hg
end Go.Proofs.YtogabocbjojnoaaDoor
