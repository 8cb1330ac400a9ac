/-
  The contract of joined (layer 14): is there a charger, and a way from it to each open cell? Conditions: none beyond the premises of each theorem.
-/
import Derived.Test.YtiffgmgefpoblaaDoorGridTell
import Derived.Deep.CutBlock
namespace Go.Proofs.YtiffgmgefpoblaaDoor
open Go.RowKit Go.Maps

theorem firstC_index : ∀ xs : List UInt8, Lib.indexByte xs 67 = match Grid.firstC xs with | some f => (f : Int) | none => -1
  | [] => rfl
  | x :: xs => by
    have ih := firstC_index xs
    unfold Lib.indexByte Grid.firstC
    rw [List.findIdx?_cons]
    by_cases e : x = 67
    · subst e; rfl
    · have e' : (x == 67) = false := by simpa using e
      rw [e']
      simp only [Bool.false_eq_true, if_false]
      unfold Grid.firstC at ih
      rw [ih]
      cases List.findIdx? (fun x => x == 67) xs with
      | none => rfl
      | some f =>
        have : ((f : Int) == -1) = false := by simp
        simp [this]
theorem Tryd.makeMet (n : Int) (w : World) : (Instr.makeMap 83 (some (.int .i64 n))).run Tryd.prog w = .ok (.map (some w.heap.size)) (w.alloc (.map #[] 0)) := by
  unfold Instr.makeMap
  simp [Sem.run_bind, run_underlying Tryd.underlying83, Result.andThen]
  rfl
/-- the greatest number, up to n, at which p holds -/
noncomputable def most (p : Nat → Prop) : Nat → Nat
  | 0 => 0
  | n + 1 => @ite _ (p (n + 1)) (Classical.propDecidable _) (n + 1) (most p n)
theorem most_le (p : Nat → Prop) : ∀ n, most p n ≤ n
  | 0 => Nat.le_refl _
  | n + 1 => by
    unfold most
    split
    · exact Nat.le_refl _
    · exact Nat.le_succ_of_le (most_le p n)
theorem le_most {p : Nat → Prop} {k : Nat} (hk : p k) : ∀ {n : Nat}, k ≤ n → k ≤ most p n
  | 0, h => by omega
  | n + 1, h => by
    unfold most
    split
    · exact h
    · rename_i hn
      rcases Nat.lt_or_ge n k with h2 | h2
      · obtain rfl : k = n + 1 := by omega
        exact absurd hk hn
      · exact le_most hk h2
theorem most_holds {p : Nat → Prop} : ∀ {n : Nat}, (∃ k, k ≤ n ∧ p k) → p (most p n)
  | 0, ⟨k, h1, h2⟩ => by
    obtain rfl : k = 0 := by omega
    exact h2
  | n + 1, ⟨k, h1, h2⟩ => by
    unfold most
    split
    · assumption
    · rename_i hn
      refine most_holds ⟨k, ?_, h2⟩
      rcases Nat.lt_or_ge n k with h3 | h3
      · obtain rfl : k = n + 1 := by omega
        exact absurd h2 hn
      · exact h3
/-- between two rounds -/
structure JoinHd (w0 : World) (bm mb bw : Nat) (xs : List UInt8) (a f b : Nat) (keys queue : List Nat) (D : DataW Unit) (v : Value) (w : World) : Prop where
  met : Boxed w bm 83 (.map (some mb))
  own : w.ownsMap Tryd.prog 3 (plainElem Tryd.prog 3) mb b D
  km : KeysMap D keys (b : Int)
  wt : Boxed w bw 24 v
  row : OwnsAt w w0.heap.size 3 1 v queue.length (numCells queue)
  q : Grid.Bfs xs a f keys queue
  below : Below w0.heap.size w0 w
  lm : w0.heap.size ≤ bm
  lb : w0.heap.size ≤ mb
  lw : w0.heap.size ≤ bw
  ne : bm ≠ bw
theorem JoinHd.start {w0 : World} {bm mb bw : Nat} {xs : List UInt8} {a f c b : Nat} {keys wait : List Nat} {D : DataW Unit} {v : Value} {w : World} (h : JoinHd w0 bm mb bw xs a f b keys (c :: wait) D v w) : JoinSt w0 bm mb bw xs a f c b [] keys wait D v w :=
  ⟨h.met, h.own, h.km, h.wt, h.row, h.q.begin, h.below, h.lm, h.lb, h.lw⟩
/-- what is told keeps the state -/
def JoinT (w0 : World) (q bm mb bw : Nat) (s : ByteArray) (a h f c b p : Nat) (pre : List Nat) (w : World) : Prop := (∃ keys wait D v, JoinSt w0 bm mb bw s.data.toList a f c b pre keys wait D v w ∧ p + 1 + wait.length = keys.length) ∧ MapAt w q a h s
theorem join_tells {w0 : World} {q bm mb bw : Nat} {s : ByteArray} {a h f c b p : Nat} (hq : q ≠ bw) (hne : bm ≠ bw) (hl : s.data.toList.length ≤ 64) (hf : Grid.openAt s.data.toList f = true) (hb : b ≤ 1000) :
    Tells 50 #[.pointer (some ⟨bm, 0, none⟩), .pointer (some ⟨bw, 0, none⟩)] bw (fun n => n ∈ Grid.nears s.data.toList a c) (JoinT w0 q bm mb bw s a h f c b p) where
  step := by
    rintro pre n w ⟨⟨keys, wait, D, v, h, hp⟩, hm⟩ hn hpl
    have hk := h.mid.length_le hf
    have ho : (Grid.opens s.data.toList).length ≤ s.data.toList.length := by have := Grid.opens_length s.data.toList; omega
    refine (joinTell_any n hne w h hl hb hpl hn (by omega)).mono ?_
    rintro e w' ⟨rfl, ⟨keys', wait', D', v', h', hc⟩, hkp⟩
    exact ⟨rfl, ⟨⟨keys', wait', D', v', h', by omega⟩, hm.keeps hkp hq⟩, hkp⟩
  new := by
    rintro pre w o ⟨⟨keys, wait, D, v, h, hp⟩, hm⟩
    exact ⟨⟨keys, wait, D, v, h.grown (World.grownBy_alloc w o none), hp⟩, hm.alloc o⟩
  drew := by
    rintro pre w ⟨⟨keys, wait, D, v, h, hp⟩, hm⟩
    exact ⟨⟨keys, wait, D, v, h.grown ⟨rfl, rfl, rfl, Nat.le_refl _, fun _ _ _ => rfl⟩, hp⟩, hm⟩
  enter := enters_of Tryd.func50 (by kernel_rfl) rfl
theorem OwnsAt.form {w : World} {base e size n : Nat} {v : Value} {xs : List Value} (h : OwnsAt w base e size v n xs) : ∃ A cap, v = .slice A n cap := by
  rcases h.2 with ⟨rfl, rfl⟩ | ⟨g, off, cap, cur, rfl, _⟩
  · exact ⟨_, _, rfl⟩
  · exact ⟨_, _, rfl⟩
/-- the next round's beginning: a variable more for what waits, its first one away -/
theorem JoinSt.next {w0 : World} {bm mb bw : Nat} {xs : List UInt8} {a f c b b2 : Nat} {keys wait : List Nat} {D : DataW Unit} {w : World} {g off cap : Nat} {A : Addr} (h : JoinSt w0 bm mb bw xs a f c b (Grid.nears xs a c) keys wait D (.slice (some ⟨g, off, none⟩) (wait.length + 1) cap) w)
    (hb2 : b + (Grid.nears xs a c).length ≤ b2) (hA : A = (if cap = 1 then ⟨g, off, none⟩ else ⟨g, off + 1, none⟩)) :
    JoinHd w0 bm mb w.heap.size xs a f b2 keys wait D (.slice (some A) wait.length (cap - 1)) (w.alloc (.cells #[.slice (some A) wait.length (cap - 1)] 24)) := by
  have hml := h.met.lt
  have hgl := (h.row.lt g rfl).2
  have hr1 : OwnsAt (w.alloc (.cells #[.slice (some A) wait.length (cap - 1)] 24)) w0.heap.size 3 1 (.slice (some ⟨g, off, none⟩) (wait.length + 1) cap) (wait.length + 1) (numCells (c :: wait)) := by
    refine OwnsAt.block (w := w) (by have := h.row; rwa [List.length_cons] at this) fun g' hg' => ?_
    simp [Value.ownBlock] at hg'
    subst hg'
    exact Below.heap_alloc _ _ _ hgl
  refine ⟨h.met.alloc _, (h.own.alloc _).mono hb2, h.km.mono (by omega), Boxed.new w _ _, ?_, h.mid.end_, h.below.alloc h.below.size _, h.lm, h.lb, h.below.size, by omega⟩
  have := hr1.tail rfl hA
  simpa [numCells] using this
def JoinR (w0 : World) (q bm mb : Nat) (s : ByteArray) (a h f k : Nat) (p : Value) (w : World) : Prop :=
  ∃ bw keys queue D v, p = .pointer (some ⟨bw, 0, none⟩) ∧ JoinHd w0 bm mb bw s.data.toList a f (1 + 4 * k) keys queue D v w ∧ k + queue.length = keys.length ∧ MapAt w q a h s ∧ q ≠ bw
set_option maxRecDepth 100000 in
set_option maxHeartbeats 1000000 in
theorem joined_any (a h : Nat) (h1 : 1 ≤ a) (h8 : a ≤ 8) (hh : 1 ≤ h ∧ h ≤ 8) (s : ByteArray) (hs : s.size = a * h) (w : World) :
    Calls Tryd.prog 34 #[.agg #[.int .i64 a, .int .i64 h, .string s]] w fun e w' => e = .returned (.bool (Grid.joinedB s.data.toList a)) ∧ Below w.heap.size w w' := by
  have hlen : s.data.toList.length = s.size := by rw [Array.length_toList]; rfl
  have h64 : s.size ≤ 64 := by rw [hs]; exact Nat.mul_le_mul h8 hh.2
  have hmm := Tryd.makeMet
  have HS := Lib.hid hs
  clear hs
  have hidx := firstC_index s.data.toList
  obtain ⟨F, HF⟩ : ∃ F, Hid (F = Grid.firstC s.data.toList) := ⟨_, Lib.hid rfl⟩
  rw [← HF.out] at hidx
  obtain ⟨w1, HW1⟩ : ∃ w1, Hid (w1 = w.alloc (.cells #[.int .i64 a, .int .i64 h, .string s] 30)) := ⟨_, Lib.hid rfl⟩
  obtain ⟨q, HQ⟩ : ∃ q, Hid (q = w.heap.size) := ⟨_, Lib.hid rfl⟩
  have HM : Hid (MapAt w1 q a h s) := Lib.hid (by rw [HW1.out, HQ.out]; exact heap_alloc_new w _)
  have HB : Hid (Below w.heap.size w w1) := Lib.hid (by rw [HW1.out]; exact (Below.refl _ _).alloc (Nat.le_refl _) _)
  cases F with
  | none =>
    go_enter Tryd.func34, Tryd.ntmps34
    go_upto_region 1 with (fail)
    rw [← HQ.out, ← HW1.out]
    have c2 := HM.out.s_
    go_wp2_with (go_at_call 49; refine (Any.strings_IndexByte indexL s 67 _).mono ?_; rw [show ((67 : Int).toNat.toUInt8) = 67 from rfl, hidx]; rintro e w9 ⟨rfl, hw⟩; have hw := hw.symm; subst hw)
    go_ret
    refine ⟨ret_bool9 ?_, HB.out⟩
    refine (Bool.eq_false_iff.2 fun hj => ?_).symm
    obtain ⟨f, hf, _⟩ := Grid.joinedB_iff.1 hj
    rw [← HF.out] at hf
    cases hf
  | some f =>
    dsimp only at hidx
    obtain ⟨mb, HMB⟩ : ∃ mb, Hid (mb = w1.heap.size) := ⟨_, Lib.hid rfl⟩
    obtain ⟨bm, HBM⟩ : ∃ bm, Hid (bm = w1.heap.size + 1) := ⟨_, Lib.hid rfl⟩
    obtain ⟨w2, HW2⟩ : ∃ w2, Hid (w2 = w1.alloc (.map #[] 0)) := ⟨_, Lib.hid rfl⟩
    obtain ⟨w3, HW3⟩ : ∃ w3, Hid (w3 = w2.alloc (.cells #[.map (some mb)] 83)) := ⟨_, Lib.hid rfl⟩
    have HO3 : Hid (w3.ownsMap (H := Unit) Tryd.prog 3 (plainElem Tryd.prog 3) mb 0 (.map [])) := Lib.hid (by
      rw [HW3.out]
      refine World.ownsMap.alloc ?_ _
      rw [HW2.out, HMB.out]
      exact World.ownsMap_made _ _ _ _)
    have HX3 : Hid (Boxed w3 bm 83 (.map (some mb))) := Lib.hid (by
      have := Boxed.new w2 83 (.map (some mb))
      rw [← HW3.out] at this
      rwa [HBM.out, show w1.heap.size + 1 = w2.heap.size by rw [HW2.out]; simp])
    have HM3 : Hid (MapAt w3 q a h s) := Lib.hid (by rw [HW3.out, HW2.out]; exact (HM.out.alloc _).alloc _)
    have HB3 : Hid (Below w.heap.size w w3) := Lib.hid (by
      rw [HW3.out, HW2.out]
      exact (HB.out.alloc HB.out.size _).alloc (by have := HB.out.size; simp; omega) _)
    have HLO : Hid (w.heap.size ≤ mb ∧ w.heap.size ≤ bm ∧ mb < w3.heap.size ∧ bm < w3.heap.size ∧ q < w3.heap.size) := Lib.hid (by
      have := HB.out.size
      have := HM3.out.lt
      rw [HMB.out, HBM.out, HW3.out, HW2.out] at *
      simp
      simp at this
      omega)
    have hf64 : f < 64 := by
      obtain ⟨hf, _⟩ := Grid.firstC_some HF.out.symm
      omega
    have hfb : -9223372036854775808 ≤ (f : Int) ∧ (f : Int) ≤ 9223372036854775807 := by
      have i1 := Int.natCast_nonneg f
      have i2 : (f : Int) < 64 := Int.ofNat_lt.2 hf64
      exact ⟨by omega, by omega⟩
    have hkey : keyOf Tryd.prog 3 (.int .i64 (f : Int)) = some (.int .i64 (f : Int)) := keyOf_int_mk Tryd.underlying3 (WalkArith.wf_i64 hfb)
    have HK := Lib.hid hkey
    clear hkey hfb
    go_enter Tryd.func34, Tryd.ntmps34
    go_upto_region 1 with (fail)
    rw [← HQ.out, ← HW1.out]
    have c2 := HM.out.s_
    go_upto_region 5 with (go_at_call 49; refine (Any.strings_IndexByte indexL s 67 _).mono ?_; rw [show ((67 : Int).toNat.toUInt8) = 67 from rfl, hidx]; rintro e w9 ⟨rfl, hw⟩; have hw := hw.symm; subst hw)
    rw [← HBM.out, ← HMB.out, ← HW2.out, ← HW3.out]
    have c0 := HX3.out.cell
    go_wp2_with (with_reducible refine stop_at (o := ⟨none, _, _, _, _, _⟩) ?_)
    refine wpList_mapUpdate_own _ rfl _ _ _ 83 rfl 3 3 Tryd.keyInt Tryd.underlying83 _ mb _ _ rfl HO3.out (by unfold maxLen; omega) _ (.int .i64 1) _ rfl rfl HK.out (.lit (.int .i64 1)) [] (plainElem_int Tryd.underlying3 (by decide)) ?_
    intro w4 hown4 hgrow4
    have hkm : KeysMap ((.map [] : DataW Unit).put (.int .i64 (f : Int)) (.lit (.int .i64 1))) [f] 1 := by
      have := KeysMap.empty.put tidy_empty f 0 rfl
      simpa using this
    obtain ⟨es, cl, hmb⟩ := ownsMap_block HO3.out
    have hx4 : Boxed w4 bm 83 (.map (some mb)) := HX3.out.kept hgrow4 (fun e => by
      injection e with e; subst e
      rw [show w3.heap[bm]? = _ from HX3.out] at hmb; cases hmb)
    have hm4 : MapAt w4 q a h s := (hgrow4.block q (Array.getElem?_eq_some_iff.1 HM3.out).1 (fun e => by
      injection e with e; subst e
      rw [show w3.heap[q]? = _ from HM3.out] at hmb; cases hmb)).trans HM3.out
    have hb4 : Below w.heap.size w w4 := HB3.out.grown hgrow4 HB3.out.size (fun j e => by cases e; exact HLO.out.1)
    obtain ⟨w5, HW5⟩ : ∃ w5, Hid (w5 = w4.alloc (.cells #[.int .i64 (f : Int)] 3)) := ⟨_, Lib.hid rfl⟩
    obtain ⟨g, HG⟩ : ∃ g, Hid (g = w4.heap.size) := ⟨_, Lib.hid rfl⟩
    obtain ⟨w6, HW6⟩ : ∃ w6, Hid (w6 = w5.alloc (.cells #[.slice (some ⟨g, 0, none⟩) 1 1] 24)) := ⟨_, Lib.hid rfl⟩
    obtain ⟨bw, HBW⟩ : ∃ bw, Hid (bw = w4.heap.size + 1) := ⟨_, Lib.hid rfl⟩
    have HHD : Hid (JoinHd w bm mb bw s.data.toList a f (1 + 4 * 0) [f] [f] _ (.slice (some ⟨g, 0, none⟩) 1 1) w6) := Lib.hid (by
      have hg4 := hgrow4.size
      have hbs := hb4.size
      have hgo := HG.out
      have hbo := HBW.out
      have hl := HLO.out
      have hs5 : w5.heap.size = w4.heap.size + 1 := by rw [HW5.out]; simp
      have hrow : w6.heap[g]? = some (.cells #[.int .i64 (f : Int)] 3 (0, 0)) := by
        rw [HW6.out]
        refine (Below.heap_alloc _ _ _ (by omega)).trans ?_
        rw [HW5.out, HG.out]
        exact heap_alloc_new w4 _
      have hbox : Boxed w6 bw 24 (.slice (some ⟨g, 0, none⟩) 1 1) := by
        have := Boxed.new w5 24 (.slice (some ⟨g, 0, none⟩) 1 1)
        rw [← HW6.out, hs5, ← HBW.out] at this
        exact this
      refine ⟨?_, ?_, hkm, hbox, ⟨rfl, .inr ⟨g, 0, 1, _, rfl, by omega, hrow, Nat.le_refl _, by decide, by simp, rfl⟩⟩, .start, ?_, hl.2.1, hl.1, by omega, by omega⟩
      · rw [HW6.out, HW5.out]; exact (hx4.alloc _).alloc _
      · rw [HW6.out, HW5.out]; exact (hown4.alloc _).alloc _
      · rw [HW6.out, HW5.out]; exact (hb4.alloc hb4.size _).alloc (by have := hb4.size; simp; omega) _)
    have HM6 : Hid (MapAt w6 q a h s) := Lib.hid (by rw [HW6.out, HW5.out]; exact (MapAt.alloc hm4 _).alloc _)
    have HQB : Hid (q ≠ bw) := Lib.hid (by have := HBW.out; have := hm4.lt; omega)
    clear hown4 hgrow4 hkm hmb hx4 hm4 hb4 c0 c2 HO3 HX3 HM3 HB3 HW3 HW2 HM HB HW1
    go_wp2_with fail
    rw [← HBW.out, ← HG.out, ← HW5.out, ← HW6.out]
    clear HW5 HW6 HG HBW
    go_loopw [5] (fun p wr => ∃ k, k ≤ 64 ∧ JoinR w q bm mb s a h f k p wr) (fun p wr => 64 - most (fun k => JoinR w q bm mb s a h f k p wr) 64)
    case atStart => exact ⟨0, Nat.zero_le _, bw, [f], [f], _, _, rfl, HHD.out, rfl, HM6.out, HQB.out⟩
    case round =>
      obtain ⟨k, HK9⟩ : ∃ k, Hid (k = most (fun k => JoinR w q bm mb s a h f k u5 wr) 64) := ⟨_, Lib.hid rfl⟩
      have HKN : Hid (k ≤ 64) := Lib.hid (by rw [HK9.out]; exact most_le _ _)
      have hrk := most_holds hrel
      rw [← HK9.out] at hrk
      obtain ⟨bw, keys, queue, D, v, rfl, hhd, hpk, hmq, hqb⟩ := hrk
      clear hrel HHD HM6
      cases queue with
      | nil =>
        obtain ⟨A, cap, rfl⟩ := hhd.row.form
        have c5 := hhd.wt.cell
        have c4 := hhd.met.cell
        have c2 := hmq.s_
        have hln : ∀ (m : Nat) (ty : TypeId), (Builtin.len_ #[83] ty #[.map (some mb)]).run Tryd.prog (wr.drewN m) = .ok (.int .i64 (keys.length : Int)) (wr.drewN m) := fun m ty => by
          have := World.ownsMap.len (w := wr.drewN m) (show (wr.drewN m).ownsMap _ _ _ _ _ _ from hhd.own) Tryd.underlying83 ty
          rw [hhd.km.size] at this
          exact this
        have hct : ∀ w9, Calls Tryd.prog 51 #[.string s, .string ⟨#[35]⟩] w9 fun e w' => e = .returned (.int .i64 (s.data.toList.count 35 : Nat)) ∧ w' = w9 := fun w9 => Any.strings_Count_one countL s 35 w9
        have hop := Grid.opens_length s.data.toList
        have hcl : s.data.toList.count 35 ≤ s.size := by omega
        have hsb : IntKind.i64.wrap ((s.size : Int) - ((s.data.toList.count 35 : Nat) : Int)) = (s.size : Int) - ((s.data.toList.count 35 : Nat) : Int) := by rw [IntKind.wrap_i64]; omega
        have hjn := hhd.q.joined HF.out.symm
        have HJN : Hid (Grid.joinedB s.data.toList a = decide ((keys.length : Int) = (s.size : Int) - ((s.data.toList.count 35 : Nat) : Int))) := Lib.hid (by
          rw [Bool.eq_iff_iff, Grid.joinedB_iff, decide_eq_true_eq, ← hjn]
          omega)
        have HBL := Lib.hid hhd.below
        clear hjn hop hhd
        generalize s.data.toList.count 35 = n35 at *
        go_wp2_with fail
        go_quiet ((go_at_call 51; exact Calls.quiet_of_same (hct _)))
        go_wp2_with fail
        go_ret
        exact ⟨ret_bool9 HJN.out.symm, HBL.out.os, HBL.out.tape, HBL.out.output, HBL.out.size, HBL.out.block⟩
      | cons c wait =>
        obtain ⟨g, off, cap, rfl, hcap1, hcap2⟩ := hhd.row.slice (by simp)
        have c5 := hhd.wt.cell
        have HC6 : Hid (wr.cell? ⟨g, off, none⟩ = some (.int .i64 (c : Int))) := Lib.hid (by
          have := hhd.row.cells rfl 0 (.int .i64 (c : Int)) rfl
          rwa [show (⟨g, off, none⟩ : Addr).add 0 = ⟨g, off, none⟩ by simp [Addr.add]] at this)
        have hco := Grid.Reach.open_ (Grid.firstC_open HF.out.symm) (hhd.q.reach c (hhd.q.sub c (by simp)))
        have HCL : Hid (c < s.size) := Lib.hid (by have := Grid.openAt_lt hco; omega)
        have HTL := Lib.hid (join_tells (w0 := w) (mb := mb) (h := h) (f := f) (c := c) (b := 1 + 4 * k) (p := k) (a := a) (s := s) hqb hhd.ne (by omega) (Grid.firstC_open HF.out.symm) (by have := HKN.out; omega))
        have HJ : Hid (JoinT w q bm mb bw s a h f c (1 + 4 * k) k [] wr.drew) := Lib.hid ⟨⟨keys, wait, D, _, hhd.start.grown ⟨rfl, rfl, rfl, Nat.le_refl _, fun _ _ _ => rfl⟩, by simp at hpk; omega⟩, hmq⟩
        have HWT := Lib.hid hhd.wt
        have HBL : Hid (bw < wr.heap.size) := Lib.hid hhd.wt.lt
        have HMQ := Lib.hid hmq
        have HNE := Lib.hid hhd.ne
        have HQB2 := Lib.hid hqb
        clear hhd hmq hpk hco hqb
        go_upto_region 9 with (fail)
        refine wp_region_held (S := fun w9 => MapAt w9 q a h s) (by kernel_rfl) ?_
        change wpAnyH _ _ _ _ _ _ _ _ wr.drew
        obtain ⟨wa, HWA⟩ : ∃ wa, Hid (wa = wr.drew) := ⟨_, Lib.hid rfl⟩
        rw [← HWA.out]
        have hS : MapAt wa q a h s := by rw [HWA.out]; exact HMQ.out
        have HJ0 : Hid (JoinT w q bm mb bw s a h f c (1 + 4 * k) k [] wa) := Lib.hid (by rw [HWA.out]; exact HJ.out)
        have HWT2 : Hid (Boxed wa bw 24 (.slice (some ⟨g, off, none⟩) (wait.length + 1) cap)) := Lib.hid (by rw [HWA.out]; exact HWT.out)
        have HC7 : Hid (wa.cell? ⟨g, off, none⟩ = some (.int .i64 (c : Int))) := Lib.hid (by rw [HWA.out]; exact HC6.out)
        have HBA : Hid (bw < wa.heap.size) := Lib.hid (by rw [HWA.out]; exact HBL.out)
        clear HWA HMQ HJ HWT HC6 HBL
        -- region 9
        refine takeH (i := 0) 24 (v := .agg #[.int .i64 (a : Int), .int .i64 (h : Int), .string s]) rfl (by kernel_rfl) (by kernel_rfl) (by kernel_rfl) rfl (fun _ _ _ h => h) (.inl ⟨by rfl, fun _ h => by have c0 := h.w_; have c1 := h.h_; have c2 := h.s_; go_simp⟩) hS ?_
        simp only [Act.put, List.setIfInBounds_toArray, List.set_cons_zero, List.set_cons_succ]
        refine takeH (i := 4) 28 (v := .func (Fn.func 50) #[] #[.pointer (some ⟨bm, 0, none⟩), .pointer (some ⟨bw, 0, none⟩)]) rfl (by kernel_rfl) (by kernel_rfl) (by kernel_rfl) rfl (fun _ _ _ h => h) (.inl ⟨by rfl, fun _ _ => by go_simp⟩) hS ?_
        simp only [Act.put, List.setIfInBounds_toArray, List.set_cons_zero, List.set_cons_succ]
        refine oneH (i := 1) (oi := ⟨some 25, _, _, _, _, _⟩) rfl (by kernel_rfl) (fun K hK => ?_)
        have c5 := HWT2.out.cell
        go_simp
        refine hK.out _ _ hS ?_
        clear hK K
        refine takeH (i := 2) 26 (v := .pointer (some ⟨g, off, none⟩)) rfl (by kernel_rfl) (by kernel_rfl) (by kernel_rfl) rfl (fun _ _ _ h => h) (.inl ⟨by rfl, fun _ _ => by go_simp⟩) hS ?_
        simp only [Act.put, List.setIfInBounds_toArray, List.set_cons_zero, List.set_cons_succ]
        refine oneH (i := 3) (oi := ⟨some 27, _, _, _, _, _⟩) rfl (by kernel_rfl) (fun K hK => ?_)
        have c6 := HC7.out
        go_simp
        refine hK.out _ _ hS ?_
        clear hK K
        refine oneH (i := 5) (oi := ⟨some 29, _, _, _, _, _⟩) rfl (by kernel_rfl) (fun K hK => ?_)
        go_simp
        refine (beside_any HBA.out HTL.out h1 h8 hh HS.out HCL.out HJ0.out).mono ?_
        rintro e w5 ⟨rfl, hj⟩
        obtain ⟨⟨keys2, wait2, D2, v2, hst2, hp2⟩, hm5⟩ := hj
        have HST := Lib.hid hst2
        have HP2 := Lib.hid hp2
        have HM5 := Lib.hid hm5
        refine hK.out _ _ hm5 ?_
        clear hK K hst2 hp2 hS hm5
        refine wpAnyH_done (by kernel_rfl) ?_ _
        -- behind region 9
        obtain ⟨g2, off2, cap2, rfl, hcp1, hcp2⟩ := HST.out.row.slice (by simp)
        have c5 := HST.out.wt.cell
        have hlc : (c :: wait2).length = wait2.length + 1 := rfl
        rw [hlc] at c5
        have hnl : (Grid.nears s.data.toList a c).length ≤ 4 := Grid.nears_length_le h1 h8
        have hkl := HST.out.mid.length_le (Grid.firstC_open HF.out.symm)
        have hol := Grid.opens_length s.data.toList
        have HR : Hid (k + 1 ≤ 64 ∧ JoinR w q bm mb s a h f (k + 1) (.pointer (some ⟨w5.heap.size, 0, none⟩)) (w5.alloc (.cells #[.slice (if cap2 = 1 then some ⟨g2, off2, none⟩ else some ⟨g2, off2 + 1, none⟩) wait2.length (cap2 - 1)] 24))) := Lib.hid (by
          have hp2 := HP2.out
          have hif : (if cap2 = 1 then some (⟨g2, off2, none⟩ : Addr) else some ⟨g2, off2 + 1, none⟩) = some (if cap2 = 1 then ⟨g2, off2, none⟩ else ⟨g2, off2 + 1, none⟩) := by split <;> rfl
          rw [hif]
          have hn := JoinSt.next (b2 := 1 + 4 * (k + 1)) HST.out (by omega) rfl
          exact ⟨by omega, w5.heap.size, keys2, wait2, D2, _, rfl, hn, by omega, HM5.out.alloc _, Nat.ne_of_lt HM5.out.lt⟩)
        clear hnl hkl hol
        go_wp2_with fail
        go_roundw
        case rel => exact ⟨k + 1, HR.out.1, HR.out.2⟩
        case measure =>
          rw [← HK9.out]
          have := le_most (p := fun k => JoinR w q bm mb s a h f k (.pointer (some ⟨w5.heap.size, 0, none⟩)) (w5.alloc (.cells #[.slice (if cap2 = 1 then some ⟨g2, off2, none⟩ else some ⟨g2, off2 + 1, none⟩) wait2.length (cap2 - 1)] 24))) HR.out.2 HR.out.1
          have := HR.out.1
          omega
end Go.Proofs.YtiffgmgefpoblaaDoor
