/-
  The contract of disk.Crash. Conditions: none beyond the premises of each theorem.
-/
import Derived.Test.YtaolkmlgdhnhaaaDoorDiskFlush
import Derived.WalkLawsBesides
import Derived.Deep.LoopGhost
import Derived.Deep.DeepCutAuto
import Derived.Deep.CutBlock
namespace Go.Proofs.YtaolkmlgdhnhaaaDoor
open Go.RowKit

/-- a sector that is firm, or torn, over what was firm -/
theorem DiskIs.firmly {K : Nat → Prop} {w w2 : World} {D F S : Nat} {v : Value} {n i : Nat} {d : Dk} {q : Pg} {cs : List Value} {o : Nat} (h : DiskIs K w D F S v n d) (hw : w2 = w.setCells F o cs) (hl : q.length = 128)
    (hp : Pages w2 F (d.firm.set i q)) : DiskIs K w2 D F S v n ⟨d.firm.set i q, d.seen, d.soft, d.down⟩ := by
  subst hw
  have hb : ∀ k, k ≠ F → (w.setCells F o cs).heap[k]? = w.heap[k]? := fun k hk => setCells_block F hk _ _ _
  refine ⟨⟨by simp [h.ok.firm], h.ok.seen, h.ok.wf.set _ hl, h.ok.ws, h.ok.fits⟩, h.pos, by rw [setCells_cell h.df]; exact h.c0, by rw [setCells_cell h.df]; exact h.c1, by rw [setCells_cell h.df]; exact h.c2, by rw [setCells_cell h.df]; exact h.c3,
    frozen_setCells h.fz _ _ _, frozen_setCells h.ff _ _ _, frozen_setCells h.fs _ _ _, hp, h.seen.carry (hb S (Ne.symm h.fsn)), ?_, h.kd, h.kf, h.ks, h.kv, h.df, h.ds, h.fsn⟩
  obtain ⟨h1, h2⟩ := h.soft
  refine ⟨h1, ?_⟩
  rcases h2 with h2 | ⟨g, cap, cur, e1, e2, e3, e4⟩
  · exact .inl h2
  · exact .inr ⟨g, cap, cur, e1, e2, by rw [hb g (h.kv g (by rw [e1]; rfl)).2.2.1]; exact e3, e4⟩
theorem pgCells_take (p : Pg) (k : Nat) : (pgCells p).take k = pgCells (p.take k) := by simp [pgCells]
/-- some bytes are laid over a sector -/
theorem Pages.torn {w : World} {b : Nat} {ps : List Pg} (h : Pages w b ps) (hf : ∀ j, w.frozen? ⟨b, j, none⟩ = false) {i : Nat} (hi : i < ps.length) {p : Pg} {k : Nat} (hp : p.length = 128) (hk : k ≤ 128) :
    Pages (w.setCells b (i * 128) (pgCells (p.take k))) b (ps.set i (over k p (pgAt ps i))) := fun j q hq => by
  obtain ⟨hl, hr⟩ := h.at_ hi
  have hlt : (p.take k).length = k := by rw [List.length_take, hp]; omega
  rw [List.getElem?_set] at hq
  split at hq
  · rename_i e
    subst e
    obtain rfl : over k p (pgAt ps i) = q := by simpa [hi] using hq
    refine ⟨over_length hp hl hk, fun m u hu => ?_⟩
    by_cases hm : m < k
    · have e1 : (pgCells (p.take k))[m]? = some u := by
        rw [← hu]
        unfold over pgCells
        rw [List.map_append, List.getElem?_append_left (by rw [List.length_map, hlt]; exact hm)]
      have hth : w.there b (i * 128) (pgCells (p.take k)).length := fun x hx => by
        have := h.there hf hi x (by rw [pgCells_length, hlt] at hx; omega)
        exact this
      exact World.rangeAt_setCells_same w b _ _ hth m u e1
    · rw [World.cell?_setCells_out b _ _ _ _ (fun _ _ => .inr (by rw [pgCells_length, hlt]; show i * 128 + k ≤ i * 128 + m; omega))]
      refine hr m u ?_
      rw [← hu]
      unfold over pgCells
      rw [List.map_append, List.getElem?_append_right (by rw [List.length_map, hlt]; omega), List.length_map, hlt, List.map_drop, List.getElem?_drop]
      congr 1
      omega
  · rename_i e
    refine ⟨(h j q hq).1, World.rangeAt_setCells_apart (h j q hq).2 _ _ _ (.inr ?_)⟩
    rw [pgCells_length, pgCells_length, hlt, (h j q hq).1]
    omega

/-- the k-th write's cells, and its value -/
theorem soft_range {K : Nat → Prop} {w : World} {D F S n : Nat} {v : Value} {d : Dk} (h : DiskIs K w D F S v n d) {k : Nat} (hk : k < d.soft.length) :
    ∃ g cap, v = .slice (some ⟨g, 0, none⟩) d.soft.length cap ∧ w.rangeAt g (k * 129) (wrCells d.soft[k]) := by
  obtain ⟨g, cap, hv, _, _⟩ := h.soft.form (by omega)
  refine ⟨g, cap, hv, fun j u hu => ?_⟩
  subst hv
  have hx := h.ok.fits.at_ hk
  have hj : j < 129 := by have := (List.getElem?_eq_some_iff.1 hu).1; rw [wrCells_length hx.2] at this; exact this
  rw [h.soft.cellAt (k * 129 + j) (by omega)]
  exact (flat_at (f := wrCells) (c := 129) (fun x hx => wrCells_length (h.ok.fits x hx).2) (List.getElem?_eq_getElem hk) hj).trans hu

theorem bits_kept {m k : Nat} (hm : m < 4294967296) : (bits .and .u32 ((m : Int) / 2 ^ (k % 32)) 1 == 1) = decide (kept m k) := by
  have e : ((m : Int) / 2 ^ (k % 32)) = ((m / 2 ^ (k % 32) : Nat) : Int) := by simp
  have hlt : m / 2 ^ (k % 32) < 4294967296 := Nat.lt_of_le_of_lt (Nat.div_le_self _ _) hm
  have h1 := u32_and_nat (m / 2 ^ (k % 32)) 1 hlt (by decide)
  rw [e, show (1 : Int) = ((1 : Nat) : Int) from rfl, h1, Nat.and_one_is_mod]
  by_cases hk : kept m k
  · have h2 : m / 2 ^ (k % 32) % 2 = 1 := hk
    rw [h2, decide_eq_true hk]
    rfl
  · have h2 : m / 2 ^ (k % 32) % 2 = 0 := by
      have h3 : ¬ m / 2 ^ (k % 32) % 2 = 1 := hk
      rcases Nat.mod_two_eq_zero_or_one (m / 2 ^ (k % 32)) with h4 | h4
      · exact h4
      · exact absurd h4 h3
    rw [h2, decide_eq_false hk]
    rfl
/-- one round -/
theorem crashK_kept {m k : Nat} {s : Soft} {f : List Pg × Nat} {a : Nat} {p : Pg} (hk : k < s.length) (hx : s[k] = (a, p)) (h : kept m k) : crashK m s f (k + 1) = ((crashK m s f k).1.set a p, (crashK m s f k).2) := by
  rw [crashK, List.getD_eq_getElem?_getD, List.getElem?_eq_getElem hk]
  unfold crashStep
  rw [if_pos h, Option.getD_some, hx]
theorem crashK_torn {m k : Nat} {s : Soft} {f : List Pg × Nat} {a : Nat} {p : Pg} (hk : k < s.length) (hx : s[k] = (a, p)) (h : ¬ kept m k) : crashK m s f (k + 1) = ((crashK m s f k).1.set a (over (crashK m s f k).2 p (pgAt (crashK m s f k).1 a)), 0) := by
  rw [crashK, List.getD_eq_getElem?_getD, List.getElem?_eq_getElem hk]
  unfold crashStep
  rw [if_neg h, Option.getD_some, hx]
  rfl
theorem slice_page (w : World) (b o : Nat) {k : Nat} (hk : k < 128) : (Instr.sliceAt 55 (.pointer (some ⟨b, o, none⟩)) none (some (.int .i64 (k : Int))) none).run Tryd.prog w = .ok (.slice (some ⟨b, o, none⟩) k 128) w := by
  have hal : Tryd.prog.arrayLen 55 = 128 := by kernel_rfl
  have h1 : ((k : Int) ≤ Tryd.prog.arrayLen 55) := by rw [hal]; omega
  have hs : (sizeOf (Tryd.prog.elem 55)).run Tryd.prog w = .ok 1 w := by kernel_rfl
  rw [run_sliceAt_array_h w 55 ⟨b, o, none⟩ (by kernel_rfl) _ _ (Int.natCast_nonneg k) h1, hs, hal]
  simp [slicedAt, Result.andThen, Addr.add]
/-- copy of one-cell elements -/
theorem wpList_copy_cells {P : Program} {w : World} {ops : Array Oper} {rest : List Oper} {o : Oper} {a : Act} {Q : Exit → Act → World → Prop} (hgd : o.guard = none) (d s : Operand) (dT sT : TypeId)
    (ho : o.op = .call { callee := .builtin .copy, args := #[d, s], argTypes := #[dT, sT] }) (elem : TypeId) (hu : P.underlying dT = some (.slice elem)) (hsz : (P.info? elem).map (·.size) = some 1)
    (b off dLen dCap : Nat) (ad : Addr) (sLen sCap : Nat) (hd : a.eval d = .slice (some ⟨b, off, none⟩) dLen dCap) (hx : a.eval s = .slice (some ad) sLen sCap) (cs : List Value) (hn : cs.length = Nat.min sLen dLen)
    (hsrc : ∀ j v, cs[j]? = some v → w.cell? (ad.add j) = some v) (hc : ∀ j, j < cs.length → (w.cell? ⟨b, off + j, none⟩).isSome = true) (hf : ∀ j, j < cs.length → w.frozen? ⟨b, off + j, none⟩ = false) (h1 : ∀ v ∈ cs, v.oneCell' = true)
    (h : ∀ w2, Hid (w2 = w.setCells b off cs) → wpList P ops Q rest (a.put o.dst (goInt cs.length)) w2) : wpList P ops Q (o :: rest) a w := by
  refine wpList_plain hgd fun K hK => ?_
  have hrun := run_copy_cells (P := P) w dT sT o.type elem b off dLen dCap ad sLen sCap cs hu hsz hn hsrc hc hf h1
  unfold Oper.wp
  simp [execOp, ho, resolve, invoke, builtin, hd, hx, hrun, Result.andThen]
  exact hK _ _ (h _ rfl)
theorem Tryd.byteSize : (Tryd.prog.info? 5).map (·.size) = some 1 := by kernel_rfl
/-- what is firm is seen -/
theorem DiskIs.seenAll {K : Nat → Prop} {w w2 : World} {D F S : Nat} {v : Value} {n : Nat} {d : Dk} (h : DiskIs K w D F S v n d) (hw : w2 = w.setCells S 0 (d.firm.flatMap pgCells)) : DiskIs K w2 D F S v n ⟨d.firm, d.firm, d.soft, d.down⟩ := by
  subst hw
  have hb : ∀ k, k ≠ S → (w.setCells S 0 (d.firm.flatMap pgCells)).heap[k]? = w.heap[k]? := fun k hk => setCells_block S hk _ _ _
  have hl : (d.firm.flatMap pgCells).length = n * 128 := by rw [flat_pages _ h.ok.wf, h.ok.firm]
  refine ⟨⟨h.ok.firm, h.ok.firm, h.ok.wf, h.ok.wf, h.ok.fits⟩, h.pos, by rw [setCells_cell h.ds]; exact h.c0, by rw [setCells_cell h.ds]; exact h.c1, by rw [setCells_cell h.ds]; exact h.c2, by rw [setCells_cell h.ds]; exact h.c3,
    frozen_setCells h.fz _ _ _, frozen_setCells h.ff _ _ _, frozen_setCells h.fs _ _ _, h.firm.carry (hb F h.fsn), Pages.of_range h.ok.wf (World.rangeAt_setCells_same w S 0 _ ?_), ?_, h.kd, h.kf, h.ks, h.kv, h.df, h.ds, h.fsn⟩
  · intro j hj
    rw [Nat.zero_add]
    refine ⟨?_, h.fs j⟩
    have hj' : j < (d.seen.flatMap pgCells).length := by rw [flat_pages _ h.ok.ws, h.ok.seen]; omega
    rw [h.seen.cells h.ok.ws j _ (List.getElem?_eq_getElem hj')]
    rfl
  · obtain ⟨h1, h2⟩ := h.soft
    refine ⟨h1, ?_⟩
    rcases h2 with h2 | ⟨g, cap, cur, e1, e2, e3, e4⟩
    · exact .inl h2
    · exact .inr ⟨g, cap, cur, e1, e2, by rw [hb g (h.kv g (by rw [e1]; rfl)).2.2.2]; exact e3, e4⟩
/-- the power is gone -/
theorem DiskIs.downed {K : Nat → Prop} {w : World} {D F S : Nat} {v : Value} {n : Nat} {d : Dk} (h : DiskIs K w D F S v n d) : DiskIs K (w.setCell ⟨D, 3, none⟩ (.bool true)) D F S v n ⟨d.firm, d.seen, d.soft, true⟩ := by
  refine h.stays (setCell_heap_other w D 3 _) _ _ rfl rfl (.inl ⟨rfl, rfl⟩) ?_ ?_ ?_ ?_ ?_
  · rw [World.cell?_setCell_other _ _ _ _ (by simp)]; exact h.c0
  · rw [World.cell?_setCell_other _ _ _ _ (by simp)]; exact h.c1
  · rw [World.cell?_setCell_other _ _ _ _ (by simp)]; exact h.c2
  · exact World.cell?_setCell_same _ _ _ h.c3
  · intro j; rw [World.frozen?_setCell]; exact h.fz j
def CrashRel (K : Nat → Prop) (D n m l0 : Nat) (F S : Nat) (v : Value) (d : Dk) (w : World) (t i : Value) (wr : World) : Prop :=
  ∃ k : Nat, k ≤ d.soft.length ∧ i = .int .i64 (k : Int) ∧ t = .int .i64 ((crashK m d.soft (d.firm, l0) k).2 : Int) ∧ DiskIs K wr D F S v n ⟨(crashK m d.soft (d.firm, l0) k).1, d.seen, d.soft, d.down⟩ ∧ Kept K w wr
set_option maxRecDepth 100000 in
set_option maxHeartbeats 2000000 in
theorem Crash_yes {K : Nat → Prop} {D n m : Nat} {t : Int} {d : Dk} {w : World} (hm : m < 4294967296) (h : DiskAt K w D n d) (ht : There K w) (hs : d.soft.length ≤ 1000000) (ht1 : t ≤ 9223372036854775807) :
    Calls Tryd.prog 23 #[.pointer (some ⟨D, 0, none⟩), .int .u32 (m : Int), .int .i64 t] w fun e w' => e = .returned (.tuple #[]) ∧ DiskAt K w' D n (d.crash m t) ∧ Kept K w w' := by
  obtain ⟨F, S, v, h⟩ := h
  have h2 := h.c2
  obtain ⟨A, c, rfl⟩ : ∃ A c, v = .slice A d.soft.length c := by
    rcases h.soft.2 with ⟨e1, e2⟩ | ⟨g, cap, _, e1, _⟩
    · rw [e2]
      exact ⟨none, 0, e1⟩
    · exact ⟨_, _, e1⟩
  have HD := Lib.hid h
  have HT := Lib.hid ht
  clear h ht
  go_enter Tryd.func23, Tryd.ntmps23
  go_upto_region 1 with fail
  go_cut [6] (fun s6 wx => s6 = .int .i64 (leftZ t : Int) ∧ w = wx)
  case first =>
    go_wp2_with fail
    all_goals
      go_meet
      refine ⟨?_, rfl⟩
      congr 1
      unfold leftZ
      split <;> omega
  case rest =>
    obtain ⟨rfl, rfl⟩ := hcut
    obtain ⟨l0, HL0⟩ : ∃ l0, Hid (l0 = leftZ t) := ⟨_, Lib.hid rfl⟩
    rw [← HL0.out]
    go_wp2_with fail
    go_loopw [6, 19] (fun t i wr => CrashRel K D n m l0 F S (.slice A d.soft.length c) d w t i wr) (fun _ i _ => d.soft.length - (intOf i).toNat)
    case atStart => exact ⟨0, Nat.zero_le _, rfl, rfl, HD.out, Kept.refl _ _⟩
    case round =>
      obtain ⟨k, hk, rfl, rfl, hd, hkp⟩ := hrel
      have HDk := Lib.hid hd
      have HK := Lib.hid hkp
      clear hd hkp h2
      by_cases hlt : k < d.soft.length
      · obtain ⟨g, cap, hv, hr⟩ := soft_range HDk.out hlt
        injection hv with hv1 hv2 hv3
        subst hv1
        obtain rfl : c = cap := hv3
        clear hv2
        have HR := Lib.hid hr
        clear hr
        obtain ⟨a, p, hx⟩ : ∃ a p, d.soft[k] = (a, p) := ⟨_, _, rfl⟩
        have hap := HDk.out.ok.fits.at_ hlt
        rw [hx] at hap
        have HX := Lib.hid hx
        have ha : a < n := hap.1
        have HP : Hid (p.length = 128) := Lib.hid hap.2
        rw [hx] at HR
        clear hap hx
        obtain ⟨wz, HWZ⟩ : ∃ wz : Array Value, Hid (wz = #[.int .i64 0] ++ pgArr zeroPg) := ⟨_, Lib.hid rfl⟩
        have hwz : ∀ w', (zeroValue 80).run Tryd.prog w' = .ok (.agg wz) w' := by rw [HWZ.out]; exact (zero_of_info Tryd.infoWrite2).1
        have HWS : Hid (wz.size = 129) := Lib.hid (by rw [HWZ.out, Array.size_append, pgArr_size, zeroPg_length]; rfl)
        go_wp2_with (with_reducible refine stop_at (o := ⟨some 23, _, _, _, _, _⟩) ?_)
        refine wpList_load_mid rfl _ _ rfl g (k * 129) rfl (wrCells (a, p)) _ HR.out Tryd.underlying80 rfl (by rw [wrCells_length HP.out]; exact Tryd.writeInfo) ?_
        rw [show Value.agg (wrCells (a, p)).toArray = .agg (wrArr a p) from rfl]
        go_wp2_with (with_reducible refine stop_at (o := ⟨none, _, _, _, _, _⟩) ?_)
        refine wpList_store_last rfl _ _ _ rfl wz (wrArr a p) _ rfl rfl rfl (by rw [wrArr_size HP.out]; exact Tryd.writeInfo) (by rw [HWS.out, wrArr_size HP.out]) (all_oneCell_toArray (wrArr_one a p)) ?_
        obtain ⟨w1, HW1⟩ : ∃ w1, Hid (w1 = wr.alloc (.cells (wrArr a p) 80)) := ⟨_, Lib.hid rfl⟩
        rw [← HW1.out]
        obtain ⟨b8, HB8⟩ : ∃ b8, Hid (b8 = wr.heap.size) := ⟨_, Lib.hid rfl⟩
        rw [← HB8.out]
        have HD1 : Hid (DiskIs K w1 D F S (.slice (some ⟨g, 0, none⟩) d.soft.length c) n ⟨(crashK m d.soft (d.firm, l0) k).1, d.seen, d.soft, d.down⟩) := Lib.hid (by rw [HW1.out]; exact HDk.out.carry ((Below.refl _ _).alloc (Nat.le_refl _) _))
        have HK1 : Hid (Kept K w w1) := Lib.hid (by rw [HW1.out]; exact HK.out.alloc (HT.out.kept HK.out) _)
        have hb8 : w1.heap[b8]? = some (.cells (wrArr a p) 80 (0, 0)) := by rw [HW1.out, HB8.out]; exact heap_alloc_last wr _
        have HBK := Lib.hid hb8
        have hc0 : w1.cell? ⟨b8, 0, none⟩ = some (.int .i64 (a : Int)) := by rw [cell_of_row w1 b8 0 _ _ _ hb8]; rfl
        have HRP : Hid (w1.rangeAt b8 1 (pgCells p)) := Lib.hid (fun j u hu => by
          rw [cell_of_row w1 b8 (1 + j) _ _ _ HBK.out, show (wrArr a p)[1 + j]? = (wrCells (a, p))[1 + j]? by simp [wrArr], Nat.add_comm 1 j]
          exact hu)
        clear hb8 HW1 HR hwz HWS HWZ HDk HK
        have hleft : (crashK m d.soft (d.firm, l0) k).2 < 128 := Nat.lt_of_le_of_lt (crashK_left _ _ _ _) (by show l0 < 128; rw [HL0.out]; exact leftZ_le t)
        obtain ⟨lk, HLK⟩ : ∃ lk, Hid (lk = (crashK m d.soft (d.firm, l0) k).2) := ⟨_, Lib.hid rfl⟩
        obtain ⟨fk, HFK⟩ : ∃ fk, Hid (fk = (crashK m d.soft (d.firm, l0) k).1) := ⟨_, Lib.hid rfl⟩
        rw [← HLK.out] at hleft
        rw [← HFK.out] at HD1
        rw [← HLK.out]
        have hfl : a < fk.length := by have := HD1.out.ok.firm; show a < (Dk.firm ⟨fk, d.seen, d.soft, d.down⟩).length; omega
        have h0' := HD1.out.c0
        by_cases hkp : kept m k
        · have hbt : (bits .and .u32 ((m : Int) / 2 ^ (k % 32)) 1 == 1) = true := by rw [bits_kept hm]; simpa using hkp
          have HKP := Lib.hid hkp
          clear hkp
          go_wp2_with fail
          refine wp_region_tail 8 (by kernel_rfl) (by kernel_rfl) (fun w2 HW2 => ?_)
          simp only [List.take_succ_cons, List.take_zero, List.drop_succ_cons, List.drop_zero]
          have hc0' : w2.cell? ⟨b8, 0, none⟩ = some (.int .i64 (a : Int)) := by rw [HW2.out]; exact hc0
          have h0'' : w2.cell? ⟨D, 0, none⟩ = some (.slice (some ⟨F, 0, none⟩) n n) := by rw [HW2.out]; exact h0'
          have HR2 : Hid (w2.rangeAt b8 1 (pgCells p)) := Lib.hid (by rw [HW2.out]; exact HRP.out)
          have HD2 : Hid (DiskIs K w2 D F S (.slice (some ⟨g, 0, none⟩) d.soft.length c) n ⟨fk, d.seen, d.soft, d.down⟩) := Lib.hid (by rw [HW2.out]; exact HD1.out.carry (Below.refl _ _).drew)
          iterate 7 still_step
          refine wpStill_load_page rfl _ _ rfl b8 1 rfl p HP.out HR2.out _ Tryd.underlying55 rfl Tryd.pageSize ?_
          refine wpStill_nil ?_
          go_wp2_with (with_reducible refine stop_at (o := ⟨none, _, _, _, _, _⟩) ?_)
          refine wpList_store_page rfl _ _ _ rfl F (a * 128) p HP.out rfl rfl (HD2.out.firm.there HD2.out.ff hfl) Tryd.pageSize (fun w3 HW3 => ?_)
          have HD3 : Hid (DiskIs K w3 D F S (.slice (some ⟨g, 0, none⟩) d.soft.length c) n ⟨fk.set a p, d.seen, d.soft, d.down⟩) := Lib.hid (HD2.out.firmly HW3.out HP.out (by rw [HW3.out]; exact HD2.out.firm.store HD2.out.ff hfl HP.out))
          have HK3 : Hid (Kept K w w3) := Lib.hid (by rw [HW3.out, HW2.out]; exact HK1.out.drew.setCells HD2.out.kf _ _)
          clear hc0' h0'' h0' hc0 hbt
          go_wp2_with fail
          go_roundw
          case rel =>
            refine ⟨k + 1, hlt, by go_num, ?_, ?_, HK3.out⟩
            · rw [crashK_kept hlt HX.out HKP.out, ← HLK.out]
            · rw [crashK_kept hlt HX.out HKP.out, ← HFK.out]; exact HD3.out
          case measure => simp [intOf]; omega
        · have hbt : (bits .and .u32 ((m : Int) / 2 ^ (k % 32)) 1 == 1) = false := by rw [bits_kept hm]; simpa using hkp
          have HKP := Lib.hid hkp
          clear hkp
          go_wp2_with fail
          refine wp_region_tail 11 (by kernel_rfl) (by kernel_rfl) (fun w2 HW2 => ?_)
          simp only [List.take_succ_cons, List.take_zero, List.drop_succ_cons, List.drop_zero]
          have hc0' : w2.cell? ⟨b8, 0, none⟩ = some (.int .i64 (a : Int)) := by rw [HW2.out]; exact hc0
          have h0'' : w2.cell? ⟨D, 0, none⟩ = some (.slice (some ⟨F, 0, none⟩) n n) := by rw [HW2.out]; exact h0'
          have HR2 : Hid (w2.rangeAt b8 1 (pgCells p)) := Lib.hid (by rw [HW2.out]; exact HRP.out)
          have HD2 : Hid (DiskIs K w2 D F S (.slice (some ⟨g, 0, none⟩) d.soft.length c) n ⟨fk, d.seen, d.soft, d.down⟩) := Lib.hid (by rw [HW2.out]; exact HD1.out.carry (Below.refl _ _).drew)
          have hsl := slice_page w2 b8 1 hleft
          iterate 11 still_step
          refine wpStill_nil ?_
          have hlen : ((pgCells p).take lk).length = lk := by rw [List.length_take, pgCells_length, HP.out]; omega
          refine wpList_copy_cells rfl _ _ _ _ rfl 5 Tryd.underlying65 Tryd.byteSize F (a * 128) 128 128 ⟨b8, 1, none⟩ lk 128 rfl rfl ((pgCells p).take lk) (by rw [hlen]; exact (Nat.min_eq_left (by omega)).symm) ?_ ?_ ?_ ?_ (fun w3 HW3 => ?_)
          · intro j u hu
            rw [Addr.add_mid]
            rw [List.getElem?_take] at hu
            split at hu
            · exact HR2.out j u hu
            · cases hu
          · intro j hj
            exact (HD2.out.firm.there HD2.out.ff hfl j (by omega)).1
          · intro j _
            exact HD2.out.ff _
          · intro u hu
            exact pgCells_one p u (List.mem_of_mem_take hu)
          have HD3 : Hid (DiskIs K w3 D F S (.slice (some ⟨g, 0, none⟩) d.soft.length c) n ⟨fk.set a (over lk p (pgAt fk a)), d.seen, d.soft, d.down⟩) := Lib.hid (HD2.out.firmly HW3.out (over_length HP.out (pgAt_length HD2.out.ok.wf hfl) (by omega)) (by rw [HW3.out, pgCells_take]; exact HD2.out.firm.torn HD2.out.ff hfl HP.out (by omega)))
          have HK3 : Hid (Kept K w w3) := Lib.hid (by rw [HW3.out, HW2.out]; exact HK1.out.drew.setCells HD2.out.kf _ _)
          clear hc0' h0'' h0' hc0 hbt hsl hlen
          go_wp2_with fail
          go_roundw
          case rel =>
            refine ⟨k + 1, hlt, by go_num, ?_, ?_, HK3.out⟩
            · rw [crashK_torn hlt HX.out HKP.out]; rfl
            · rw [crashK_torn hlt HX.out HKP.out, ← HFK.out, ← HLK.out]; exact HD3.out
          case measure => simp [intOf]; omega
      · obtain rfl : k = d.soft.length := by omega
        obtain ⟨fk, HFK⟩ : ∃ fk, Hid (fk = (crashK m d.soft (d.firm, l0) d.soft.length).1) := ⟨_, Lib.hid rfl⟩
        rw [← HFK.out] at HDk
        go_wp2_with fail
        refine wp_region_tail 8 (by kernel_rfl) (by kernel_rfl) (fun w1 HW1 => ?_)
        simp only [List.take_succ_cons, List.take_zero, List.drop_succ_cons, List.drop_zero]
        have HD1 : Hid (DiskIs K w1 D F S (.slice A d.soft.length c) n ⟨fk, d.seen, d.soft, d.down⟩) := Lib.hid (by rw [HW1.out]; exact HDk.out.carry (Below.refl _ _).drew)
        have h0' := HD1.out.c0
        have h1' := HD1.out.c1
        iterate 8 still_step
        refine wpStill_nil ?_
        refine wpList_copy_pages rfl _ _ _ _ rfl _ Tryd.underlying74 Tryd.pageSize S F n d.seen fk HD1.out.ok.seen HD1.out.ok.firm HD1.out.ok.ws HD1.out.ok.wf HD1.out.seen HD1.out.firm HD1.out.fs rfl rfl (fun w2 HW2 => ?_)
        have HD2 : Hid (DiskIs K w2 D F S (.slice A d.soft.length c) n ⟨fk, fk, d.soft, d.down⟩) := Lib.hid (HD1.out.seenAll HW2.out)
        have h2' := HD2.out.c2
        have hf2' := HD2.out.fz 2
        have h3' := HD2.out.c3
        have hf3' := HD2.out.fz 3
        have HK2 : Hid (Kept K w w2) := Lib.hid (by rw [HW2.out, HW1.out]; exact HK.out.drew.setCells HDk.out.ks _ _)
        clear h0' h1'
        have he : d.crash m t = ⟨fk, fk, [], true⟩ := by rw [HFK.out, HL0.out]; rfl
        have HF1 : Hid (DiskAt K ((w2.setCell ⟨D, 2, none⟩ (.slice none 0 0)).setCell ⟨D, 3, none⟩ (.bool true)) D n (d.crash m t)) := Lib.hid (by rw [he]; exact ⟨F, S, .slice none 0 0, HD2.out.emptied.downed⟩)
        have HF2 : Hid (Kept K w ((w2.setCell ⟨D, 2, none⟩ (.slice none 0 0)).setCell ⟨D, 3, none⟩ (.bool true))) := Lib.hid ((HK2.out.setCell HDk.out.kd _).setCell HDk.out.kd _)
        clear he
        go_wp2_with fail
        go_end0
        exact ⟨rfl, HF1.out, HF2.out⟩
end Go.Proofs.YtaolkmlgdhnhaaaDoor
