/-
  The contract of disk.Flush; the builtin copy at elements of many cells. Conditions: none beyond the premises of each theorem.
-/
import Derived.Test.YtaolkmlgdhnhaaaDoorDiskWrite
namespace Go.Proofs.YtaolkmlgdhnhaaaDoor
open Go.RowKit

/-- copy, whatever the cells of an element -/
theorem run_copy_wide {P : Program} (w : World) (dT sT ty elem : TypeId) (size b o dLen dCap : Nat) (a : Addr) (sLen sCap : Nat) (cs : List Value)
    (hu : P.underlying dT = some (.slice elem)) (hs : (P.info? elem).map (·.size) = some size) (hn : cs.length = Nat.min sLen dLen * size)
    (hsrc : ∀ j v, cs[j]? = some v → w.cell? (a.add j) = some v) (hc : ∀ j, j < cs.length → (w.cell? ⟨b, o + j, none⟩).isSome = true) (hf : ∀ j, j < cs.length → w.frozen? ⟨b, o + j, none⟩ = false) (h1 : ∀ v ∈ cs, v.oneCell' = true) :
    (Builtin.copy_ #[dT, sT] ty #[.slice (some ⟨b, o, none⟩) dLen dCap, .slice (some a) sLen sCap]).run P w = .ok (goInt (Nat.min sLen dLen)) (w.setCells b o cs) := by
  have hl := run_loadCells_list (P := P) w a cs hsrc
  have hst := run_storeCells_cells (P := P) b o cs 0 w (by simpa using hc) (by simpa using hf) h1
  cases hq : P.info? elem with
  | none => simp [hq] at hs
  | some i =>
    have hi : i.size = size := by simpa [hq] using hs
    simp [Builtin.copy_, run_underlying hu, Builtin.lenOf, Builtin.firstCells, sizeOf, typeInfo, hq, hi, ← hn, hl, hst]

theorem flat_pages (ps : List Pg) (h : Whole ps) : (ps.flatMap pgCells).length = ps.length * 128 := flat_length fun p hp => by rw [pgCells_length]; exact h p hp
/-- sectors in a row, as cells -/
theorem Pages.cells {w : World} {b : Nat} {ps : List Pg} (h : Pages w b ps) (hw : Whole ps) : ∀ j v, (ps.flatMap pgCells)[j]? = some v → w.cell? ⟨b, j, none⟩ = some v := fun j v hv => by
  have hj : j < ps.length * 128 := by rw [← flat_pages ps hw]; exact (List.getElem?_eq_some_iff.1 hv).1
  have hi : j / 128 < ps.length := by omega
  have e : j = j / 128 * 128 + j % 128 := by omega
  have h1 := flat_at (f := pgCells) (c := 128) (l := ps) (fun p hp => by rw [pgCells_length]; exact hw p hp) (List.getElem?_eq_getElem hi) (Nat.mod_lt j (by decide : 0 < 128))
  rw [← e, hv] at h1
  have h2 := (h (j / 128) _ (List.getElem?_eq_getElem hi)).2 (j % 128) v h1.symm
  rw [← e] at h2
  exact h2
theorem Pages.of_range {w : World} {b : Nat} {ps : List Pg} (hw : Whole ps) (h : w.rangeAt b 0 (ps.flatMap pgCells)) : Pages w b ps := fun i p hp => by
  have hl : p.length = 128 := hw p (List.mem_of_getElem? hp)
  refine ⟨hl, fun j v hv => ?_⟩
  have hj : j < 128 := by have := (List.getElem?_eq_some_iff.1 hv).1; rw [pgCells_length] at this; omega
  have h1 := flat_at (f := pgCells) (c := 128) (l := ps) (fun p hp => by rw [pgCells_length]; exact hw p hp) hp hj
  have h2 := h (i * 128 + j) v (h1.trans hv)
  rw [Nat.zero_add] at h2
  exact h2
theorem flat_one (ps : List Pg) : ∀ v ∈ ps.flatMap pgCells, v.oneCell' = true := fun v hv => by
  obtain ⟨p, _, h⟩ := List.mem_flatMap.1 hv
  exact pgCells_one p v h

/-- copy of all sectors of one row over another one -/
theorem wpList_copy_pages {P : Program} {w : World} {ops : Array Oper} {rest : List Oper} {o : Oper} {a : Act} {Q : Exit → Act → World → Prop} (hgd : o.guard = none) (d s : Operand) (dT sT : TypeId)
    (ho : o.op = .call { callee := .builtin .copy, args := #[d, s], argTypes := #[dT, sT] }) (elem : TypeId) (hu : P.underlying dT = some (.slice elem)) (hsz : (P.info? elem).map (·.size) = some 128)
    (F S n : Nat) (fs ss : List Pg) (hf : fs.length = n) (hs : ss.length = n) (wf : Whole fs) (ws : Whole ss) (hF : Pages w F fs) (hS : Pages w S ss) (hz : ∀ j, w.frozen? ⟨F, j, none⟩ = false)
    (hd : a.eval d = .slice (some ⟨F, 0, none⟩) n n) (hx : a.eval s = .slice (some ⟨S, 0, none⟩) n n)
    (h : ∀ w2, Hid (w2 = w.setCells F 0 (ss.flatMap pgCells)) → wpList P ops Q rest (a.put o.dst (goInt n)) w2) : wpList P ops Q (o :: rest) a w := by
  refine wpList_plain hgd fun K hK => ?_
  have hl : (ss.flatMap pgCells).length = n * 128 := by rw [flat_pages ss ws, hs]
  have hrun := run_copy_wide (P := P) w dT sT o.type elem 128 F 0 n n ⟨S, 0, none⟩ n n (ss.flatMap pgCells) hu hsz (by rw [hl, show Nat.min n n = n from Nat.min_self n])
    (fun j v hv => by rw [Addr.add_mid, Nat.zero_add]; exact hS.cells ws j v hv)
    (fun j hj => by
      rw [Nat.zero_add]
      have hj' : j < (fs.flatMap pgCells).length := by rw [flat_pages fs wf, hf]; omega
      rw [hF.cells wf j _ (List.getElem?_eq_getElem hj')]
      rfl)
    (fun j _ => hz _) (flat_one ss)
  rw [show Nat.min n n = n from Nat.min_self n] at hrun
  unfold Oper.wp
  simp [execOp, ho, resolve, invoke, builtin, hd, hx, hrun, Result.andThen]
  exact hK _ _ (h _ rfl)

/-- what was seen is firm -/
theorem DiskIs.firmed {K : Nat → Prop} {w w2 : World} {D F S : Nat} {v : Value} {n : Nat} {d : Dk} (h : DiskIs K w D F S v n d) (hw : w2 = w.setCells F 0 (d.seen.flatMap pgCells)) : DiskIs K w2 D F S v n ⟨d.seen, d.seen, d.soft, d.down⟩ := by
  subst hw
  have hb : ∀ k, k ≠ F → (w.setCells F 0 (d.seen.flatMap pgCells)).heap[k]? = w.heap[k]? := fun k hk => setCells_block F hk _ _ _
  have hl : (d.seen.flatMap pgCells).length = n * 128 := by rw [flat_pages _ h.ok.ws, h.ok.seen]
  refine ⟨⟨h.ok.seen, h.ok.seen, h.ok.ws, h.ok.ws, h.ok.fits⟩, h.pos, by rw [setCells_cell h.df]; exact h.c0, by rw [setCells_cell h.df]; exact h.c1, by rw [setCells_cell h.df]; exact h.c2, by rw [setCells_cell h.df]; exact h.c3,
    frozen_setCells h.fz _ _ _, frozen_setCells h.ff _ _ _, frozen_setCells h.fs _ _ _, Pages.of_range h.ok.ws (World.rangeAt_setCells_same w F 0 _ ?_), h.seen.carry (hb S (Ne.symm h.fsn)), ?_, h.kd, h.kf, h.ks, h.kv, h.df, h.ds, h.fsn⟩
  · intro j hj
    rw [Nat.zero_add]
    refine ⟨?_, h.ff j⟩
    have hj' : j < (d.firm.flatMap pgCells).length := by rw [flat_pages _ h.ok.wf, h.ok.firm]; omega
    rw [h.firm.cells h.ok.wf j _ (List.getElem?_eq_getElem hj')]
    rfl
  · obtain ⟨h1, h2⟩ := h.soft
    refine ⟨h1, ?_⟩
    rcases h2 with h2 | ⟨g, cap, cur, e1, e2, e3, e4⟩
    · exact .inl h2
    · exact .inr ⟨g, cap, cur, e1, e2, by rw [hb g (h.kv g (by rw [e1]; rfl)).2.2.1]; exact e3, e4⟩
/-- the writes are gone -/
theorem DiskIs.emptied {K : Nat → Prop} {w : World} {D F S : Nat} {v : Value} {n : Nat} {d : Dk} (h : DiskIs K w D F S v n d) : DiskIs K (w.setCell ⟨D, 2, none⟩ (.slice none 0 0)) D F S (.slice none 0 0) n ⟨d.firm, d.seen, [], d.down⟩ := by
  refine h.stays (setCell_heap_other w D 2 _) _ _ rfl rfl (.inr ⟨rfl, rfl⟩) ?_ ?_ ?_ ?_ ?_
  · rw [World.cell?_setCell_other _ _ _ _ (by simp)]; exact h.c0
  · rw [World.cell?_setCell_other _ _ _ _ (by simp)]; exact h.c1
  · exact World.cell?_setCell_same _ _ _ h.c2
  · rw [World.cell?_setCell_other _ _ _ _ (by simp)]; exact h.c3
  · intro j; rw [World.frozen?_setCell]; exact h.fz j
theorem Flush_nil (w : World) : Calls Tryd.prog 39 #[.pointer none] w (ErrPost 1 w) := by
  go_enter Tryd.func39, Tryd.ntmps39
  go_wp2_with fail
  refine (refuseDown_nil _).mono ?_
  rintro e w' ⟨v, rfl, h1, h4⟩
  have H1 := Lib.hid h1
  have H4 := Lib.hid h4
  obtain ⟨t, x, rfl⟩ := H1.out.some (by decide)
  clear h1 h4
  go_wp2_with fail
  go_ret
  exact ⟨_, rfl, H1.out, H4.out⟩
theorem Flush_down {K : Nat → Prop} {D n : Nat} {d : Dk} {w : World} (h : DiskAt K w D n d) (hd : d.down = true) : Calls Tryd.prog 39 #[.pointer (some ⟨D, 0, none⟩)] w (ErrPost 7 w) := by
  obtain ⟨F, S, v, h⟩ := h
  have h3 := h.c3
  rw [hd] at h3
  clear h hd
  go_enter Tryd.func39, Tryd.ntmps39
  go_wp2_with fail
  refine (refuseDown_any D true _ h3).mono ?_
  rintro e w' ⟨v, rfl, h1, h4⟩
  have H1 : Hid (ErrAt w' w.heap.size 7 v) := Lib.hid h1
  have H4 := Lib.hid h4
  obtain ⟨t, x, rfl⟩ := H1.out.some (by decide)
  clear h1 h4
  go_wp2_with fail
  go_ret
  exact ⟨_, rfl, H1.out, H4.out⟩
set_option maxRecDepth 100000 in
theorem Flush_yes {K : Nat → Prop} {D n : Nat} {d : Dk} {w : World} (h : DiskAt K w D n d) (hd : d.down = false) :
    Calls Tryd.prog 39 #[.pointer (some ⟨D, 0, none⟩)] w fun e w' => e = .returned .nilIface ∧ DiskAt K w' D n d.flush ∧ Kept K w w' := by
  obtain ⟨F, S, v, h⟩ := h
  have h3 := h.c3
  rw [hd] at h3
  have HD := Lib.hid h
  clear h hd
  go_enter Tryd.func39, Tryd.ntmps39
  go_wp2_with fail
  refine (refuseDown_yes D _ h3).mono ?_
  rintro e w' ⟨rfl, rfl⟩
  go_wp2_with fail
  refine wp_region_tail 8 (by kernel_rfl) (by kernel_rfl) (fun w1 HW1 => ?_)
  simp only [List.take_succ_cons, List.take_zero, List.drop_succ_cons, List.drop_zero]
  have HD1 : Hid (DiskIs K w1 D F S v n d) := Lib.hid (by rw [HW1.out]; exact HD.out.carry (Below.refl _ _).drew)
  have h0' := HD1.out.c0
  have h1' := HD1.out.c1
  iterate 8 still_step
  refine wpStill_nil ?_
  refine wpList_copy_pages rfl _ _ _ _ rfl _ Tryd.underlying74 Tryd.pageSize F S n d.firm d.seen HD1.out.ok.firm HD1.out.ok.seen HD1.out.ok.wf HD1.out.ok.ws HD1.out.firm HD1.out.seen HD1.out.ff rfl rfl (fun w2 HW2 => ?_)
  have HD2 : Hid (DiskIs K w2 D F S v n ⟨d.seen, d.seen, d.soft, d.down⟩) := Lib.hid (HD1.out.firmed HW2.out)
  have h2' := HD2.out.c2
  have hf' := HD2.out.fz 2
  have HK : Hid (Kept K w (w2.setCell ⟨D, 2, none⟩ (.slice none 0 0))) := Lib.hid (by
    rw [HW2.out, HW1.out]
    exact (((Kept.refl K w).drew.setCells HD.out.kf _ _)).setCell HD.out.kd _)
  clear h0' h1' h3
  go_wp2_with fail
  go_ret
  exact ⟨rfl, ⟨F, S, _, HD2.out.emptied⟩, HK.out⟩
end Go.Proofs.YtaolkmlgdhnhaaaDoor
