/-
  The contracts of disk.fault, refuseDown, refuse, Size, Soft and Up. Conditions: none beyond the premises of each theorem.
-/
import Derived.Test.YtaolkmlgdhnhaaaDoorDiskAt
import Derived.WalkSpells
namespace Go.Proofs.YtaolkmlgdhnhaaaDoor
open Go.RowKit

/-- an error of this number in memory from block lo on; nil has 0 -/
def ErrAt (w : World) (lo : Nat) (c : Int) (v : Value) : Prop := (c = 0 ∧ v = .nilIface) ∨
  (c ≠ 0 ∧ ∃ b s, lo ≤ b ∧ b < w.heap.size ∧ v = .iface 91 (.pointer (some ⟨b, 0, none⟩)) ∧ w.cell? ⟨b, 0, none⟩ = some (.string s) ∧ w.cell? ⟨b, 1, none⟩ = some (.iface 61 (.int .i64 c)))
theorem ErrAt.zero {w : World} {lo : Nat} {v : Value} (h : ErrAt w lo 0 v) : v = .nilIface := by
  rcases h with ⟨_, h⟩ | ⟨h, _⟩
  · exact h
  · exact absurd rfl h
theorem ErrAt.some {w : World} {lo : Nat} {c : Int} {v : Value} (h : ErrAt w lo c v) (hc : c ≠ 0) : ∃ t x, v = .iface t x := by
  rcases h with ⟨h, _⟩ | ⟨_, b, s, _, _, rfl, _⟩
  · exact absurd h hc
  · exact ⟨_, _, rfl⟩
theorem ErrAt.nil (w : World) (lo : Nat) : ErrAt w lo 0 .nilIface := .inl ⟨rfl, rfl⟩
theorem ErrAt.is {w : World} {lo : Nat} {c : Int} {v : Value} (h : ErrAt w lo c v) : ErrIs w c v := by
  rcases h with h | ⟨_, b, s, _, h1, rfl, h2, h3⟩
  · exact .inl h
  · exact .inr ⟨[s], .tag b s _ _ [] h2 h3 h1 .base⟩
theorem ErrAt.carry {w w' : World} {lo : Nat} {c : Int} {v : Value} (h : ErrAt w lo c v) (hs : w.heap.size ≤ w'.heap.size) (hb : ∀ b, lo ≤ b → b < w.heap.size → w'.heap[b]? = w.heap[b]?) : ErrAt w' lo c v := by
  rcases h with h | ⟨hc, b, s, h0, h1, rfl, h2, h3⟩
  · exact .inl h
  · have e := hb b h0 h1
    exact .inr ⟨hc, b, s, h0, Nat.lt_of_lt_of_le h1 hs, rfl, (World.cell?_of_block (w := w) (a := ⟨b, 0, none⟩) e).trans h2, (World.cell?_of_block (w := w) (a := ⟨b, 1, none⟩) e).trans h3⟩
theorem ErrAt.below {w w' : World} {lo : Nat} {c : Int} {v : Value} (h : ErrAt w lo c v) (hb : Below w.heap.size w w') : ErrAt w' lo c v := h.carry hb.size fun b _ hl => hb.block b hl
theorem ErrAt.mono {w : World} {lo lo' : Nat} {c : Int} {v : Value} (h : ErrAt w lo c v) (hl : lo' ≤ lo) : ErrAt w lo' c v := by
  rcases h with h | ⟨hc, b, s, h0, h1⟩
  · exact .inl h
  · exact .inr ⟨hc, b, s, by omega, h1⟩

/-- what a call answers that gives an error alone and leaves memory as it was -/
def ErrPost (c : Int) (w : World) (e : Ending) (w' : World) : Prop := ∃ v, e = .returned v ∧ ErrAt w' w.heap.size c v ∧ Below w.heap.size w w'
theorem fault_any (c : Int) (hc : c ≠ 0) (w : World) : Calls Tryd.prog 34 #[.int .i64 c] w (ErrPost c w) := by
  have H := Lib.hid hc
  clear hc
  go_enter Tryd.func34, Tryd.ntmps34
  go_wp2_with (go_at_call 27; refine (Tag_some _ _ _ _).mono ?_; rintro e w' ⟨rfl, rfl⟩)
  go_ret
  exact ⟨.iface 91 (.pointer (some ⟨w.heap.size, 0, none⟩)), rfl, .inr ⟨H.out, w.heap.size, ⟨#[100, 105, 115, 107]⟩, Nat.le_refl _, by simp, rfl, by simp, by simp⟩, (Below.refl _ _).alloc (Nat.le_refl _) _⟩

theorem refuseDown_nil (w : World) : Calls Tryd.prog 51 #[.pointer none] w (ErrPost 1 w) := by
  go_enter Tryd.func51, Tryd.ntmps51
  go_wp2_with fail
  refine (fault_any 1 (by decide) _).mono ?_
  rintro e w' ⟨v, rfl, h1, h4⟩
  have H1 := Lib.hid h1
  have H4 := Lib.hid h4
  clear h1 h4
  go_wp2_with fail
  go_ret
  exact ⟨v, rfl, H1.out, H4.out⟩
/-- which error a call answers by the disk's being down -/
def downZ (b : Bool) : Int := if b = true then 7 else 0
theorem refuseDown_any (D : Nat) (b : Bool) (w : World) (h : w.cell? ⟨D, 3, none⟩ = some (.bool b)) : Calls Tryd.prog 51 #[.pointer (some ⟨D, 0, none⟩)] w (ErrPost (downZ b) w) := by
  cases b
  · go_enter Tryd.func51, Tryd.ntmps51
    go_wp2_with fail
    go_ret
    exact ⟨_, rfl, ErrAt.nil _ _, Below.refl _ _⟩
  · go_enter Tryd.func51, Tryd.ntmps51
    go_wp2_with fail
    refine (fault_any 7 (by decide) _).mono ?_
    rintro e w' ⟨v, rfl, h1, h4⟩
    have H1 := Lib.hid h1
    have H4 := Lib.hid h4
    clear h1 h4
    go_wp2_with fail
    go_ret
    exact ⟨v, rfl, H1.out, H4.out⟩
theorem refuseDown_yes (D : Nat) (w : World) (h : w.cell? ⟨D, 3, none⟩ = some (.bool false)) : Calls Tryd.prog 51 #[.pointer (some ⟨D, 0, none⟩)] w fun e w' => e = .returned .nilIface ∧ w = w' := by
  go_enter Tryd.func51, Tryd.ntmps51
  go_wp2_with fail
  go_ret
  exact ⟨rfl, rfl⟩

/-- which error a read or a write answers -/
def codeZ (b : Bool) (n : Nat) (i : Int) : Int := if b = true then 7 else if 0 ≤ i ∧ i < n then 0 else 1
theorem codeZ_in {n : Nat} {i : Nat} (h : i < n) : codeZ false n i = 0 := by
  unfold codeZ
  rw [if_neg (by decide), if_pos (by omega)]
theorem codeZ_zero {b : Bool} {n : Nat} {i : Int} (h : codeZ b n i = 0) : b = false ∧ ∃ k : Nat, i = k ∧ k < n := by
  unfold codeZ at h
  cases b
  · rw [if_neg (by decide)] at h
    split at h
    · exact ⟨rfl, i.toNat, by omega, by omega⟩
    · cases h
  · cases h
theorem refuse_nil (i : Int) (w : World) : Calls Tryd.prog 35 #[.pointer none, .int .i64 i] w (ErrPost 1 w) := by
  go_enter Tryd.func35, Tryd.ntmps35
  go_wp2_with fail
  refine (refuseDown_nil _).mono ?_
  rintro e w' ⟨v, rfl, h1, h4⟩
  have H1 := Lib.hid h1
  have H4 := Lib.hid h4
  obtain ⟨t, x, rfl⟩ := h1.some (by decide)
  clear h1 h4
  go_wp2_with fail
  go_ret
  exact ⟨_, rfl, H1.out, H4.out⟩
theorem refuse_yes (D n i : Nat) (F : Addr) (w : World) (hi : i < n) (h0 : w.cell? ⟨D, 0, none⟩ = some (.slice (some F) n n)) (h3 : w.cell? ⟨D, 3, none⟩ = some (.bool false)) :
    Calls Tryd.prog 35 #[.pointer (some ⟨D, 0, none⟩), .int .i64 i] w fun e w' => e = .returned .nilIface ∧ w = w' := by
  have hd : decide (i < n) = true := by simpa using hi
  have hd2 : decide (n ≤ i) = false := by simpa using hi
  go_enter Tryd.func35, Tryd.ntmps35
  go_wp2_with fail
  refine (refuseDown_yes D _ h3).mono ?_
  rintro e w' ⟨rfl, rfl⟩
  go_wp2_with fail
  go_ret
  exact ⟨rfl, rfl⟩
theorem refuse_any (D n : Nat) (i : Int) (b : Bool) (F : Addr) (w : World) (h0 : w.cell? ⟨D, 0, none⟩ = some (.slice (some F) n n)) (h3 : w.cell? ⟨D, 3, none⟩ = some (.bool b)) :
    Calls Tryd.prog 35 #[.pointer (some ⟨D, 0, none⟩), .int .i64 i] w (ErrPost (codeZ b n i) w) := by
  by_cases hz : codeZ b n i = 0
  · obtain ⟨rfl, k, rfl, hk⟩ := codeZ_zero hz
    rw [codeZ_in hk]
    exact (refuse_yes D n k F w hk h0 h3).mono fun e w' ⟨he, hw⟩ => ⟨_, he, by rw [← hw]; exact ErrAt.nil _ _, by rw [← hw]; exact Below.refl _ _⟩
  · cases b
    · have hc : codeZ false n i = 1 := by
        unfold codeZ at hz ⊢
        rw [if_neg (by decide)] at hz ⊢
        split
        · rename_i h
          rw [if_pos h] at hz
          exact absurd rfl hz
        · rfl
      rw [hc]
      have hi : i < 0 ∨ (n : Int) ≤ i := by
        unfold codeZ at hc
        rw [if_neg (by decide)] at hc
        split at hc
        · cases hc
        · omega
      clear hc hz
      rcases hi with hi | hi
      · have hd : decide (i < 0) = true := by simpa using hi
        go_enter Tryd.func35, Tryd.ntmps35
        go_wp2_with fail
        refine (refuseDown_yes D _ h3).mono ?_
        rintro e w' ⟨rfl, rfl⟩
        go_wp2_with fail
        refine (fault_any 1 (by decide) _).mono ?_
        rintro e w' ⟨v, rfl, h1, h4⟩
        have H1 := Lib.hid h1
        have H4 := Lib.hid h4
        clear h1 h4
        go_wp2_with fail
        go_ret
        exact ⟨_, rfl, H1.out, H4.out⟩
      · have hd : decide (i < 0) = false := by simp; omega
        have hd2 : decide ((n : Int) ≤ i) = true := by simpa using hi
        go_enter Tryd.func35, Tryd.ntmps35
        go_wp2_with fail
        refine (refuseDown_yes D _ h3).mono ?_
        rintro e w' ⟨rfl, rfl⟩
        go_wp2_with fail
        refine (fault_any 1 (by decide) _).mono ?_
        rintro e w' ⟨v, rfl, h1, h4⟩
        have H1 := Lib.hid h1
        have H4 := Lib.hid h4
        clear h1 h4
        go_wp2_with fail
        go_ret
        exact ⟨_, rfl, H1.out, H4.out⟩
    · have hc : codeZ true n i = 7 := rfl
      rw [hc]
      go_enter Tryd.func35, Tryd.ntmps35
      go_wp2_with fail
      refine (refuseDown_any D true _ h3).mono ?_
      rintro e w' ⟨v, rfl, h1, h4⟩
      have H1 : Hid (ErrAt w' w.heap.size 7 v) := Lib.hid h1
      have H4 := Lib.hid h4
      obtain ⟨t, x, rfl⟩ := H1.out.some (by decide)
      clear h1 h4
      go_wp2_with fail
      go_ret
      exact ⟨_, rfl, H1.out, H4.out⟩

theorem Size_nil (w : World) : Calls Tryd.prog 36 #[.pointer none] w fun e w' => e = .returned (.int .i64 0) ∧ w = w' := by
  go_enter Tryd.func36, Tryd.ntmps36
  go_wp2_with fail
  go_ret
  exact ⟨rfl, rfl⟩
theorem Size_any {K : Nat → Prop} {D n : Nat} {d : Dk} {w : World} (h : DiskAt K w D n d) : Calls Tryd.prog 36 #[.pointer (some ⟨D, 0, none⟩)] w fun e w' => e = .returned (.int .i64 n) ∧ w = w' := by
  obtain ⟨F, S, v, h⟩ := h
  have h0 := h.c0
  clear h
  go_enter Tryd.func36, Tryd.ntmps36
  go_wp2_with fail
  go_ret
  exact ⟨rfl, rfl⟩
/-- a disk whose struct's cell j is written, and no other cell of it -/
theorem DiskIs.stays {K : Nat → Prop} {w w' : World} {D F S : Nat} {v : Value} {n : Nat} {d : Dk} (h : DiskIs K w D F S v n d) (hb : ∀ k, k ≠ D → w'.heap[k]? = w.heap[k]?) (d' : Dk) (v' : Value) (hd : d'.firm = d.firm) (hs : d'.seen = d.seen)
    (hv : (v' = v ∧ d'.soft = d.soft) ∨ (v' = .slice none 0 0 ∧ d'.soft = []))
    (c0 : w'.cell? ⟨D, 0, none⟩ = some (.slice (some ⟨F, 0, none⟩) n n)) (c1 : w'.cell? ⟨D, 1, none⟩ = some (.slice (some ⟨S, 0, none⟩) n n)) (c2 : w'.cell? ⟨D, 2, none⟩ = some v') (c3 : w'.cell? ⟨D, 3, none⟩ = some (.bool d'.down))
    (fz : ∀ j, w'.frozen? ⟨D, j, none⟩ = false) : DiskIs K w' D F S v' n d' := by
  have hF := hb F (Ne.symm h.df)
  have hS := hb S (Ne.symm h.ds)
  have hsoft : w'.ownsRow 0 80 129 v d.soft.length (softCells d.soft) := by
    obtain ⟨h1, h2⟩ := h.soft
    refine ⟨h1, ?_⟩
    rcases h2 with h2 | ⟨g, cap, cur, e1, e2, e3, e4⟩
    · exact .inl h2
    · exact .inr ⟨g, cap, cur, e1, e2, by rw [hb g (h.kv g (by rw [e1]; rfl)).2.1]; exact e3, e4⟩
  have hok : d'.Ok n := by
    refine ⟨by rw [hd]; exact h.ok.firm, by rw [hs]; exact h.ok.seen, by rw [hd]; exact h.ok.wf, by rw [hs]; exact h.ok.ws, ?_⟩
    rcases hv with ⟨_, e⟩ | ⟨_, e⟩
    · rw [e]; exact h.ok.fits
    · rw [e]; exact Fits.nil _
  refine ⟨hok, h.pos, c0, c1, c2, c3, fz, fun j => (World.frozen?_of_block (w := w) (a := ⟨F, j, none⟩) hF).trans (h.ff j), fun j => (World.frozen?_of_block (w := w) (a := ⟨S, j, none⟩) hS).trans (h.fs j),
    by rw [hd]; exact h.firm.carry hF, by rw [hs]; exact h.seen.carry hS, ?_, h.kd, h.kf, h.ks, ?_, h.df, h.ds, h.fsn⟩
  · rcases hv with ⟨rfl, e⟩ | ⟨rfl, e⟩
    · rw [e]; exact hsoft
    · rw [e]; exact World.ownsRow_nil w' _ _ _
  · rcases hv with ⟨rfl, e⟩ | ⟨rfl, e⟩
    · exact h.kv
    · intro g hg; cases hg
theorem setCell_heap_other (w : World) (D j : Nat) (u : Value) : ∀ k, k ≠ D → (w.setCell ⟨D, j, none⟩ u).heap[k]? = w.heap[k]? := fun k hk => Below.heap_setCell w ⟨D, j, none⟩ u k hk
end Go.Proofs.YtaolkmlgdhnhaaaDoor
