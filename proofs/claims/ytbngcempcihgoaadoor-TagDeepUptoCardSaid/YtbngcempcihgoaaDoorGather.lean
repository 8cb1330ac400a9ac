/-
  The contracts of errors.Unwrap, tag.gather and tag.Tags at an error that is a number, or nil, with tags around it: the tags, the outermost first. Condition: so many tags as fit a slice (at most 1000 here).
-/
import Derived.Test.YtbngcempcihgoaaDoorTag
import Derived.Deep.RegionLaw
import Derived.Deep.RegionHeld3
import Derived.Deep.AppendLies
import Derived.StillTactics
import Derived.OwnWalk
import Derived.Lib.Builder
namespace Go.Proofs.YtbngcempcihgoaaDoor
open Go.RowKit Go.Extern.Stop Go.Stop Go.Extern

/-- an error with tags around a number or nil, with how many rounds it takes to go down -/
inductive Links (w : World) : Nat → Value → List ByteArray → Prop
  | nil : Links w 0 .nilIface []
  | num (n : Int) : Links w 1 (.iface 29 (.int .i64 n)) []
  | tag (k b : Nat) (s : ByteArray) (v : Value) (l : List ByteArray) : w.cell? ⟨b, 0, none⟩ = some (.string s) → w.cell? ⟨b, 1, none⟩ = some v → b < w.heap.size →
      Links w k v l → Links w (k + 1) (.iface 36 (.pointer (some ⟨b, 0, none⟩))) (s :: l)
theorem Chain.links {w : World} {n : Int} {v : Value} {l : List ByteArray} (h : Chain w n v l) : ∃ k, Links w k v l := by
  induction h with
  | base => exact ⟨1, .num n⟩
  | tag b s t x l h0 h1 hlt _ ih =>
    obtain ⟨k, ih⟩ := ih
    exact ⟨k + 1, .tag k b s _ l h0 h1 hlt ih⟩
theorem Links.carry {w w' : World} {k : Nat} {v : Value} {l : List ByteArray} (h : Links w k v l) (hb : Below w.heap.size w w') : Links w' k v l := by
  induction h with
  | nil => exact .nil
  | num n => exact .num n
  | tag k b s v l h0 h1 hlt _ ih => exact .tag k b s v l ((hb.cell (p := ⟨b, 0, none⟩) hlt).trans h0) ((hb.cell (p := ⟨b, 1, none⟩) hlt).trans h1) (Nat.lt_of_lt_of_le hlt hb.size) ih

theorem Unwrap_tag (b : Nat) (v : Value) (w : World) (h1 : w.cell? ⟨b, 1, none⟩ = some v) :
    Calls Tryd.prog 32 #[.iface 36 (.pointer (some ⟨b, 0, none⟩))] w fun e w' => e = .returned v ∧ w = w' := by
  have a5 := Tryd.hasUnwrap36
  have m1 := Tryd.methodUnwrap
  go_enter Tryd.func32, Tryd.ntmps32
  go_wp2_with (go_at_call 17; refine (unwrap_some b _ _ h1).mono ?_; rintro e w' ⟨rfl, rfl⟩)
  go_ret
  exact ⟨rfl, rfl⟩
theorem Unwrap_num (n : Int) (w : World) :
    Calls Tryd.prog 32 #[.iface 29 (.int .i64 n)] w fun e w' => e = .returned .nilIface ∧ w = w' := by
  have a5 := Tryd.noUnwrap29
  go_enter Tryd.func32, Tryd.ntmps32
  go_wp2
  go_ret
  exact ⟨rfl, rfl⟩

theorem idle31 (w : World) : CallsD Tryd.prog 31 #[] .returning w fun e u' w' => e = .returned (.tuple #[]) ∧ u' = .returning ∧ w' = w := by
  refine callsD_of_wpS Tryd.func31 rfl fun c₀ cs hu => ?_
  apply wpS_region
  simp [wpOpsS, go_sem, recoverD, hu, Tryd.ntmps31, bodyPostS, results, Tryd.results31]
  cases c₀
  simp_all

/-- the variable of the tags that were gathered: block g, from B on, as the row that it owns -/
def TagsAt (B g : Nat) (l : List ByteArray) (w : World) : Prop :=
  B ≤ g ∧ ∃ v, w.heap[g]? = some (.cells #[v] 22 (0, 0)) ∧ w.ownsRow B 9 1 v l.length (l.map Value.string) ∧ v.ownBlock ≠ some g

theorem tagsAt_put {B g gg cap : Nat} {sv : Value} {done : List ByteArray} {s : ByteArray} {w : World} (hBg : B ≤ g) (hb : w.heap[g]? = some (.cells #[sv] 22 (0, 0)))
    (hown : w.ownsRow B 9 1 (.slice (some ⟨gg, 0, none⟩) (done.length + 1) cap) (done.length + 1) (done.map Value.string ++ [.string s])) :
    TagsAt B g (done ++ [s]) (w.setCell ⟨g, 0, none⟩ (.slice (some ⟨gg, 0, none⟩) (done.length + 1) cap)) := by
  have hne : (Value.slice (some ⟨gg, 0, none⟩) (done.length + 1) cap).ownBlock ≠ some g := Lib.ownBlock_ne hown hb (by decide)
  refine ⟨hBg, _, ?_, ?_, hne⟩
  · simp [World.setCell, Array.getElem?_modify, hb]
  · obtain ⟨h1, h2⟩ := hown
    refine ⟨by simp, ?_⟩
    rcases h2 with ⟨_, h2⟩ | ⟨g', cap', cur, hv, hg, hh, r⟩
    · omega
    · refine .inr ⟨g', cap', cur, by simpa using hv, hg, ?_, by simpa using r⟩
      rw [Below.heap_setCell _ _ _ _ (fun e => hne (by have e' : g' = g := e; rw [hv, e']; rfl))]
      exact hh

def GatherRel (B g : Nat) (L : List ByteArray) (w : World) (k : Nat) (e : Value) (wr : World) : Prop :=
  ∃ done rest, Links w k e rest ∧ TagsAt B g done wr ∧ Below B w wr ∧ done ++ rest = L

theorem Tryd.info9 : (Tryd.prog.info? 9).map (fun i => (i.zero, i.size, i.bytes)) = some (some (.string ⟨#[]⟩), 1, 16) := by kernel_rfl

set_option maxHeartbeats 4000000 in
set_option maxRecDepth 100000 in
theorem gather_any (B g k : Nat) (L : List ByteArray) (v : Value) (w w0 : World) (hl : Links w0 k v L) (hb0 : Below B w0 w) (hB : B = w0.heap.size) (hg : TagsAt B g [] w) (hL : L.length ≤ 1000) :
    Calls Tryd.prog 22 #[.pointer (some ⟨g, 0, none⟩), v] w fun e w' => e = .returned (.tuple #[]) ∧ TagsAt B g L w' ∧ Below B w0 w' := by
  obtain ⟨i0, hi0, hz0, hz1, hz2⟩ := info_parts Tryd.info9
  have a1 := Tryd.isTag36
  have a2 := Tryd.isTag29
  have a3 := Tryd.noUnwraps29
  have a4 := Tryd.noUnwraps36
  have HL := Lib.hid hl
  have HB0 := Lib.hid hb0
  have HG := Lib.hid hg
  have HB := Lib.hid hB
  clear hl hb0 hg hB
  go_enter_defers Tryd.func22, Tryd.ntmps22
  go_wp2
  go_loopg [1] k (fun k e wr => GatherRel B g L w0 k e wr)
  case atStart => exact ⟨[], L, HL.out, HG.out, HB0.out, rfl⟩
  case round =>
    obtain ⟨done, rest, hlk, htg, hbw, hd⟩ := hrel
    have HD := Lib.hid hd
    have HBW := Lib.hid hbw
    have HTG := Lib.hid htg
    clear hd hbw htg HL HB0 HG
    cases hlk with
    | nil =>
      go_wp2
      refine leaves_cons (f := 31) (args := #[]) (by simp) (by simp [go_sem]) ?_
      refine (idle31 _).mono ?_
      rintro e u' w'' ⟨rfl, rfl, rfl⟩
      have hT : TagsAt B g L w'' := by have h := HTG.out; have e := HD.out; rw [List.append_nil] at e; rw [← e]; exact h
      have hW := HBW.out
      simp [Leaves, settle, results, Tryd.results22, go_sem, hT, hW]
    | num n =>
      go_wp2_with fail
      refine (Unwrap_num n wr).mono ?_
      rintro e w' ⟨rfl, rfl⟩
      go_wp2
      go_roundg 0
      case measure => simp
      case rel => exact ⟨done, [], .nil, HTG.out, HBW.out, HD.out⟩
    | tag k' b s v' l h0 h1 hlt hlk' =>
      obtain ⟨hBg, sv, hbk, hown, hne⟩ := HTG.out
      have c0 : wr.cell? ⟨g, 0, none⟩ = some sv := by rw [Lib.cell_of_heap hbk]; rfl
      have f0 : wr.frozen? ⟨g, 0, none⟩ = false := Lib.frozen_of_heap hbk 0
      have hltB : b < B := by have := HB.out; omega
      have c1 : wr.cell? ⟨b, 0, none⟩ = some (.string s) := (HBW.out.cell (p := ⟨b, 0, none⟩) hltB).trans h0
      have C2 := Lib.hid ((HBW.out.cell (p := ⟨b, 1, none⟩) hltB).trans h1)
      have HLK := Lib.hid hlk'
      clear h0 h1 hlk'
      have hlen : done.length ≤ 1000 := by have := congrArg List.length HD.out; simp at this; omega
      have hgl : g < wr.heap.size := by
        rcases Nat.lt_or_ge g wr.heap.size with h' | h'
        · exact h'
        · simp [Array.getElem?_eq_none h'] at hbk
      have hbl : b < wr.heap.size := by have := HBW.out.size; omega
      have HBK := Lib.hid hbk
      clear hbk
      go_wp2_with fail
      refine wp_region_noPanic ?_
      go_region_law
        ((refine step_append_lies _ (by rfl) _ _ _ (by rfl) B 9 i0 _ 1 16 Tryd.underlying22 hi0 hz0 hz1 hz2 rfl (by omega) sv done.length (done.map Value.string) (by rfl) ((hown.alloc _).drew)
            ⟨wr.heap.size, 0, none⟩ 1 1 [.string s] (by rfl) (by rfl) (World.news_of_block (cs := #[.string s]) (t := 9) (fr := (0, 0)) (heap_alloc_new wr _)) (by simp [Value.oneCell'])
            (by omega) (by unfold maxLen; omega) (by omega) (by simp; omega) (wr.heap.size + 1) (by simp) ?_; intro gg cap w1 hown1 hgrow hat hlt1
          have hbk1 : w1.heap[g]? = some (.cells #[sv] 22 (0, 0)) := by
            rw [hgrow.block g (by simp; omega) (Ne.symm hne)]
            exact (Lib.alloc_old wr _ g hgl).trans HBK.out
          have fz : w1.frozen? ⟨g, 0, none⟩ = false := Lib.frozen_of_heap hbk1 0
          have cz : w1.cell? ⟨g, 0, none⟩ = some sv := by rw [Lib.cell_of_heap hbk1]; rfl
          have HBK1 := Lib.hid hbk1
          clear hbk1))
      all_goals
        refine NoPanic.normal ?_
        have hx : w1.heap[b]? = wr.heap[b]? := by
          rw [hgrow.block b (by simp; omega) (fun e => by have := (hown.lt _ e.symm).1; omega)]
          exact Lib.alloc_old wr _ b hbl
        have C3 := Lib.hid ((World.cell?_of_block (w := wr) (a := ⟨b, 1, none⟩) hx).trans C2.out)
        have HBW1 : Hid (Below B w0 w1) := (HBW.out.alloc (by have := HBW.out.size; have := HB.out; omega) _).drew.grown hgrow (by have := HBW.out.size; have := HB.out; simp; omega) (fun k hk => (hown.lt k hk).1)
        have HOWN := Lib.hid hown1
        clear hx hown1
        go_wp2_with fail
        refine (Unwrap_tag b v' _ ((World.cell?_setCell_other _ _ _ _ (fun e => by injection e with e; omega)).trans C3.out)).mono ?_
        rintro e w' ⟨rfl, rfl⟩
        go_wp2
        go_roundg k'
        case measure => simp
        case rel =>
          exact ⟨done ++ [s], l, HLK.out, tagsAt_put hBg HBK1.out HOWN.out, HBW1.out.setCell hBg _, by have := HD.out; simpa using this⟩

/-- what Tags answers: a slice of the call's own that holds the tags -/
def TagsPost (l : List ByteArray) (w : World) (e : Ending) (w' : World) : Prop :=
  ∃ A cap, e = .returned (.slice A l.length cap) ∧ Strs w' A l.length l ∧ Below w.heap.size w w'

theorem TagsAt.value {B g : Nat} {l : List ByteArray} {w : World} (h : TagsAt B g l w) : ∃ A cap, w.cell? ⟨g, 0, none⟩ = some (.slice A l.length cap) ∧ Strs w A l.length l := by
  obtain ⟨hBg, v, hbk, hown, hne⟩ := h
  have c0 : w.cell? ⟨g, 0, none⟩ = some v := by rw [Lib.cell_of_heap hbk]; rfl
  rcases hown.2 with ⟨hv, hx⟩ | ⟨gg, cap, cur, hv, hg, hh, r⟩
  · have hl : l = [] := by simpa using hx
    subst hl
    exact ⟨none, 0, by rw [c0, hv]; rfl, ⟨rfl, fun h => absurd h (by simp)⟩⟩
  · refine ⟨some ⟨gg, 0, none⟩, cap, by rw [c0, hv], ⟨rfl, fun hp => ⟨_, rfl, ?_, fun i s hs => ?_⟩⟩⟩
    · rcases Nat.lt_or_ge gg w.heap.size with h' | h'
      · exact h'
      · simp [Array.getElem?_eq_none h'] at hh
    · subst hv
      exact hown.cells (g := gg) rfl i _ (by rw [List.getElem?_map, hs]; rfl)

set_option maxHeartbeats 4000000 in
theorem Tags_any (k : Nat) (l : List ByteArray) (v : Value) (w : World) (hl : Links w k v l) (hL : l.length ≤ 1000) : Calls Tryd.prog 14 #[v] w (TagsPost l w) := by
  have hb : Below w.heap.size w (w.alloc (.cells #[.slice none 0 0] 22)) := (Below.refl _ _).alloc (Nat.le_refl _) _
  have hT : TagsAt w.heap.size w.heap.size [] (w.alloc (.cells #[.slice none 0 0] 22)) := ⟨Nat.le_refl _, _, heap_alloc_new w _, ⟨rfl, .inl ⟨rfl, rfl⟩⟩, by simp [Value.ownBlock]⟩
  have HG := Lib.hid (gather_any w.heap.size w.heap.size k l v _ w hl hb rfl hT hL)
  clear hl hb hT
  go_enter Tryd.func14, Tryd.ntmps14
  go_wp2_with fail
  refine HG.out.mono ?_
  rintro e w' ⟨rfl, ht, hb'⟩
  obtain ⟨A, cap, hc, hs⟩ := ht.value
  have HS := Lib.hid hs
  have HB := Lib.hid hb'
  clear hs hb' ht
  go_wp2
  go_ret
  exact ⟨A, cap, rfl, HS.out, HB.out⟩
end Go.Proofs.YtbngcempcihgoaaDoor
