/-
 PgSpec. Conditions: as each theorem says.
-/
import Derived.Test.YtafclmbecmgbnaaGreatDoorSb
namespace Go.Proofs.YtafclmbecmgbnaaGreatDoor
open Go.RowKit
abbrev yq := (Nat -> Prop) -> World -> Nat -> Nat -> Pst -> Prop
def ya (O : yq) (K : Nat -> Prop) (w : World) (P D n : Nat) (d : Dk) (s : Pst) : Prop :=
 ∃ B : Nat -> Prop, O B w P D s /\ zF (fun b => K b \/ B b) w D n d /\ yd K w /\ ∀ b, B b -> ¬ K b
abbrev ptr (P : Nat) : Value := .pointer (some ⟨P, 0, none⟩)
def txt (l : List UInt8) : Value := .string ⟨l.toArray⟩
def Two (x : Value) (c : Int) (w : World) (e : Ending) (w' : World) : Prop := ∃ v, e = .returned (.tuple #[x, v]) /\ zi w' w.1.size c v /\ Below w.1.size w w'
def qg (s : Pst) (i : Int) : Bool := decide (0 <= i /\ i < 240) && s.isIn i.toNat
structure yA (O : yq) : Prop where
 lt : ∀ {B w P D s}, O B w P D s -> ∀ b, B b -> b < w.1.size
 carry : ∀ {B w w' P D s}, O B w P D s -> (∀ b, B b -> w'.1[b]? = w.1[b]?) -> O B w' P D s
 openNo : ∀ {K : Nat -> Prop} {w D n d}, zF K w D n d -> zO w -> ∀ c : Int, ((d.down = true /\ c = 7) \/ (d.down = false /\ n < 3 /\ c = 1) \/ (d.down = false /\ 3 <= n /\ Wr d none /\ c = 4)) -> Calls Tryz.prog 27 #[ptr D] w (Two (.pointer none) c w)
 openYes : ∀ {K : Nat -> Prop} {w D n d x}, zF K w D n d -> zO w -> d.down = false -> 3 <= n -> Wr d (some x) -> x.Ok -> Calls Tryz.prog 27 #[ptr D] w fun e w' =>
  ∃ P B, e = .returned (.tuple #[ptr P, .nilIface]) /\ O B w' P D (Pst.opened x) /\ (∀ b, B b -> w.1.size <= b) /\ Below w.1.size w w'
 formatNo : ∀ {K : Nat -> Prop} {w D n d}, zF K w D n d -> zO w -> d.down = false -> n < 3 -> Calls Tryz.prog 16 #[ptr D] w (Two (.pointer none) 1 w)
 formatYes : ∀ {K : Nat -> Prop} {w D n d} (g : Nat), zF K w D n d -> yd K w -> (∀ w', zg K w w' -> yO w') -> d.down = false -> 3 <= n -> (Wr d none /\ g = 1 \/ ∃ x, Wr d (some x) /\ x.Ok /\ g = x.gen + 1) -> g < 4294967296 ->
  Calls Tryz.prog 16 #[ptr D] w fun e w' => ∃ P, e = .returned (.tuple #[ptr P, .nilIface]) /\ ya O K w' P D n (xy d (Sb.bare g)) (Pst.opened (Sb.bare g)) /\ zg K w w'
 load : ∀ {K : Nat -> Prop} {w P D n d s data firm}, ya O K w P D n d s -> yP n d s data firm -> d.down = false -> zO w -> ∀ i : Int,
  Calls Tryz.prog 123 #[ptr P, .int .i64 i] w (Two (if qg s i = true then txt (data i.toNat) else txt []) (if qg s i = true then 0 else 4) w)
 newLong : ∀ {K : Nat -> Prop} {w P D n d s data firm}, ya O K w P D n d s -> yP n d s data firm -> d.down = false -> zO w -> ∀ t : ByteArray, 120 < t.size -> Calls Tryz.prog 30 #[ptr P, .string t] w (Two (.int .i64 0) 8 w)
 newFull : ∀ {K : Nat -> Prop} {w P D n d s data firm}, ya O K w P D n d s -> yP n d s data firm -> d.down = false -> zO w -> ∀ t : ByteArray, t.size <= 120 -> s.first n = none -> Calls Tryz.prog 30 #[ptr P, .string t] w (Two (.int .i64 0) 6 w)
 newYes : ∀ {K : Nat -> Prop} {w P D n d s data firm}, ya O K w P D n d s -> yP n d s data firm -> d.down = false -> (∀ w', zg K w w' -> yO w') -> d.soft.length <= 100000 -> ∀ t : ByteArray, t.size <= 120 -> ∀ k, s.first n = some k ->
  Calls Tryz.prog 30 #[ptr P, .string t] w fun e w' => e = .returned (.tuple #[.int .i64 (k : Int), .nilIface]) /\ ya O K w' P D n (d.write k (pgB (wW t.data.toList))) (s.at_ k) /\ zg K w w'
 dropNo : ∀ {K : Nat -> Prop} {w P D n d s data firm}, ya O K w P D n d s -> yP n d s data firm -> ∀ i : Int, vV s.used i = false -> Calls Tryz.prog 106 #[ptr P, .int .i64 i] w (yN 4 w.1.size w)
 dropYes : ∀ {K : Nat -> Prop} {w P D n d s data firm}, ya O K w P D n d s -> yP n d s data firm -> ∀ k, k < 240 -> Bits.has s.used k = true ->
  Calls Tryz.prog 106 #[ptr P, .int .i64 (k : Int)] w fun e w' => e = .returned .nilIface /\ ya O K w' P D n d (s.drop k) /\ zg K w w'
 commitNo : ∀ {K : Nat -> Prop} {w P D n d s data firm}, ya O K w P D n d s -> yP n d s data firm -> ∀ r : Int, rootOk s r = false -> Calls Tryz.prog 22 #[ptr P, .int .i64 r] w (yN 1 w.1.size w)
 commitYes : ∀ {K : Nat -> Prop} {w P D n d s data firm}, ya O K w P D n d s -> yP n d s data firm -> d.down = false -> (∀ w', zg K w w' -> yO w') -> ∀ r : Int, rootOk s r = true -> s.sup.gen + 1 < 4294967296 ->
  Calls Tryz.prog 22 #[ptr P, .int .i64 r] w fun e w' => e = .returned .nilIface /\ ya O K w' P D n (xy d (s.next r)) (s.commit r) /\ zg K w w'
 abort : ∀ {B w P D s}, O B w P D s -> Calls Tryz.prog 23 #[ptr P] w fun e w' => e = .returned (.tuple #[]) /\ ∃ B', O B' w' P D s.abort /\ (∀ b, B' b -> B b \/ w.1.size <= b) /\ zg (fun b => b < w.1.size /\ ¬ B b) w w'
 root : ∀ {B w P D s}, O B w P D s -> Calls Tryz.prog 19 #[ptr P] w fun e w' => e = .returned (.int .i64 s.sup.root) /\ Below w.1.size w w'
 gen : ∀ {B w P D s}, O B w P D s -> Calls Tryz.prog 53 #[ptr P] w fun e w' => e = .returned (.int .u32 (s.sup.gen : Int)) /\ Below w.1.size w w'
 used : ∀ {K : Nat -> Prop} {w P D n d s data firm}, ya O K w P D n d s -> yP n d s data firm -> Calls Tryz.prog 36 #[ptr P] w fun e w' => e = .returned (stV s.used) /\ Below w.1.size w w'
 nilLoad : ∀ w i, Calls Tryz.prog 123 #[.pointer none, .int .i64 i] w (Two (txt []) 9 w)
 nilNew : ∀ w t, Calls Tryz.prog 30 #[.pointer none, .string t] w (Two (.int .i64 0) 9 w)
 nilDrop : ∀ w i, Calls Tryz.prog 106 #[.pointer none, .int .i64 i] w (yN 9 w.1.size w)
 nilCommit : ∀ w i, Calls Tryz.prog 22 #[.pointer none, .int .i64 i] w (yN 9 w.1.size w)
 nilAbort : ∀ w, Calls Tryz.prog 23 #[.pointer none] w fun e w' => e = .returned (.tuple #[]) /\ Below w.1.size w w'
 nilRoot : ∀ w, Calls Tryz.prog 19 #[.pointer none] w fun e w' => e = .returned (.int .i64 0) /\ Below w.1.size w w'
 nilGen : ∀ w, Calls Tryz.prog 53 #[.pointer none] w fun e w' => e = .returned (.int .u32 0) /\ Below w.1.size w w'
 nilUsed : ∀ w, Calls Tryz.prog 36 #[.pointer none] w fun e w' => e = .returned (stV zY) /\ Below w.1.size w w'
section
variable {O : yq} (H : yA O)
include H
theorem yA.pgCarry {K : Nat -> Prop} {w w' : World} {P D n : Nat} {d : Dk} {s : Pst} (h : ya O K w P D n d s) (hb : Below w.1.size w w') : ya O K w' P D n d s := by
 obtain ⟨B, h1, h2, h3, h4⟩ := h;exact ⟨B, H.carry h1 fun b hb2 => hb.block b (H.lt h1 b hb2), h2.carry hb, fun k hk => Nat.lt_of_lt_of_le (h3 k hk) hb.size, h4⟩
theorem yA.pgMore {K L : Nat -> Prop} {w w' : World} {P D n : Nat} {d : Dk} {s : Pst} (h : ya O K w P D n d s) (hb : Below w.1.size w w') (hL : ∀ k, L k -> K k \/ w.1.size <= k) (ht : yd L w') : ya O L w' P D n d s := by
 obtain ⟨B, h1, h2, h3, h4⟩ := h;refine ⟨B, H.carry h1 fun b hb2 => hb.block b (H.lt h1 b hb2), h2.more hb fun k hk => ?_, ht, fun b hb2 hl => ?_⟩
 ·rcases hk with hk | hk
  ·rcases hL k hk with h5 | h5
   ·exact .inl (.inl h5)
   ·exact .inr h5
  ·exact .inl (.inr hk)
 ·rcases hL b hl with h5 | h5
  ·exact h4 b hb2 h5
  ·have := H.lt h1 b hb2;omega
omit H in
theorem ya.disk {K : Nat -> Prop} {w : World} {P D n : Nat} {d : Dk} {s : Pst} (h : ya O K w P D n d s) : zF K w D n d := by
 obtain ⟨B, h1, h2, h3, h4⟩ := h;exact h2.more (Below.refl _ _) fun k hk => .inl (.inl hk)
omit H in
theorem ya.opened {K : Nat -> Prop} {B : Nat -> Prop} {w w' : World} {P D n : Nat} {d : Dk} {s : Pst} (hd : zF K w D n d) (ht : yd K w) (ho : O B w' P D s) (hB : ∀ b, B b -> w.1.size <= b) (hb : Below w.1.size w w') : ya O K w' P D n d s := by
 refine ⟨B, ho, hd.more hb fun k hk => ?_, fun k hk => Nat.lt_of_lt_of_le (ht k hk) hb.size, fun b h1 h2 => ?_⟩
 ·rcases hk with hk | hk
  ·exact .inl hk
  ·exact .inr (hB k hk)
 ·have := ht b h2;have := hB b h1;omega
theorem yA.pgRoot {K : Nat -> Prop} {w : World} {P D n : Nat} {d : Dk} {s : Pst} (h : ya O K w P D n d s) : Calls Tryz.prog 19 #[ptr P] w fun e w' => e = .returned (.int .i64 s.sup.root) /\ Below w.1.size w w' := by
 obtain ⟨B, h1, _⟩ := h;exact H.root h1
end
theorem zF.off {K B L : Nat -> Prop} {w w' : World} {D n : Nat} {d : Dk} (h : zF K w D n d) (hB : ∀ b, B b -> K b) (hk : zg (fun b => b < w.1.size /\ ¬ B b) w w') (hL : ∀ k, L k -> K k \/ w.1.size <= k) : zF L w' D n d := by
 obtain ⟨F, S, v, h⟩ := h;have hD : D < w.1.size := yi h.c0;have hF := h.firm.lt (by rw [h.ok.firm]; exact h.pos);have hS := h.seen.lt (by rw [h.ok.seen]; exact h.pos);have bk : ∀ b, b < w.1.size -> ¬ K b -> w'.1[b]? = w.1[b]? := fun b h1 h2 => hk.block b ⟨h1, fun h3 => h2 (hB b h3)⟩
 have nl : ∀ b, b < w.1.size -> ¬ K b -> ¬ L b := fun b h1 h2 h3 => by
  rcases hL b h3 with h4 | h4
  ·exact h2 h4
  ·omega
 have bD := bk D hD h.kd;have bF := bk F hF h.kf;have bS := bk S hS h.ks;refine ⟨F, S, v, h.ok, h.pos, (World.cell?_of_block (w := w) (a := ⟨D, 0, none⟩) bD).trans h.c0, (World.cell?_of_block (w := w) (a := ⟨D, 1, none⟩) bD).trans h.c1, (World.cell?_of_block (w := w) (a := ⟨D, 2, none⟩) bD).trans h.c2, (World.cell?_of_block (w := w) (a := ⟨D, 3, none⟩) bD).trans h.c3,
  fun j => (World.frozen?_of_block (w := w) (a := ⟨D, j, none⟩) bD).trans (h.fz j), fun j => (World.frozen?_of_block (w := w) (a := ⟨F, j, none⟩) bF).trans (h.ff j), fun j => (World.frozen?_of_block (w := w) (a := ⟨S, j, none⟩) bS).trans (h.fs j),
  h.firm.carry bF, h.seen.carry bS, ?_, nl D hD h.kd, nl F hF h.kf, nl S hS h.ks, fun g hg => ⟨nl g (h.soft.lt g hg).2 (h.kv g hg).1, (h.kv g hg).2⟩, h.df, h.ds, h.fsn⟩
 obtain ⟨h1, h2⟩ := h.soft;refine ⟨h1, ?_⟩;rcases h2 with h2 | ⟨g, cap, cur, e1, e2, e3, e4⟩
 ·exact .inl h2
 ·refine .inr ⟨g, cap, cur, e1, e2, ?_, e4⟩;have hg : v.ownBlock = some g := by rw [e1]; rfl
  rw [bk g (h.soft.lt g hg).2 (h.kv g hg).1];exact e3
section
variable {O : yq} (H : yA O)
include H
end
end Go.Proofs.YtafclmbecmgbnaaGreatDoor
