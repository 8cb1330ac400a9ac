/-
 PgLaw. Conditions: as each theorem says.
-/
import Derived.Test.YtafclmbecmgbnaaGreatDoorPgSpec
import Derived.Test.YtafclmbecmgbnaaGreatDoorSb
import Derived.Test.YtafclmbecmgbnaaGreatDoorDisks
namespace Go.Proofs.YtafclmbecmgbnaaGreatDoor
open Go.RowKit
theorem Kept.less8 {K L : Nat → Prop} {w w' : World} (h : Kept L w w') (hKL : ∀ k, K k → L k) : Kept K w w' := ⟨h.os, h.tape, h.output, h.size, fun k hk => h.block k (hKL k hk)⟩
structure LawP (O : PgOwn) (w0 : World) (K : Nat → Prop) (w : World) (P D n : Nat) (d : Dk) (s : Pst) (data firm : Nat → List UInt8) : Prop where
 pg : PgrAt O K w P D n d s
 inv : PInv n d s data firm
 up : d.down = false
 below : Below w0.heap.size w0 w
 low : ∀ k, k < w0.heap.size → K k
section
variable {O : PgOwn} {w0 : World} {K : Nat → Prop} {w w' : World} {P D n : Nat} {d : Dk} {s : Pst} {data firm : Nat → List UInt8}
theorem LawP.there (h : LawP O w0 K w P D n d s data firm) : There K w := by
 obtain ⟨B, _, _, h3, _⟩ := h.pg
 exact h3
theorem LawP.belowK (h : LawP O w0 K w P D n d s data firm) (hk : Kept K w w') : Below w0.heap.size w0 w' := h.below.trans ((hk.less8 h.low).below fun _ h => h)
theorem LawP.laid (h : LawP O w0 K w P D n d s data firm) (hg : Laid2 w0) : Laid2 w := hg.carry h.below
theorem LawP.laidK (h : LawP O w0 K w P D n d s data firm) (hg : Laid2 w0) : ∀ w', Kept K w w' → Laid2 w' := fun _ hk => hg.carry (h.belowK hk)
theorem LawP.turned {d' : Dk} {s' : Pst} {data' firm' : Nat → List UInt8} (h : LawP O w0 K w P D n d s data firm) (hp : PgrAt O K w' P D n d' s') (hk : Kept K w w') (hi : PInv n d' s' data' firm') (hu : d'.down = false) : LawP O w0 K w' P D n d' s' data' firm' :=
 ⟨hp, hi, hu, h.belowK hk, h.low⟩
variable (H : PgSpec O)
include H
theorem LawP.carry (h : LawP O w0 K w P D n d s data firm) (hb : Below w.heap.size w w') : LawP O w0 K w' P D n d s data firm :=
 ⟨H.pgCarry h.pg hb, h.inv, h.up, h.below.trans (hb.mono h.below.size), h.low⟩
theorem LawP.grow (h : LawP O w0 K w P D n d s data firm) (hb : Below w.heap.size w w') : LawP O w0 (fun k => K k ∨ (w.heap.size ≤ k ∧ k < w'.heap.size)) w' P D n d s data firm :=
 ⟨H.pgMore h.pg hb (fun k hk => hk.imp id fun h => h.1) (fun k hk => by
  rcases hk with hk | hk
  ·exact Nat.lt_of_lt_of_le (h.there k hk) hb.size
  ·exact hk.2), h.inv, h.up, h.below.trans (hb.mono h.below.size), fun k hk => .inl (h.low k hk)⟩
end
theorem Format_new {O : PgOwn} (H : PgSpec O) {w0 w1 w : World} {D n : Nat} (h3 : 3 ≤ n) (hn : n ≤ 240) (data : Nat → List UInt8) (hb0 : Below w0.heap.size w0 w1) (hd : DiskAt (· < w1.heap.size) w D n (Dk.new n)) (hb : Below w1.heap.size w1 w) (hg : Laid2 w0) :
  Calls Tryz.prog 16 #[ptr D] w fun e w' => ∃ P, e = .returned (.tuple #[ptr P, .nilIface]) ∧ LawP O w0 (· < w1.heap.size) w' P D n (switchD (Dk.new n) (Sb.bare 1)) (Pst.opened (Sb.bare 1)) data data := by
 have hbk : ∀ w', Kept (· < w1.heap.size) w w' → Below w0.heap.size w0 w' := fun w' hk => hb0.trans ((hb.trans (hk.below fun _ h => h)).mono hb0.size)
 refine (H.formatYes 1 hd (fun k hk => Nat.lt_of_lt_of_le hk hb.size) (fun w' hk => hg.carry (hbk w' hk)) rfl h3 (.inl ⟨bestD_new h3, rfl⟩) (by decide)).mono ?_
 rintro e w' ⟨P, rfl, hp, hk⟩
 exact ⟨P, rfl, hp, PInv.start h3 hn data, rfl, hbk w' hk, fun k hk => Nat.lt_of_lt_of_le hk hb0.size⟩
structure StIs (s : Pst) (fu fn fg : Nat → Bool) : Prop where
 u : ∀ k, k < 240 → Bits.has s.sup.used k = fu k
 n : ∀ k, k < 240 → Bits.has s.new k = fn k
 g : ∀ k, k < 240 → Bits.has s.gone k = fg k
def no1 : Nat → Bool := fun _ => false
theorem StIs.opened_bare (g : Nat) : StIs (Pst.opened (Sb.bare g)) no1 no1 no1 := ⟨fun k _ => has_none k, fun k _ => has_noSt k, fun k _ => has_noSt k⟩
section
variable {n : Nat} {d : Dk} {s : Pst} {data firm : Nat → List UInt8} {fu fn fg : Nat → Bool}
theorem StIs.first_some (h : StIs s fu fn fg) (hi : PInv n d s data firm) {k : Nat} (h2 : 2 ≤ k) (hn : k < n) (hk : (fu k || fn k) = false) (hall : ∀ m, 2 ≤ m → m < k → (fu m || fn m) = true) : s.first n = some k := by
 have hle := hi.le
 have h3 := hi.held.three
 have hb : ∀ m, m < 240 → Bits.has (Bits.both s.sup.used s.new) m = (fu m || fn m) := fun m hm => by rw [Bits.has_both hi.held.good.used hi.newOk hm, h.u m hm, h.n m hm]
 exact Bits.first_of h2 (by omega) (by rw [hb k (by omega)]; exact hk) fun m h1 h2 => by rw [hb m (by omega)]; exact hall m h1 h2
end
end Go.Proofs.YtafclmbecmgbnaaGreatDoor
