/-
 PgOpened. Conditions: as each theorem says.
-/
import Derived.Test.YtafclmbecmgbnaaGreatDoorPgLaw
namespace Go.Proofs.YtafclmbecmgbnaaGreatDoor
open Go.RowKit
theorem K3 {O : yD} (H : yE O) {w0 w : World} {K : Nat -> Prop} {P D n : Nat} {d : Dk} {s : Pst} {data firm : Nat -> List UInt8} (h : vE O w0 K w P D n d s data firm) {w1 : World} (m : Nat) (t : Int)
  (hd : zw K w1 D n (d.crash m t).up) (hk : zg K w w1) (hg : yH w0) :
  Calls Tryz.prog 27 #[ptr D] w1 fun e w' => ∃ Q, e = .returned (.tuple #[ptr Q, .nilIface]) /\ vE O w0 K w' Q D n (d.crash m t).up (Pst.opened s.sup) firm firm /\ Below w1.1.size w1 w' := by
 have hi := h.inv.crashed m t;have hb := h.belowK hk;refine (H.openYes hd (hg.carry hb).crc rfl hi.held.three hi.bestD hi.held.good).mono ?_;rintro e w' ⟨Q, B, rfl, ho, hB, hb2⟩;exact ⟨Q, rfl, ⟨zW.opened hd (fun k hh => Nat.lt_of_lt_of_le (h.there k hh) hk.size) ho hB hb2, hi, rfl, hb.trans (hb2.mono hb.size), h.low⟩, hb2⟩
end Go.Proofs.YtafclmbecmgbnaaGreatDoor
