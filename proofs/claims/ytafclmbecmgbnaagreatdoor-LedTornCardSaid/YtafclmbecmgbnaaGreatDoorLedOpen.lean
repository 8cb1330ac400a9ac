/-
 LedOpen. Conditions: as each theorem says.
-/
import Derived.Test.YtafclmbecmgbnaaGreatDoorLda
set_option maxRecDepth 100000
namespace Go.Proofs.YtafclmbecmgbnaaGreatDoor
open Go.RowKit
def Wa (O:ye) (w0:World) (K:Nat -> Prop) (w:World) (D n:Nat) (S:TS) (firm:Nat -> List UInt8) (e:Ending) (w':World):Prop :=
 ∃ P,e = .returned (.tuple #[ptr P,.nilIface]) /\ zX O w0 K w' P D n S firm /\ zf K w w'
def KE (O:ye) (w0:World) (K:Nat -> Prop) (w:World) (D n:Nat) (S:TS) (firm:Nat -> List UInt8) (z:Int) (e:Ending) (w':World):Prop :=
 zf K w w' /\ ((z = 0 /\ ∃ b P,e = .returned (.tuple #[ptr b,.nilIface]) /\ xc w' b P /\ w.1.size <= b /\ zX O w0 K w' P D n S firm) \/
   (z ≠ 0 /\ ∃ v,e = .returned (.tuple #[.pointer none,v]) /\ zi w' w.1.size z v))
section
variable {O:ye} (H:ym O)
include H
theorem XA {w0:World} {K:Nat -> Prop} {w:World} {D n:Nat} {S:TS} {firm:Nat -> List UInt8} (hg:yL w0) (ht:zR K w) (ho:Calls Tryz.prog 27 #[ptr D] w (Wa O w0 K w D n S firm)) {s:Sv} (h:Svd S S.s.sup.root s) :
  Calls Tryz.prog 43 #[ptr D] w (KE O w0 K w D n S firm (wholeZ S s)):=by
 have HO:=Hi ho;have HT:=Hi ht;have HS:=Hi h;clear ho ht h;obtain ⟨z,HZ⟩:∃ z,Hid (wholeZ S s = z):=⟨_,Hi (rfl)⟩
 rw [HZ.o]
 go_enter Tryz.func43,Tryz.ntmps43
 go_wp2_with fail;refine HO.o.mono ?_;rintro e w1 ⟨P,rfl,hl,hk⟩;have HL:=Hi hl;have HK:=Hi hk;clear hl hk;dsimp only;go_wp2_with fail;refine (KX H HL.o hg HS.o).mono ?_;rw [HZ.o];rintro e w2 ⟨v,rfl,he,hb⟩;have HL2:=Hi (HL.o.carry H hb);have HK2:=hI (zf K w w2) (HK.o.trans (zf.of_below hb fun k hk=>Nat.lt_of_lt_of_le (HT.o k hk) HK.o.size));have HE:=Hi (zi.mono he HK.o.size);clear he hb HL;dsimp only;by_cases hz:z = 0
 ·subst hz;obtain rfl:=HE.o.zero;obtain ⟨w3,HW3⟩:=hY (w2.alloc (.cells #[ptr P] 143));obtain ⟨b,HB⟩:=hY (w2.1.size);have HLD:=hI (xc w3 b P) (by rw [HW3.o,HB.o]; exact heap_alloc_new w2 _);have HB2:=hI (Below w2.1.size w2 w3) (by rw [HW3.o]; exact (Below.refl _ _).alloc (Nat.le_refl _) _);have HLE:=hI (w.1.size <= b) (by rw [HB.o]; exact HK2.o.size);go_wp2_with fail
  go_ret2
  rw [<- HB.o,<- HW3.o];exact ⟨HK2.o.trans (zf.of_below HB2.o fun k hk=>Nat.lt_of_lt_of_le (HT.o k hk) HK2.o.size),.inl ⟨rfl,b,P,rfl,HLD.o,HLE.o,HL2.o.carry H HB2.o⟩⟩
 ·obtain ⟨ty,x,rfl⟩:=HE.o.some hz;have HNZ:=Hi hz;clear hz;go_wp2_with fail;refine (yv _ w.1.size z _ w2 HE.o HK2.o.size).mono ?_;rintro e w3 ⟨v2,rfl,he,hb⟩;have HE3:=Hi he;have HK3:=hI (zf K w w3) (HK2.o.trans (zf.of_below hb fun k hk=>Nat.lt_of_lt_of_le (HT.o k hk) HK2.o.size));clear he hb;dsimp only;go_wp2_with fail
  go_ret2
  exact ⟨HK3.o,.inr ⟨HNZ.o,v2,rfl,HE3.o⟩⟩
end
