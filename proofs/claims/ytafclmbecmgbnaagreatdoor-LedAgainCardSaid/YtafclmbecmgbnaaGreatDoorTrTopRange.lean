/-
 TrTopRange. Conditions: as each theorem says.
-/
import Derived.Test.YtafclmbecmgbnaaGreatDoorTq
import Derived.Laws.EntriesVeiled
set_option maxRecDepth 100000
set_option maxHeartbeats 2000000
open Nat renaming le_refl -> ze3
namespace Go.Proofs.YtafclmbecmgbnaaGreatDoor
open Go.RowKit
def WS (w:World) (R:Except Int (List (Int × ByteArray))) (e:Ending) (w':World):Prop :=
 Below w.1.size w w' /\ match R with
 | .error c=>c ≠ 0 /\ ∃ v,e = .returned (.tuple #[.slice none 0 0,v]) /\ zi w' w.1.size c v
 | .ok l=>∃ A cap,e = .returned (.tuple #[.slice A l.length cap,.nilIface]) /\ w'.ownsRow w.1.size 97 2 (.slice A l.length cap) l.length (yv l)
section
variable {O:zV} (H:ye O)
include H
theorem jq {w0:World} {P D n:Nat} {S:TS} {firm:Nat -> List UInt8} (hg:yC w0) {K:Nat -> Prop} {w:World} (hl:zP O w0 K w P D n S firm) (root from_ to_:Int) :
  Calls Tryz.prog 34 #[ptr P,.int .i64 root,.int .i64 from_,.int .i64 to_] w (WS w (wA S root from_ to_)):=by
 by_cases h0:root = 0
 ·subst h0;have HR:=hI (wA S 0 from_ to_ = .ok []) rfl;rw [HR.o];clear hl;obtain ⟨w1,HW1⟩:=hY (w.alloc (.cells #[ptr P] 30));have HB1:=hI (Below w.1.size w w1) (by rw [HW1.o]; exact bA)
  go_enter Tryz.func34,Tryz.ntmps34
  go_upto_region 1 with (fail)
  rw [<- HW1.o];clear HW1;go_wp2_with fail
  go_ret2
  exact ⟨HB1.o,none,0,rfl,World.ownsRow_nil _ _ _ _⟩
 ·obtain ⟨R,HRR⟩:=hY (wA S root from_ to_);have HRM:=hI (R = xh 12 S root from_ to_) (by rw [HRR.o]; unfold wA; rw [if_neg h0]);rw [<- HRR.o];have HL:=Hi hl;have hz:(root == 0) = false:=by simp [h0]
  clear hl h0 HRR;obtain ⟨a,HA⟩:=hY (w.1.size);obtain ⟨r,HRC⟩:=hY (a + 1);obtain ⟨g,HG⟩:=hY (r + 1);obtain ⟨w3,HW3⟩:=hY (((w.alloc (.cells #[ptr P] 30)).alloc (.cells #[.slice none 0 0] 58)).alloc (.cells #[.nilFunc] 138));have HB3:=hI (Below w.1.size w w3 /\ w3.1.size = w.1.size + 3) (by rw [HW3.o]; exact ⟨(((Below.refl _ _).alloc (ze3 _) _).alloc (by simp) _).alloc (by simp; omega) _,by simp⟩);have HX3:=hI (w3.cell? ⟨a,0,none⟩ = some (ptr P) /\ w3.cell? ⟨r,0,none⟩ = some (.slice none 0 0) /\ w3.cell? ⟨g,0,none⟩ = some .nilFunc /\ w3.frozen? ⟨r,0,none⟩ = false /\ w3.frozen? ⟨g,0,none⟩ = false) (by
   rw [HW3.o];obtain ⟨wa,hwa⟩:∃ wa,wa = w.alloc (.cells #[ptr P] 30):=⟨_,rfl⟩
   have hsa:wa.1.size = w.1.size + 1:=by rw [hwa]; simp
   have e1:wa.cell? ⟨w.1.size,0,none⟩ = some (ptr P):=by rw [hwa]; simp
   rw [<- hwa];obtain ⟨wb,hwb⟩:∃ wb,wb = wa.alloc (.cells #[.slice none 0 0] 58):=⟨_,rfl⟩
   have hsb:wb.1.size = wa.1.size + 1:=by rw [hwb]; simp
   have hab:Below wa.1.size wa wb:=by rw [hwb]; exact bA
   have e2:wb.cell? ⟨wa.1.size,0,none⟩ = some (.slice none 0 0):=by rw [hwb]; simp
   have f2:wb.frozen? ⟨wa.1.size,0,none⟩ = false:=by rw [hwb]; exact zU _ _ _ _
   rw [<- hwb];have hbc:Below wb.1.size wb (wb.alloc (.cells #[.nilFunc] 138)):=(Below.refl _ _).alloc (ze3 _) _;have e3:(wb.alloc (.cells #[.nilFunc] 138)).cell? ⟨wb.1.size,0,none⟩ = some .nilFunc:=by simp
   have f3:=zU wb #[.nilFunc] 138 0;rw [hsb,hsa] at e3 f3;rw [hsa] at e2 f2;rw [HG.o,HRC.o,HA.o];exact ⟨(hbc.cell (p:=⟨w.1.size,0,none⟩) (by show w.1.size < _; omega)).trans ((hab.cell (p:=⟨w.1.size,0,none⟩) (by show w.1.size < _; omega)).trans e1),(hbc.cell (p:=⟨w.1.size + 1,0,none⟩) (by show w.1.size + 1 < _; omega)).trans e2,e3,(World.frozen?_of_block (w:=wb) (a:=⟨w.1.size + 1,0,none⟩) (hbc.block (w.1.size + 1) (by omega))).trans f2,f3⟩)
  go_enter Tryz.func34,Tryz.ntmps34
  go_upto_region 5 with (fail)
  rw [<- HW3.o,<- HA.o,<- HRC.o,<- HG.o];clear HW3;have c0:=HX3.o.2.2.1;have f0:=HX3.o.2.2.2.2;obtain ⟨w4,HW4⟩:=hY (w3.setCell ⟨g,0,none⟩ (QO a r g));have HPL:=hI (a = w.1.size /\ r = w.1.size + 1 /\ g = w.1.size + 2) (by rw [HG.o,HRC.o,HA.o]; omega);have HB4:=hI (Below w.1.size w w4 /\ w4.1.size = w.1.size + 3) (by
   rw [HW4.o];exact ⟨HB3.o.1.setCell (by have:=HPL.o; show w.1.size <= g; omega) _,by rw [World.heap_setCell_size9]; exact HB3.o.2⟩)
  have HS4:=hI (RgS P a r g w4.1.size [] none 0 w4) (by
   have hp:=HPL.o;have hs:=HB4.o.2;have far:∀ i,i ≠ g -> w4.1[i]? = w3.1[i]?:=fun i hi=>by rw [HW4.o]; exact World.heap_setCell_far9 _ _ _ (by exact hi)
   refine ⟨(World.cell?_of_block (w:=w3) (a:=⟨a,0,none⟩) (far a (by omega))).trans HX3.o.1,by rw [HW4.o]; exact World.cell?_setCell_same _ _ _ HX3.o.2.2.1,(World.cell?_of_block (w:=w3) (a:=⟨r,0,none⟩) (far r (by omega))).trans HX3.o.2.1,
    (World.frozen?_of_block (w:=w3) (a:=⟨r,0,none⟩) (far r (by omega))).trans HX3.o.2.2.2.1,World.ownsRow_nil _ _ _ _,by omega,by omega,by omega,by omega,by omega,ze3 _⟩)
  go_upto_region 6 with (fail)
  rw [<- HW4.o];clear HW4 c0 f0;have HCL:=Hi (zdX H hg (by have:=HPL.o; have:=HL.o.below.size; omega) (by have:=HB4.o.2; have:=HL.o.below.size; omega) 12 (ze3 _) (HL.o.grow H HB4.o.1) HS4.o (.inr (by have:=HPL.o; have:=HB4.o.2; omega)) (fun y hy=>by cases hy) (by show 0 + 8 ^ 12 <= 68719476736; decide) root from_ to_);rw [show (13:Int) - ((12:Nat):Int) = 1 from rfl,<- HRM.o] at HCL;have cg:=HS4.o.cg;go_wp2_with fail;refine HCL.o.mono ?_;rintro e w5 ⟨out5,A5,c5,hS5,hT5,-,-,hm5⟩;have HB5:=hI (Below w.1.size w w5) (HB4.o.1.trans (hT5.below HB4.o.1.size fun k hk=>by
   rcases hk with hk | ⟨y,hy,_⟩
   ·have:=HPL.o; omega
   ·cases hy))
  cases R with
  | error cd =>
   obtain ⟨hc,v,rfl,he⟩:=hm5;obtain ⟨tt,xx,rfl⟩:=he.some hc;have HE:=Hi (he.mono HB4.o.1.size);have HC0:=Hi hc;clear hS5 hT5 hc he HCL cg;go_wp2_with fail
   go_ret2
   exact ⟨HB5.o,HC0.o,_,rfl,HE.o⟩
  | ok l =>
   obtain ⟨rfl,rfl⟩:=hm5;have HS5:=Hi hS5;have cr:=hS5.cr;clear hS5 hT5 HCL cg;go_wp2_with fail
   go_ret2
   exact ⟨HB5.o,A5,c5,rfl,yM HS5.o.own HB4.o.1.size⟩
end
