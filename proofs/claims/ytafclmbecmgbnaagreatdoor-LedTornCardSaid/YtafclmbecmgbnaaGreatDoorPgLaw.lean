/-
 PgLaw. Conditions: as each theorem says.
-/
import Derived.Test.YtafclmbecmgbnaaGreatDoorPgSpec
namespace Go.Proofs.YtafclmbecmgbnaaGreatDoor
open Go.RowKit
theorem zf.less8 {K L:Nat -> Prop} {w w':World} (h:zf L w w') (hKL:∀ k,K k -> L k):zf K w w':=⟨h.os,h.tape,h.output,h.size,fun k hk=>h.block k (hKL k hk)⟩
def zfn (K:Nat -> Prop) (w:World) (c:Int) (v:Value):Prop:=∀ w',zf K w w' -> zb8 w' c v
theorem zfn.nil (K:Nat -> Prop) (w:World):zfn K w 0 .nilIface:=fun _ _=>.nil _
structure kM (O:ye) (w0:World) (K:Nat -> Prop) (w:World) (P D n:Nat) (d:Dk) (s:Pst) (data firm:Nat -> List UInt8):Prop where
 pg:zZ O K w P D n d s
 inv:yH n d s data firm
 up:d.down = false
 below:Below w0.1.size w0 w
 low:∀ k,k < w0.1.size -> K k
section
variable {O:ye} {w0:World} {K:Nat -> Prop} {w w':World} {P D n:Nat} {d:Dk} {s:Pst} {data firm:Nat -> List UInt8}
theorem kM.there (h:kM O w0 K w P D n d s data firm):zR K w:=by
 obtain ⟨B,_,_,h3,_⟩:=h.pg;exact h3
theorem kM.belowK (h:kM O w0 K w P D n d s data firm) (hk:zf K w w'):Below w0.1.size w0 w':=h.below.trans ((hk.less8 h.low).below fun _ h=>h)
theorem kM.laid (h:kM O w0 K w P D n d s data firm) (hg:yL w0):yL w:=hg.carry h.below
theorem kM.laidK (h:kM O w0 K w P D n d s data firm) (hg:yL w0):∀ w',zf K w w' -> yL w':=fun _ hk=>hg.carry (h.belowK hk)
theorem kM.turned {d':Dk} {s':Pst} {data' firm':Nat -> List UInt8} (h:kM O w0 K w P D n d s data firm) (hp:zZ O K w' P D n d' s') (hk:zf K w w') (hi:yH n d' s' data' firm') (hu:d'.down = false):kM O w0 K w' P D n d' s' data' firm' :=
 ⟨hp,hi,hu,h.belowK hk,h.low⟩
variable (H:ym O)
include H
theorem kM.carry (h:kM O w0 K w P D n d s data firm) (hb:Below w.1.size w w'):kM O w0 K w' P D n d s data firm :=
 ⟨H.pgCarry h.pg hb,h.inv,h.up,h.below.trans (hb.mono h.below.size),h.low⟩
theorem kM.grow (h:kM O w0 K w P D n d s data firm) (hb:Below w.1.size w w'):kM O w0 (fun k=>K k \/ (w.1.size <= k /\ k < w'.1.size)) w' P D n d s data firm :=
 ⟨H.pgMore h.pg hb (fun k hk=>hk.imp id fun h=>h.1) (fun k hk=>by
  rcases hk with hk | hk
  ·exact Nat.lt_of_lt_of_le (h.there k hk) hb.size
  ·exact hk.2),h.inv,h.up,h.below.trans (hb.mono h.below.size),fun k hk=>.inl (h.low k hk)⟩
end
theorem JU {O:ye} (H:ym O) {w0 w1 w:World} {D n:Nat} (h3:3 <= n) (hn:n <= 240) (data:Nat -> List UInt8) (hb0:Below w0.1.size w0 w1) (hd:zB (· < w1.1.size) w D n (Dk.new n)) (hb:Below w1.1.size w1 w) (hg:yL w0) :
  Calls Tryz.prog 16 #[ptr D] w fun e w'=>∃ P,e = .returned (.tuple #[ptr P,.nilIface]) /\ kM O w0 (· < w1.1.size) w' P D n (xM (Dk.new n) (Sb.bare 1)) (Pst.opened (Sb.bare 1)) data data:=by
 have hbk:∀ w',zf (· < w1.1.size) w w' -> Below w0.1.size w0 w':=fun w' hk=>hb0.trans ((hb.trans (hk.below fun _ h=>h)).mono hb0.size)
 refine (H.formatYes 1 hd (fun k hk=>Nat.lt_of_lt_of_le hk hb.size) (fun w' hk=>hg.carry (hbk w' hk)) rfl h3 (.inl ⟨zaX h3,rfl⟩) (by decide)).mono ?_;rintro e w' ⟨P,rfl,hp,hk⟩;exact ⟨P,rfl,hp,yH.start h3 hn data,rfl,hbk w' hk,fun k hk=>Nat.lt_of_lt_of_le hk hb0.size⟩
structure zco (s:Pst) (fu fn fg:Nat -> Bool):Prop where
 u:∀ k,k < 240 -> Bits.has s.sup.used k = fu k
 n:∀ k,k < 240 -> Bits.has s.new k = fn k
 g:∀ k,k < 240 -> Bits.has s.gone k = fg k
def no1:Nat -> Bool:=fun _=>false
theorem zco.opened_bare (g:Nat):zco (Pst.opened (Sb.bare g)) no1 no1 no1:=⟨fun k _=>has_none k,fun k _=>xn k,fun k _=>xn k⟩
section
variable {n:Nat} {d:Dk} {s:Pst} {data firm:Nat -> List UInt8} {fu fn fg:Nat -> Bool}
theorem zco.first_some (h:zco s fu fn fg) (hi:yH n d s data firm) {k:Nat} (h2:2 <= k) (hn:k < n) (hk:(fu k || fn k) = false) (hall:∀ m,2 <= m -> m < k -> (fu m || fn m) = true):s.first n = some k:=by
 have hle:=hi.le;have h3:=hi.held.three;have hb:∀ m,m < 240 -> Bits.has (Bits.both s.sup.used s.new) m = (fu m || fn m):=fun m hm=>by rw [Bits.has_both hi.held.good.used hi.newOk hm,h.u m hm,h.n m hm]
 exact Bits.first_of h2 (by omega) (by rw [hb k (by omega)]; exact hk) fun m h1 h2=>by rw [hb m (by omega)]; exact hall m h1 h2
end
