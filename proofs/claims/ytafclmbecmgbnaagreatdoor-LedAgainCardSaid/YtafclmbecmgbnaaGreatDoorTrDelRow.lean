/-
 TrDelRow. Conditions: as each theorem says.
-/
import Derived.Test.YtafclmbecmgbnaaGreatDoorTx
import Derived.Lib.RowBridge
set_option maxRecDepth 100000
open List renaming replicate -> zfi,take_append_of_le_length -> zgh
namespace Go.Proofs.YtafclmbecmgbnaaGreatDoor
open Go.RowKit
section
open Go.Shelf
def zeT:Ren:=⟨fun x=>match x with | 23=>139 | n=>n,fun x=>match x with | 22=>45 | 3=>3 | 4=>4 | 0=>0 | n=>n,fun x=>x⟩
theorem zer:Lays2.n23 Tryz.prog zeT where
 mixed:=by kernel_rfl
 f23:=by kernel_rfl
 t0:=by kernel_rfl
 a0:=fun _=>by kernel_rfl
 z0:=fun _=>by kernel_rfl
 v0:=fun _=>by kernel_rfl
 t3:=by kernel_rfl
 a3:=fun _=>by kernel_rfl
 z3:=fun _=>by kernel_rfl
 v3:=fun _=>by kernel_rfl
 t4:=by kernel_rfl
 a4:=fun _=>by kernel_rfl
 z4:=fun _=>by kernel_rfl
 v4:=fun _=>by kernel_rfl
 t22:=by kernel_rfl
 a22:=fun _=>by kernel_rfl
 z22:=fun _=>by kernel_rfl
 v22:=fun _=>by kernel_rfl
 i3:=by kernel_rfl
def zeU:Ren:=⟨fun x=>match x with | 24=>140 | n=>n,fun x=>match x with | 24=>46 | 9=>9 | 3=>3 | 4=>4 | 0=>0 | n=>n,fun x=>x⟩
theorem zes:Lays2.n24 Tryz.prog zeU where
 mixed:=by kernel_rfl
 f24:=by kernel_rfl
 t0:=by kernel_rfl
 a0:=fun _=>by kernel_rfl
 z0:=fun _=>by kernel_rfl
 v0:=fun _=>by kernel_rfl
 t3:=by kernel_rfl
 a3:=fun _=>by kernel_rfl
 z3:=fun _=>by kernel_rfl
 v3:=fun _=>by kernel_rfl
 t4:=by kernel_rfl
 a4:=fun _=>by kernel_rfl
 z4:=fun _=>by kernel_rfl
 v4:=fun _=>by kernel_rfl
 t9:=by kernel_rfl
 a9:=fun _=>by kernel_rfl
 z9:=fun _=>by kernel_rfl
 v9:=fun _=>by kernel_rfl
 t24:=by kernel_rfl
 a24:=fun _=>by kernel_rfl
 z24:=fun _=>by kernel_rfl
 v24:=fun _=>by kernel_rfl
 i9:=by kernel_rfl
end
theorem ya.ahead {w:World} {g:Nat} {e:TypeId} {l:List Value} (h:ya w g e l) (q:Nat):ya (w.drewN q) g e l:=h
theorem W9 {α:Type} [Inhabited α] {w:World} {g:Nat} {e:TypeId} {l:List Value} {enc:α -> Value} {zs:List α} (h:ya w g e l) (ht:l.take zs.length = zs.map enc):Go.Sort.Holds enc w g 0 zs.toArray:=by
 intro j hj;have hj:j < zs.length:=by simpa using hj
 refine ⟨?_,h.frozen _⟩;rw [h.cell,Nat.zero_add];have h1:(l.take zs.length)[j]? = (zs.map enc)[j]?:=by rw [ht]
 rw [List.getElem?_take,if_pos hj] at h1;rw [h1,List.getElem?_map,List.getElem?_eq_getElem hj,getElem!_pos zs.toArray j (by simpa using hj)];rfl
theorem QU {w:World} {b:Nat} {e:TypeId} {g n m c:Nat} {xs vs ys:List Value} (h:w.ownsRow b e 1 (.slice (some ⟨g,0,none⟩) n c) n xs) (hv:vs.length = n) (hm:m <= n) (hy:vs.take m = ys) (q:Nat) :
  ((w.drewN q).setCells g 0 vs).ownsRow b e 1 (.slice (some ⟨g,0,none⟩) m c) m ys /\ zr (fun k=>k = g) w ((w.drewN q).setCells g 0 vs):=by
 obtain ⟨l,h1,h2,h3,h4,h5,h6⟩:=xU h;have h7:=(h1.ahead q).setCells 0 vs (by omega);refine ⟨wK h7 ?_ ?_ (by omega) h5 h6,?_⟩
 ·simp only [List.take_zero,List.nil_append,List.length_append,List.length_drop]; omega
 ·rw [List.take_zero,List.nil_append,zgh (by omega),hy]
 ·exact (show zr (fun k=>k = g) w (w.drewN q) from ⟨rfl,rfl,rfl,Nat.le_refl _,fun _ _=>rfl⟩).setCells (.inl rfl) 0 vs
theorem qZ {α:Type} {zs:List α} {i:Nat} (hi:i < zs.length):(zs.take i ++ zs.drop (i + 1)).length = zs.length - 1:=by simp; omega
theorem zel {w:World} {b:Nat} {A:Option Addr} {c:Nat} {zs:List Int} (h:w.ownsRow b 3 1 (.slice A zs.length c) zs.length (zs.map (Value.int .i64))) {i:Nat} (hi:i < zs.length) :
  Calls Tryz.prog 139 #[.slice A zs.length c,.int .i64 (i:Int),.int .i64 ((i:Int) + 1)] w fun e w'=>e = .returned (.slice A (zs.take i ++ zs.drop (i + 1)).length c) /\
   w'.ownsRow b 3 1 (.slice A (zs.take i ++ zs.drop (i + 1)).length c) (zs.take i ++ zs.drop (i + 1)).length ((zs.take i ++ zs.drop (i + 1)).map (Value.int .i64)) /\ zr (fun k=>∃ a,A = some a /\ a.block = k) w w':=by
 obtain ⟨g,rfl,hc,hcm,_,_⟩:=yp h (by omega);obtain ⟨l,h1,h2,h3,h4,h5,h6⟩:=xU h;have hH:=W9 (enc:=Value.int .i64) h1 h3;have hk:=Any.slices_Delete_int zer g 0 c i (i + 1) zs w hH hc (by unfold maxLen at hcm; omega) (by omega) (by omega);refine (show Calls Tryz.prog 139 _ w _ from hk).mono ?_;rintro e w' ⟨rfl,q,rfl⟩;have hl:(zs.take i ++ zs.drop (i + 1) ++ zfi (i + 1 - i) 0).length = zs.length:=by simp; omega
 rw [Go.Lib.putRow_eq_setCells (Value.int .i64) w g 0 zs.toArray _ q hH (by rw [hl]; simp)];obtain ⟨h8,h9⟩:=QU h (m:=(zs.take i ++ zs.drop (i + 1)).length) (vs:=(zs.take i ++ zs.drop (i + 1) ++ zfi (i + 1 - i) 0).map (Value.int .i64)) (ys:=(zs.take i ++ zs.drop (i + 1)).map (Value.int .i64)) (by rw [List.length_map,hl]) (by rw [qZ hi]; omega)
  (by rw [List.map_append,zgh (by simp),List.take_of_length_le (by simp)]) q
 refine ⟨by rw [qZ hi,show i + 1 - i = 1 by omega],h8,h9.more fun k _ hk=>⟨_,rfl,hk.symm⟩⟩
theorem zem {w:World} {b:Nat} {A:Option Addr} {c:Nat} {zs:List ByteArray} (h:w.ownsRow b 9 1 (.slice A zs.length c) zs.length (zs.map Value.string)) {i:Nat} (hi:i < zs.length) :
  Calls Tryz.prog 140 #[.slice A zs.length c,.int .i64 (i:Int),.int .i64 ((i:Int) + 1)] w fun e w'=>e = .returned (.slice A (zs.take i ++ zs.drop (i + 1)).length c) /\
   w'.ownsRow b 9 1 (.slice A (zs.take i ++ zs.drop (i + 1)).length c) (zs.take i ++ zs.drop (i + 1)).length ((zs.take i ++ zs.drop (i + 1)).map Value.string) /\ zr (fun k=>∃ a,A = some a /\ a.block = k) w w':=by
 obtain ⟨g,rfl,hc,hcm,_,_⟩:=yp h (by omega);obtain ⟨l,h1,h2,h3,h4,h5,h6⟩:=xU h;obtain ⟨us,hus⟩:∃ us:List (List UInt8),us = zs.map fun s=>s.data.toList:=⟨_,rfl⟩
 have he:∀ ts:List ByteArray,(ts.map fun s=>s.data.toList).map Go.Proofs.encStr = ts.map Value.string:=fun ts=>by rw [List.map_map]; rfl
 have hul:us.length = zs.length:=by rw [hus,List.length_map]
 have hH:=W9 (enc:=Go.Proofs.encStr) (zs:=us) h1 (by rw [hul,h3,hus,he]);have hk:=Any.slices_Delete_string zes g 0 c i (i + 1) us w hH (by omega) (by unfold maxLen at hcm; omega) (by omega) (by omega);rw [hul] at hk;refine (show Calls Tryz.prog 140 _ w _ from hk).mono ?_;rintro e w' ⟨rfl,q,rfl⟩;have hl:(us.take i ++ us.drop (i + 1) ++ zfi (i + 1 - i) []).length = zs.length:=by simp [hul]; omega
 rw [Go.Lib.putRow_eq_setCells Go.Proofs.encStr w g 0 us.toArray _ q hH (by rw [hl]; simp [hul])];obtain ⟨h8,h9⟩:=QU h (m:=(zs.take i ++ zs.drop (i + 1)).length) (vs:=(us.take i ++ us.drop (i + 1) ++ zfi (i + 1 - i) []).map Go.Proofs.encStr) (ys:=(zs.take i ++ zs.drop (i + 1)).map Value.string) (by rw [List.length_map,hl]) (by rw [qZ hi]; omega)
  (by
   have hu:us.take i ++ us.drop (i + 1) = (zs.take i ++ zs.drop (i + 1)).map fun s=>s.data.toList:=by rw [hus,List.map_append,List.map_take,List.map_drop]
   rw [hu,List.map_append,he,zgh (by simp),List.take_of_length_le (by simp)]) q
 refine ⟨by rw [qZ hi,show i + 1 - i = 1 by omega],h8,h9.more fun k _ hk=>⟨_,rfl,hk.symm⟩⟩
