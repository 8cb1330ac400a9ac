/-
  Frames. Conditions: as said.
-/
import Derived.Test.YtafclmbecmgbnaaGreatDoorDisks
import Derived.Lib.LazyBuf
set_option maxRecDepth 100000
set_option maxHeartbeats 4000000
open List renaming replicate -> zfY,length_take -> zfZ,length_append -> zf0
open Nat renaming le_refl -> zfI,zero_add -> zfP
namespace Go.Proofs.YtafclmbecmgbnaaGreatDoor
open Go.RowKit
section
inductive yZ (w:World) (lo:Nat) (c:Int):Value -> Prop
 | base:yZ w lo c (.iface 109 (.int .i64 c))
 | tag (b:Nat) (s:ByteArray) (t:TypeId) (x:Value):lo <= b -> b < w.1.size -> w.cell? ⟨b,0,none⟩ = some (.string s) -> w.cell? ⟨b,1,none⟩ = some (.iface t x) ->
   yZ w lo c (.iface t x) -> yZ w lo c (.iface 153 (.pointer (some ⟨b,0,none⟩)))
theorem yZ.form {w:World} {lo:Nat} {c:Int} {v:Value} (h:yZ w lo c v):∃ t x,v = .iface t x:=by cases h <;> exact ⟨_,_,rfl⟩
theorem yZ.chain {w:World} {lo:Nat} {c:Int} {v:Value} (h:yZ w lo c v):∃ l,vy w c v l:=by
 induction h with
 | base=>exact ⟨[],.base⟩
 | tag b s t x _ h1 h2 h3 _ ih =>
  obtain ⟨l,hl⟩:=ih;exact ⟨s :: l,.tag b s t x l h2 h3 h1 hl⟩
theorem yZ.carry {w w':World} {lo:Nat} {c:Int} {v:Value} (h:yZ w lo c v) (hs:w.1.size <= w'.1.size) (hb:∀ b,lo <= b -> b < w.1.size -> w'.1[b]? = w.1[b]?):yZ w' lo c v:=by
 induction h with
 | base=>exact .base
 | tag b s t x h0 h1 h2 h3 _ ih =>
  have e:=hb b h0 h1;exact .tag b s t x h0 (Nat.lt_of_lt_of_le h1 hs) ((World.cell?_of_block (w:=w) (a:=⟨b,0,none⟩) e).trans h2) ((World.cell?_of_block (w:=w) (a:=⟨b,1,none⟩) e).trans h3) ih
theorem yZ.mono {w:World} {lo lo':Nat} {c:Int} {v:Value} (h:yZ w lo c v) (hl:lo' <= lo):yZ w lo' c v:=by
 induction h with
 | base=>exact .base
 | tag b s t x h0 h1 h2 h3 _ ih=>exact .tag b s t x (Nat.le_trans hl h0) h1 h2 h3 ih
def zi (w:World) (lo:Nat) (c:Int) (v:Value):Prop:=(c = 0 /\ v = .nilIface) \/ (c ≠ 0 /\ yZ w lo c v)
theorem zi.zero {w:World} {lo:Nat} {v:Value} (h:zi w lo 0 v):v = .nilIface:=by
 rcases h with ⟨_,h⟩ | ⟨h,_⟩
 ·exact h
 ·exact absurd rfl h
theorem zi.some {w:World} {lo:Nat} {c:Int} {v:Value} (h:zi w lo c v) (hc:c ≠ 0):∃ t x,v = .iface t x:=by
 rcases h with ⟨h,_⟩ | ⟨_,h⟩
 ·exact absurd h hc
 ·exact h.form
theorem zi.nil (w:World) (lo:Nat):zi w lo 0 .nilIface:=.inl ⟨rfl,rfl⟩
theorem zi.carry {w w':World} {lo:Nat} {c:Int} {v:Value} (h:zi w lo c v) (hs:w.1.size <= w'.1.size) (hb:∀ b,lo <= b -> b < w.1.size -> w'.1[b]? = w.1[b]?):zi w' lo c v:=by
 rcases h with h | ⟨hc,h⟩
 ·exact .inl h
 ·exact .inr ⟨hc,h.carry hs hb⟩
theorem zi.below {w w':World} {lo:Nat} {c:Int} {v:Value} (h:zi w lo c v) (hb:Below w.1.size w w'):zi w' lo c v:=h.carry hb.size fun b _ hl=>hb.block b hl
theorem zi.mono {w:World} {lo lo':Nat} {c:Int} {v:Value} (h:zi w lo c v) (hl:lo' <= lo):zi w lo' c v:=by
 rcases h with h | ⟨hc,h⟩
 ·exact .inl h
 ·exact .inr ⟨hc,h.mono hl⟩
theorem kC.from_ {w:World} {lo:Nat} {c:Int} {v:Value} (h:kC w lo c v):zi w lo c v:=by
 rcases h with h | ⟨hc,b,s,h0,h1,rfl,h2,h3⟩
 ·exact .inl h
 ·exact .inr ⟨hc,.tag b s _ _ h0 h1 h2 h3 .base⟩
def xb (c:Int) (lo:Nat) (w:World) (e:Ending) (w':World):Prop:=∃ v,e = .returned v /\ zi w' lo c v /\ Below w.1.size w w'
theorem yv (s:ByteArray) (lo:Nat) (c:Int) (v:Value) (w:World) (h:zi w lo c v) (hlo:lo <= w.1.size):Calls Tryz.prog 59 #[.string s,v] w (xb c lo w):=by
 rcases h with ⟨rfl,rfl⟩ | ⟨hc,h⟩
 ·refine (V4 s w).mono ?_;rintro e w' ⟨rfl,rfl⟩;exact ⟨_,rfl,.nil _ _,Below.refl _ _⟩
 ·obtain ⟨t,x,rfl⟩:=h.form;refine (Wg s t x w).mono ?_;rintro e w' ⟨rfl,rfl⟩;have hb:Below w.1.size w (w.alloc (.cells #[.string s,.iface t x] 155)):=(Below.refl _ _).alloc (zfI _) _;exact ⟨_,rfl,.inr ⟨hc,.tag _ s t x hlo (by simp) (by simp) (by simp) (h.carry hb.size fun b _ hl=>hb.block b hl)⟩,hb⟩
theorem xV (c:Int) (hc:c ≠ 0) (w:World):Calls Tryz.prog 145 #[.int .i64 c] w (xb c w.1.size w):=by
 have H:=Hi hc;clear hc
 go_enter Tryz.func145,Tryz.ntmps145
 go_wp2_with fail;refine (yv _ w.1.size c _ w (.inr ⟨H.o,.base⟩) (zfI _)).mono ?_;rintro e w' ⟨v,rfl,h1,h4⟩;have H1:=Hi h1;have H4:=Hi h4;clear h1 h4;go_wp2_with fail
 go_ret
 exact ⟨v,rfl,H1.o,H4.o⟩
end
section
theorem WI {w:World} {b o:Nat} {l:List UInt8} (h:w.rangeAt b o (ze (pgB l))) (k:Nat):w.rangeAt b (o + k) (ze (pgB (l.drop k))):=fun j v hv=>by
 have:(ze (pgB l))[k + j]? = some v:=by
  rw [<- hv];simp [ze,pgB]
 rw [Nat.add_assoc];exact h (k + j) v this
theorem qx {w:World} {b o:Nat} {l:List UInt8} (h:w.rangeAt b o (ze (pgB l))) (k:Nat):w.rangeAt b o (ze (pgB (l.take k))):=fun j v hv=>by
 refine h j v ?_;have hj:j < (l.take k).length:=by
  have:=(List.getElem?_eq_some_iff.1 hv).1;simpa [ze,pgB] using this
 rw [<- hv];have hk:j < k:=by simp at hj; omega
 simp [ze,pgB,hk]
theorem kh {w:World} {b o n cap:Nat} {l:List UInt8} (h:w.rangeAt b o (ze (pgB l))) (hn:l.length = n) :
  (convert 75 9 (.slice (some ⟨b,o,none⟩) n cap)).run Tryz.prog w = .ok (.string ⟨l.toArray⟩) w:=by
 have e:=run_convert_bytes_arg (P:=Tryz.prog) w 75 5 Tryz.underlying75 Tryz.underlying5 b o n cap (pgB l) (by rw [yC,hn])
  (fun i hi=>by
   have hi':i < l.length:=by omega
   have:=h i (.int .u8 (l[i].toNat:Int)) (by simp [ze,pgB,hi']);rw [this];simp [pgB,List.getD,hi']) 9 Tryz.underlying9
 rw [e];have e2:(strOfNums (pgB l)) = ⟨l.toArray⟩:=by
  unfold strOfNums pgB;rw [List.map_map];have:(l.map ((fun n:Int=>UInt8.ofNat n.toNat) ∘ fun c:UInt8=>(c.toNat:Int))) = l:=by
   rw [List.map_congr_left (g:=id) (fun c _=>by simp),List.map_id]
  rw [this]
 rw [e2]
theorem Xg {P:Program} {w:World} {ops:Array Oper} {rest:List Oper} {o:Oper} {a:Act} {Q:Exit -> Act -> World -> Prop} (hgd:o.guard = none) (d x:Operand) (dT sT:TypeId)
  (hop:o.op = Op.call { callee:=Callee.builtin Builtin.copy,args:=#[d,x],argTypes:=#[dT,sT] }) (elem:TypeId) (hu:P.underlying dT = some (.slice elem)) (hz:∀ w,(Go.sizeOf elem).run P w = .ok 1 w)
  (b off dLen dCap:Nat) (hd:a.eval d = .slice (some ⟨b,off,none⟩) dLen dCap) (t:List UInt8) (s:ByteArray) (hst:s.data.toList = t) (hx:a.eval x = .string s) (hle:t.length <= dLen)
  (ht:w.there b off t.length)
  (h:∀ w2,Hid (w2 = w.setCells b off (ze (pgB t))) -> wpList P ops Q rest (a.put o.dst (goInt t.length)) w2):wpList P ops Q (o :: rest) a w:=by
 have hsz:s.size = t.length:=by rw [<- hst,Array.length_toList]; rfl
 refine wpList_plain hgd fun K hK=>?_
 have hrun:=run_copy_string (P:=P) w dT sT o.type elem b off dLen dCap s hu hz (by rw [hsz]; exact hle) (fun j hj=>(ht j (by rw [<- hsz]; exact hj)).1) (fun j hj=>(ht j (by rw [<- hsz]; exact hj)).2);have hcells:(s.data.toList.map fun x=>Value.int .u8 (x.toNat:Int)) = ze (pgB t):=by rw [hst]; simp [ze,pgB]
 rw [hcells,hsz] at hrun;unfold Oper.wp;simp [execOp,hop,resolve,invoke,builtin,hd,hx,hrun,Result.andThen];exact hK _ _ (h _ rfl)
theorem vP {P:Program} {w:World} {ops:Array Oper} {o:Oper} {a:Act} {K:Act -> World -> Prop} {Q:Exit -> Act -> World -> Prop} {E:Prop} (hg:Region.wanted o (yielded ops a.tmps) = true) (d x:Operand) (dT sT:TypeId)
  (hop:o.op = Op.call { callee:=Callee.builtin Builtin.copy,args:=#[d,x],argTypes:=#[dT,sT] }) (elem:TypeId) (hu:P.underlying dT = some (.slice elem)) (hz:∀ w,(Go.sizeOf elem).run P w = .ok 1 w)
  (b off dLen dCap:Nat) (hd:a.eval d = .slice (some ⟨b,off,none⟩) dLen dCap) (t:List UInt8) (s:ByteArray) (hst:s.data.toList = t) (hx:a.eval x = .string s) (hle:t.length <= dLen)
  (ht:w.there b off t.length)
  (h:∀ w2,Hid (w2 = w.setCells b off (ze (pgB t))) -> K (a.put o.dst (goInt t.length)) w2):if Region.wanted o (yielded ops a.tmps) = true then Oper.wp P o a w K Q else E:=by
 have hsz:s.size = t.length:=by rw [<- hst,Array.length_toList]; rfl
 rw [if_pos hg];have hrun:=run_copy_string (P:=P) w dT sT o.type elem b off dLen dCap s hu hz (by rw [hsz]; exact hle) (fun j hj=>(ht j (by rw [<- hsz]; exact hj)).1) (fun j hj=>(ht j (by rw [<- hsz]; exact hj)).2);have hcells:(s.data.toList.map fun x=>Value.int .u8 (x.toNat:Int)) = ze (pgB t):=by rw [hst]; simp [ze,pgB]
 rw [hcells,hsz] at hrun;unfold Oper.wp;simp [execOp,hop,resolve,invoke,builtin,hd,hx,hrun,Result.andThen];exact h _ rfl
theorem yq (l:List UInt8):(ze (pgB l)).length = l.length:=by rw [zG,yC]
theorem Kt {w:World} {b off:Nat} {x t:List UInt8} (h:w.rangeAt b 0 (ze (pgB x))) (ho:off + t.length <= x.length):(w.setCells b off (ze (pgB t))).rangeAt b 0 (ze (pgB (x.take off ++ t ++ x.drop (off + t.length)))):=fun j v hv=>by
 have hs:∀ j,j < (ze (pgB t)).length -> (w.cell? ⟨b,off + j,none⟩).isSome = true:=fun j hj=>by
  rw [yq] at hj;have:=h.isSome (off + j) (by rw [yq]; omega);simpa using this
 rw [zfP];have hj:j < x.length:=by
  have:=(List.getElem?_eq_some_iff.1 hv).1;rw [yq] at this;simp at this;omega
 have e:∀ (l:List UInt8) (j:Nat),(ze (pgB l))[j]? = (l[j]?).map fun c=>Value.int .u8 (c.toNat:Int):=fun l j=>by simp [ze,pgB]; rfl
 rw [e] at hv;by_cases h1:j < off
 ·rw [World.cell?_setCells_out b _ _ _ _ (fun _ _=>.inl h1)];have:=h j v (by rw [e,<- hv,List.append_assoc,List.getElem?_append_left (by rw [zfZ]; omega),List.getElem?_take,if_pos h1])
  rwa [zfP] at this
 ·have htk:(x.take off).length = off:=by rw [zfZ]; omega
  by_cases h2:j < off + t.length
  ·have hin:=World.cell?_setCells_in b _ off w hs (j - off) (by rw [yq]; omega);rw [show off + (j - off) = j by omega] at hin;rw [hin,<- List.getElem?_eq_getElem,e,<- hv,List.getElem?_append_left (by rw [zf0,htk]; omega),List.getElem?_append_right (by rw [htk]; omega),htk]
  ·rw [World.cell?_setCells_out b _ _ _ _ (fun _ _=>.inr (by rw [yq]; show off + t.length <= j; omega))];have:=h j v (by
    rw [e,<- hv,List.getElem?_append_right (by rw [zf0,htk]; omega),zf0,htk,List.getElem?_drop];congr 2;omega)
   rwa [zfP] at this
theorem YL (w:World):(Go.sizeOf 5).run Tryz.prog w = .ok 1 w:=by kernel_rfl
theorem zac (l:List UInt8):(⟨l.toArray⟩:ByteArray).data.toList = l:=by simp
theorem jk (l:List UInt8):(⟨l.toArray⟩:ByteArray).size = l.length:=by
 show l.toArray.size = _;simp
theorem Zt (l:List UInt8) (hl:l.length = 128) (w:World) (hg:zO w) :
  Calls Tryz.prog 146 #[pgV (pgB l)] w fun e w'=>e = .returned (.string ⟨(Vk (l.drop 4)).toArray⟩) /\ Below w.1.size w w':=by
 obtain ⟨w1,HW1⟩:=hY (w.alloc (.cells (zx (pgB l)) 87));have hh:w1.1[w.1.size]? = some (.cells (zx (pgB l)) 87 (0,0)):=by rw [HW1.o]; exact heap_alloc_last w _
 have hr:w1.rangeAt w.1.size 0 (ze (pgB l)):=fun j u hu=>by
  rw [cell_of_row w1 w.1.size (0 + j) _ _ _ hh,zfP];simpa [zx] using hu
 have hcv:=kh (cap:=124) (n:=124) (WI hr 4) (by rw [List.length_drop,hl]);rw [HW1.o] at hcv;have hb:Below w.1.size w w1:=by rw [HW1.o]; exact bA
 have HB:=Hi hb;have HG:=hI (zO (w.alloc (.cells (zx (pgB l)) 87))) (by rw [<- HW1.o]; exact hg.carry hb);have HL:=Hi hl;clear hh hr hb hg hl
 go_enter Tryz.func146,Tryz.ntmps146
 go_wp2_with fail;refine (zeK _ _ (by rw [jk,List.length_drop,HL.o]; decide) HG.o).mono ?_;obtain ⟨m,HM⟩:=hY ((Crc.more 0#32 (l.drop 4)).toNat);have hm:m < 4294967296:=by rw [HM.o]; exact BitVec.isLt _
 rw [show val (sum ⟨(l.drop 4).toArray⟩) = (m:Int) by rw [HM.o]; rfl];rintro e w' ⟨rfl,rfl⟩;clear hcv;go_wp2_with fail;refine (qi 4 m _ (by decide) (by decide) (by omega)).mono ?_;obtain ⟨s,HS⟩:∃ s:ByteArray,Hid (s = ⟨(be 4 m).toArray⟩):=Hy;rw [<- HS.o];rintro e w' ⟨rfl,hb⟩;have HB2:=Hi hb;clear hb;go_wp2_with fail
 go_ret
 exact ⟨by rw [HS.o,HM.o]; rfl,HB.o.trans (by rw [HW1.o]; exact HB2.o.mono (by simp))⟩
end
section
def qD (k:Int) (s:ByteArray):Int:=if k < 1 \/ 255 < k then 1 else if 120 < s.size then 8 else 0
def VY (c:Int) (p:Pg) (w:World) (e:Ending) (w':World):Prop:=∃ v,e = .returned (.tuple #[pgV p,v]) /\ zi w' w.1.size c v /\ Below w.1.size w w'
theorem qd {w:World} {b:Nat} {x:List UInt8} (h:w.rangeAt b 0 (ze (pgB x))) (hf:∀ j,w.frozen? ⟨b,j,none⟩ = false) {off n:Nat} (ho:off + n <= x.length):w.there b off n:=fun j hj=>by
 refine ⟨?_,hf _⟩;have:=h.isSome (off + j) (by rw [yq]; omega);simpa using this
structure Own (w:World) (b:Nat) (x:List UInt8):Prop where
 at_:w.rangeAt b 0 (ze (pgB x))
 free:∀ j,w.frozen? ⟨b,j,none⟩ = false
theorem Own.below {w w':World} {b B:Nat} {x:List UInt8} (h:Own w b x) (hb:Below B w w') (hB:b < B):Own w' b x :=
 ⟨fun j v hv=>(hb.cell (p:=⟨b,0 + j,none⟩) hB).trans (h.at_ j v hv),fun j=>(hb.frozen (p:=⟨b,j,none⟩) hB).trans (h.free j)⟩
theorem Own.splice {w w2:World} {b off:Nat} {x t y:List UInt8} (h:Own w b x) (hw:w2 = w.setCells b off (ze (pgB t))) (ho:off + t.length <= x.length) (hy:x.take off ++ t ++ x.drop (off + t.length) = y):Own w2 b y:=by
 subst hw;subst hy;exact ⟨Kt h.at_ ho,zW h.free _ _ _⟩
theorem Own.new {w:World} {x:List UInt8} (t:TypeId):Own (w.alloc (.cells (zx (pgB x)) t)) w.1.size x:=by
 have hh:(w.alloc (.cells (zx (pgB x)) t)).1[w.1.size]? = some (.cells (zx (pgB x)) t (0,0)):=heap_alloc_last w _;refine ⟨fun j u hu=>?_,fun j=>frozen_of_row _ _ j _ _ hh⟩;rw [cell_of_row _ w.1.size (0 + j) _ _ _ hh,zfP];simpa [zx] using hu
theorem Xn {B b:Nat} {w w2 w0:World} {vs:List Value} {o:Nat} (h:Below B w0 w) (hw:w2 = w.setCells b o vs) (hb:B <= b):Below B w0 w2:=by
 subst hw;exact below_setCells hb vs o w h
theorem zeF (k:UInt8):(zfY 128 (0:UInt8)).take 4 ++ [k] ++ (zfY 128 0).drop (4 + [k].length) = zfY 4 0 ++ k :: zfY 123 0:=by simp
theorem zeG (k n:UInt8):(zfY 4 (0:UInt8) ++ k :: zfY 123 0).take 5 ++ [n] ++ (zfY 4 (0:UInt8) ++ k :: zfY 123 0).drop (5 + [n].length) = zfY 4 0 ++ k :: n :: zfY 122 0:=by rfl
theorem zeH (k n:UInt8) (d:List UInt8):(zfY 4 (0:UInt8) ++ k :: n :: zfY 122 0).take 6 ++ d ++ (zfY 4 (0:UInt8) ++ k :: n :: zfY 122 0).drop (6 + d.length) = zfY 4 0 ++ k :: n :: (d ++ zfY (122 - d.length) 0):=by
 have e1:zfY 4 (0:UInt8) ++ k :: n :: zfY 122 0 = (zfY 4 0 ++ [k,n]) ++ zfY 122 0:=by simp
 rw [e1,List.take_left' (by simp),show 6 + d.length = (zfY 4 (0:UInt8) ++ [k,n]).length + d.length by simp,<- List.drop_drop,List.drop_left' rfl,List.drop_replicate];simp
theorem zeI (t x:List UInt8) (ht:t.length = 4):(zfY 4 (0:UInt8) ++ x).take 0 ++ t ++ (zfY 4 (0:UInt8) ++ x).drop (0 + t.length) = t ++ x:=by
 rw [ht];simp
structure jL (w wi:World) (r b:Nat) (x:List UInt8):Prop where
 own:Own wi b x
 res:Own wi r (zfY 128 0)
 below:Below r w wi
 size:r + 2 <= wi.1.size
 rb:b = r + 1
theorem jL.drew {w wi:World} {r b:Nat} {x:List UInt8} (h:jL w wi r b x):jL w wi.drew r b x:=⟨⟨h.own.at_,h.own.free⟩,⟨h.res.at_,h.res.free⟩,h.below.drew,h.size,h.rb⟩
theorem jL.call {w wi wj:World} {r b:Nat} {x:List UInt8} (h:jL w wi r b x) (hb:Below wi.1.size wi wj):jL w wj r b x :=
 ⟨h.own.below hb (by have:=h.size; have:=h.rb; omega),h.res.below hb (by have:=h.size; omega),h.below.trans (hb.mono (by have:=h.size; omega)),Nat.le_trans h.size hb.size,h.rb⟩
theorem jL.copy {w wi wj:World} {r b off:Nat} {x t y:List UInt8} (h:jL w wi r b x) (hw:wj = wi.setCells b off (ze (pgB t))) (ho:off + t.length <= x.length) (hy:x.take off ++ t ++ x.drop (off + t.length) = y):jL w wj r b y:=by
 refine ⟨h.own.splice hw ho hy,?_,Xn h.below hw (by have:=h.rb; omega),by rw [hw,ku]; exact h.size,h.rb⟩;subst hw;exact ⟨World.rangeAt_setCells_apart h.res.at_ _ _ _ (.inl (by have:=h.rb; omega)),zW h.res.free _ _ _⟩
theorem jL.crc {w wi:World} {r b:Nat} {x:List UInt8} (h:jL w wi r b x) (hr:r = w.1.size) (hg:zO w):zO wi:=hg.carry (by rw [<- hr]; exact h.below)
theorem zcy (k:Nat):be 1 k = [UInt8.ofNat k]:=rfl
theorem Vq (k:Nat) (s:ByteArray) (w:World) (h1:1 <= k) (h2:k <= 255) (hs:s.size <= 120) (hg:zO w) :
  Calls Tryz.prog 116 #[.int .i64 k,.string s] w fun e w'=>e = .returned (.tuple #[pgV (pgB (jU (UInt8.ofNat k) s.data.toList)),.nilIface]) /\ Below w.1.size w w':=by
 have HG:=Hi hg;clear hg;have hz:=Tryz.zeroPage;have hd1:decide ((120:Int) < (s.size:Int)) = false:=by simp; omega
 have hd2:decide ((255:Int) < (k:Int)) = false:=by simp; omega
 have hd3:decide ((k:Int) < 1) = false:=by simp; omega
 obtain ⟨y,HY⟩:=hY (jU (UInt8.ofNat k) s.data.toList);rw [<- HY.o]
 go_enter Tryz.func116,Tryz.ntmps116
 go_wp2_with fail;obtain ⟨w0,HW0⟩:=hY ((w.alloc (.cells (zx zt) 87)).alloc (.cells (zx zt) 87));obtain ⟨r,HR⟩:=hY (w.1.size);obtain ⟨b,HB⟩:=hY (w.1.size + 1);rw [<- HW0.o,<- HB.o,<- HR.o];have H0:=hI (jL w w0 r b (zfY 128 0)) (by
  refine ⟨?_,?_,?_,by rw [HW0.o,HR.o]; simp,by rw [HR.o,HB.o]⟩
  ·rw [HW0.o,HB.o,<- WG];have:=Own.new (w:=w.alloc (.cells (zx (pgB (zfY 128 0))) 87)) (x:=zfY 128 0) 87;simpa using this
  ·rw [HW0.o,HR.o,<- WG];exact (Own.new (w:=w) 87).below ((Below.refl _ _).alloc (zfI _) _) (by simp)
  ·rw [HW0.o,HR.o]; exact ((Below.refl _ _).alloc (zfI _) _).alloc (by simp) _)
 refine wp_region_held (S:=fun _=>True) (by kernel_rfl) ?_;change wpAnyH _ _ _ _ _ _ _ _ w0.drew;obtain ⟨w1,HW⟩:=hY (w0.drew);rw [<- HW.o];have H1:=Hi (H0.o.drew);rw [<- HW.o] at H1;clear HW H0;refine xA9 0 20 (Value.slice (some ⟨b,4,none⟩) 124 124) trivial ?_;refine xA9 1 21 (.int .i64 (k:Int)) trivial ?_;refine zL (i:=2) rfl (by kernel_rfl) (fun K hK=>?_);go_simp;refine (qi 1 k _ (by decide) (by decide) (by omega)).mono ?_;rw [zcy];rintro e w2 ⟨rfl,hb⟩;have H2:=Hi (H1.o.call hb);clear hb H1;refine hK.out _ _ trivial ?_;clear hK K;refine xJ9 3 (some 23) (fun K hK=>?_);refine vP (by rfl) _ _ _ _ rfl 5 Tryz.underlying75 YL b 4 124 124 rfl ([UInt8.ofNat k]) _ (by simp) rfl (by simp) (qd H2.o.own.at_ H2.o.own.free (by simp)) (fun w3 HW=>?_);refine hK.out _ _ trivial ?_;clear hK K;simp only [Act.put,pU];have H3:=Hi (H2.o.copy (t:=[UInt8.ofNat k]) HW.o (by simp) (zeF _));clear HW H2;refine wpAnyH_done (by kernel_rfl) ?_ _;go_wp2_with fail;refine wp_region_held (S:=fun _=>True) (by kernel_rfl) ?_;change wpAnyH _ _ _ _ _ _ _ _ w3.drew;obtain ⟨w4,HW⟩:=hY (w3.drew);rw [<- HW.o];have H4:=Hi (H3.o.drew);rw [<- HW.o] at H4;clear HW H3;refine xA9 0 24 (Value.slice (some ⟨b,5,none⟩) 123 123) trivial ?_;refine xA9 1 25 (.string s) trivial ?_;refine xA9 2 26 (.int .i64 (s.size:Int)) trivial ?_;refine zL (i:=3) rfl (by kernel_rfl) (fun K hK=>?_);go_simp;refine (qi 1 s.size _ (by decide) (by decide) (by omega)).mono ?_;rw [zcy];rintro e w5 ⟨rfl,hb⟩;have H5:=Hi (H4.o.call hb);clear hb H4;refine hK.out _ _ trivial ?_;clear hK K;refine xJ9 4 (some 28) (fun K hK=>?_);refine vP (by rfl) _ _ _ _ rfl 5 Tryz.underlying75 YL b 5 123 123 rfl ([UInt8.ofNat s.size]) _ (by simp) rfl (by simp) (qd H5.o.own.at_ H5.o.own.free (by simp)) (fun w6 HW=>?_);refine hK.out _ _ trivial ?_;clear hK K;simp only [Act.put,pU];have H6:=Hi (H5.o.copy (t:=[UInt8.ofNat s.size]) HW.o (by simp) (zeG _ _));clear HW H5;refine wpAnyH_done (by kernel_rfl) ?_ _;have hsz:s.data.toList.length = s.size:=QE s;go_wp2_with (with_reducible refine xD9 (some 31) ?_);refine Xg rfl _ _ _ _ rfl 5 Tryz.underlying75 YL b 6 122 122 rfl s.data.toList s rfl rfl (by omega) (qd H6.o.own.at_ H6.o.own.free (by simp; omega)) (fun w7 HW=>?_);have H7:=Hi (H6.o.copy (t:=s.data.toList) HW.o (by simp; omega) (zeH _ _ _));rw [<- hsz] at H7;clear HW H6;obtain ⟨x,HX⟩:=hY (Wk (UInt8.ofNat k) s.data.toList);have H7x:=hI (jL w w7 r b (zfY 4 0 ++ x)) (by rw [HX.o]; exact H7.o);have hxl:x.length = 124:=by rw [HX.o]; exact Yo (by omega)
 have hl7:(zfY 4 0 ++ x).length = 128:=by rw [zf0,hxl]; rfl
 have hdr:(zfY 4 0 ++ x).drop 4 = x:=List.drop_left' (by simp);have HLN:=hI ((zfY 4 0 ++ x).length = 128 /\ (zfY 4 0 ++ x).drop 4 = x) ⟨hl7,hdr⟩;clear H7 hl7 hdr hsz;go_wp2_with fail;refine wp_region_held (S:=fun _=>True) (by kernel_rfl) ?_;change wpAnyH _ _ _ _ _ _ _ _ w7.drew;obtain ⟨w8,HW⟩:=hY (w7.drew);rw [<- HW.o];have H8:=Hi (H7x.o.drew);rw [<- HW.o] at H8;clear HW H7x;refine xA9 0 32 (Value.slice (some ⟨b,0,none⟩) 128 128) trivial ?_;refine xJ9 1 (some 33) (fun K hK=>?_);rw [if_pos (by rfl)];refine wp_load_mid _ _ rfl b 0 rfl (ze (pgB (zfY 4 0 ++ x))) _ H8.o.own.at_ Tryz.underlying87 rfl (by rw [yq,HLN.o.1]; exact Tryz.pageSize) ?_;refine hK.out _ _ trivial ?_;clear hK K;rw [show Value.agg (ze (pgB (zfY 4 0 ++ x))).toArray = pgV (pgB (zfY 4 0 ++ x)) from rfl];simp only [Act.put,pU];refine zL (i:=2) rfl (by kernel_rfl) (fun K hK=>?_);go_simp;refine (Zt _ HLN.o.1 _ (H8.o.crc HR.o HG.o)).mono ?_;rw [HLN.o.2];rintro e w9 ⟨rfl,hb⟩;have H9:=Hi (H8.o.call hb);clear hb H8;refine hK.out _ _ trivial ?_;clear hK K;refine xJ9 3 (some 35) (fun K hK=>?_);refine vP (by rfl) _ _ _ _ rfl 5 Tryz.underlying75 YL b 0 128 128 rfl (Vk x) _ (zac _) rfl (by rw [wO]; decide) (qd H9.o.own.at_ H9.o.own.free (by rw [wO,HLN.o.1]; decide)) (fun wa HW=>?_);have HA:=Hi (H9.o.copy (t:=Vk x) HW.o (by rw [wO,HLN.o.1]; decide) (zeI _ _ (wO _)));rw [show Vk x ++ x = y by rw [HY.o,HX.o]; rfl] at HA;have HYL:=hI (y.length = 128) (by rw [HY.o]; exact kG (by rw [QE]; exact hs));clear HW H9;refine hK.out _ _ trivial ?_;clear hK K;simp only [Act.put,pU];refine wpAnyH_done (by kernel_rfl) ?_ _;go_wp2_with (with_reducible refine xD9 (some 36) ?_);refine wX rfl _ _ rfl b 0 rfl (pgB y) (by rw [yC]; exact HYL.o) HA.o.own.at_ _ Tryz.underlying87 rfl Tryz.pageSize ?_;refine vQ rfl _ _ _ rfl r 0 (pgB y) (by rw [yC]; exact HYL.o) rfl rfl (qd HA.o.res.at_ HA.o.res.free (by simp)) Tryz.pageSize (fun wb HW=>?_);have hrb:wb.rangeAt r 0 (ze (pgB y)):=by
  rw [HW.o];exact World.rangeAt_setCells_same _ _ _ _ (by rw [yq,HYL.o]; exact qd HA.o.res.at_ HA.o.res.free (by simp))
 have HBB:=hI (Below r w wb) (Xn HA.o.below HW.o (zfI _));have HRB:=Hi hrb;clear HW hrb;go_wp2_with fail;refine bodyPost_ret (v:=.tuple #[pgV (pgB y),.nilIface]) ?_ rfl ⟨rfl,by rw [<- HR.o]; exact HBB.o⟩;rw [results_cell_tmp rfl];simp [asAddr,Result.andThen,run_loadVar_mid wb r 0 87 (ze (pgB y)) _ HRB.o Tryz.underlying87 rfl (by rw [yq,HYL.o]; exact Tryz.pageSize)];rfl
theorem Vp (k:Int) (s:ByteArray) (w:World) (h:k < 1):Calls Tryz.prog 116 #[.int .i64 k,.string s] w (VY 1 zt w):=by
 have hz:=Tryz.zeroPage;have hd1:decide (k < 1) = true:=by simpa using h
 go_enter Tryz.func116,Tryz.ntmps116
 go_wp2_with (with_reducible refine xD9 (some 13) ?_);refine xE rfl _ rfl _ qj ?_;go_wp2_with fail;refine (xV 1 (by decide) _).mono ?_;rintro e w' ⟨v,rfl,h1,h4⟩;have H1:=Hi h1;have H4:=Hi h4;obtain ⟨t,x,rfl⟩:=H1.o.some (by decide);clear h1 h4;have hh:w'.1[w.1.size]? = some (.cells (zx zt) 87 (0,0)):=by
  rw [H4.o.block w.1.size (by simp)];exact heap_alloc_last w _
 have HH:=Hi hh;clear hh;go_wp2_with (with_reducible refine xD9 (none) ?_);refine wD rfl _ _ _ rfl w.1.size (zx zt) HH.o rfl rfl (by rw [zu,zI]; exact Tryz.pageSize) (yS _) ?_;go_wp2_with fail;refine bodyPost_ret (v:=.tuple #[pgV zt,.iface t x]) ?_ rfl ⟨_,rfl,H1.o.mono (by simp),((Below.refl _ _).alloc (zfI _) _).trans (H4.o.mono (by simp))⟩;rw [results_cell_tmp rfl];simp [asAddr,Result.andThen,run_loadVar_row w' w.1.size 87 87 (zx zt) (0,0) _ HH.o Tryz.underlying87 rfl (by rw [zu,zI]; exact Tryz.pageSize)]
theorem JV (k:Int) (s:ByteArray) (w:World) (h:255 < k):Calls Tryz.prog 116 #[.int .i64 k,.string s] w (VY 1 zt w):=by
 have hz:=Tryz.zeroPage;have hd1:decide (k < 1) = false:=by simp; omega
 have hd2:decide (255 < k) = true:=by simpa using h
 go_enter Tryz.func116,Tryz.ntmps116
 go_wp2_with (with_reducible refine xD9 (some 13) ?_);refine xE rfl _ rfl _ qj ?_;go_wp2_with fail;refine (xV 1 (by decide) _).mono ?_;rintro e w' ⟨v,rfl,h1,h4⟩;have H1:=Hi h1;have H4:=Hi h4;obtain ⟨t,x,rfl⟩:=H1.o.some (by decide);clear h1 h4;have hh:w'.1[w.1.size]? = some (.cells (zx zt) 87 (0,0)):=by
  rw [H4.o.block w.1.size (by simp)];exact heap_alloc_last w _
 have HH:=Hi hh;clear hh;go_wp2_with (with_reducible refine xD9 (none) ?_);refine wD rfl _ _ _ rfl w.1.size (zx zt) HH.o rfl rfl (by rw [zu,zI]; exact Tryz.pageSize) (yS _) ?_;go_wp2_with fail;refine bodyPost_ret (v:=.tuple #[pgV zt,.iface t x]) ?_ rfl ⟨_,rfl,H1.o.mono (by simp),((Below.refl _ _).alloc (zfI _) _).trans (H4.o.mono (by simp))⟩;rw [results_cell_tmp rfl];simp [asAddr,Result.andThen,run_loadVar_row w' w.1.size 87 87 (zx zt) (0,0) _ HH.o Tryz.underlying87 rfl (by rw [zu,zI]; exact Tryz.pageSize)]
theorem JW (k:Int) (s:ByteArray) (w:World) (h1:1 <= k) (h2:k <= 255) (h:120 < s.size):Calls Tryz.prog 116 #[.int .i64 k,.string s] w (VY 8 zt w):=by
 have hz:=Tryz.zeroPage;have hd1:decide (k < 1) = false:=by simp; omega
 have hd2:decide (255 < k) = false:=by simp; omega
 have hd3:decide ((120:Int) < (s.size:Int)) = true:=by simp; omega
 go_enter Tryz.func116,Tryz.ntmps116
 go_wp2_with (with_reducible refine xD9 (some 18) ?_);refine xE rfl _ rfl _ qj ?_;go_wp2_with fail;refine (xV 8 (by decide) _).mono ?_;rintro e w' ⟨v,rfl,h1,h4⟩;have H1:=Hi h1;have H4:=Hi h4;obtain ⟨t,x,rfl⟩:=H1.o.some (by decide);clear h1 h4;have hh:w'.1[w.1.size]? = some (.cells (zx zt) 87 (0,0)):=by
  rw [H4.o.block w.1.size (by simp)];exact heap_alloc_last w _
 have HH:=Hi hh;clear hh;go_wp2_with (with_reducible refine xD9 (none) ?_);refine wD rfl _ _ _ rfl w.1.size (zx zt) HH.o rfl rfl (by rw [zu,zI]; exact Tryz.pageSize) (yS _) ?_;go_wp2_with fail;refine bodyPost_ret (v:=.tuple #[pgV zt,.iface t x]) ?_ rfl ⟨_,rfl,H1.o.mono (by simp),((Below.refl _ _).alloc (zfI _) _).trans (H4.o.mono (by simp))⟩;rw [results_cell_tmp rfl];simp [asAddr,Result.andThen,run_loadVar_row w' w.1.size 87 87 (zx zt) (0,0) _ HH.o Tryz.underlying87 rfl (by rw [zu,zI]; exact Tryz.pageSize)]
def qI (k:Int) (s:ByteArray):Pg:=if qD k s = 0 then pgB (jU (UInt8.ofNat k.toNat) s.data.toList) else zt
theorem Wo {k:Int} {s:ByteArray} (h:qD k s = 0):∃ n:Nat,k = n /\ 1 <= n /\ n <= 255 /\ s.size <= 120:=by
 unfold qD at h;split at h
 ·cases h
 ·split at h
  ·cases h
  ·exact ⟨k.toNat,by omega,by omega,by omega,by omega⟩
theorem zaJ (k:Int) (s:ByteArray) (w:World) (hg:zO w):Calls Tryz.prog 116 #[.int .i64 k,.string s] w (VY (qD k s) (qI k s) w):=by
 by_cases h0:qD k s = 0
 ·obtain ⟨n,rfl,h1,h2,hs⟩:=Wo h0;rw [qI,if_pos h0,h0];exact (Vq n s w h1 h2 hs hg).mono fun e w' ⟨he,hb⟩=>⟨_,he,.nil _ _,hb⟩
 ·rw [qI,if_neg h0];unfold qD at h0 ⊢;by_cases h1:k < 1
  ·rw [if_pos (.inl h1)]; exact Vp k s w h1
  ·by_cases h2:255 < k
   ·rw [if_pos (.inr h2)]; exact JV k s w h2
   ·rw [if_neg (by omega)] at h0 ⊢;by_cases h3:120 < s.size
    ·rw [if_pos h3]; exact JW k s w (by omega) (by omega) h3
    ·rw [if_neg h3] at h0; exact absurd rfl h0
theorem YE (k:Int) (s:ByteArray):(qI k s).length = 128:=by
 unfold qI;split
 ·rename_i h
  obtain ⟨n,rfl,h1,h2,hs⟩:=Wo h;rw [yC,kG (by rw [QE]; exact hs)]
 ·exact zI
end
section
theorem XN {P:Program} (w:World) (d len:Nat) (t e:TypeId) (p q:Pg) (ht:P.underlying t = some (.array len e)) (he:P.underlying e = some (.int .u8)) (hs:∀ w,(sizeOf e).run P w = .ok 1 w) (hl:p.length = len) (hm:q.length = len) :
  (Op.equalIn (d + 2) t (.agg (zx p)) (.agg (zx q))).run P w = .ok (decide (p = q)) w:=by
 have hp:∀ (p:Pg),p.length = len -> ∀ i,i < len -> (part e (zx p) (i * 1)).run P w = .ok (.int .u8 (p.getD i 0)) w:=by
  intro p hl i hi;have hi':i < p.length:=by omega
  simp [part,isAgg,underlying,he,zx,ze,hi']
 rw [Op.equalIn];simp only [Sem.run_bind,run_underlying ht,Result.andThen_ok,hs,Std.Legacy.Range.forIn_eq_forIn_range'];have key:∀ l:List Nat,(∀ i ∈ l,i < len) -> (forIn l (none,()) fun i (_:Option Bool × Unit)=>do
   let a <- part e (zx p) (i * 1)
   let b <- part e (zx q) (i * 1)
   let r <- Op.equalIn (d + 1) e a b
   if (!r) = true then pure (ForInStep.done (some false,())) else pure (ForInStep.yield ((none:Option Bool),())):Sem (Option Bool × Unit)).run P w = .ok (if l.all (fun i=>p.getD i 0 == q.getD i 0) then (none,()) else (some false,())) w:=by
  intro l;induction l with
  | nil=>intro _; simp
  | cons i r ih =>
   intro h;simp only [List.forIn_cons,Sem.run_bind,hp p hl i (h i (by simp)),hp q hm i (h i (by simp)),Result.andThen_ok,run_equalIn_int w d e .u8 .u8 _ _ he,List.all_cons];by_cases hb:(p.getD i 0 == q.getD i 0) = true
   ·simp only [hb,Bool.not_true,Bool.false_eq_true,if_false,Sem.run_pure,Result.andThen_ok,Bool.true_and];exact ih fun k hk=>h k (by simp [hk])
   ·have hb':(p.getD i 0 == q.getD i 0) = false:=by simpa using hb
    simp only [hb',Bool.not_false,if_true,Sem.run_pure,Result.andThen_ok,Bool.false_and,Bool.false_eq_true,if_false]
 rw [key _ (fun i hi=>by have:=List.mem_range'.1 hi; obtain ⟨k,hk,rfl⟩:=this; simp at hk; omega)];have hall:((List.range' 0 len).all (fun i=>p.getD i 0 == q.getD i 0)) = decide (p = q):=by
  rw [Bool.eq_iff_iff,List.all_eq_true,decide_eq_true_eq];constructor
  ·intro h;refine List.ext_getElem (by omega) fun i h1 h2=>?_
   have:=h i (by simp [List.mem_range']; omega);simpa [List.getD_eq_getElem?_getD,h1,h2] using this
  ·rintro rfl i _;simp
 have hsz:(⟨0,len,1,by decide⟩:Std.Legacy.Range).size = len:=by simp [Std.Legacy.Range.size]
 rw [hsz,hall];by_cases h:p = q <;> simp [h,Result.andThen]
theorem zbI (w:World):(sizeOf 5).run Tryz.prog w = .ok 1 w:=by kernel_rfl
theorem Qq:Tryz.prog.eqGuardType Tryz.prog.depth 87 = false:=by kernel_rfl
theorem Xu (p q:Pg) (hl:p.length = 128) (hm:q.length = 128) (w:World):(Op.equalIn 10000 87 (pgV p) (pgV q)).run Tryz.prog w = .ok (decide (p = q)) w :=
 XN w 9998 128 87 5 p q Tryz.underlying87 Tryz.underlying5 zbI hl hm
end
section
def kq (l:List UInt8) (w:World) (e:Ending) (w':World):Prop :=
 ∃ v,e = .returned (.tuple #[.int .i64 (if xP l = 0 then ((kB l).toNat:Int) else 0),.string (if xP l = 0 then ⟨(dB l).toArray⟩ else ⟨#[]⟩),v]) /\ zi w' w.1.size (xP l) v /\ Below w.1.size w w'
theorem kq.fault {l:List UInt8} {w w1 w':World} {c:Int} {v:Value} (hc:xP l = c) (h0:c ≠ 0) (hb:Below w.1.size w w1) (he:zi w' w1.1.size c v) (hb':Below w1.1.size w1 w') :
  kq l w (.returned (.tuple #[.int .i64 0,.string ⟨#[]⟩,v])) w':=by
 refine ⟨v,?_,by rw [hc]; exact he.mono hb.size,hb.trans (hb'.mono hb.size)⟩;rw [if_neg (by rw [hc]; exact h0),if_neg (by rw [hc]; exact h0)]
theorem WV (l:List UInt8):(l.take 4 == Vk (l.drop 4)) = Zo l:=by
 unfold Zo;rw [Bool.eq_iff_iff];simp
theorem JZ (l:List UInt8) (hl:l.length = 128) (hc:Zo l = false) (w:World) (hg:zO w):Calls Tryz.prog 155 #[pgV (pgB l)] w (kq l w):=by
 have HL:=Hi hl;have HC:=Hi hc;have HG:=Hi hg;clear hl hc hg;obtain ⟨b,HB⟩:=hY (w.1.size)
 go_enter Tryz.func155,Tryz.ntmps155
 go_wp2_with fail;obtain ⟨w0,HW0⟩:=hY (w.alloc (.cells (zx (pgB l)) 87));rw [<- HW0.o,<- HB.o];have H0:=hI (w0.rangeAt b 0 (ze (pgB l))) (by rw [HW0.o,HB.o]; exact (Own.new (w:=w) 87).at_);have HB0:=hI (Below w.1.size w w0) (by rw [HW0.o]; exact bA);refine wp_region_held (S:=fun w'=>w'.rangeAt b 0 (ze (pgB l))) (by kernel_rfl) ?_;change wpAnyH _ _ _ _ _ _ _ _ w0.drew;obtain ⟨w1,HW⟩:=hY (w0.drew);rw [<- HW.o];have H1:=hI (w1.rangeAt b 0 (ze (pgB l))) (by rw [HW.o]; exact H0.o);have HB1:=hI (Below w.1.size w w1) (by rw [HW.o]; exact HB0.o.drew);clear HW H0 HB0 HW0;refine xA9 0 10 (Value.slice (some ⟨b,0,none⟩) 4 128) H1.o ?_;refine xG9 1 11 (.string ⟨(l.take 4).toArray⟩) rfl (.inl ⟨by rfl,fun _ hw=>by have hcv:=kh (n:=4) (cap:=128) (qx hw 4) (by rw [zfZ,HL.o]; rfl); go_simp⟩) H1.o ?_;refine xG9 2 12 (pgV (pgB l)) rfl (yieldsIf_load_mid (by rfl) _ _ rfl b 0 rfl (ze (pgB l)) _ (fun _ hw=>hw) Tryz.underlying87 rfl (by rw [yq,HL.o]; exact Tryz.pageSize)) H1.o ?_;refine xJ9 3 (some 13) (fun K hK=>?_);go_simp;refine (Zt l HL.o w1 (HG.o.carry HB1.o)).mono ?_;rintro e w2 ⟨rfl,hb⟩;have HB2:=hI (Below w.1.size w w2) (HB1.o.trans (hb.mono HB1.o.size));have H2:=hI (w2.rangeAt b 0 (ze (pgB l))) (fun j v hv=>(hb.cell (p:=⟨b,0 + j,none⟩) (yQ (H1.o j v hv))).trans (H1.o j v hv));clear hb H1 HB1;refine hK.out _ _ H2.o ?_;clear hK K;refine xJ9 4 (some 14) (fun K hK=>?_);go_simp;rw [WV,HC.o];refine hK.out _ _ H2.o ?_;clear hK K;refine wpAnyH_done (by kernel_rfl) ?_ _;go_wp2_with fail;refine (xV 3 (by decide) _).mono ?_;rintro e w3 ⟨v,rfl,h1,h4⟩;have H1:=Hi h1;have H4:=Hi h4;clear h1 h4;go_wp2_with fail;go_ret3;have hc3:xP l = 3:=by unfold xP; rw [HC.o]; rfl
 exact kq.fault hc3 (by decide) HB2.o H1.o H4.o
theorem zbJ (w:World) (b:Nat) {n:Nat} (hn:n <= 120):(Instr.sliceAt 87 (.pointer (some ⟨b,0,none⟩)) (some (.int .i64 6)) (some (.int .i64 (6 + (n:Int)))) none).run Tryz.prog w = .ok (.slice (some ⟨b,6,none⟩) n 122) w:=by
 have hal:Tryz.prog.arrayLen 87 = 128:=by kernel_rfl
 have h1:(6 + (n:Int) <= Tryz.prog.arrayLen 87):=by rw [hal]; omega
 have hs:(sizeOf (Tryz.prog.elem 87)).run Tryz.prog w = .ok 1 w:=by kernel_rfl
 rw [run_sliceAt_array_lh w 87 ⟨b,0,none⟩ (by kernel_rfl) _ _ _ _ (by decide) (by omega) h1,hs,hal];have e:(6 + (n:Int)).toNat = 6 + n:=by omega
 simp [slicedAt,Result.andThen,Addr.add,e]
theorem zeM (l:List UInt8):(kB l).toNat < 256:=UInt8.toNat_lt _
theorem qL {P:Program} {id:Nat} {Q:Exit -> Act -> World -> Prop} {a:Act} {w:World} {l:List Oper} (hm:P.follows .mixedOrders = true) (hB:Region.lexB .any l.toArray = true)
  (h:∀ w1,Hid (w1 = w.drew) -> wpStill P l.toArray w1 (fun a'=>Q .normal a' w1) l a):(Code.region id l.toArray true).wp P Q a w:=wp_region_still_lit hm hB (h _ rfl)
theorem KD (l:List UInt8) (hl:l.length = 128) (hc:Zo l = true) (hlong:120 < nB l) (w:World) (hg:zO w):Calls Tryz.prog 155 #[pgV (pgB l)] w (kq l w):=by
 have hc2:xP l = 2:=by unfold xP; rw [if_pos hc,if_pos hlong]
 have HC2:=Hi hc2;have HLO:=Hi hlong;clear hc2 hlong;have HL:=Hi hl;have HC:=Hi hc;have HG:=Hi hg;clear hl hc hg;obtain ⟨b,HB⟩:=hY (w.1.size)
 go_enter Tryz.func155,Tryz.ntmps155
 go_wp2_with fail;obtain ⟨w0,HW0⟩:=hY (w.alloc (.cells (zx (pgB l)) 87));rw [<- HW0.o,<- HB.o];have H0:=hI (w0.rangeAt b 0 (ze (pgB l))) (by rw [HW0.o,HB.o]; exact (Own.new (w:=w) 87).at_);have HB0:=hI (Below w.1.size w w0) (by rw [HW0.o]; exact bA);refine wp_region_held (S:=fun w'=>w'.rangeAt b 0 (ze (pgB l))) (by kernel_rfl) ?_;change wpAnyH _ _ _ _ _ _ _ _ w0.drew;obtain ⟨w1,HW⟩:=hY (w0.drew);rw [<- HW.o];have H1:=hI (w1.rangeAt b 0 (ze (pgB l))) (by rw [HW.o]; exact H0.o);have HB1:=hI (Below w.1.size w w1) (by rw [HW.o]; exact HB0.o.drew);clear HW H0 HB0 HW0;refine xA9 0 10 (Value.slice (some ⟨b,0,none⟩) 4 128) H1.o ?_;refine xG9 1 11 (.string ⟨(l.take 4).toArray⟩) rfl (.inl ⟨by rfl,fun _ hw=>by have hcv:=kh (n:=4) (cap:=128) (qx hw 4) (by rw [zfZ,HL.o]; rfl); go_simp⟩) H1.o ?_;refine xG9 2 12 (pgV (pgB l)) rfl (yieldsIf_load_mid (by rfl) _ _ rfl b 0 rfl (ze (pgB l)) _ (fun _ hw=>hw) Tryz.underlying87 rfl (by rw [yq,HL.o]; exact Tryz.pageSize)) H1.o ?_;refine xJ9 3 (some 13) (fun K hK=>?_);go_simp;refine (Zt l HL.o w1 (HG.o.carry HB1.o)).mono ?_;rintro e w2 ⟨rfl,hb⟩;have HB2:=hI (Below w.1.size w w2) (HB1.o.trans (hb.mono HB1.o.size));have H2:=hI (w2.rangeAt b 0 (ze (pgB l))) (fun j v hv=>(hb.cell (p:=⟨b,0 + j,none⟩) (yQ (H1.o j v hv))).trans (H1.o j v hv));clear hb H1 HB1;refine hK.out _ _ H2.o ?_;clear hK K;refine xJ9 4 (some 14) (fun K hK=>?_);go_simp;rw [WV,HC.o];refine hK.out _ _ H2.o ?_;clear hK K;refine wpAnyH_done (by kernel_rfl) ?_ _;have hk:=zeM l;have hn:=zeN l;obtain ⟨k,HK⟩:=hY ((kB l).toNat);obtain ⟨n,HN⟩:=hY (nB l);have c4:w2.cell? ⟨b,4,none⟩ = some (.int .u8 (k:Int)):=by
  have:=H2.o 4 (.int .u8 ((kB l).toNat:Int)) (by simp [ze,pgB,kB,HL.o]);rw [HK.o]; simpa using this
 have c5:w2.cell? ⟨b,5,none⟩ = some (.int .u8 (n:Int)):=by
  have:=H2.o 5 (.int .u8 (nB l:Int)) (by simp [ze,pgB,nB,HL.o]);rw [HN.o]; simpa using this
 rw [<- HK.o] at hk;rw [<- HN.o] at hn;have HC4:=Hi c4;have HC5:=Hi c5;clear c4 c5;go_wp2_with fail;refine qL (by kernel_rfl) (by kernel_rfl) (fun w3 HW=>?_);have c4:w3.cell? ⟨b,4,none⟩ = some (.int .u8 (k:Int)):=by rw [HW.o]; exact HC4.o
 have c5:w3.cell? ⟨b,5,none⟩ = some (.int .u8 (n:Int)):=by rw [HW.o]; exact HC5.o
 have H3:=hI (w3.rangeAt b 0 (ze (pgB l))) (by rw [HW.o]; exact H2.o);have HB3:=hI (Below w.1.size w w3) (by rw [HW.o]; exact HB2.o.drew);clear HW H2 HB2 HC4 HC5;have ek:IntKind.i64.wrap (k:Int) = (k:Int):=IntWalk.i64_in _ (by omega);have en:IntKind.i64.wrap (n:Int) = (n:Int):=IntWalk.i64_in _ (by omega)
 iterate 8 still_step
 refine wpStill_nil ?_;clear c4 c5 ek en;have hd:decide ((120:Int) < (n:Int)) = true:=by have:=HLO.o; rw [<- HN.o] at this; simp; omega
 go_wp2_with fail;refine (xV 2 (by decide) _).mono ?_;rintro e w4 ⟨v,rfl,h1,h4⟩;have H1:=Hi h1;have H4:=Hi h4;clear h1 h4;go_wp2_with fail;go_ret3;exact kq.fault HC2.o (by decide) HB3.o H1.o H4.o
theorem VW (l:List UInt8) (hl:l.length = 128) (hc:Zo l = true) (hshort:nB l <= 120) (w:World) (hg:zO w):Calls Tryz.prog 155 #[pgV (pgB l)] w (kq l w):=by
 have HSO:=Hi hc;have HLO:=Hi hshort;clear hshort;have HL:=Hi hl;have HC:=Hi hc;have HG:=Hi hg;clear hl hc hg;obtain ⟨b,HB⟩:=hY (w.1.size)
 go_enter Tryz.func155,Tryz.ntmps155
 go_wp2_with fail;obtain ⟨w0,HW0⟩:=hY (w.alloc (.cells (zx (pgB l)) 87));rw [<- HW0.o,<- HB.o];have H0:=hI (w0.rangeAt b 0 (ze (pgB l))) (by rw [HW0.o,HB.o]; exact (Own.new (w:=w) 87).at_);have HB0:=hI (Below w.1.size w w0) (by rw [HW0.o]; exact bA);refine wp_region_held (S:=fun w'=>w'.rangeAt b 0 (ze (pgB l))) (by kernel_rfl) ?_;change wpAnyH _ _ _ _ _ _ _ _ w0.drew;obtain ⟨w1,HW⟩:=hY (w0.drew);rw [<- HW.o];have H1:=hI (w1.rangeAt b 0 (ze (pgB l))) (by rw [HW.o]; exact H0.o);have HB1:=hI (Below w.1.size w w1) (by rw [HW.o]; exact HB0.o.drew);clear HW H0 HB0 HW0;refine xA9 0 10 (Value.slice (some ⟨b,0,none⟩) 4 128) H1.o ?_;refine xG9 1 11 (.string ⟨(l.take 4).toArray⟩) rfl (.inl ⟨by rfl,fun _ hw=>by have hcv:=kh (n:=4) (cap:=128) (qx hw 4) (by rw [zfZ,HL.o]; rfl); go_simp⟩) H1.o ?_;refine xG9 2 12 (pgV (pgB l)) rfl (yieldsIf_load_mid (by rfl) _ _ rfl b 0 rfl (ze (pgB l)) _ (fun _ hw=>hw) Tryz.underlying87 rfl (by rw [yq,HL.o]; exact Tryz.pageSize)) H1.o ?_;refine xJ9 3 (some 13) (fun K hK=>?_);go_simp;refine (Zt l HL.o w1 (HG.o.carry HB1.o)).mono ?_;rintro e w2 ⟨rfl,hb⟩;have HB2:=hI (Below w.1.size w w2) (HB1.o.trans (hb.mono HB1.o.size));have H2:=hI (w2.rangeAt b 0 (ze (pgB l))) (fun j v hv=>(hb.cell (p:=⟨b,0 + j,none⟩) (yQ (H1.o j v hv))).trans (H1.o j v hv));clear hb H1 HB1;refine hK.out _ _ H2.o ?_;clear hK K;refine xJ9 4 (some 14) (fun K hK=>?_);go_simp;rw [WV,HC.o];refine hK.out _ _ H2.o ?_;clear hK K;refine wpAnyH_done (by kernel_rfl) ?_ _;have hk:=zeM l;have hn:=zeN l;obtain ⟨k,HK⟩:=hY ((kB l).toNat);obtain ⟨n,HN⟩:=hY (nB l);have c4:w2.cell? ⟨b,4,none⟩ = some (.int .u8 (k:Int)):=by
  have:=H2.o 4 (.int .u8 ((kB l).toNat:Int)) (by simp [ze,pgB,kB,HL.o]);rw [HK.o]; simpa using this
 have c5:w2.cell? ⟨b,5,none⟩ = some (.int .u8 (n:Int)):=by
  have:=H2.o 5 (.int .u8 (nB l:Int)) (by simp [ze,pgB,nB,HL.o]);rw [HN.o]; simpa using this
 rw [<- HK.o] at hk;rw [<- HN.o] at hn;have HC4:=Hi c4;have HC5:=Hi c5;clear c4 c5;go_wp2_with fail;refine qL (by kernel_rfl) (by kernel_rfl) (fun w3 HW=>?_);have c4:w3.cell? ⟨b,4,none⟩ = some (.int .u8 (k:Int)):=by rw [HW.o]; exact HC4.o
 have c5:w3.cell? ⟨b,5,none⟩ = some (.int .u8 (n:Int)):=by rw [HW.o]; exact HC5.o
 have H3:=hI (w3.rangeAt b 0 (ze (pgB l))) (by rw [HW.o]; exact H2.o);have HB3:=hI (Below w.1.size w w3) (by rw [HW.o]; exact HB2.o.drew);clear HW H2 HB2 HC4 HC5;have ek:IntKind.i64.wrap (k:Int) = (k:Int):=IntWalk.i64_in _ (by omega);have en:IntKind.i64.wrap (n:Int) = (n:Int):=IntWalk.i64_in _ (by omega)
 iterate 8 still_step
 refine wpStill_nil ?_;clear c4 c5 ek en;have hn0:=HLO.o;rw [<- HN.o] at hn0;have hd:decide ((120:Int) < (n:Int)) = false:=by simp; omega
 have hcv:=kh (w:=w3) (b:=b) (o:=6) (n:=n) (cap:=122) (l:=dB l) (by
  have:=qx (WI H3.o 6) (nB l);rw [zfP] at this;exact this) (by rw [Y0 HL.o HLO.o,HN.o])
 have hsl:=fun w=>zbJ w b hn0
 have hz:=Tryz.zeroPage;obtain ⟨d,HD⟩:∃ d:ByteArray,Hid (d = ⟨(dB l).toArray⟩):=Hy;rw [<- HD.o] at hcv;have HDT:=hI (d.data.toList = dB l) (by rw [HD.o]);have HDZ:=hI (d.size <= 120) (by rw [HD.o,jk,Y0 HL.o HLO.o]; exact HLO.o);by_cases hk0:k = 0
 ·have hc2:xP l = 2:=by
   unfold xP;have:kB l = 0:=UInt8.toNat_inj.1 (by rw [<- HK.o,hk0]; rfl);rw [if_pos HSO.o,if_neg (by have:=HLO.o; omega),if_pos this]
  have HC2:=Hi hc2;subst hk0;clear hc2;go_wp2_with fail;refine (Vp _ _ _ (by decide)).mono ?_;rintro e w4 ⟨v,rfl,he,hb⟩;obtain ⟨t,x,rfl⟩:=he.some (by decide);have HB4:=hI (Below w.1.size w w4) (HB3.o.trans (hb.mono HB3.o.size));clear hb hcv hsl he;go_wp2_with (with_reducible refine xD9 (none) ?_);refine zv rfl _ _ _ rfl (zx zt) (zx zt) _ rfl rfl rfl (by rw [zu,zI]; exact Tryz.pageSize) rfl (yS _) ?_;obtain ⟨w5,HW⟩:=hY (w4.alloc (.cells (zx zt) 87));rw [<- HW.o];have HB5:=hI (Below w.1.size w w5) (by rw [HW.o]; exact HB4.o.alloc HB4.o.size _);clear HW;go_wp2_with fail;refine (xV 2 (by decide) _).mono ?_;rintro e w6 ⟨v,rfl,h1,h4⟩;have H1:=Hi h1;have H4:=Hi h4;clear h1 h4;go_wp2_with fail;go_ret3;exact kq.fault HC2.o (by decide) HB5.o H1.o H4.o
 ·have hc0:xP l = if jU (kB l) (dB l) = l then 0 else 2:=by
   unfold xP;have:kB l ≠ 0:=fun e=>hk0 (by rw [HK.o,e]; rfl)
   rw [if_pos HSO.o,if_neg (by have:=HLO.o; omega),if_neg this]
  have HC0:=Hi hc0;obtain ⟨y,HY⟩:=hY (jU (kB l) (dB l));have HYL:=hI (y.length = 128) (by rw [HY.o]; exact kG (by rw [Y0 HL.o HLO.o]; exact HLO.o));have HKB:=hI (UInt8.ofNat k = kB l) (by rw [HK.o]; exact UInt8.ofNat_toNat);clear hc0;go_wp2_with fail;refine (Vq k _ _ (by omega) (by omega) HDZ.o (HG.o.carry HB3.o)).mono ?_;rw [HDT.o,HKB.o,<- HY.o];rintro e w4 ⟨rfl,hb⟩;have HB4:=hI (Below w.1.size w w4) (HB3.o.trans (hb.mono HB3.o.size));have H4r:=hI (w4.rangeAt b 0 (ze (pgB l))) (fun j v hv=>(hb.cell (p:=⟨b,0 + j,none⟩) (yQ (H3.o j v hv))).trans (H3.o j v hv));clear hb hcv hsl;go_wp2_with (with_reducible refine xD9 (none) ?_);refine zv rfl _ _ _ rfl (zx zt) (zx (pgB y)) _ rfl rfl rfl (by rw [zu,yC,HYL.o]; exact Tryz.pageSize) (by rw [zu,zu,yC,HYL.o]; rfl) (yS _) ?_;obtain ⟨w5,HW⟩:=hY (w4.alloc (.cells (zx (pgB y)) 87));obtain ⟨c,HCB⟩:=hY (w4.1.size);rw [<- HW.o,<- HCB.o];have HB5:=hI (Below w.1.size w w5) (by rw [HW.o]; exact HB4.o.alloc HB4.o.size _);have H5:=hI (w5.rangeAt b 0 (ze (pgB l))) (by rw [HW.o]; exact World.rangeAt_alloc H4r.o _);have H5c:=hI (w5.rangeAt c 0 (ze (pgB y))) (by rw [HW.o,HCB.o]; exact (Own.new _).at_);clear HW;have heq:=Xu (pgB y) (pgB l) (by rw [yC]; exact HYL.o) (by rw [yC]; exact HL.o);have hgp:=Qq;have hde:decide (pgB y = pgB l) = decide (xP l = 0):=by
   rw [HC0.o,<- HY.o];by_cases e:y = l
   ·rw [if_pos e,e]; simp
   ·rw [if_neg e];have:pgB y ≠ pgB l:=fun h=>e (zay h)
    simp [this]
  rw [hde] at heq;clear hde;by_cases h0:xP l = 0
  ·have hd0:decide (xP l = 0) = true:=by simp [h0]
   rw [hd0] at heq;have HZ:=Hi h0;clear hd0 h0;go_wp2_with (with_reducible refine xD9 (some 38) ?_);refine BigFrame.wpList_want (by rfl) (fun K hK=>?_);refine wp_load_mid _ _ rfl c 0 rfl (ze (pgB y)) _ H5c.o Tryz.underlying87 rfl (by rw [yq,HYL.o]; exact Tryz.pageSize) (hK _ _ ?_);rw [show Value.agg (ze (pgB y)).toArray = pgV (pgB y) from rfl];clear hK K;refine BigFrame.wpList_want (by rfl) (fun K hK=>?_);refine wp_load_mid _ _ rfl b 0 rfl (ze (pgB l)) _ H5.o Tryz.underlying87 rfl (by rw [yq,HL.o]; exact Tryz.pageSize) (hK _ _ ?_);rw [show Value.agg (ze (pgB l)).toArray = pgV (pgB l) from rfl];clear hK K;go_wp2_with fail;go_ret3;refine ⟨.nilIface,?_,by rw [HZ.o]; exact .nil _ _,HB5.o⟩;rw [if_pos HZ.o,if_pos HZ.o,<- HD.o,HK.o];rfl
  ·have hd0:decide (xP l = 0) = false:=by simp [h0]
   rw [hd0] at heq;have HZ:=hI (xP l = 2) (by
    have:=HC0.o;rw [this] at h0 ⊢;by_cases e:jU (kB l) (dB l) = l
    ·rw [if_pos e] at h0; exact absurd rfl h0
    ·rw [if_neg e])
   clear hd0 h0;go_wp2_with (with_reducible refine xD9 (some 38) ?_);refine BigFrame.wpList_want (by rfl) (fun K hK=>?_);refine wp_load_mid _ _ rfl c 0 rfl (ze (pgB y)) _ H5c.o Tryz.underlying87 rfl (by rw [yq,HYL.o]; exact Tryz.pageSize) (hK _ _ ?_);rw [show Value.agg (ze (pgB y)).toArray = pgV (pgB y) from rfl];clear hK K;refine BigFrame.wpList_want (by rfl) (fun K hK=>?_);refine wp_load_mid _ _ rfl b 0 rfl (ze (pgB l)) _ H5.o Tryz.underlying87 rfl (by rw [yq,HL.o]; exact Tryz.pageSize) (hK _ _ ?_);rw [show Value.agg (ze (pgB l)).toArray = pgV (pgB l) from rfl];clear hK K;go_wp2_with fail;refine (xV 2 (by decide) _).mono ?_;rintro e w6 ⟨v,rfl,h1,h4⟩;have H1:=Hi h1;have H4:=Hi h4;clear h1 h4;go_wp2_with fail;go_ret3;exact kq.fault HZ.o (by decide) HB5.o H1.o H4.o
theorem JY (l:List UInt8) (hl:l.length = 128) (w:World) (hg:zO w):Calls Tryz.prog 155 #[pgV (pgB l)] w (kq l w):=by
 cases hs:Zo l
 ·exact JZ l hl hs w hg
 ·by_cases hn:nB l <= 120
  ·exact VW l hl hs hn w hg
  ·exact KD l hl hs (by omega) w hg
end
section
def wG (c kind:Int) (l:List UInt8):Int:=if c ≠ 0 then c else if xP l ≠ 0 then xP l else if ((kB l).toNat:Int) = kind then 0 else 2
def qh (c:Int) (l:List UInt8) (w:World) (e:Ending) (w':World):Prop :=
 ∃ v,e = .returned (.tuple #[.string (if c = 0 then ⟨(dB l).toArray⟩ else ⟨#[]⟩),v]) /\ zi w' w.1.size c v /\ Below w.1.size w w'
theorem qh.fault {l:List UInt8} {w w1 w':World} {c:Int} {v:Value} (h0:c ≠ 0) (hb:Below w.1.size w w1) (he:zi w' w1.1.size c v) (hb':Below w1.1.size w1 w') :
  qh c l w (.returned (.tuple #[.string ⟨#[]⟩,v])) w':=by
 refine ⟨v,?_,he.mono hb.size,hb.trans (hb'.mono hb.size)⟩;rw [if_neg h0]
theorem JX (c:Int) (h0:c ≠ 0) (D:Value) (i kind:Int) (l:List UInt8) (w:World) (hr:Calls Tryz.prog 47 #[D,.int .i64 i] w (Yj c zt w)) :
  Calls Tryz.prog 127 #[D,.int .i64 i,.int .i64 kind] w (qh c l w):=by
 have H0:=Hi h0;have HR:=Hi hr;clear h0 hr;have hz:=Tryz.zeroPage
 go_enter Tryz.func127,Tryz.ntmps127
 go_wp2_with fail;refine HR.o.mono ?_;rintro e w1 ⟨v,rfl,he,hb⟩;obtain ⟨t,x,rfl⟩:=he.some H0.o;have HE:=Hi he;have HB:=Hi hb;clear he hb;go_wp2_with (with_reducible refine xD9 (none) ?_);refine zv rfl _ _ _ rfl (zx zt) (zx zt) _ rfl rfl rfl (by rw [zu,zI]; exact Tryz.pageSize) rfl (yS _) ?_;obtain ⟨w2,HW⟩:=hY (w1.alloc (.cells (zx zt) 87));rw [<- HW.o];have hb2:Below w1.1.size w1 w2:=by rw [HW.o]; exact bA
 have HB2:=hI (Below w.1.size w w2) (HB.o.trans (hb2.mono HB.o.size));have HE2:=hI (zi w2 w.1.size c (.iface t x)) ((HE.o.from_).below hb2);clear HW hb2;go_wp2_with fail;refine (yv _ w.1.size c _ w2 HE2.o HB2.o.size).mono ?_;rintro e w3 ⟨v,rfl,h1,h4⟩;have H1:=Hi h1;have H4:=Hi h4;clear h1 h4;go_wp2_with fail
 go_ret2
 refine ⟨v,?_,H1.o,HB2.o.trans (H4.o.mono HB2.o.size)⟩;rw [if_neg H0.o];rfl
theorem KC (D:Value) (i kind:Int) (l:List UInt8) (hl:l.length = 128) (w:World) (hr:Calls Tryz.prog 47 #[D,.int .i64 i] w (Yj 0 (pgB l) w)) (hg:zO w) :
  Calls Tryz.prog 127 #[D,.int .i64 i,.int .i64 kind] w (qh (wG 0 kind l) l w):=by
 have HG:=Hi hg;have HR:=Hi hr;have HL:=Hi hl;clear hg hr hl;have hz:=Tryz.zeroPage
 go_enter Tryz.func127,Tryz.ntmps127
 go_wp2_with fail;refine HR.o.mono ?_;rintro e w1 ⟨v,rfl,he,hb⟩;obtain rfl:=he.zero;have HB:=Hi hb;clear he hb;go_wp2_with (with_reducible refine xD9 (none) ?_);refine zv rfl _ _ _ rfl (zx zt) (zx (pgB l)) _ rfl rfl rfl (by rw [zu,yC,HL.o]; exact Tryz.pageSize) (by rw [zu,zu,yC,HL.o]; rfl) (yS _) ?_;obtain ⟨w2,HW⟩:=hY (w1.alloc (.cells (zx (pgB l)) 87));obtain ⟨b,HBB⟩:=hY (w1.1.size);rw [<- HW.o,<- HBB.o];have HB2:=hI (Below w.1.size w w2) (by rw [HW.o]; exact HB.o.alloc HB.o.size _);have H2:=hI (w2.rangeAt b 0 (ze (pgB l))) (by rw [HW.o,HBB.o]; exact (Own.new _).at_);clear HW HBB;go_wp2_with (with_reducible refine xD9 (some 23) ?_);refine wX rfl _ _ rfl b 0 rfl (pgB l) (by rw [yC]; exact HL.o) H2.o _ Tryz.underlying87 rfl Tryz.pageSize ?_;go_wp2_with fail;refine (JY l HL.o w2 (HG.o.carry HB2.o)).mono ?_;rintro e w3 ⟨v,rfl,he,hb⟩;have HB3:=Hi hb;by_cases hc:xP l = 0
 ·rw [if_pos hc,if_pos hc];rw [hc] at he;obtain rfl:=he.zero;have HC:=Hi hc;obtain ⟨k,HK⟩:=hY ((kB l).toNat);rw [<- HK.o];clear he hb hc;by_cases hk:(k:Int) = kind
  ·have HKK:=Hi hk;have hkk:((k:Int) == kind) = true:=by simp [hk]
   clear hk;go_wp2_with fail
   go_ret2
   have hz0:wG 0 kind l = 0:=by
    unfold wG;rw [if_neg (by decide),if_neg (by rw [HC.o]; decide),if_pos (by rw [<- HK.o]; exact HKK.o)]
   rw [hz0];exact ⟨.nilIface,by rw [if_pos rfl]; rfl,.nil _ _,HB2.o.trans (HB3.o.mono HB2.o.size)⟩
  ·have hz2:wG 0 kind l = 2:=by
    unfold wG;rw [if_neg (by decide),if_neg (by rw [HC.o]; decide),if_neg (by rw [<- HK.o]; exact hk)]
   have HZ:=Hi hz2;have hkk:((k:Int) == kind) = false:=by simp [hk]
   clear hz2 hk;go_wp2_with fail;refine (xV 2 (by decide) _).mono ?_;rintro e w4 ⟨v,rfl,h1,h4⟩;have H1:=Hi h1;have H4:=Hi h4;clear h1 h4;go_wp2_with fail
   go_ret2
   rw [HZ.o];exact qh.fault (by decide) (HB2.o.trans (HB3.o.mono HB2.o.size)) H1.o H4.o
 ·have hzc:wG 0 kind l = xP l:=by
   unfold wG;rw [if_neg (by decide),if_pos hc]
  have HZ:=Hi hzc;have HC:=Hi hc;have HE:=Hi he;obtain ⟨t,x,rfl⟩:=he.some hc;rw [if_neg hc,if_neg hc];clear he hb hc hzc;go_wp2_with fail
  go_ret2
  rw [HZ.o];exact ⟨.iface t x,by rw [if_neg HC.o]; rfl,HE.o.mono HB2.o.size,HB2.o.trans (HB3.o.mono HB2.o.size)⟩
theorem X4 {K:Nat -> Prop} {D n:Nat} {d:Dk} {w:World} (h:zB K w D n d) (i kind:Int) (l:List UInt8) (hl:l.length = 128) (hp:xQ d.down n i = 0 -> xU d.seen i.toNat = pgB l) (hg:zO w) :
  Calls Tryz.prog 127 #[.pointer (some ⟨D,0,none⟩),.int .i64 i,.int .i64 kind] w (qh (wG (xQ d.down n i) kind l) l w):=by
 have hr:=qT h i;by_cases h0:xQ d.down n i = 0
 ·rw [h0,if_pos rfl,hp h0] at hr;rw [h0];exact KC _ i kind l hl w hr hg
 ·rw [if_neg h0] at hr;have:wG (xQ d.down n i) kind l = xQ d.down n i:=by unfold wG; rw [if_pos h0]
  rw [this];exact JX _ h0 _ i kind l w hr
theorem W2 {Post:Ending -> World -> Prop} (D:Value) (i k:Int) (s:ByteArray) (w:World) (hc:qD k s = 0) (hg:zO w)
  (h:∀ w2,Below w.1.size w w2 -> Calls Tryz.prog 48 #[D,.int .i64 i,pgV (qI k s)] w2 fun e w3=>∃ v c,e = .returned v /\ zi w3 w2.1.size c v /\ w2.1.size <= w3.1.size /\ ∀ v' w4,zi w4 w2.1.size c v' -> Below w3.1.size w3 w4 -> Post (.returned v') w4) :
  Calls Tryz.prog 79 #[D,.int .i64 i,.int .i64 k,.string s] w Post:=by
 have HL:=Hi (zaJ k s w hg);have HH:=Hi h;rw [hc] at HL;clear hc hg h;have hz:=Tryz.zeroPage
 go_enter Tryz.func79,Tryz.ntmps79
 go_wp2_with fail;refine HL.o.mono ?_;rintro e w1 ⟨v,rfl,he,hb⟩;obtain rfl:=he.zero;have HB:=Hi hb;have hpl:=YE k s;obtain ⟨p,HP⟩:=hY (qI k s);rw [<- HP.o] at hpl HH ⊢;have HPL:=Hi hpl;clear he hb hpl;go_wp2_with (with_reducible refine xD9 (none) ?_);refine zv rfl _ _ _ rfl (zx zt) (zx p) _ rfl rfl rfl (by rw [zu,HPL.o]; exact Tryz.pageSize) (by rw [zu,zu,HPL.o]; rfl) (yS _) ?_;obtain ⟨w2,HW⟩:=hY (w1.alloc (.cells (zx p) 87));obtain ⟨b,HBB⟩:=hY (w1.1.size);rw [<- HW.o,<- HBB.o];have HB2:=hI (Below w.1.size w w2) (by rw [HW.o]; exact HB.o.alloc HB.o.size _);have hbl:w2.1[b]? = some (.cells (zx p) 87 (0,0)):=by rw [HW.o,HBB.o]; exact heap_alloc_last w1 _
 have HR:=hI (w2.rangeAt b 0 (ze p)) (fun j u hu=>by
  rw [cell_of_row w2 b (0 + j) _ _ _ hbl,zfP];simpa [zx] using hu)
 clear HW HBB hbl;go_wp2_with (with_reducible refine xD9 (some 22) ?_);refine wX rfl _ _ rfl b 0 rfl p HPL.o HR.o _ Tryz.underlying87 rfl Tryz.pageSize ?_;go_wp2_with fail;refine (HH.o w2 HB2.o).mono ?_;rintro e w3 ⟨v,c,rfl,he,hs,hp⟩;have HE:=Hi he;have HS:=Hi hs;have HP3:=Hi hp;clear he hs hp;go_wp2_with fail;refine (yv _ w2.1.size c v w3 HE.o HS.o).mono ?_;rintro e w4 ⟨v',rfl,h1,h4⟩;have H1:=Hi h1;have H4:=Hi h4;clear h1 h4;go_wp2_with fail;exact HP3.o v' w4 H1.o H4.o
theorem Xi {K:Nat -> Prop} {D n i:Nat} {d:Dk} {w:World} (h:zB K w D n d) (ht:zR K w) (hd:d.down = false) (hi:i < n) (hs:d.soft.length <= 1000000) (k:Int) (s:ByteArray) (hc:qD k s = 0) (hg:zO w) :
  Calls Tryz.prog 79 #[.pointer (some ⟨D,0,none⟩),.int .i64 i,.int .i64 k,.string s] w fun e w'=>e = .returned .nilIface /\ zB K w' D n (d.write i (qI k s)) /\ zf K w w':=by
 refine W2 _ i k s w hc hg fun w2 hb2=>(Vv (h.carry hb2) (ht.below hb2) hd hi (YE k s) hs).mono ?_
 rintro e w3 ⟨rfl,hd3,hk3⟩;refine ⟨.nilIface,0,rfl,.nil _ _,hk3.size,fun v' w4 h4 hb4=>?_⟩;obtain rfl:=h4.zero;exact ⟨rfl,hd3.carry hb4,((zf.of_below hb2 ht).trans hk3).trans (zf.of_below hb4 fun j hj=>Nat.lt_of_lt_of_le ((ht.below hb2) j hj) hk3.size)⟩
end
section
structure yL (w:World):Prop where
 err:Laid w
 crc:zO w
theorem yL.carry {w w':World} (h:yL w) (hb:Below w.1.size w w'):yL w':=⟨h.err.carry hb,h.crc.carry hb⟩
end
