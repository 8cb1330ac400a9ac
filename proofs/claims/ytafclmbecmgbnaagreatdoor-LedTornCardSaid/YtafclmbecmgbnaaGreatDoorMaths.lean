/-
  Maths. Conditions: as said.
-/
open List renaming replicate -> zfY,getD_eq_getElem?_getD -> zfL,getElem?_eq_getElem -> zfM,getElem_mem -> zf3,length_take -> zfZ
open Nat renaming le_refl -> zfI
open Bool renaming and_eq_true -> zf4,or_eq_true_iff -> zf5
namespace Go.Proofs.YtafclmbecmgbnaaGreatDoor
namespace Crc
def zew:BitVec 32:=0xedb88320#32
def Qr (r:BitVec 32):BitVec 32:=if r.getLsbD 0 then (r >>> 1) ^^^ zew else r >>> 1
theorem zcN (a b:BitVec 32):Qr (a ^^^ b) = Qr a ^^^ Qr b:=by
 unfold Qr;rw [BitVec.getLsbD_xor,BitVec.ushiftRight_xor_distrib];cases a.getLsbD 0 <;> cases b.getLsbD 0 <;> simp
 ·rw [BitVec.xor_assoc]
 ·rw [BitVec.xor_assoc,BitVec.xor_assoc,BitVec.xor_comm zew]
 ·rw [BitVec.xor_comm (b >>> 1),<- BitVec.xor_assoc,BitVec.xor_assoc (a >>> 1) zew zew]; simp
def hn:Nat -> BitVec 32 -> BitVec 32
 | 0,r=>r
 | n + 1,r=>Qr (hn n r)
theorem ze2 (n:Nat) (a b:BitVec 32):hn n (a ^^^ b) = hn n a ^^^ hn n b:=by
 induction n with
 | zero=>rfl
 | succ n ih=>simp only [hn,ih,zcN]
theorem hn_add (m n:Nat) (r:BitVec 32):hn (m + n) r = hn m (hn n r):=by
 induction m with
 | zero=>simp [hn]
 | succ m ih=>rw [Nat.succ_add]; simp only [hn,ih]
def zfE:List Nat:=[0,498536548,997073096,651767980,1994146192,1802195444,1303535960,1342533948,3988292384,4027552580,3604390888,3412177804,2607071920,2262029012,2685067896,3183342108]
def tab (k:Nat):BitVec 32:=BitVec.ofNat 32 (zfE.getD k 0)
theorem zfl (k:Nat) (hk:k < 16):hn 4 (BitVec.ofNat 32 k) = tab k:=by
 have:∀ k:Fin 16,hn 4 (BitVec.ofNat 32 k.val) = tab k.val:=by decide +kernel
 exact this ⟨k,hk⟩
theorem Yv (r:BitVec 32) (h:r.getLsbD 0 = false):Qr r = r >>> 1:=by unfold Qr; rw [if_neg (by rw [h]; decide)]
theorem zcO (r:BitVec 32):hn 4 ((r >>> 4) <<< 4) = r >>> 4:=by
 simp only [hn];have z:∀ i,i < 4 -> ((r >>> 4) <<< 4).getLsbD i = false:=fun i hi=>by simp [BitVec.getLsbD_shiftLeft,hi]
 rw [Yv ((r >>> 4) <<< 4) (z 0 (by omega)),Yv (((r >>> 4) <<< 4) >>> 1) (by rw [BitVec.getLsbD_ushiftRight]; exact z 1 (by omega)),
  Yv (((r >>> 4) <<< 4) >>> 1 >>> 1) (by rw [BitVec.getLsbD_ushiftRight,BitVec.getLsbD_ushiftRight]; exact z 2 (by omega)),
  Yv (((r >>> 4) <<< 4) >>> 1 >>> 1 >>> 1) (by rw [BitVec.getLsbD_ushiftRight,BitVec.getLsbD_ushiftRight,BitVec.getLsbD_ushiftRight]; exact z 3 (by omega))]
 apply BitVec.eq_of_getLsbD_eq;intro i hi;simp only [BitVec.getLsbD_ushiftRight,BitVec.getLsbD_shiftLeft];by_cases h:4 + i < 32
 ·have e:1 + (1 + (1 + (1 + i))) = 4 + i:=by omega
  rw [e];simp [h]
 ·have e:1 + (1 + (1 + (1 + i))) = 4 + i:=by omega
  rw [e];have:r.getLsbD (4 + i) = false:=BitVec.getLsbD_of_ge _ _ (by omega);simp [this]
theorem zfj (r:BitVec 32):r = ((r >>> 4) <<< 4) ^^^ BitVec.ofNat 32 (r.toNat % 16):=by
 apply BitVec.eq_of_getLsbD_eq;intro i hi;have e:(BitVec.ofNat 32 (r.toNat % 16)).getLsbD i = (decide (i < 4) && r.getLsbD i):=by
  rw [BitVec.getLsbD_ofNat];have:r.toNat % 16 = r.toNat % 2 ^ 4:=rfl;rw [this,Nat.testBit_mod_two_pow];simp [hi,BitVec.getLsbD]
 rw [BitVec.getLsbD_xor,e];simp only [BitVec.getLsbD_ushiftRight,BitVec.getLsbD_shiftLeft];by_cases h:i < 4
 ·simp [h]
 ·have:4 + (i - 4) = i:=by omega
  simp [h,hi,this]
theorem zfa (r:BitVec 32):(r >>> 4) ^^^ tab (r.toNat % 16) = hn 4 r:=by
 have h:=congrArg (hn 4) (zfj r);rw [ze2,zcO,zfl _ (Nat.mod_lt _ (by omega))] at h;exact h.symm
def wide (c:UInt8):BitVec 32:=BitVec.ofNat 32 c.toNat
def step (r:BitVec 32) (c:UInt8):BitVec 32:=hn 8 (r ^^^ wide c)
def reg (r:BitVec 32) (l:List UInt8):BitVec 32:=l.foldl step r
def ones:BitVec 32:=0xffffffff#32
def more (x:BitVec 32) (l:List UInt8):BitVec 32:=reg (x ^^^ ones) l ^^^ ones
theorem QT (r:BitVec 32) (l m:List UInt8):reg r (l ++ m) = reg (reg r l) m:=by simp [reg]
end Crc
end Go.Proofs.YtafclmbecmgbnaaGreatDoor
namespace Go.Proofs.YtafclmbecmgbnaaGreatDoor
def be:Nat -> Nat -> List UInt8
 | 0,_=>[]
 | w + 1,n=>be w (n / 256) ++ [UInt8.ofNat n]
def num (l:List UInt8):Nat:=l.foldl (fun a c=>256 * a + c.toNat) 0
theorem yK (w n:Nat):(be w n).length = w:=by
 induction w generalizing n with
 | zero=>rfl
 | succ w ih=>simp [be,ih]
theorem zec (w n:Nat):be (w + 1) n = UInt8.ofNat (n / 256 ^ w) :: be w n:=by
 induction w generalizing n with
 | zero=>simp [be]
 | succ w ih =>
  rw [be,ih,List.cons_append,Nat.div_div_eq_div_mul,<- Nat.pow_add_one'];rfl
theorem zft {w i:Nat} (n:Nat) (h:i < w):(be w n)[i]? = some (UInt8.ofNat (n / 256 ^ (w - 1 - i))):=by
 induction w generalizing i with
 | zero=>omega
 | succ w ih =>
  rw [zec];cases i with
  | zero=>simp
  | succ i =>
   rw [List.getElem?_cons_succ,ih (by omega)];have e:w - 1 - i = w + 1 - 1 - (i + 1):=by omega
   rw [e]
theorem zed {w i:Nat} (n:Nat) (h:i < w):(be w n).take (i + 1) = (be w n).take i ++ [UInt8.ofNat (n / 256 ^ (w - 1 - i))]:=by
 rw [List.take_add_one,zft n h];rfl
theorem zaq (w n:Nat):(be w n).take w = be w n:=List.take_of_length_le (by rw [yK]; exact zfI _)
theorem YC (l:List UInt8) (c:UInt8):num (l ++ [c]) = 256 * num l + c.toNat:=by simp [num]
theorem zdd (l:List UInt8):num l < 256 ^ l.length:=by
 have h:∀ k (l:List UInt8),l.length = k -> num l < 256 ^ k:=by
  intro k;induction k with
  | zero=>intro l hl; obtain rfl:=List.eq_nil_of_length_eq_zero hl; decide
  | succ k ih =>
   intro l hl;have hne:l ≠ []:=by rintro rfl; simp at hl
   rw [<- List.dropLast_concat_getLast hne,YC];have h1:=ih l.dropLast (by simp [hl]);have h2:=(l.getLast hne).toNat_lt;rw [Nat.pow_succ];omega
 exact h _ l rfl
theorem QI {w n:Nat} (h:n < 256 ^ w):num (be w n) = n:=by
 induction w generalizing n with
 | zero=>simp at h; subst h; rfl
 | succ w ih =>
  rw [Nat.pow_succ] at h;rw [be,YC,ih (by omega),UInt8.toNat_ofNat'];omega
theorem zde {l:List UInt8} {k:Nat} (h:k < l.length):num (l.take (k + 1)) = 256 * num (l.take k) + l[k].toNat:=by
 rw [List.take_add_one,zfM h];exact YC _ _
theorem Zh (l:List UInt8) (k:Nat):num (l.take k) < 256 ^ k :=
 Nat.lt_of_lt_of_le (zdd _) (Nat.pow_le_pow_right (by decide) (by rw [zfZ]; omega))
def lays:List (Nat × Nat) -> List UInt8
 | []=>[]
 | x :: r=>be x.1 x.2 ++ lays r
theorem Jc (a b:List (Nat × Nat)):lays (a ++ b) = lays a ++ lays b:=by
 induction a with
 | nil=>rfl
 | cons x r ih=>simp [lays,ih]
theorem zc0 (x:Nat × Nat):lays [x] = be x.1 x.2:=by simp [lays]
end Go.Proofs.YtafclmbecmgbnaaGreatDoor
namespace Go.Proofs.YtafclmbecmgbnaaGreatDoor
abbrev Pg:=List Int
abbrev jp:=List (Nat × Pg)
def zt:Pg:=zfY 128 0
theorem zI:zt.length = 128:=by simp [zt]
def Whole (l:List Pg):Prop:=∀ p ∈ l,p.length = 128
theorem Whole.at_ {l:List Pg} (h:Whole l) {i:Nat} (hi:i < l.length):(l[i]).length = 128:=h _ (zf3 _)
theorem Whole.set {l:List Pg} (h:Whole l) (i:Nat) {p:Pg} (hp:p.length = 128):Whole (l.set i p):=fun q hq=>by
 rcases List.mem_or_eq_of_mem_set hq with h1 | rfl
 ·exact h q h1
 ·exact hp
theorem Whole.replicate (n:Nat) {p:Pg} (hp:p.length = 128):Whole (zfY n p):=fun q hq=>by
 rw [(List.mem_replicate.1 hq).2]; exact hp
def ZR (n:Nat) (s:jp):Prop:=∀ x ∈ s,x.1 < n /\ x.2.length = 128
theorem ZR.nil (n:Nat):ZR n []:=by simp [ZR]
theorem ZR.snoc {n:Nat} {s:jp} (h:ZR n s) {a:Nat} {p:Pg} (ha:a < n) (hp:p.length = 128):ZR n (s ++ [(a,p)]):=fun x hx=>by
 rcases List.mem_append.1 hx with h1 | h1
 ·exact h x h1
 ·obtain rfl:=List.mem_singleton.1 h1;exact ⟨ha,hp⟩
theorem ZR.at_ {n:Nat} {s:jp} (h:ZR n s) {i:Nat} (hi:i < s.length):(s[i]).1 < n /\ (s[i]).2.length = 128:=h _ (zf3 _)
def YG (firm:List Pg) (s:jp) (i:Nat):Nat -> Pg
 | 0=>firm.getD i []
 | k + 1=>if (s.getD k (0,[])).1 = i then (s.getD k (0,[])).2 else YG firm s i k
def VJ (firm:List Pg) (s:jp) (i:Nat):Pg:=YG firm s i s.length
theorem YH (firm:List Pg) (s t:jp) (i:Nat):∀ k,k <= s.length -> YG firm (s ++ t) i k = YG firm s i k
 | 0,_=>rfl
 | k + 1,h=>by
  have e:(s ++ t).getD k (0,[]) = s.getD k (0,[]):=by
   rw [zfL,zfL,List.getElem?_append_left (by omega)]
  rw [YG,YG,e,YH firm s t i k (by omega)]
theorem QQ (firm:List Pg) (s:jp) (a:Nat) (p:Pg) (i:Nat):VJ firm (s ++ [(a,p)]) i = if a = i then p else VJ firm s i:=by
 unfold VJ;rw [List.length_append,List.length_singleton,YG,YH firm s _ i _ (zfI _)];simp [zfL]
def kept (m i:Nat):Prop:=m / 2 ^ (i % 32) % 2 = 1
instance (m i:Nat):Decidable (kept m i):=by unfold kept; infer_instance
def over (k:Nat) (p q:Pg):Pg:=p.take k ++ q.drop k
theorem Zi {k:Nat} {p q:Pg} (hp:p.length = 128) (hq:q.length = 128) (hk:k <= 128):(over k p q).length = 128:=by
 unfold over;rw [List.length_append,zfZ,List.length_drop];omega
def wS (m k:Nat) (x:Nat × Pg) (f:List Pg × Nat):List Pg × Nat :=
 if kept m k then (f.1.set x.1 x.2,f.2) else (f.1.set x.1 (over f.2 x.2 (f.1.getD x.1 [])),0)
def yY (m:Nat) (s:jp) (f:List Pg × Nat):Nat -> List Pg × Nat
 | 0=>f
 | k + 1=>wS m k (s.getD k (0,[])) (yY m s f k)
def ZW (m left:Nat) (s:jp) (firm:List Pg):List Pg:=(yY m s (firm,left) s.length).1
theorem YZ (m k:Nat) (x:Nat × Pg) (f:List Pg × Nat):(wS m k x f).1.length = f.1.length:=by
 unfold wS; split <;> simp
theorem jF (m:Nat) (s:jp) (f:List Pg × Nat):∀ k,(yY m s f k).1.length = f.1.length
 | 0=>rfl
 | k + 1=>by rw [yY,YZ,jF m s f k]
theorem W7 (m left:Nat) (s:jp) (firm:List Pg):(ZW m left s firm).length = firm.length:=jF _ _ _ _
theorem qZ (m:Nat) (s:jp) (f:List Pg × Nat):∀ k,(yY m s f k).2 <= f.2
 | 0=>zfI _
 | k + 1=>by
  rw [yY]; unfold wS;split
  ·exact qZ m s f k
  ·exact Nat.zero_le _
theorem Yr {m:Nat} {s:jp} {f:List Pg × Nat} (hf:Whole f.1) (hs:ZR f.1.length s) (hl:f.2 <= 128):∀ k,k <= s.length -> Whole (yY m s f k).1
 | 0,_=>hf
 | k + 1,h=>by
  have ih:=Yr (m:=m) hf hs hl k (by omega);have hle:=qZ m s f k;have hle2:=jF m s f k;rw [yY,zfL,zfM (by omega)];have hx:=hs.at_ (show k < s.length by omega);unfold wS;split
  ·exact ih.set _ hx.2
  ·refine ih.set _ (Zi hx.2 ?_ (by omega));rw [zfL,zfM (by rw [hle2]; exact hx.1)];exact ih.at_ (by rw [hle2]; exact hx.1)
theorem Ke {m left:Nat} {s:jp} {firm:List Pg} (hf:Whole firm) (hs:ZR firm.length s) (hl:left <= 128):Whole (ZW m left s firm):=Yr hf hs hl _ (zfI _)
def Yz (t:Int):Nat:=((if t < 0 then 0 else t) % 128).toNat
theorem Jf (t:Int):Yz t < 128:=by unfold Yz; split <;> omega
structure Dk where
 firm:List Pg
 seen:List Pg
 soft:jp
 down:Bool
def Dk.new (n:Nat):Dk:=⟨zfY n zt,zfY n zt,[],false⟩
def Dk.write (d:Dk) (i:Nat) (p:Pg):Dk:=⟨d.firm,d.seen.set i p,d.soft ++ [(i,p)],d.down⟩
def Dk.flush (d:Dk):Dk:=⟨d.seen,d.seen,[],d.down⟩
def Dk.crash (d:Dk) (m:Nat) (t:Int):Dk:=⟨ZW m (Yz t) d.soft d.firm,ZW m (Yz t) d.soft d.firm,[],true⟩
def Dk.up (d:Dk):Dk:=⟨d.firm,d.seen,d.soft,false⟩
structure Dk.Ok (d:Dk) (n:Nat):Prop where
 firm:d.firm.length = n
 seen:d.seen.length = n
 wf:Whole d.firm
 ws:Whole d.seen
 fits:ZR n d.soft
theorem Dk.Ok.new (n:Nat):(Dk.new n).Ok n:=⟨by simp [Dk.new],by simp [Dk.new],Whole.replicate _ zI,Whole.replicate _ zI,ZR.nil _⟩
theorem Dk.Ok.write {d:Dk} {n:Nat} (h:d.Ok n) {i:Nat} (hi:i < n) {p:Pg} (hp:p.length = 128):(d.write i p).Ok n :=
 ⟨h.firm,by simp [Dk.write,h.seen],h.wf,h.ws.set _ hp,h.fits.snoc hi hp⟩
theorem Dk.Ok.flush {d:Dk} {n:Nat} (h:d.Ok n):d.flush.Ok n:=⟨h.seen,h.seen,h.ws,h.ws,ZR.nil _⟩
theorem Dk.Ok.crash {d:Dk} {n:Nat} (h:d.Ok n) (m:Nat) (t:Int):(d.crash m t).Ok n:=by
 have hw:Whole (ZW m (Yz t) d.soft d.firm):=Ke h.wf (by rw [h.firm]; exact h.fits) (Nat.le_of_lt (Jf t));have hl:(ZW m (Yz t) d.soft d.firm).length = n:=by rw [W7,h.firm]
 exact ⟨hl,hl,hw,hw,ZR.nil _⟩
theorem Dk.Ok.up {d:Dk} {n:Nat} (h:d.Ok n):d.up.Ok n:=⟨h.firm,h.seen,h.wf,h.ws,h.fits⟩
def xU (l:List Pg) (i:Nat):Pg:=l.getD i []
theorem zeu {l:List Pg} {i:Nat} (h:i < l.length):l[i]? = some (xU l i):=by
 rw [xU,zfL,zfM h]; rfl
theorem Js {l:List Pg} {i j:Nat} {p:Pg} (h:i < l.length):xU (l.set i p) j = if i = j then p else xU l j:=by
 unfold xU;rw [zfL,zfL,List.getElem?_set];by_cases e:i = j
 ·subst e; simp [h]
 ·simp [e]
theorem Zj {l:List Pg} {i:Nat} (hw:Whole l) (h:i < l.length):(xU l i).length = 128:=by
 rw [xU,zfL,zfM h]; exact hw.at_ h
def Dk.Sync (d:Dk):Prop:=∀ i,i < d.firm.length -> xU d.seen i = VJ d.firm d.soft i
theorem Dk.Sync.write {d:Dk} {n:Nat} (hk:d.Ok n) (h:d.Sync) {i:Nat} (hi:i < n) (p:Pg):(d.write i p).Sync:=fun j hj=>by
 show xU (d.seen.set i p) j = VJ d.firm (d.soft ++ [(i,p)]) j;rw [Js (by rw [hk.seen]; exact hi),QQ,h j hj]
theorem Dk.Sync.flush (d:Dk):d.flush.Sync:=fun _ _=>rfl
theorem Dk.Sync.crash (d:Dk) (m:Nat) (t:Int):(d.crash m t).Sync:=fun _ _=>rfl
theorem Dk.Sync.up {d:Dk} (h:d.Sync):d.up.Sync:=h
theorem XL {m k:Nat} {x:Nat × Pg} {f:List Pg × Nat} {i:Nat} (h:x.1 ≠ i):xU (wS m k x f).1 i = xU f.1 i:=by
 unfold wS;split <;> simp [xU,zfL,List.getElem?_set_ne h]
theorem Yq {m:Nat} {s:jp} {f:List Pg × Nat} {i:Nat}:∀ k,k <= s.length -> (∀ x ∈ s,x.1 ≠ i) -> xU (yY m s f k).1 i = xU f.1 i
 | 0,_,_=>rfl
 | k + 1,h,hs=>by
  rw [yY,XL,Yq k (by omega) hs];rw [zfL,zfM (show k < s.length by omega)];exact hs _ (zf3 _)
theorem Kd {m l:Nat} {s:jp} {firm:List Pg} {i:Nat} (hs:∀ x ∈ s,x.1 ≠ i):xU (ZW m l s firm) i = xU firm i:=Yq _ (zfI _) hs
end Go.Proofs.YtafclmbecmgbnaaGreatDoor
namespace Go.Proofs.YtafclmbecmgbnaaGreatDoor
def pgB (l:List UInt8):Pg:=l.map fun c=>(c.toNat:Int)
theorem yC (l:List UInt8):(pgB l).length = l.length:=by simp [pgB]
theorem zay {a b:List UInt8} (h:pgB a = pgB b):a = b:=by
 refine List.map_inj_right (f:=fun c:UInt8=>(c.toNat:Int)) (fun x y e=>?_) |>.1 h
 exact UInt8.toNat_inj.1 (by omega)
theorem WG:pgB (zfY 128 0) = zt:=by simp [pgB,zt]
def Vk (l:List UInt8):List UInt8:=be 4 (Crc.more 0#32 l).toNat
theorem wO (l:List UInt8):(Vk l).length = 4:=yK _ _
def Wk (k:UInt8) (d:List UInt8):List UInt8:=k :: UInt8.ofNat d.length :: (d ++ zfY (122 - d.length) 0)
theorem Yo {k:UInt8} {d:List UInt8} (h:d.length <= 120):(Wk k d).length = 124:=by simp [Wk]; omega
def jU (k:UInt8) (d:List UInt8):List UInt8:=Vk (Wk k d) ++ Wk k d
theorem kG {k:UInt8} {d:List UInt8} (h:d.length <= 120):(jU k d).length = 128:=by
 unfold jU; rw [List.length_append,wO,Yo h]
theorem zbm (k:UInt8) (d:List UInt8):(jU k d).take 4 = Vk (Wk k d):=by
 unfold jU;rw [List.take_left' (wO _)]
theorem ZA (k:UInt8) (d:List UInt8):(jU k d).drop 4 = Wk k d:=by
 unfold jU;rw [List.drop_left' (wO _)]
def kB (p:List UInt8):UInt8:=p.getD 4 0
def nB (p:List UInt8):Nat:=(p.getD 5 0).toNat
def dB (p:List UInt8):List UInt8:=(p.drop 6).take (nB p)
theorem zeN (p:List UInt8):nB p < 256:=UInt8.toNat_lt _
theorem Y0 {p:List UInt8} (hp:p.length = 128) (h:nB p <= 120):(dB p).length = nB p:=by
 unfold dB; rw [zfZ,List.length_drop]; omega
def Zo (p:List UInt8):Bool:=decide (p.take 4 = Vk (p.drop 4))
def xP (p:List UInt8):Int:=if Zo p = true then (if 120 < nB p then 2 else if kB p = 0 then 2 else if jU (kB p) (dB p) = p then 0 else 2) else 3
theorem zbM (k:UInt8) (d:List UInt8):Zo (jU k d) = true:=by
 unfold Zo;rw [zbm,ZA];simp
theorem VB (p:List UInt8) (i j:Nat):(p.drop i).getD j 0 = p.getD (i + j) 0:=by simp [zfL]
theorem zeo (p:List UInt8):kB p = (p.drop 4).getD 0 0:=by rw [VB]; rfl
theorem zes (p:List UInt8):nB p = ((p.drop 4).getD 1 0).toNat:=by rw [VB]; rfl
theorem zeh (p:List UInt8):dB p = ((p.drop 4).drop 2).take (nB p):=by rw [List.drop_drop]; rfl
theorem Kk (k:UInt8) (d:List UInt8):kB (jU k d) = k:=by rw [zeo,ZA]; rfl
theorem zda {k:UInt8} {d:List UInt8} (h:d.length <= 120):nB (jU k d) = d.length:=by
 rw [zes,ZA];show (UInt8.ofNat d.length).toNat = d.length;rw [UInt8.toNat_ofNat'];omega
theorem Qg {k:UInt8} {d:List UInt8} (h:d.length <= 120):dB (jU k d) = d:=by
 rw [zeh,ZA,zda h];show (d ++ zfY (122 - d.length) 0).take d.length = d;rw [List.take_left' rfl]
theorem Vy {k:UInt8} {d:List UInt8} (hk:k ≠ 0) (h:d.length <= 120):xP (jU k d) = 0:=by
 unfold xP;rw [if_pos (zbM k d),zda h,if_neg (by omega),Kk,if_neg hk,Qg h,if_pos rfl]
theorem z0:Crc.hn 62 0xffffffff#32 = 0x06e7889b#32:=by decide +kernel
theorem z1:Crc.hn 62 0x06e7889b#32 = 0xef3a4ce1#32:=by decide +kernel
theorem z2:Crc.hn 62 0xef3a4ce1#32 = 0xb833345e#32:=by decide +kernel
theorem z3:Crc.hn 62 0xb833345e#32 = 0x96f6534f#32:=by decide +kernel
theorem z4:Crc.hn 62 0x96f6534f#32 = 0x2745293d#32:=by decide +kernel
theorem z5:Crc.hn 62 0x2745293d#32 = 0x79144ee1#32:=by decide +kernel
theorem z6:Crc.hn 62 0x79144ee1#32 = 0xdf2fa7a0#32:=by decide +kernel
theorem z7:Crc.hn 62 0xdf2fa7a0#32 = 0xe29b589e#32:=by decide +kernel
theorem z8:Crc.hn 62 0xe29b589e#32 = 0x3e15ccb0#32:=by decide +kernel
theorem z9:Crc.hn 62 0x3e15ccb0#32 = 0x2c95d09f#32:=by decide +kernel
theorem z10:Crc.hn 62 0x2c95d09f#32 = 0x53e783b4#32:=by decide +kernel
theorem z11:Crc.hn 62 0x53e783b4#32 = 0x1351d28f#32:=by decide +kernel
theorem z12:Crc.hn 62 0x1351d28f#32 = 0x8027ca29#32:=by decide +kernel
theorem z13:Crc.hn 62 0x8027ca29#32 = 0x946cf290#32:=by decide +kernel
theorem z14:Crc.hn 62 0x946cf290#32 = 0x72d44d03#32:=by decide +kernel
theorem z15:Crc.hn 62 0x72d44d03#32 = 0xea28f1f3#32:=by decide +kernel
theorem VK (r:BitVec 32):∀ n,Crc.reg r (zfY n 0) = Crc.hn (8 * n) r
 | 0=>rfl
 | n + 1=>by
  rw [List.replicate_succ];show Crc.reg (Crc.step r 0) (zfY n 0) = _;rw [VK (Crc.step r 0) n,show 8 * (n + 1) = 8 * n + 8 by omega,Crc.hn_add];have:Crc.wide 0 = 0#32:=by decide
  unfold Crc.step;rw [this,BitVec.xor_zero]
theorem zdO:Crc.more 0#32 (zfY 124 0) ≠ 0#32:=by
 unfold Crc.more;rw [VK,BitVec.zero_xor,show Crc.ones = 0xffffffff#32 from rfl];simp only [show 8 * 124 = 62 + (62 + (62 + (62 + (62 + (62 + (62 + (62 + (62 + (62 + (62 + (62 + (62 + (62 + (62 + 62)))))))))))))) by decide,Crc.hn_add,z0,z1,z2,z3,z4,z5,z6,z7,z8,z9,z10,z11,z12,z13,z14,z15];decide
theorem zdN:Zo (zfY 128 0) = false:=by
 unfold Zo;rw [decide_eq_false_iff_not];intro h;have h2:=congrArg num h;unfold Vk at h2;rw [QI (BitVec.isLt _)] at h2;exact zdO (BitVec.eq_of_toNat_eq (by rw [show zfY 124 (0:UInt8) = List.drop 4 (zfY 128 0) from rfl,<- h2]; decide))
theorem KZ:xP (zfY 128 0) = 3:=by
 unfold xP;rw [zdN,if_neg (by decide)]
end Go.Proofs.YtafclmbecmgbnaaGreatDoor
namespace Go.Proofs.YtafclmbecmgbnaaGreatDoor.Bits
structure Ok (s:List Nat):Prop where
 len:s.length = 30
 small:∀ b ∈ s,b < 256
def at_ (s:List Nat) (i:Nat):Nat:=s.getD i 0
theorem at_lt {s:List Nat} (h:Ok s) (i:Nat):at_ s i < 256:=by
 unfold at_
 rw [zfL];by_cases hi:i < s.length
 ·rw [zfM hi];exact h.small _ (zf3 hi)
 ·rw [List.getElem?_eq_none (by omega)];decide
theorem at_eq {s:List Nat} {i:Nat} (hi:i < s.length):s[i] = at_ s i:=by
 unfold at_
 rw [zfL,zfM hi];rfl
theorem at_set {s:List Nat} {i j b:Nat} (hi:i < s.length):at_ (s.set i b) j = if i = j then b else at_ s j:=by
 unfold at_
 rw [zfL,zfL,List.getElem?_set];by_cases e:i = j
 ·subst e; simp [hi]
 ·simp [e]
def has (s:List Nat) (n:Nat):Bool:=(at_ s (n / 8)).testBit (n % 8)
theorem zcA {a b:Nat} (ha:a < 256) (hb:b < 256) (h:∀ i,i < 8 -> a.testBit i = b.testBit i):a = b:=by
 refine Nat.eq_of_testBit_eq fun i=>?_
 by_cases hi:i < 8
 ·exact h i hi
 ·have hp:256 <= 2 ^ i:=by
   have:(2:Nat) ^ 8 <= 2 ^ i:=Nat.pow_le_pow_right (by decide) (by omega);simpa using this
  rw [Nat.testBit_lt_two_pow (by omega),Nat.testBit_lt_two_pow (by omega)]
theorem ext {s t:List Nat} (hs:Ok s) (ht:Ok t) (h:∀ n,n < 240 -> has s n = has t n):s = t:=by
 refine List.ext_getElem (by rw [hs.len,ht.len]) fun i h1 h2=>?_
 rw [at_eq h1,at_eq h2];refine zcA (at_lt hs i) (at_lt ht i) fun j hj=>?_
 have hi:i < 30:=by rw [<- hs.len]; exact h1
 have:=h (i * 8 + j) (by omega);unfold has at this
 rwa [show (i * 8 + j) / 8 = i by omega,show (i * 8 + j) % 8 = j by omega] at this
theorem Ok.set {s:List Nat} (h:Ok s) (i:Nat) {b:Nat} (hb:b < 256):Ok (s.set i b) :=
 ⟨by rw [List.length_set]; exact h.len,fun x hx=>by
  rcases List.mem_or_eq_of_mem_set hx with hx | rfl
  ·exact h.small x hx
  ·exact hb⟩
theorem zav {s:List Nat} (h:Ok s) {n:Nat} (hn:n < 240) {b:Nat} {v:Bool} (hb:∀ i,i < 8 -> b.testBit i = if i = n % 8 then v else (at_ s (n / 8)).testBit i) (m:Nat) :
  has (s.set (n / 8) b) m = if m = n then v else has s m:=by
 unfold has;rw [at_set (by rw [h.len]; omega)];by_cases e:n / 8 = m / 8
 ·rw [if_pos e,hb _ (Nat.mod_lt _ (by decide)),<- e];by_cases e2:m % 8 = n % 8
  ·rw [if_pos e2,if_pos (by omega)]
  ·rw [if_neg e2,if_neg (by omega)]
 ·rw [if_neg e,if_neg (by omega)]
def with_ (s:List Nat) (n:Nat):List Nat:=s.set (n / 8) (at_ s (n / 8) ||| 2 ^ (n % 8))
def without (s:List Nat) (n:Nat):List Nat:=s.set (n / 8) (at_ s (n / 8) &&& (255 - 2 ^ (n % 8)))
theorem pow_lt (n:Nat):2 ^ (n % 8) < 256:=by
 have h:(2:Nat) ^ (n % 8) < 2 ^ 8:=Nat.pow_lt_pow_right (by decide) (Nat.mod_lt _ (by decide));simpa using h
theorem zeO {a b:Nat} (ha:a < 256) (hb:b < 256):a ||| b < 256:=Nat.or_lt_two_pow (n:=8) ha hb
theorem Ok.with_ {s:List Nat} (h:Ok s) (n:Nat):Ok (with_ s n):=h.set _ (zeO (at_lt h _) (pow_lt n))
theorem Ok.without {s:List Nat} (h:Ok s) (n:Nat):Ok (without s n):=h.set _ (Nat.lt_of_le_of_lt Nat.and_le_left (at_lt h _))
theorem zc5:∀ j,j < 8 -> ∀ i,i < 8 -> (255 - 2 ^ j).testBit i = !decide (i = j):=by decide
theorem has_with {s:List Nat} (h:Ok s) {n:Nat} (hn:n < 240) (m:Nat):has (with_ s n) m = if m = n then true else has s m:=by
 refine zav h hn (fun i _=>?_) m;rw [Nat.testBit_or,Nat.testBit_two_pow];by_cases e:i = n % 8
 ·rw [if_pos e,decide_eq_true e.symm,Bool.or_true]
 ·rw [if_neg e,decide_eq_false (Ne.symm e),Bool.or_false]
theorem has_without {s:List Nat} (h:Ok s) {n:Nat} (hn:n < 240) (m:Nat):has (without s n) m = if m = n then false else has s m:=by
 refine zav h hn (fun i hi=>?_) m;rw [Nat.testBit_and,zc5 _ (Nat.mod_lt _ (by decide)) i hi];by_cases e:i = n % 8
 ·rw [if_pos e,decide_eq_true e,Bool.not_true,Bool.and_false]
 ·rw [if_neg e,decide_eq_false e,Bool.not_false,Bool.and_true]
def both (s t:List Nat):List Nat:=List.zipWith (· ||| ·) s t
theorem Ok.both {s t:List Nat} (hs:Ok s) (ht:Ok t):Ok (both s t):=by
 refine ⟨by simp [Bits.both,hs.len,ht.len],fun x hx=>?_⟩;obtain ⟨i,hi,rfl⟩:=List.mem_iff_getElem.1 hx;simp only [Bits.both,List.getElem_zipWith];exact zeO (hs.small _ (zf3 _)) (ht.small _ (zf3 _))
theorem has_both {s t:List Nat} (hs:Ok s) (ht:Ok t) {n:Nat} (hn:n < 240):has (both s t) n = (has s n || has t n):=by
 have h1:n / 8 < s.length:=by rw [hs.len]; omega
 have h2:n / 8 < t.length:=by rw [ht.len]; omega
 have e:at_ (both s t) (n / 8) = at_ s (n / 8) ||| at_ t (n / 8):=by
  rw [<- at_eq h1,<- at_eq h2,<- at_eq (by simp [both]; omega)];simp [both]
 unfold has;rw [e,Nat.testBit_or]
def jc (s:List Nat):Nat -> Nat
 | 0=>0
 | k + 1=>jc s k + if has s k then 1 else 0
def count (s:List Nat):Nat:=jc s 240
def minus (u t:List Nat):Nat -> List Nat
 | 0=>u
 | k + 1=>if has t k then without (minus u t k) k else minus u t k
theorem Ok.minus {u t:List Nat} (h:Ok u):∀ k,Ok (minus u t k)
 | 0=>h
 | k + 1=>by
  rw [Bits.minus];split
  ·exact (h.minus k).without k
  ·exact h.minus k
theorem has_minus {u t:List Nat} (h:Ok u):∀ {k:Nat},k <= 240 -> ∀ m,has (minus u t k) m = (has u m && !(decide (m < k) && has t m))
 | 0,_,m=>by simp [minus]
 | k + 1,hk,m=>by
  have ih:=has_minus (t:=t) h (k:=k) (by omega) m;rw [minus];by_cases ht:has t k = true
  ·rw [if_pos ht,has_without (h.minus k) (by omega),ih];by_cases e:m = k
   ·subst e; simp [ht]
   ·have e2:decide (m < k + 1) = decide (m < k):=by rw [decide_eq_decide]; omega
    rw [if_neg e,e2]
  ·rw [if_neg ht,ih];by_cases e:m = k
   ·subst e; simp [ht]
   ·have e2:decide (m < k + 1) = decide (m < k):=by rw [decide_eq_decide]; omega
    rw [e2]
def first (s:List Nat) (a:Nat):Nat -> Option Nat
 | 0=>none
 | c + 1=>if has s a then first s (a + 1) c else some a
theorem first_some {s:List Nat}:∀ {c a n:Nat},first s a c = some n -> a <= n /\ n < a + c /\ has s n = false /\ ∀ m,a <= m -> m < n -> has s m = true
 | 0,a,n,h=>by cases h
 | c + 1,a,n,h=>by
  rw [first] at h;by_cases ha:has s a = true
  ·rw [if_pos ha] at h;obtain ⟨h1,h2,h3,h4⟩:=first_some h;exact ⟨by omega,by omega,h3,fun m hm hm2=>by
    by_cases e:m = a
    ·rw [e]; exact ha
    ·exact h4 m (by omega) hm2⟩
  ·rw [if_neg ha] at h;obtain rfl:=Option.some.inj h;exact ⟨zfI _,by omega,by simpa using ha,fun m hm hm2=>by omega⟩
theorem first_none {s:List Nat}:∀ {c a:Nat},first s a c = none -> ∀ m,a <= m -> m < a + c -> has s m = true
 | 0,a,_,m,h1,h2=>by omega
 | c + 1,a,h,m,h1,h2=>by
  rw [first] at h;by_cases ha:has s a = true
  ·rw [if_pos ha] at h;by_cases e:m = a
   ·rw [e]; exact ha
   ·exact first_none h m (by omega) (by omega)
  ·rw [if_neg ha] at h;cases h
theorem first_of {s:List Nat} {a c n:Nat} (h1:a <= n) (h2:n < a + c) (h3:has s n = false) (h4:∀ m,a <= m -> m < n -> has s m = true):first s a c = some n:=by
 cases e:first s a c with
 | none =>
  have:=first_none e n h1 h2;rw [h3] at this;cases this
 | some m =>
  obtain ⟨g1,g2,g3,g4⟩:=first_some e;rcases Nat.lt_trichotomy m n with h | h | h
  ·have:=h4 m g1 h;rw [g3] at this;cases this
  ·rw [h]
  ·have:=g4 n h1 h;rw [h3] at this;cases this
def fill (s:List Nat):Nat -> List Nat
 | 0=>s
 | k + 1=>match first (fill s k) 0 240 with
  | some n=>with_ (fill s k) n
  | none=>fill s k
end Go.Proofs.YtafclmbecmgbnaaGreatDoor.Bits
namespace Go.Proofs.YtafclmbecmgbnaaGreatDoor
structure Sb where
 gen:Nat
 root:Int
 used:List Nat
def Sb.zero:Sb:=⟨0,0,zfY 30 0⟩
structure Sb.Ok (x:Sb):Prop where
 gen:x.gen < 4294967296
 used:Bits.Ok x.used
theorem Sb.Ok.zero:Sb.zero.Ok:=⟨by decide,by simp [Sb.zero],fun b hb=>by rw [(List.mem_replicate.1 hb).2]; decide⟩
def vH (s:List Nat) (n:Int):Bool:=decide (0 <= n /\ n < 240) && Bits.has s n.toNat
def yI (x:Sb):Bool:=decide (x.gen ≠ 0) && !Bits.has x.used 0 && !Bits.has x.used 1 && (decide (x.root = 0) || (decide (2 <= x.root) && vH x.used x.root))
theorem XF {x:Sb} (h:yI x = true):∃ r:Nat,x.root = (r:Int) /\ r < 240:=by
 unfold yI at h;simp only [zf4,Bool.or_eq_true,decide_eq_true_eq] at h;rcases h.2 with h | ⟨h1,h2⟩
 ·exact ⟨0,by omega,by decide⟩
 ·unfold vH at h2;simp only [zf4,decide_eq_true_eq] at h2;exact ⟨x.root.toNat,by omega,by omega⟩
theorem WN {x:Sb} (h:yI x = true):x.gen ≠ 0:=by
 unfold yI at h;simp only [zf4,decide_eq_true_eq] at h;exact h.1.1.1
def ZI (s:List Nat):List UInt8:=s.map UInt8.ofNat
def jd (x:Sb):List UInt8:=be 4 x.gen ++ UInt8.ofNat x.root.toNat :: ZI x.used
theorem Zn (s:List Nat):(ZI s).length = s.length:=by simp [ZI]
theorem kH {x:Sb} (h:x.Ok):(jd x).length = 35:=by
 have:=h.used.len;simp [jd,yK,Zn,this]
theorem zaW (l:List UInt8):be l.length (num l) = l:=by
 have key:∀ k (l:List UInt8),l.length = k -> be k (num l) = l:=by
  intro k;induction k with
  | zero=>intro l hl; obtain rfl:=List.eq_nil_of_length_eq_zero hl; rfl
  | succ k ih =>
   intro l hl;have hne:l ≠ []:=by rintro rfl; simp at hl
   have e:=List.dropLast_concat_getLast hne;have h1:=ih l.dropLast (by simp [hl]);have h2:=(l.getLast hne).toNat_lt;rw [<- e,YC,be];rw [show (256 * num l.dropLast + (l.getLast hne).toNat) / 256 = num l.dropLast by omega,h1];congr 2;rw [<- UInt8.toNat_inj,UInt8.toNat_ofNat'];omega
 exact key _ l rfl
def ofS (d:List UInt8):Sb:=⟨num (d.take 4),((d.getD 4 0).toNat:Int),(d.drop 5).map UInt8.toNat⟩
theorem zdh {d:List UInt8} (h:d.length = 35):(ofS d).Ok:=by
 refine ⟨?_,?_,?_⟩
 ·have:=Zh d 4;exact this
 ·show ((d.drop 5).map UInt8.toNat).length = 30;rw [List.length_map,List.length_drop];omega
 ·intro b hb;obtain ⟨c,_,rfl⟩:=List.mem_map.1 hb;exact UInt8.toNat_lt c
theorem zbG {s:List Nat} (h:∀ b ∈ s,b < 256):(ZI s).map UInt8.toNat = s:=by
 unfold ZI;rw [List.map_map]
 conv=>rhs; rw [<- List.map_id s]
 refine List.map_congr_left fun b hb=>?_
 have:=h b hb;show (UInt8.ofNat b).toNat = b;rw [UInt8.toNat_ofNat'];omega
theorem zdv (l:List UInt8):ZI (l.map UInt8.toNat) = l:=by
 unfold ZI;rw [List.map_map]
 conv=>rhs; rw [<- List.map_id l]
 exact List.map_congr_left fun b _=>by simp
theorem zbo (x:Sb):(jd x).take 4 = be 4 x.gen:=by
 unfold jd;rw [List.take_append_of_le_length (by rw [yK]; exact zfI _),zaq]
theorem zeq (x:Sb):(jd x).getD 4 0 = UInt8.ofNat x.root.toNat:=by
 unfold jd;rw [zfL,List.getElem?_append_right (by rw [yK]; exact zfI _),yK];rfl
theorem zbn (x:Sb):(jd x).drop 5 = ZI x.used:=by
 unfold jd;have e:be 4 x.gen ++ UInt8.ofNat x.root.toNat :: ZI x.used = (be 4 x.gen ++ [UInt8.ofNat x.root.toNat]) ++ ZI x.used:=by simp
 rw [e,List.drop_left' (by simp [yK])]
theorem zet {x:Sb} (h:x.Ok) {r:Nat} (hr:x.root = (r:Int)) (hlt:r < 256):ofS (jd x) = x:=by
 unfold ofS;rw [zbo,zeq,zbn,QI (by have:=h.gen; exact this),zbG h.used.small];have e:((UInt8.ofNat x.root.toNat).toNat:Int) = x.root:=by
  rw [hr,Int.toNat_natCast,UInt8.toNat_ofNat'];omega
 rw [e]
theorem zcZ {d:List UInt8} (h:d.length = 35):jd (ofS d) = d:=by
 unfold jd ofS;have h4:(d.take 4).length = 4:=by rw [zfZ]; omega
 have e1:be 4 (num (d.take 4)) = d.take 4:=by
  have:=zaW (d.take 4)
  rwa [h4] at this
 have e2:(UInt8.ofNat ((((d.getD 4 0).toNat:Nat):Int)).toNat) = d.getD 4 0:=by
  rw [Int.toNat_natCast];simp
 show be 4 (num (d.take 4)) ++ UInt8.ofNat ((((d.getD 4 0).toNat:Nat):Int)).toNat :: ZI ((d.drop 5).map UInt8.toNat) = d;rw [e1,e2,zdv];have e3:d.getD 4 0 :: d.drop 5 = d.drop 4:=by
  rw [List.drop_eq_getElem_cons (by omega:4 < d.length),zfL,zfM (by omega)];rfl
 rw [e3,List.take_append_drop]
def jh (d:List UInt8):Option Sb:=if d.length = 35 /\ yI (ofS d) = true then some (ofS d) else none
theorem zbC {x:Sb} (h:x.Ok) (hr:yI x = true):jh (jd x) = some x:=by
 obtain ⟨r,e,hlt⟩:=XF hr;have e2:=zet h e (by omega);unfold jh;rw [if_pos ⟨kH h,by rw [e2]; exact hr⟩,e2]
theorem WK {d:List UInt8} {x:Sb} (h:jh d = some x):x.Ok /\ yI x = true /\ jd x = d:=by
 unfold jh at h;split at h
 ·rename_i hh
  obtain rfl:=Option.some.inj h;exact ⟨zdh hh.1,hh.2,zcZ hh.1⟩
 ·cases h
def sbP (x:Sb):List UInt8:=jU 1 (jd x)
theorem WO {x:Sb} (h:x.Ok):(sbP x).length = 128:=kG (by rw [kH h]; decide)
def yB (p:List UInt8):Option Sb:=if xP p = 0 /\ kB p = 1 then jh (dB p) else none
theorem JD {x:Sb} (h:x.Ok) (hr:yI x = true):yB (sbP x) = some x:=by
 have hl:(jd x).length <= 120:=by rw [kH h]; decide
 unfold yB sbP;rw [if_pos ⟨Vy (by decide) hl,Kk _ _⟩,Qg hl,zbC h hr]
theorem VO:yB (zfY 128 0) = none:=by
 unfold yB;rw [if_neg];rintro ⟨h1,_⟩;rw [KZ] at h1;cases h1
theorem jX {p:List UInt8} {x:Sb} (h:yB p = some x):x.Ok /\ yI x = true:=by
 unfold yB at h;split at h
 ·exact ⟨(WK h).1,(WK h).2.1⟩
 ·cases h
def best:Option Sb -> Option Sb -> Option Sb
 | some x,some y=>if y.gen <= x.gen then some x else some y
 | some x,none=>some x
 | none,y=>y
theorem zaZ {a b:Option Sb} {x:Sb} (h:best a b = some x):a = some x \/ b = some x:=by
 cases a with
 | none=>exact .inr h
 | some y =>
  cases b with
  | none=>exact .inl h
  | some z =>
   by_cases hg:z.gen <= y.gen
   ·left;simpa [best,hg] using h
   ·right;simpa [best,hg] using h
theorem VH {firm:List Pg} {s:jp} {i:Nat} (h:∀ x ∈ s,x.1 ≠ i):∀ k,k <= s.length -> YG firm s i k = firm.getD i []
 | 0,_=>rfl
 | k + 1,hk=>by
  have hlt:k < s.length:=by omega
  have e:s.getD k (0,[]) = s[k]:=by rw [zfL,zfM hlt]; rfl
  rw [YG,e,if_neg (h _ (zf3 hlt))];exact VH h k (by omega)
theorem K2 {d:Dk} {n:Nat} (hok:d.Ok n) (hs:d.Sync) {i:Nat} (hi:i < n) (h:∀ x ∈ d.soft,x.1 ≠ i) (m:Nat) (t:Int):xU (d.crash m t).seen i = xU d.seen i:=by
 rw [hs i (by rw [hok.firm]; exact hi)];unfold VJ;rw [VH h _ (zfI _)];exact Kd h
end Go.Proofs.YtafclmbecmgbnaaGreatDoor
namespace Go.Proofs.YtafclmbecmgbnaaGreatDoor
def kQ (d:Dk) (i:Nat) (l:List UInt8):Prop:=xU d.seen i = pgB l /\ l.length = 128
def wL (s:List UInt8):List UInt8:=jU 2 s
structure jK (n:Nat) (d:Dk) (x:Sb) (data:Nat -> List UInt8):Prop where
 ok:d.Ok n
 sync:d.Sync
 three:3 <= n
 good:x.Ok
 right:yI x = true
 here:∃ l,kQ d (x.gen % 2) l /\ yB l = some x
 there:∃ l,kQ d ((x.gen + 1) % 2) l /\ ∀ y,yB l = some y -> y.gen < x.gen
 waits:∀ w ∈ d.soft,2 <= w.1 /\ Bits.has x.used w.1 = false
 lt:∀ k,k < 240 -> Bits.has x.used k = true -> k < n
 pages:∀ k,k < 240 -> Bits.has x.used k = true -> kQ d k (wL (data k)) /\ (data k).length <= 120
theorem qp (g:Nat):g % 2 < 2:=Nat.mod_lt _ (by decide)
theorem jK.used_two {n:Nat} {d:Dk} {x:Sb} {data:Nat -> List UInt8} (h:jK n d x data) {k:Nat} (hk:Bits.has x.used k = true):2 <= k:=by
 have hr:=h.right;unfold yI at hr;simp only [zf4,Bool.not_eq_true'] at hr;rcases Nat.lt_or_ge k 2 with h2 | h2
 ·rcases (show k = 0 \/ k = 1 by omega) with rfl | rfl
  ·rw [hr.1.1.2] at hk; cases hk
  ·rw [hr.1.2] at hk; cases hk
 ·exact h2
theorem jK.best {n:Nat} {d:Dk} {x:Sb} {data:Nat -> List UInt8} (h:jK n d x data):∃ l0 l1,kQ d 0 l0 /\ kQ d 1 l1 /\ Go.Proofs.YtafclmbecmgbnaaGreatDoor.best (yB l0) (yB l1) = some x:=by
 obtain ⟨l,hl,hx⟩:=h.here;obtain ⟨m,hm,hy⟩:=h.there;rcases (show x.gen % 2 = 0 \/ x.gen % 2 = 1 by omega) with e | e
 ·rw [e] at hl;rw [show (x.gen + 1) % 2 = 1 by omega] at hm;refine ⟨l,m,hl,hm,?_⟩;rw [hx];cases hs:yB m with
  | none=>rfl
  | some y =>
   have:=hy y hs;simp [Go.Proofs.YtafclmbecmgbnaaGreatDoor.best,Nat.le_of_lt this]
 ·rw [e] at hl;rw [show (x.gen + 1) % 2 = 0 by omega] at hm;refine ⟨m,l,hm,hl,?_⟩;rw [hx];cases hs:yB m with
  | none=>rfl
  | some y =>
   have:=hy y hs;simp [Go.Proofs.YtafclmbecmgbnaaGreatDoor.best,Nat.not_le.2 this]
theorem jo {d:Dk} {n i:Nat} (hok:d.Ok n) (hi:i < n) (p:Pg) (j:Nat):xU (d.write i p).seen j = if i = j then p else xU d.seen j :=
 Js (by rw [hok.seen]; exact hi)
theorem jK.write {n:Nat} {d:Dk} {x:Sb} {data:Nat -> List UInt8} (h:jK n d x data) {i:Nat} (h2:2 <= i) (hi:i < n) (hf:Bits.has x.used i = false) {p:Pg} (hp:p.length = 128) {data':Nat -> List UInt8}
  (hd:∀ k,k < 240 -> Bits.has x.used k = true -> data' k = data k):jK n (d.write i p) x data':=by
 have keep:∀ j,j ≠ i -> ∀ l,kQ d j l -> kQ (d.write i p) j l:=fun j hj l hl=>⟨by rw [jo h.ok hi,if_neg (Ne.symm hj)]; exact hl.1,hl.2⟩
 obtain ⟨l,hl,hx⟩:=h.here;obtain ⟨m,hm,hy⟩:=h.there;refine ⟨h.ok.write hi hp,h.sync.write h.ok hi p,h.three,h.good,h.right,⟨l,keep _ (by have:=qp x.gen; omega) _ hl,hx⟩,⟨m,keep _ (by have:=qp (x.gen + 1); omega) _ hm,hy⟩,?_,h.lt,fun k hk hu=>?_⟩
 ·intro w hw;rcases List.mem_append.1 hw with hw | hw
  ·exact h.waits w hw
  ·obtain rfl:=List.mem_singleton.1 hw;exact ⟨h2,hf⟩
 ·obtain ⟨h3,h4⟩:=h.pages k hk hu;rw [hd k hk hu];refine ⟨keep k ?_ _ h3,h4⟩;rintro rfl;rw [hf] at hu;cases hu
theorem jK.up {n:Nat} {d:Dk} {x:Sb} {data:Nat -> List UInt8} (h:jK n d x data):jK n d.up x data :=
 ⟨h.ok.up,h.sync.up,h.three,h.good,h.right,h.here,h.there,h.waits,h.lt,h.pages⟩
theorem jK.crash {n:Nat} {d:Dk} {x:Sb} {data:Nat -> List UInt8} (h:jK n d x data) (hn:n <= 240) (m:Nat) (t:Int):jK n (d.crash m t) x data:=by
 have keep:∀ j,j < n -> (j < 2 \/ Bits.has x.used j = true) -> ∀ l,kQ d j l -> kQ (d.crash m t) j l:=fun j hj hc l hl=>by
  refine ⟨?_,hl.2⟩;rw [K2 h.ok h.sync hj (fun w hw e=>?_) m t]
  ·exact hl.1
  ·obtain ⟨h1,h2⟩:=h.waits w hw;rw [e] at h1 h2;rcases hc with hc | hc
   ·omega
   ·rw [h2] at hc; cases hc
 obtain ⟨l,hl,hx⟩:=h.here;obtain ⟨k,hk,hy⟩:=h.there;have h3:=h.three;refine ⟨h.ok.crash m t,Dk.Sync.crash d m t,h.three,h.good,h.right,⟨l,keep _ (by have:=qp x.gen; omega) (.inl (qp _)) _ hl,hx⟩,⟨k,keep _ (by have:=qp (x.gen + 1); omega) (.inl (qp _)) _ hk,hy⟩,fun w hw=>(by cases hw),h.lt,fun j hj hu=>?_⟩;obtain ⟨h5,h6⟩:=h.pages j hj hu;exact ⟨keep j (h.lt j hj hu) (.inr hu) _ h5,h6⟩
def xM (d:Dk) (y:Sb):Dk:=(d.flush.write (y.gen % 2) (pgB (sbP y))).flush
theorem jK.switch {n:Nat} {d:Dk} {x y:Sb} {data data':Nat -> List UInt8} (h:jK n d x data) (hy:y.Ok) (hr:yI y = true) (hg:y.gen = x.gen + 1) (hlt:∀ k,k < 240 -> Bits.has y.used k = true -> k < n)
  (hp:∀ k,k < 240 -> Bits.has y.used k = true -> kQ d k (wL (data' k)) /\ (data' k).length <= 120):jK n (xM d y) y data':=by
 have h3:=h.three;have hm:=qp y.gen;have hok:d.flush.Ok n:=h.ok.flush;have hl:=WO hy;have hwok:(d.flush.write (y.gen % 2) (pgB (sbP y))).Ok n:=hok.write (by omega) (by rw [yC]; exact hl);have hse:∀ j,xU (xM d y).seen j = if y.gen % 2 = j then pgB (sbP y) else xU d.seen j:=fun j=>jo hok (by omega) _ j
 obtain ⟨l,hl2,hx⟩:=h.here;refine ⟨hwok.flush,Dk.Sync.flush _,h.three,hy,hr,⟨sbP y,⟨by rw [hse,if_pos rfl],hl⟩,JD hy hr⟩,⟨l,⟨?_,hl2.2⟩,fun z hz=>?_⟩,fun w hw=>(by cases hw),hlt,fun k hk hu=>?_⟩
 ·rw [hse,if_neg (by omega),show (y.gen + 1) % 2 = x.gen % 2 by omega];exact hl2.1
 ·rw [hx] at hz;obtain rfl:=Option.some.inj hz;omega
 ·obtain ⟨h5,h6⟩:=hp k hk hu;refine ⟨⟨?_,h5.2⟩,h6⟩;have hk2:2 <= k:=by
   have hr2:=hr;unfold yI at hr2;simp only [zf4,Bool.not_eq_true'] at hr2;rcases Nat.lt_or_ge k 2 with h2 | h2
   ·rcases (show k = 0 \/ k = 1 by omega) with rfl | rfl
    ·rw [hr2.1.1.2] at hu; cases hu
    ·rw [hr2.1.2] at hu; cases hu
   ·exact h2
  rw [hse,if_neg (by omega)];exact h5.1
def Sb.bare (g:Nat):Sb:=⟨g,0,zfY 30 0⟩
theorem has_none (k:Nat):Bits.has (zfY 30 0) k = false:=by
 have hz:Bits.at_ (zfY 30 0) (k / 8) = 0:=by
  unfold Bits.at_;rw [zfL,List.getElem?_replicate];split <;> rfl
 unfold Bits.has;rw [hz];simp
theorem Sb.bare_ok {g:Nat} (h:g < 4294967296):(Sb.bare g).Ok:=⟨h,Sb.Ok.zero.used⟩
theorem Sb.bare_right {g:Nat} (h:g ≠ 0):yI (Sb.bare g) = true:=by
 unfold yI;rw [show Bits.has (Sb.bare g).used 0 = false from has_none 0,show Bits.has (Sb.bare g).used 1 = false from has_none 1,show decide ((Sb.bare g).gen ≠ 0) = true from decide_eq_true h];rfl
theorem jK.first {n:Nat} {d:Dk} {l0:List UInt8} (hok:d.Ok n) (h3:3 <= n) (h0:kQ d 0 l0) (hn0:yB l0 = none) (data:Nat -> List UInt8):jK n (xM d (Sb.bare 1)) (Sb.bare 1) data:=by
 have hy:=Sb.bare_ok (g:=1) (by decide);have hr:=Sb.bare_right (g:=1) (by decide);have hl:=WO hy;have hfo:d.flush.Ok n:=hok.flush;have hwok:(d.flush.write ((Sb.bare 1).gen % 2) (pgB (sbP (Sb.bare 1)))).Ok n:=hfo.write (by show 1 % 2 < n; omega) (by rw [yC]; exact hl);have hse:∀ j,xU (xM d (Sb.bare 1)).seen j = if 1 % 2 = j then pgB (sbP (Sb.bare 1)) else xU d.seen j:=fun j=>jo hfo (by show 1 % 2 < n; omega) _ j
 refine ⟨hwok.flush,Dk.Sync.flush _,h3,hy,hr,⟨sbP (Sb.bare 1),⟨by rw [hse]; rfl,hl⟩,JD hy hr⟩,⟨l0,⟨?_,h0.2⟩,fun z hz=>?_⟩,fun w hw=>(by cases hw),fun k _ hk=>?_,fun k _ hk=>?_⟩
 ·rw [hse];exact h0.1
 ·rw [hn0] at hz;cases hz
 ·rw [show Bits.has (Sb.bare 1).used k = false from has_none k] at hk;cases hk
 ·rw [show Bits.has (Sb.bare 1).used k = false from has_none k] at hk;cases hk
theorem W1 (n:Nat) {i:Nat} (hi:i < n):kQ (Dk.new n) i (zfY 128 0):=by
 refine ⟨?_,by simp⟩;rw [WG];show (zfY n zt).getD i [] = zt;rw [zfL,List.getElem?_replicate,if_pos hi];rfl
end Go.Proofs.YtafclmbecmgbnaaGreatDoor
namespace Go.Proofs.YtafclmbecmgbnaaGreatDoor
open Bits (Ok has with_ without both minus first)
def vq:List Nat:=zfY 30 0
theorem xC:Ok vq:=Sb.Ok.zero.used
theorem xn (k:Nat):has vq k = false:=has_none k
structure Pst where
 sup:Sb
 new:List Nat
 gone:List Nat
def Pst.used (s:Pst):List Nat:=minus (both s.sup.used s.new) s.gone 240
def Pst.at_ (s:Pst) (k:Nat):Pst:=⟨s.sup,with_ s.new k,s.gone⟩
def Pst.drop (s:Pst) (k:Nat):Pst:=if has s.new k = true then ⟨s.sup,without s.new k,s.gone⟩ else ⟨s.sup,s.new,with_ s.gone k⟩
def Pst.next (s:Pst) (root:Int):Sb:=⟨s.sup.gen + 1,root,s.used⟩
def Pst.commit (s:Pst) (root:Int):Pst:=⟨s.next root,vq,vq⟩
def Pst.abort (s:Pst):Pst:=⟨s.sup,vq,vq⟩
def Pst.opened (x:Sb):Pst:=⟨x,vq,vq⟩
def Pst.isIn (s:Pst) (k:Nat):Bool:=has s.sup.used k || has s.new k
def Pst.first (s:Pst) (n:Nat):Option Nat:=Bits.first (both s.sup.used s.new) 2 (n - 2)
structure yH (n:Nat) (d:Dk) (s:Pst) (data firm:Nat -> List UInt8):Prop where
 held:jK n d s.sup firm
 le:n <= 240
 newOk:Ok s.new
 goneOk:Ok s.gone
 same:∀ k,k < 240 -> has s.sup.used k = true -> data k = firm k
 fresh:∀ k,k < 240 -> has s.new k = true -> 2 <= k /\ k < n /\ has s.sup.used k = false /\ kQ d k (wL (data k)) /\ (data k).length <= 120
 goes:∀ k,k < 240 -> has s.gone k = true -> has s.sup.used k = true
section
variable {n:Nat} {d:Dk} {s:Pst} {data firm:Nat -> List UInt8}
theorem yH.usedOk (h:yH n d s data firm):Ok s.used:=(h.held.good.used.both h.newOk).minus 240
theorem yH.has_used (h:yH n d s data firm) {k:Nat} (hk:k < 240):has s.used k = (s.isIn k && !has s.gone k):=by
 unfold Pst.used Pst.isIn;rw [Bits.has_minus (h.held.good.used.both h.newOk) (zfI _),Bits.has_both h.held.good.used h.newOk hk,decide_eq_true hk,Bool.true_and]
theorem yH.in_range (h:yH n d s data firm) {k:Nat} (hk:k < 240) (hi:s.isIn k = true):2 <= k /\ k < n:=by
 unfold Pst.isIn at hi;rcases zf5.1 hi with hi | hi
 ·exact ⟨h.held.used_two hi,h.held.lt k hk hi⟩
 ·have:=h.fresh k hk hi;exact ⟨this.1,this.2.1⟩
theorem yH.used_in (h:yH n d s data firm) {k:Nat} (hk:k < 240) (hu:has s.used k = true):s.isIn k = true:=by
 rw [h.has_used hk] at hu;exact (Bool.and_eq_true_iff.1 hu).1
theorem yH.page (h:yH n d s data firm) {k:Nat} (hk:k < 240) (hi:s.isIn k = true):kQ d k (wL (data k)) /\ (data k).length <= 120:=by
 unfold Pst.isIn at hi;rcases zf5.1 hi with hi | hi
 ·rw [h.same k hk hi];exact h.held.pages k hk hi
 ·exact (h.fresh k hk hi).2.2.2
theorem yH.first_some (h:yH n d s data firm) {k:Nat} (hf:s.first n = some k):2 <= k /\ k < n /\ s.isIn k = false /\ ∀ m,2 <= m -> m < k -> s.isIn m = true:=by
 obtain ⟨h1,h2,h3,h4⟩:=Bits.first_some hf;have h3n:=h.held.three;have hle:=h.le;have hb:∀ m,m < 240 -> has (both s.sup.used s.new) m = s.isIn m:=fun m hm=>Bits.has_both h.held.good.used h.newOk hm
 refine ⟨h1,by omega,?_,fun m a b=>?_⟩
 ·rw [<- hb k (by omega)]; exact h3
 ·rw [<- hb m (by omega)]; exact h4 m a b
theorem yH.first_none (h:yH n d s data firm) (hf:s.first n = none):∀ m,2 <= m -> m < n -> s.isIn m = true:=fun m a b=>by
 have hle:=h.le;have:=Bits.first_none hf m a (by omega);rw [Bits.has_both h.held.good.used h.newOk (by omega)] at this;exact this
def upd (data:Nat -> List UInt8) (k:Nat) (t:List UInt8):Nat -> List UInt8:=fun j=>if j = k then t else data j
theorem yH.laid (h:yH n d s data firm) {k:Nat} (hf:s.first n = some k) {t:List UInt8} (ht:t.length <= 120):yH n (d.write k (pgB (wL t))) (s.at_ k) (upd data k t) firm:=by
 obtain ⟨h2,hn,hin,_⟩:=h.first_some hf;have hle:=h.le;have hin2:has s.sup.used k = false /\ has s.new k = false:=by
  unfold Pst.isIn at hin;exact Bool.or_eq_false_iff.1 hin
 have hpl:(wL t).length = 128:=kG ht;refine ⟨h.held.write h2 hn hin2.1 (by rw [yC]; exact hpl) (fun _ _ _=>rfl),h.le,h.newOk.with_ k,h.goneOk,fun j hj hu=>?_,fun j hj hu=>?_,h.goes⟩
 ·unfold upd;rw [if_neg (by rintro rfl; have hu2:has s.sup.used j = true:=hu; rw [hin2.1] at hu2; cases hu2)];exact h.same j hj hu
 ·rw [show (s.at_ k).new = with_ s.new k from rfl,Bits.has_with h.newOk (by omega)] at hu;unfold upd;by_cases e:j = k
  ·subst e;rw [if_pos rfl];exact ⟨h2,hn,hin2.1,⟨by rw [jo h.held.ok hn,if_pos rfl],hpl⟩,ht⟩
  ·rw [if_neg e] at hu ⊢;obtain ⟨a,b,c,e2,f⟩:=h.fresh j hj hu;exact ⟨a,b,c,⟨by rw [jo h.held.ok hn,if_neg (Ne.symm e)]; exact e2.1,e2.2⟩,f⟩
theorem yH.dropped (h:yH n d s data firm) {k:Nat} (hk:k < 240) (hu:has s.used k = true):yH n d (s.drop k) data firm:=by
 have hi:=h.used_in hk hu;unfold Pst.drop;by_cases hn:has s.new k = true
 ·rw [if_pos hn];refine ⟨h.held,h.le,h.newOk.without k,h.goneOk,h.same,fun j hj hj2=>?_,h.goes⟩;rw [show (⟨s.sup,without s.new k,s.gone⟩:Pst).new = without s.new k from rfl,Bits.has_without h.newOk hk] at hj2;by_cases e:j = k
  ·rw [if_pos e] at hj2; cases hj2
  ·rw [if_neg e] at hj2; exact h.fresh j hj hj2
 ·rw [if_neg hn];refine ⟨h.held,h.le,h.newOk,h.goneOk.with_ k,h.same,h.fresh,fun j hj hj2=>?_⟩;rw [show (⟨s.sup,s.new,with_ s.gone k⟩:Pst).gone = with_ s.gone k from rfl,Bits.has_with h.goneOk hk] at hj2;by_cases e:j = k
  ·subst e;unfold Pst.isIn at hi;rcases zf5.1 hi with hi | hi
   ·exact hi
   ·exact absurd hi hn
  ·rw [if_neg e] at hj2; exact h.goes j hj hj2
def rootOk (s:Pst) (root:Int):Bool:=decide (root = 0) || vH s.used root
theorem yH.next_right (h:yH n d s data firm) {root:Int} (hr:rootOk s root = true):yI (s.next root) = true:=by
 have h0:∀ k,k < 2 -> has s.used k = false:=fun k hk=>by
  cases hu:has s.used k with
  | false=>rfl
  | true =>
   have:=h.in_range (k:=k) (by omega) (h.used_in (by omega) hu);omega
 unfold yI;rw [show (s.next root).used = s.used from rfl,h0 0 (by decide),h0 1 (by decide),show decide ((s.next root).gen ≠ 0) = true from decide_eq_true (Nat.succ_ne_zero _)];show (decide (root = 0) || (decide (2 <= root) && vH s.used root)) = true;unfold rootOk at hr;rcases zf5.1 hr with hr | hr
 ·rw [hr]; rfl
 ·have h2:2 <= root:=by
   unfold vH at hr;simp only [zf4,decide_eq_true_eq] at hr;have:=h.in_range (k:=root.toNat) (by omega) (h.used_in (by omega) hr.2);omega
  rw [hr,decide_eq_true h2];simp
theorem yH.next_ok (h:yH n d s data firm) (hg:s.sup.gen + 1 < 4294967296) (root:Int):(s.next root).Ok:=⟨hg,h.usedOk⟩
theorem yH.committed (h:yH n d s data firm) (hg:s.sup.gen + 1 < 4294967296) {root:Int} (hr:rootOk s root = true):yH n (xM d (s.next root)) (s.commit root) data data:=by
 have hlt:∀ k,k < 240 -> has s.used k = true -> k < n:=fun k hk hu=>(h.in_range hk (h.used_in hk hu)).2
 refine ⟨h.held.switch (h.next_ok hg root) (h.next_right hr) rfl hlt fun k hk hu=>h.page hk (h.used_in hk hu),h.le,xC,xC,fun _ _ _=>rfl,fun k _ hk=>?_,fun k _ hk=>?_⟩
 ·rw [show (s.commit root).new = vq from rfl,xn] at hk; cases hk
 ·rw [show (s.commit root).gone = vq from rfl,xn] at hk; cases hk
theorem yH.aborted (h:yH n d s data firm):yH n d s.abort data firm:=by
 refine ⟨h.held,h.le,xC,xC,h.same,fun k _ hk=>?_,fun k _ hk=>?_⟩
 ·rw [show s.abort.new = vq from rfl,xn] at hk; cases hk
 ·rw [show s.abort.gone = vq from rfl,xn] at hk; cases hk
theorem yH.crashed (h:yH n d s data firm) (m:Nat) (t:Int):yH n (d.crash m t).up (Pst.opened s.sup) firm firm:=by
 refine ⟨(h.held.crash h.le m t).up,h.le,xC,xC,fun _ _ _=>rfl,fun k _ hk=>?_,fun k _ hk=>?_⟩
 ·rw [show (Pst.opened s.sup).new = vq from rfl,xn] at hk; cases hk
 ·rw [show (Pst.opened s.sup).gone = vq from rfl,xn] at hk; cases hk
theorem yH.start {n:Nat} (h3:3 <= n) (hn:n <= 240) (data:Nat -> List UInt8):yH n (xM (Dk.new n) (Sb.bare 1)) (Pst.opened (Sb.bare 1)) data data:=by
 refine ⟨jK.first (Dk.Ok.new n) h3 (W1 n (by omega)) VO data,hn,xC,xC,fun _ _ _=>rfl,fun k _ hk=>?_,fun k _ hk=>?_⟩
 ·rw [show (Pst.opened (Sb.bare 1)).new = vq from rfl,xn] at hk; cases hk
 ·rw [show (Pst.opened (Sb.bare 1)).gone = vq from rfl,xn] at hk; cases hk
def XZ (d:Dk) (o:Option Sb):Prop:=∃ p q,kQ d 0 p /\ kQ d 1 q /\ best (yB p) (yB q) = o
theorem yH.bestD (h:yH n d s data firm):XZ d (some s.sup):=h.held.best
theorem zaX {n:Nat} (h3:3 <= n):XZ (Dk.new n) none:=⟨_,_,W1 n (by omega),W1 n (by omega),by rw [VO]; rfl⟩
end
