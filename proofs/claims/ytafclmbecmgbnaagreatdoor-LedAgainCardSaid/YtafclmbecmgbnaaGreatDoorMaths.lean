/-
  Maths. Conditions: as said.
-/
open List renaming replicate -> zfi,getD_eq_getElem?_getD -> ze6,getElem?_eq_getElem -> ze7,getElem_mem -> zfn
open Nat renaming le_refl -> ze3
open Bool renaming and_eq_true -> zfm,or_eq_true_iff -> zfo
namespace Go.Proofs.YtafclmbecmgbnaaGreatDoor
namespace Crc
def zdQ:BitVec 32:=0xedb88320#32
def JR (r:BitVec 32):BitVec 32:=if r.getLsbD 0 then (r >>> 1) ^^^ zdQ else r >>> 1
theorem zb3 (a b:BitVec 32):JR (a ^^^ b) = JR a ^^^ JR b:=by
 unfold JR;rw [BitVec.getLsbD_xor,BitVec.ushiftRight_xor_distrib];cases a.getLsbD 0 <;> cases b.getLsbD 0 <;> simp
 ·rw [BitVec.xor_assoc]
 ·rw [BitVec.xor_assoc,BitVec.xor_assoc,BitVec.xor_comm zdQ]
 ·rw [BitVec.xor_comm (b >>> 1),<- BitVec.xor_assoc,BitVec.xor_assoc (a >>> 1) zdQ zdQ]; simp
def hn:Nat -> BitVec 32 -> BitVec 32
 | 0,r=>r
 | n + 1,r=>JR (hn n r)
theorem zen (n:Nat) (a b:BitVec 32):hn n (a ^^^ b) = hn n a ^^^ hn n b:=by
 induction n with
 | zero=>rfl
 | succ n ih=>simp only [hn,ih,zb3]
theorem hn_add (m n:Nat) (r:BitVec 32):hn (m + n) r = hn m (hn n r):=by
 induction m with
 | zero=>simp [hn]
 | succ m ih=>rw [Nat.succ_add]; simp only [hn,ih]
def ze0:List Nat:=[0,498536548,997073096,651767980,1994146192,1802195444,1303535960,1342533948,3988292384,4027552580,3604390888,3412177804,2607071920,2262029012,2685067896,3183342108]
def tab (k:Nat):BitVec 32:=BitVec.ofNat 32 (ze0.getD k 0)
theorem zeF (k:Nat) (hk:k < 16):hn 4 (BitVec.ofNat 32 k) = tab k:=by
 have:∀ k:Fin 16,hn 4 (BitVec.ofNat 32 k.val) = tab k.val:=by decide +kernel
 exact this ⟨k,hk⟩
theorem Z7 (r:BitVec 32) (h:r.getLsbD 0 = false):JR r = r >>> 1:=by unfold JR; rw [if_neg (by rw [h]; decide)]
theorem zb4 (r:BitVec 32):hn 4 ((r >>> 4) <<< 4) = r >>> 4:=by
 simp only [hn];have z:∀ i,i < 4 -> ((r >>> 4) <<< 4).getLsbD i = false:=fun i hi=>by simp [BitVec.getLsbD_shiftLeft,hi]
 rw [Z7 ((r >>> 4) <<< 4) (z 0 (by omega)),Z7 (((r >>> 4) <<< 4) >>> 1) (by rw [BitVec.getLsbD_ushiftRight]; exact z 1 (by omega)),
  Z7 (((r >>> 4) <<< 4) >>> 1 >>> 1) (by rw [BitVec.getLsbD_ushiftRight,BitVec.getLsbD_ushiftRight]; exact z 2 (by omega)),
  Z7 (((r >>> 4) <<< 4) >>> 1 >>> 1 >>> 1) (by rw [BitVec.getLsbD_ushiftRight,BitVec.getLsbD_ushiftRight,BitVec.getLsbD_ushiftRight]; exact z 3 (by omega))]
 apply BitVec.eq_of_getLsbD_eq;intro i hi;simp only [BitVec.getLsbD_ushiftRight,BitVec.getLsbD_shiftLeft];by_cases h:4 + i < 32
 ·have e:1 + (1 + (1 + (1 + i))) = 4 + i:=by omega
  rw [e];simp [h]
 ·have e:1 + (1 + (1 + (1 + i))) = 4 + i:=by omega
  rw [e];have:r.getLsbD (4 + i) = false:=BitVec.getLsbD_of_ge _ _ (by omega);simp [this]
theorem zeD (r:BitVec 32):r = ((r >>> 4) <<< 4) ^^^ BitVec.ofNat 32 (r.toNat % 16):=by
 apply BitVec.eq_of_getLsbD_eq;intro i hi;have e:(BitVec.ofNat 32 (r.toNat % 16)).getLsbD i = (decide (i < 4) && r.getLsbD i):=by
  rw [BitVec.getLsbD_ofNat];have:r.toNat % 16 = r.toNat % 2 ^ 4:=rfl;rw [this,Nat.testBit_mod_two_pow];simp [hi,BitVec.getLsbD]
 rw [BitVec.getLsbD_xor,e];simp only [BitVec.getLsbD_ushiftRight,BitVec.getLsbD_shiftLeft];by_cases h:i < 4
 ·simp [h]
 ·have:4 + (i - 4) = i:=by omega
  simp [h,hi,this]
theorem zew (r:BitVec 32):(r >>> 4) ^^^ tab (r.toNat % 16) = hn 4 r:=by
 have h:=congrArg (hn 4) (zeD r);rw [zen,zb4,zeF _ (Nat.mod_lt _ (by omega))] at h;exact h.symm
def wide (c:UInt8):BitVec 32:=BitVec.ofNat 32 c.toNat
def step (r:BitVec 32) (c:UInt8):BitVec 32:=hn 8 (r ^^^ wide c)
def reg (r:BitVec 32) (l:List UInt8):BitVec 32:=l.foldl step r
def ones:BitVec 32:=0xffffffff#32
def more (x:BitVec 32) (l:List UInt8):BitVec 32:=reg (x ^^^ ones) l ^^^ ones
theorem Qh (r:BitVec 32) (l m:List UInt8):reg r (l ++ m) = reg (reg r l) m:=by simp [reg]
end Crc
end Go.Proofs.YtafclmbecmgbnaaGreatDoor
namespace Go.Proofs.YtafclmbecmgbnaaGreatDoor
def be:Nat -> Nat -> List UInt8
 | 0,_=>[]
 | w + 1,n=>be w (n / 256) ++ [UInt8.ofNat n]
def num (l:List UInt8):Nat:=l.foldl (fun a c=>256 * a + c.toNat) 0
theorem yF (w n:Nat):(be w n).length = w:=by
 induction w generalizing n with
 | zero=>rfl
 | succ w ih=>simp [be,ih]
theorem zdt (w n:Nat):be (w + 1) n = UInt8.ofNat (n / 256 ^ w) :: be w n:=by
 induction w generalizing n with
 | zero=>simp [be]
 | succ w ih =>
  rw [be,ih,List.cons_append,Nat.div_div_eq_div_mul,<- Nat.pow_add_one'];rfl
theorem zeN {w i:Nat} (n:Nat) (h:i < w):(be w n)[i]? = some (UInt8.ofNat (n / 256 ^ (w - 1 - i))):=by
 induction w generalizing i with
 | zero=>omega
 | succ w ih =>
  rw [zdt];cases i with
  | zero=>simp
  | succ i =>
   rw [List.getElem?_cons_succ,ih (by omega)];have e:w - 1 - i = w + 1 - 1 - (i + 1):=by omega
   rw [e]
theorem zdu {w i:Nat} (n:Nat) (h:i < w):(be w n).take (i + 1) = (be w n).take i ++ [UInt8.ofNat (n / 256 ^ (w - 1 - i))]:=by
 rw [List.take_add_one,zeN n h];rfl
theorem QL (w n:Nat):(be w n).take w = be w n:=List.take_of_length_le (by rw [yF]; exact ze3 _)
theorem Yf (l:List UInt8) (c:UInt8):num (l ++ [c]) = 256 * num l + c.toNat:=by simp [num]
theorem zcs (l:List UInt8):num l < 256 ^ l.length:=by
 have h:∀ k (l:List UInt8),l.length = k -> num l < 256 ^ k:=by
  intro k;induction k with
  | zero=>intro l hl; obtain rfl:=List.eq_nil_of_length_eq_zero hl; decide
  | succ k ih =>
   intro l hl;have hne:l ≠ []:=by rintro rfl; simp at hl
   rw [<- List.dropLast_concat_getLast hne,Yf];have h1:=ih l.dropLast (by simp [hl]);have h2:=(l.getLast hne).toNat_lt;rw [Nat.pow_succ];omega
 exact h _ l rfl
theorem J7 {w n:Nat} (h:n < 256 ^ w):num (be w n) = n:=by
 induction w generalizing n with
 | zero=>simp at h; subst h; rfl
 | succ w ih =>
  rw [Nat.pow_succ] at h;rw [be,Yf,ih (by omega),UInt8.toNat_ofNat'];omega
theorem zct {l:List UInt8} {k:Nat} (h:k < l.length):num (l.take (k + 1)) = 256 * num (l.take k) + l[k].toNat:=by
 rw [List.take_add_one,ze7 h];exact Yf _ _
theorem qH (l:List UInt8) (k:Nat):num (l.take k) < 256 ^ k :=
 Nat.lt_of_lt_of_le (zcs _) (Nat.pow_le_pow_right (by decide) (by rw [List.length_take]; omega))
def lays:List (Nat × Nat) -> List UInt8
 | []=>[]
 | x :: r=>be x.1 x.2 ++ lays r
theorem KA (a b:List (Nat × Nat)):lays (a ++ b) = lays a ++ lays b:=by
 induction a with
 | nil=>rfl
 | cons x r ih=>simp [lays,ih]
theorem zcg (x:Nat × Nat):lays [x] = be x.1 x.2:=by simp [lays]
end Go.Proofs.YtafclmbecmgbnaaGreatDoor
namespace Go.Proofs.YtafclmbecmgbnaaGreatDoor
abbrev Pg:=List Int
abbrev Vq:=List (Nat × Pg)
def zy:Pg:=zfi 128 0
theorem zL:zy.length = 128:=by simp [zy]
def Whole (l:List Pg):Prop:=∀ p ∈ l,p.length = 128
theorem Whole.at_ {l:List Pg} (h:Whole l) {i:Nat} (hi:i < l.length):(l[i]).length = 128:=h _ (zfn _)
theorem Whole.set {l:List Pg} (h:Whole l) (i:Nat) {p:Pg} (hp:p.length = 128):Whole (l.set i p):=fun q hq=>by
 rcases List.mem_or_eq_of_mem_set hq with h1 | rfl
 ·exact h q h1
 ·exact hp
theorem Whole.replicate (n:Nat) {p:Pg} (hp:p.length = 128):Whole (zfi n p):=fun q hq=>by
 rw [(List.mem_replicate.1 hq).2]; exact hp
def Wv (n:Nat) (s:Vq):Prop:=∀ x ∈ s,x.1 < n /\ x.2.length = 128
theorem Wv.nil (n:Nat):Wv n []:=by simp [Wv]
theorem Wv.snoc {n:Nat} {s:Vq} (h:Wv n s) {a:Nat} {p:Pg} (ha:a < n) (hp:p.length = 128):Wv n (s ++ [(a,p)]):=fun x hx=>by
 rcases List.mem_append.1 hx with h1 | h1
 ·exact h x h1
 ·obtain rfl:=List.mem_singleton.1 h1;exact ⟨ha,hp⟩
def Wb (firm:List Pg) (s:Vq) (i:Nat):Nat -> Pg
 | 0=>firm.getD i []
 | k + 1=>if (s.getD k (0,[])).1 = i then (s.getD k (0,[])).2 else Wb firm s i k
def KS (firm:List Pg) (s:Vq) (i:Nat):Pg:=Wb firm s i s.length
theorem Yj (firm:List Pg) (s t:Vq) (i:Nat):∀ k,k <= s.length -> Wb firm (s ++ t) i k = Wb firm s i k
 | 0,_=>rfl
 | k + 1,h=>by
  have e:(s ++ t).getD k (0,[]) = s.getD k (0,[]):=by
   rw [ze6,ze6,List.getElem?_append_left (by omega)]
  rw [Wb,Wb,e,Yj firm s t i k (by omega)]
theorem Qf (firm:List Pg) (s:Vq) (a:Nat) (p:Pg) (i:Nat):KS firm (s ++ [(a,p)]) i = if a = i then p else KS firm s i:=by
 unfold KS;rw [List.length_append,List.length_singleton,Wb,Yj firm s _ i _ (ze3 _)];simp [ze6]
def kept (m i:Nat):Prop:=m / 2 ^ (i % 32) % 2 = 1
instance (m i:Nat):Decidable (kept m i):=by unfold kept; infer_instance
structure Dk where
 firm:List Pg
 seen:List Pg
 soft:Vq
 down:Bool
def Dk.new (n:Nat):Dk:=⟨zfi n zy,zfi n zy,[],false⟩
def Dk.write (d:Dk) (i:Nat) (p:Pg):Dk:=⟨d.firm,d.seen.set i p,d.soft ++ [(i,p)],d.down⟩
def Dk.flush (d:Dk):Dk:=⟨d.seen,d.seen,[],d.down⟩
def Dk.up (d:Dk):Dk:=⟨d.firm,d.seen,d.soft,false⟩
structure Dk.Ok (d:Dk) (n:Nat):Prop where
 firm:d.firm.length = n
 seen:d.seen.length = n
 wf:Whole d.firm
 ws:Whole d.seen
 fits:Wv n d.soft
theorem Dk.Ok.new (n:Nat):(Dk.new n).Ok n:=⟨by simp [Dk.new],by simp [Dk.new],Whole.replicate _ zL,Whole.replicate _ zL,Wv.nil _⟩
theorem Dk.Ok.write {d:Dk} {n:Nat} (h:d.Ok n) {i:Nat} (hi:i < n) {p:Pg} (hp:p.length = 128):(d.write i p).Ok n :=
 ⟨h.firm,by simp [Dk.write,h.seen],h.wf,h.ws.set _ hp,h.fits.snoc hi hp⟩
theorem Dk.Ok.flush {d:Dk} {n:Nat} (h:d.Ok n):d.flush.Ok n:=⟨h.seen,h.seen,h.ws,h.ws,Wv.nil _⟩
def kD (l:List Pg) (i:Nat):Pg:=l.getD i []
theorem zdN {l:List Pg} {i:Nat} (h:i < l.length):l[i]? = some (kD l i):=by
 rw [kD,ze6,ze7 h]; rfl
theorem KQ {l:List Pg} {i j:Nat} {p:Pg} (h:i < l.length):kD (l.set i p) j = if i = j then p else kD l j:=by
 unfold kD;rw [ze6,ze6,List.getElem?_set];by_cases e:i = j
 ·subst e; simp [h]
 ·simp [e]
theorem KP {l:List Pg} {i:Nat} (hw:Whole l) (h:i < l.length):(kD l i).length = 128:=by
 rw [kD,ze6,ze7 h]; exact hw.at_ h
def Dk.Sync (d:Dk):Prop:=∀ i,i < d.firm.length -> kD d.seen i = KS d.firm d.soft i
theorem Dk.Sync.write {d:Dk} {n:Nat} (hk:d.Ok n) (h:d.Sync) {i:Nat} (hi:i < n) (p:Pg):(d.write i p).Sync:=fun j hj=>by
 show kD (d.seen.set i p) j = KS d.firm (d.soft ++ [(i,p)]) j;rw [KQ (by rw [hk.seen]; exact hi),Qf,h j hj]
theorem Dk.Sync.flush (d:Dk):d.flush.Sync:=fun _ _=>rfl
end Go.Proofs.YtafclmbecmgbnaaGreatDoor
namespace Go.Proofs.YtafclmbecmgbnaaGreatDoor
def pgB (l:List UInt8):Pg:=l.map fun c=>(c.toNat:Int)
theorem yy (l:List UInt8):(pgB l).length = l.length:=by simp [pgB]
theorem zdO {a b:List UInt8} (h:pgB a = pgB b):a = b:=by
 refine List.map_inj_right (f:=fun c:UInt8=>(c.toNat:Int)) (fun x y e=>?_) |>.1 h
 exact UInt8.toNat_inj.1 (by omega)
theorem X8:pgB (zfi 128 0) = zy:=by simp [pgB,zy]
def WM (l:List UInt8):List UInt8:=be 4 (Crc.more 0#32 l).toNat
theorem wE (l:List UInt8):(WM l).length = 4:=yF _ _
def XM (k:UInt8) (d:List UInt8):List UInt8:=k :: UInt8.ofNat d.length :: (d ++ zfi (122 - d.length) 0)
theorem Z2 {k:UInt8} {d:List UInt8} (h:d.length <= 120):(XM k d).length = 124:=by simp [XM]; omega
def jw (k:UInt8) (d:List UInt8):List UInt8:=WM (XM k d) ++ XM k d
theorem kj {k:UInt8} {d:List UInt8} (h:d.length <= 120):(jw k d).length = 128:=by
 unfold jw; rw [List.length_append,wE,Z2 h]
theorem zaD (k:UInt8) (d:List UInt8):(jw k d).take 4 = WM (XM k d):=by
 unfold jw;rw [List.take_left' (wE _)]
theorem Zb (k:UInt8) (d:List UInt8):(jw k d).drop 4 = XM k d:=by
 unfold jw;rw [List.drop_left' (wE _)]
def kB (p:List UInt8):UInt8:=p.getD 4 0
def nB (p:List UInt8):Nat:=(p.getD 5 0).toNat
def dB (p:List UInt8):List UInt8:=(p.drop 6).take (nB p)
theorem zd8 (p:List UInt8):nB p < 256:=UInt8.toNat_lt _
theorem Yz {p:List UInt8} (hp:p.length = 128) (h:nB p <= 120):(dB p).length = nB p:=by
 unfold dB; rw [List.length_take,List.length_drop]; omega
def qP (p:List UInt8):Bool:=decide (p.take 4 = WM (p.drop 4))
def xE (p:List UInt8):Int:=if qP p = true then (if 120 < nB p then 2 else if kB p = 0 then 2 else if jw (kB p) (dB p) = p then 0 else 2) else 3
theorem za1 (k:UInt8) (d:List UInt8):qP (jw k d) = true:=by
 unfold qP;rw [zaD,Zb];simp
theorem W0 (p:List UInt8) (i j:Nat):(p.drop i).getD j 0 = p.getD (i + j) 0:=by simp [ze6]
theorem zdG (p:List UInt8):kB p = (p.drop 4).getD 0 0:=by rw [W0]; rfl
theorem zdL (p:List UInt8):nB p = ((p.drop 4).getD 1 0).toNat:=by rw [W0]; rfl
theorem zdy (p:List UInt8):dB p = ((p.drop 4).drop 2).take (nB p):=by rw [List.drop_drop]; rfl
theorem JX (k:UInt8) (d:List UInt8):kB (jw k d) = k:=by rw [zdG,Zb]; rfl
theorem zcp {k:UInt8} {d:List UInt8} (h:d.length <= 120):nB (jw k d) = d.length:=by
 rw [zdL,Zb];show (UInt8.ofNat d.length).toNat = d.length;rw [UInt8.toNat_ofNat'];omega
theorem JG {k:UInt8} {d:List UInt8} (h:d.length <= 120):dB (jw k d) = d:=by
 rw [zdy,Zb,zcp h];show (d ++ zfi (122 - d.length) 0).take d.length = d;rw [List.take_left' rfl]
theorem WX {k:UInt8} {d:List UInt8} (hk:k ≠ 0) (h:d.length <= 120):xE (jw k d) = 0:=by
 unfold xE;rw [if_pos (za1 k d),zcp h,if_neg (by omega),JX,if_neg hk,JG h,if_pos rfl]
theorem z0:Crc.hn 62 0xffffffff#32 = 0x06e7889b#32:=by decide +kernel
theorem z1:Crc.hn 62 0x06e7889b#32 = 0xef3a4ce1#32:=by decide +kernel
theorem z2:Crc.hn 62 0xef3a4ce1#32 = 0xb833345e#32:=by decide +kernel
theorem z3:Crc.hn 62 0xb833345e#32 = 0x96f6534f#32:=by decide +kernel
theorem z4:Crc.hn 62 0x96f6534f#32 = 0x2745293d#32:=by decide +kernel
theorem z5:Crc.hn 62 0x2745293d#32 = 0x79144ee1#32:=by decide +kernel
theorem z6:Crc.hn 62 0x79144ee1#32 = 0xdf2fa7a0#32:=by decide +kernel
theorem z7:Crc.hn 62 0xdf2fa7a0#32 = 0xe29b589e#32:=by decide +kernel
theorem z8:Crc.hn 62 0xe29b589e#32 = 0x3e15ccb0#32:=by decide +kernel
theorem z9:Crc.hn 62 0x3e15ccb0#32 = 0x2c95d09f#32:=by decide +kernel
theorem z10:Crc.hn 62 0x2c95d09f#32 = 0x53e783b4#32:=by decide +kernel
theorem z11:Crc.hn 62 0x53e783b4#32 = 0x1351d28f#32:=by decide +kernel
theorem z12:Crc.hn 62 0x1351d28f#32 = 0x8027ca29#32:=by decide +kernel
theorem z13:Crc.hn 62 0x8027ca29#32 = 0x946cf290#32:=by decide +kernel
theorem z14:Crc.hn 62 0x946cf290#32 = 0x72d44d03#32:=by decide +kernel
theorem z15:Crc.hn 62 0x72d44d03#32 = 0xea28f1f3#32:=by decide +kernel
theorem W7 (r:BitVec 32):∀ n,Crc.reg r (zfi n 0) = Crc.hn (8 * n) r
 | 0=>rfl
 | n + 1=>by
  rw [List.replicate_succ];show Crc.reg (Crc.step r 0) (zfi n 0) = _;rw [W7 (Crc.step r 0) n,show 8 * (n + 1) = 8 * n + 8 by omega,Crc.hn_add];have:Crc.wide 0 = 0#32:=by decide
  unfold Crc.step;rw [this,BitVec.xor_zero]
theorem zc5:Crc.more 0#32 (zfi 124 0) ≠ 0#32:=by
 unfold Crc.more;rw [W7,BitVec.zero_xor,show Crc.ones = 0xffffffff#32 from rfl];simp only [show 8 * 124 = 62 + (62 + (62 + (62 + (62 + (62 + (62 + (62 + (62 + (62 + (62 + (62 + (62 + (62 + (62 + 62)))))))))))))) by decide,Crc.hn_add,z0,z1,z2,z3,z4,z5,z6,z7,z8,z9,z10,z11,z12,z13,z14,z15];decide
theorem zc4:qP (zfi 128 0) = false:=by
 unfold qP;rw [decide_eq_false_iff_not];intro h;have h2:=congrArg num h;unfold WM at h2;rw [J7 (BitVec.isLt _)] at h2;exact zc5 (BitVec.eq_of_toNat_eq (by rw [show zfi 124 (0:UInt8) = List.drop 4 (zfi 128 0) from rfl,<- h2]; decide))
theorem Kn:xE (zfi 128 0) = 3:=by
 unfold xE;rw [zc4,if_neg (by decide)]
end Go.Proofs.YtafclmbecmgbnaaGreatDoor
namespace Go.Proofs.YtafclmbecmgbnaaGreatDoor.Bits
structure Ok (s:List Nat):Prop where
 len:s.length = 30
 small:∀ b ∈ s,b < 256
def at_ (s:List Nat) (i:Nat):Nat:=s.getD i 0
theorem at_lt {s:List Nat} (h:Ok s) (i:Nat):at_ s i < 256:=by
 unfold at_
 rw [ze6];by_cases hi:i < s.length
 ·rw [ze7 hi];exact h.small _ (zfn hi)
 ·rw [List.getElem?_eq_none (by omega)];decide
theorem at_eq {s:List Nat} {i:Nat} (hi:i < s.length):s[i] = at_ s i:=by
 unfold at_
 rw [ze6,ze7 hi];rfl
theorem at_set {s:List Nat} {i j b:Nat} (hi:i < s.length):at_ (s.set i b) j = if i = j then b else at_ s j:=by
 unfold at_
 rw [ze6,ze6,List.getElem?_set];by_cases e:i = j
 ·subst e; simp [hi]
 ·simp [e]
def has (s:List Nat) (n:Nat):Bool:=(at_ s (n / 8)).testBit (n % 8)
theorem zbO {a b:Nat} (ha:a < 256) (hb:b < 256) (h:∀ i,i < 8 -> a.testBit i = b.testBit i):a = b:=by
 refine Nat.eq_of_testBit_eq fun i=>?_
 by_cases hi:i < 8
 ·exact h i hi
 ·have hp:256 <= 2 ^ i:=by
   have:(2:Nat) ^ 8 <= 2 ^ i:=Nat.pow_le_pow_right (by decide) (by omega);simpa using this
  rw [Nat.testBit_lt_two_pow (by omega),Nat.testBit_lt_two_pow (by omega)]
theorem ext {s t:List Nat} (hs:Ok s) (ht:Ok t) (h:∀ n,n < 240 -> has s n = has t n):s = t:=by
 refine List.ext_getElem (by rw [hs.len,ht.len]) fun i h1 h2=>?_
 rw [at_eq h1,at_eq h2];refine zbO (at_lt hs i) (at_lt ht i) fun j hj=>?_
 have hi:i < 30:=by rw [<- hs.len]; exact h1
 have:=h (i * 8 + j) (by omega);unfold has at this
 rwa [show (i * 8 + j) / 8 = i by omega,show (i * 8 + j) % 8 = j by omega] at this
theorem Ok.set {s:List Nat} (h:Ok s) (i:Nat) {b:Nat} (hb:b < 256):Ok (s.set i b) :=
 ⟨by rw [List.length_set]; exact h.len,fun x hx=>by
  rcases List.mem_or_eq_of_mem_set hx with hx | rfl
  ·exact h.small x hx
  ·exact hb⟩
theorem QQ {s:List Nat} (h:Ok s) {n:Nat} (hn:n < 240) {b:Nat} {v:Bool} (hb:∀ i,i < 8 -> b.testBit i = if i = n % 8 then v else (at_ s (n / 8)).testBit i) (m:Nat) :
  has (s.set (n / 8) b) m = if m = n then v else has s m:=by
 unfold has;rw [at_set (by rw [h.len]; omega)];by_cases e:n / 8 = m / 8
 ·rw [if_pos e,hb _ (Nat.mod_lt _ (by decide)),<- e];by_cases e2:m % 8 = n % 8
  ·rw [if_pos e2,if_pos (by omega)]
  ·rw [if_neg e2,if_neg (by omega)]
 ·rw [if_neg e,if_neg (by omega)]
def with_ (s:List Nat) (n:Nat):List Nat:=s.set (n / 8) (at_ s (n / 8) ||| 2 ^ (n % 8))
def without (s:List Nat) (n:Nat):List Nat:=s.set (n / 8) (at_ s (n / 8) &&& (255 - 2 ^ (n % 8)))
theorem pow_lt (n:Nat):2 ^ (n % 8) < 256:=by
 have h:(2:Nat) ^ (n % 8) < 2 ^ 8:=Nat.pow_lt_pow_right (by decide) (Nat.mod_lt _ (by decide));simpa using h
theorem zd9 {a b:Nat} (ha:a < 256) (hb:b < 256):a ||| b < 256:=Nat.or_lt_two_pow (n:=8) ha hb
theorem Ok.with_ {s:List Nat} (h:Ok s) (n:Nat):Ok (with_ s n):=h.set _ (zd9 (at_lt h _) (pow_lt n))
theorem Ok.without {s:List Nat} (h:Ok s) (n:Nat):Ok (without s n):=h.set _ (Nat.lt_of_le_of_lt Nat.and_le_left (at_lt h _))
theorem zck:∀ j,j < 8 -> ∀ i,i < 8 -> (255 - 2 ^ j).testBit i = !decide (i = j):=by decide
theorem has_with {s:List Nat} (h:Ok s) {n:Nat} (hn:n < 240) (m:Nat):has (with_ s n) m = if m = n then true else has s m:=by
 refine QQ h hn (fun i _=>?_) m;rw [Nat.testBit_or,Nat.testBit_two_pow];by_cases e:i = n % 8
 ·rw [if_pos e,decide_eq_true e.symm,Bool.or_true]
 ·rw [if_neg e,decide_eq_false (Ne.symm e),Bool.or_false]
theorem has_without {s:List Nat} (h:Ok s) {n:Nat} (hn:n < 240) (m:Nat):has (without s n) m = if m = n then false else has s m:=by
 refine QQ h hn (fun i hi=>?_) m;rw [Nat.testBit_and,zck _ (Nat.mod_lt _ (by decide)) i hi];by_cases e:i = n % 8
 ·rw [if_pos e,decide_eq_true e,Bool.not_true,Bool.and_false]
 ·rw [if_neg e,decide_eq_false e,Bool.not_false,Bool.and_true]
def both (s t:List Nat):List Nat:=List.zipWith (· ||| ·) s t
theorem Ok.both {s t:List Nat} (hs:Ok s) (ht:Ok t):Ok (both s t):=by
 refine ⟨by simp [Bits.both,hs.len,ht.len],fun x hx=>?_⟩;obtain ⟨i,hi,rfl⟩:=List.mem_iff_getElem.1 hx;simp only [Bits.both,List.getElem_zipWith];exact zd9 (hs.small _ (zfn _)) (ht.small _ (zfn _))
theorem has_both {s t:List Nat} (hs:Ok s) (ht:Ok t) {n:Nat} (hn:n < 240):has (both s t) n = (has s n || has t n):=by
 have h1:n / 8 < s.length:=by rw [hs.len]; omega
 have h2:n / 8 < t.length:=by rw [ht.len]; omega
 have e:at_ (both s t) (n / 8) = at_ s (n / 8) ||| at_ t (n / 8):=by
  rw [<- at_eq h1,<- at_eq h2,<- at_eq (by simp [both]; omega)];simp [both]
 unfold has;rw [e,Nat.testBit_or]
def kM (s:List Nat):Nat -> Nat
 | 0=>0
 | k + 1=>kM s k + if has s k then 1 else 0
def count (s:List Nat):Nat:=kM s 240
def minus (u t:List Nat):Nat -> List Nat
 | 0=>u
 | k + 1=>if has t k then without (minus u t k) k else minus u t k
theorem Ok.minus {u t:List Nat} (h:Ok u):∀ k,Ok (minus u t k)
 | 0=>h
 | k + 1=>by
  rw [Bits.minus];split
  ·exact (h.minus k).without k
  ·exact h.minus k
theorem has_minus {u t:List Nat} (h:Ok u):∀ {k:Nat},k <= 240 -> ∀ m,has (minus u t k) m = (has u m && !(decide (m < k) && has t m))
 | 0,_,m=>by simp [minus]
 | k + 1,hk,m=>by
  have ih:=has_minus (t:=t) h (k:=k) (by omega) m;rw [minus];by_cases ht:has t k = true
  ·rw [if_pos ht,has_without (h.minus k) (by omega),ih];by_cases e:m = k
   ·subst e; simp [ht]
   ·have e2:decide (m < k + 1) = decide (m < k):=by rw [decide_eq_decide]; omega
    rw [if_neg e,e2]
  ·rw [if_neg ht,ih];by_cases e:m = k
   ·subst e; simp [ht]
   ·have e2:decide (m < k + 1) = decide (m < k):=by rw [decide_eq_decide]; omega
    rw [e2]
def first (s:List Nat) (a:Nat):Nat -> Option Nat
 | 0=>none
 | c + 1=>if has s a then first s (a + 1) c else some a
theorem first_some {s:List Nat}:∀ {c a n:Nat},first s a c = some n -> a <= n /\ n < a + c /\ has s n = false /\ ∀ m,a <= m -> m < n -> has s m = true
 | 0,a,n,h=>by cases h
 | c + 1,a,n,h=>by
  rw [first] at h;by_cases ha:has s a = true
  ·rw [if_pos ha] at h;obtain ⟨h1,h2,h3,h4⟩:=first_some h;exact ⟨by omega,by omega,h3,fun m hm hm2=>by
    by_cases e:m = a
    ·rw [e]; exact ha
    ·exact h4 m (by omega) hm2⟩
  ·rw [if_neg ha] at h;obtain rfl:=Option.some.inj h;exact ⟨ze3 _,by omega,by simpa using ha,fun m hm hm2=>by omega⟩
theorem first_none {s:List Nat}:∀ {c a:Nat},first s a c = none -> ∀ m,a <= m -> m < a + c -> has s m = true
 | 0,a,_,m,h1,h2=>by omega
 | c + 1,a,h,m,h1,h2=>by
  rw [first] at h;by_cases ha:has s a = true
  ·rw [if_pos ha] at h;by_cases e:m = a
   ·rw [e]; exact ha
   ·exact first_none h m (by omega) (by omega)
  ·rw [if_neg ha] at h;cases h
theorem first_of {s:List Nat} {a c n:Nat} (h1:a <= n) (h2:n < a + c) (h3:has s n = false) (h4:∀ m,a <= m -> m < n -> has s m = true):first s a c = some n:=by
 cases e:first s a c with
 | none =>
  have:=first_none e n h1 h2;rw [h3] at this;cases this
 | some m =>
  obtain ⟨g1,g2,g3,g4⟩:=first_some e;rcases Nat.lt_trichotomy m n with h | h | h
  ·have:=h4 m g1 h;rw [g3] at this;cases this
  ·rw [h]
  ·have:=g4 n h1 h;rw [h3] at this;cases this
def fill (s:List Nat):Nat -> List Nat
 | 0=>s
 | k + 1=>match first (fill s k) 0 240 with
  | some n=>with_ (fill s k) n
  | none=>fill s k
end Go.Proofs.YtafclmbecmgbnaaGreatDoor.Bits
namespace Go.Proofs.YtafclmbecmgbnaaGreatDoor
structure Sb where
 gen:Nat
 root:Int
 used:List Nat
def Sb.zero:Sb:=⟨0,0,zfi 30 0⟩
structure Sb.Ok (x:Sb):Prop where
 gen:x.gen < 4294967296
 used:Bits.Ok x.used
theorem Sb.Ok.zero:Sb.zero.Ok:=⟨by decide,by simp [Sb.zero],fun b hb=>by rw [(List.mem_replicate.1 hb).2]; decide⟩
def vD (s:List Nat) (n:Int):Bool:=decide (0 <= n /\ n < 240) && Bits.has s n.toNat
def yD (x:Sb):Bool:=decide (x.gen ≠ 0) && !Bits.has x.used 0 && !Bits.has x.used 1 && (decide (x.root = 0) || (decide (2 <= x.root) && vD x.used x.root))
theorem Xa {x:Sb} (h:yD x = true):∃ r:Nat,x.root = (r:Int) /\ r < 240:=by
 unfold yD at h;simp only [zfm,Bool.or_eq_true,decide_eq_true_eq] at h;rcases h.2 with h | ⟨h1,h2⟩
 ·exact ⟨0,by omega,by decide⟩
 ·unfold vD at h2;simp only [zfm,decide_eq_true_eq] at h2;exact ⟨x.root.toNat,by omega,by omega⟩
theorem Wf {x:Sb} (h:yD x = true):x.gen ≠ 0:=by
 unfold yD at h;simp only [zfm,decide_eq_true_eq] at h;exact h.1.1.1
def Zk (s:List Nat):List UInt8:=s.map UInt8.ofNat
def kO (x:Sb):List UInt8:=be 4 x.gen ++ UInt8.ofNat x.root.toNat :: Zk x.used
theorem qO (s:List Nat):(Zk s).length = s.length:=by simp [Zk]
theorem km {x:Sb} (h:x.Ok):(kO x).length = 35:=by
 have:=h.used.len;simp [kO,yF,qO,this]
theorem zah (l:List UInt8):be l.length (num l) = l:=by
 have key:∀ k (l:List UInt8),l.length = k -> be k (num l) = l:=by
  intro k;induction k with
  | zero=>intro l hl; obtain rfl:=List.eq_nil_of_length_eq_zero hl; rfl
  | succ k ih =>
   intro l hl;have hne:l ≠ []:=by rintro rfl; simp at hl
   have e:=List.dropLast_concat_getLast hne;have h1:=ih l.dropLast (by simp [hl]);have h2:=(l.getLast hne).toNat_lt;rw [<- e,Yf,be];rw [show (256 * num l.dropLast + (l.getLast hne).toNat) / 256 = num l.dropLast by omega,h1];congr 2;rw [<- UInt8.toNat_inj,UInt8.toNat_ofNat'];omega
 exact key _ l rfl
def ofS (d:List UInt8):Sb:=⟨num (d.take 4),((d.getD 4 0).toNat:Int),(d.drop 5).map UInt8.toNat⟩
theorem zcw {d:List UInt8} (h:d.length = 35):(ofS d).Ok:=by
 refine ⟨?_,?_,?_⟩
 ·have:=qH d 4;exact this
 ·show ((d.drop 5).map UInt8.toNat).length = 30;rw [List.length_map,List.length_drop];omega
 ·intro b hb;obtain ⟨c,_,rfl⟩:=List.mem_map.1 hb;exact UInt8.toNat_lt c
theorem zaV {s:List Nat} (h:∀ b ∈ s,b < 256):(Zk s).map UInt8.toNat = s:=by
 unfold Zk;rw [List.map_map]
 conv=>rhs; rw [<- List.map_id s]
 refine List.map_congr_left fun b hb=>?_
 have:=h b hb;show (UInt8.ofNat b).toNat = b;rw [UInt8.toNat_ofNat'];omega
theorem zcM (l:List UInt8):Zk (l.map UInt8.toNat) = l:=by
 unfold Zk;rw [List.map_map]
 conv=>rhs; rw [<- List.map_id l]
 exact List.map_congr_left fun b _=>by simp
theorem zaF (x:Sb):(kO x).take 4 = be 4 x.gen:=by
 unfold kO;rw [List.take_append_of_le_length (by rw [yF]; exact ze3 _),QL]
theorem zdI (x:Sb):(kO x).getD 4 0 = UInt8.ofNat x.root.toNat:=by
 unfold kO;rw [ze6,List.getElem?_append_right (by rw [yF]; exact ze3 _),yF];rfl
theorem zaE (x:Sb):(kO x).drop 5 = Zk x.used:=by
 unfold kO;have e:be 4 x.gen ++ UInt8.ofNat x.root.toNat :: Zk x.used = (be 4 x.gen ++ [UInt8.ofNat x.root.toNat]) ++ Zk x.used:=by simp
 rw [e,List.drop_left' (by simp [yF])]
theorem zdM {x:Sb} (h:x.Ok) {r:Nat} (hr:x.root = (r:Int)) (hlt:r < 256):ofS (kO x) = x:=by
 unfold ofS;rw [zaF,zdI,zaE,J7 (by have:=h.gen; exact this),zaV h.used.small];have e:((UInt8.ofNat x.root.toNat).toNat:Int) = x.root:=by
  rw [hr,Int.toNat_natCast,UInt8.toNat_ofNat'];omega
 rw [e]
theorem zcf {d:List UInt8} (h:d.length = 35):kO (ofS d) = d:=by
 unfold kO ofS;have h4:(d.take 4).length = 4:=by rw [List.length_take]; omega
 have e1:be 4 (num (d.take 4)) = d.take 4:=by
  have:=zah (d.take 4)
  rwa [h4] at this
 have e2:(UInt8.ofNat ((((d.getD 4 0).toNat:Nat):Int)).toNat) = d.getD 4 0:=by
  rw [Int.toNat_natCast];simp
 show be 4 (num (d.take 4)) ++ UInt8.ofNat ((((d.getD 4 0).toNat:Nat):Int)).toNat :: Zk ((d.drop 5).map UInt8.toNat) = d;rw [e1,e2,zcM];have e3:d.getD 4 0 :: d.drop 5 = d.drop 4:=by
  rw [List.drop_eq_getElem_cons (by omega:4 < d.length),ze6,ze7 (by omega)];rfl
 rw [e3,List.take_append_drop]
def kR (d:List UInt8):Option Sb:=if d.length = 35 /\ yD (ofS d) = true then some (ofS d) else none
theorem zaR {x:Sb} (h:x.Ok) (hr:yD x = true):kR (kO x) = some x:=by
 obtain ⟨r,e,hlt⟩:=Xa hr;have e2:=zdM h e (by omega);unfold kR;rw [if_pos ⟨km h,by rw [e2]; exact hr⟩,e2]
theorem Wd {d:List UInt8} {x:Sb} (h:kR d = some x):x.Ok /\ yD x = true /\ kO x = d:=by
 unfold kR at h;split at h
 ·rename_i hh
  obtain rfl:=Option.some.inj h;exact ⟨zcw hh.1,hh.2,zcf hh.1⟩
 ·cases h
def sbP (x:Sb):List UInt8:=jw 1 (kO x)
theorem Wg {x:Sb} (h:x.Ok):(sbP x).length = 128:=kj (by rw [km h]; decide)
def yx (p:List UInt8):Option Sb:=if xE p = 0 /\ kB p = 1 then kR (dB p) else none
theorem K3 {x:Sb} (h:x.Ok) (hr:yD x = true):yx (sbP x) = some x:=by
 have hl:(kO x).length <= 120:=by rw [km h]; decide
 unfold yx sbP;rw [if_pos ⟨WX (by decide) hl,JX _ _⟩,JG hl,zaR h hr]
theorem Vb:yx (zfi 128 0) = none:=by
 unfold yx;rw [if_neg];rintro ⟨h1,_⟩;rw [Kn] at h1;cases h1
theorem jz {p:List UInt8} {x:Sb} (h:yx p = some x):x.Ok /\ yD x = true:=by
 unfold yx at h;split at h
 ·exact ⟨(Wd h).1,(Wd h).2.1⟩
 ·cases h
def best:Option Sb -> Option Sb -> Option Sb
 | some x,some y=>if y.gen <= x.gen then some x else some y
 | some x,none=>some x
 | none,y=>y
theorem zak {a b:Option Sb} {x:Sb} (h:best a b = some x):a = some x \/ b = some x:=by
 cases a with
 | none=>exact .inr h
 | some y =>
  cases b with
  | none=>exact .inl h
  | some z =>
   by_cases hg:z.gen <= y.gen
   ·left;simpa [best,hg] using h
   ·right;simpa [best,hg] using h
end Go.Proofs.YtafclmbecmgbnaaGreatDoor
namespace Go.Proofs.YtafclmbecmgbnaaGreatDoor
def kZ (d:Dk) (i:Nat) (l:List UInt8):Prop:=kD d.seen i = pgB l /\ l.length = 128
def vh (s:List UInt8):List UInt8:=jw 2 s
structure ZU (n:Nat) (d:Dk) (x:Sb) (data:Nat -> List UInt8):Prop where
 ok:d.Ok n
 sync:d.Sync
 three:3 <= n
 good:x.Ok
 right:yD x = true
 here:∃ l,kZ d (x.gen % 2) l /\ yx l = some x
 there:∃ l,kZ d ((x.gen + 1) % 2) l /\ ∀ y,yx l = some y -> y.gen < x.gen
 waits:∀ w ∈ d.soft,2 <= w.1 /\ Bits.has x.used w.1 = false
 lt:∀ k,k < 240 -> Bits.has x.used k = true -> k < n
 pages:∀ k,k < 240 -> Bits.has x.used k = true -> kZ d k (vh (data k)) /\ (data k).length <= 120
theorem VL (g:Nat):g % 2 < 2:=Nat.mod_lt _ (by decide)
theorem ZU.used_two {n:Nat} {d:Dk} {x:Sb} {data:Nat -> List UInt8} (h:ZU n d x data) {k:Nat} (hk:Bits.has x.used k = true):2 <= k:=by
 have hr:=h.right;unfold yD at hr;simp only [zfm,Bool.not_eq_true'] at hr;rcases Nat.lt_or_ge k 2 with h2 | h2
 ·rcases (show k = 0 \/ k = 1 by omega) with rfl | rfl
  ·rw [hr.1.1.2] at hk; cases hk
  ·rw [hr.1.2] at hk; cases hk
 ·exact h2
theorem ZU.best {n:Nat} {d:Dk} {x:Sb} {data:Nat -> List UInt8} (h:ZU n d x data):∃ l0 l1,kZ d 0 l0 /\ kZ d 1 l1 /\ Go.Proofs.YtafclmbecmgbnaaGreatDoor.best (yx l0) (yx l1) = some x:=by
 obtain ⟨l,hl,hx⟩:=h.here;obtain ⟨m,hm,hy⟩:=h.there;rcases (show x.gen % 2 = 0 \/ x.gen % 2 = 1 by omega) with e | e
 ·rw [e] at hl;rw [show (x.gen + 1) % 2 = 1 by omega] at hm;refine ⟨l,m,hl,hm,?_⟩;rw [hx];cases hs:yx m with
  | none=>rfl
  | some y =>
   have:=hy y hs;simp [Go.Proofs.YtafclmbecmgbnaaGreatDoor.best,Nat.le_of_lt this]
 ·rw [e] at hl;rw [show (x.gen + 1) % 2 = 0 by omega] at hm;refine ⟨m,l,hm,hl,?_⟩;rw [hx];cases hs:yx m with
  | none=>rfl
  | some y =>
   have:=hy y hs;simp [Go.Proofs.YtafclmbecmgbnaaGreatDoor.best,Nat.not_le.2 this]
theorem kX {d:Dk} {n i:Nat} (hok:d.Ok n) (hi:i < n) (p:Pg) (j:Nat):kD (d.write i p).seen j = if i = j then p else kD d.seen j :=
 KQ (by rw [hok.seen]; exact hi)
theorem ZU.write {n:Nat} {d:Dk} {x:Sb} {data:Nat -> List UInt8} (h:ZU n d x data) {i:Nat} (h2:2 <= i) (hi:i < n) (hf:Bits.has x.used i = false) {p:Pg} (hp:p.length = 128) {data':Nat -> List UInt8}
  (hd:∀ k,k < 240 -> Bits.has x.used k = true -> data' k = data k):ZU n (d.write i p) x data':=by
 have keep:∀ j,j ≠ i -> ∀ l,kZ d j l -> kZ (d.write i p) j l:=fun j hj l hl=>⟨by rw [kX h.ok hi,if_neg (Ne.symm hj)]; exact hl.1,hl.2⟩
 obtain ⟨l,hl,hx⟩:=h.here;obtain ⟨m,hm,hy⟩:=h.there;refine ⟨h.ok.write hi hp,h.sync.write h.ok hi p,h.three,h.good,h.right,⟨l,keep _ (by have:=VL x.gen; omega) _ hl,hx⟩,⟨m,keep _ (by have:=VL (x.gen + 1); omega) _ hm,hy⟩,?_,h.lt,fun k hk hu=>?_⟩
 ·intro w hw;rcases List.mem_append.1 hw with hw | hw
  ·exact h.waits w hw
  ·obtain rfl:=List.mem_singleton.1 hw;exact ⟨h2,hf⟩
 ·obtain ⟨h3,h4⟩:=h.pages k hk hu;rw [hd k hk hu];refine ⟨keep k ?_ _ h3,h4⟩;rintro rfl;rw [hf] at hu;cases hu
def xC (d:Dk) (y:Sb):Dk:=(d.flush.write (y.gen % 2) (pgB (sbP y))).flush
theorem ZU.switch {n:Nat} {d:Dk} {x y:Sb} {data data':Nat -> List UInt8} (h:ZU n d x data) (hy:y.Ok) (hr:yD y = true) (hg:y.gen = x.gen + 1) (hlt:∀ k,k < 240 -> Bits.has y.used k = true -> k < n)
  (hp:∀ k,k < 240 -> Bits.has y.used k = true -> kZ d k (vh (data' k)) /\ (data' k).length <= 120):ZU n (xC d y) y data':=by
 have h3:=h.three;have hm:=VL y.gen;have hok:d.flush.Ok n:=h.ok.flush;have hl:=Wg hy;have hwok:(d.flush.write (y.gen % 2) (pgB (sbP y))).Ok n:=hok.write (by omega) (by rw [yy]; exact hl);have hse:∀ j,kD (xC d y).seen j = if y.gen % 2 = j then pgB (sbP y) else kD d.seen j:=fun j=>kX hok (by omega) _ j
 obtain ⟨l,hl2,hx⟩:=h.here;refine ⟨hwok.flush,Dk.Sync.flush _,h.three,hy,hr,⟨sbP y,⟨by rw [hse,if_pos rfl],hl⟩,K3 hy hr⟩,⟨l,⟨?_,hl2.2⟩,fun z hz=>?_⟩,fun w hw=>(by cases hw),hlt,fun k hk hu=>?_⟩
 ·rw [hse,if_neg (by omega),show (y.gen + 1) % 2 = x.gen % 2 by omega];exact hl2.1
 ·rw [hx] at hz;obtain rfl:=Option.some.inj hz;omega
 ·obtain ⟨h5,h6⟩:=hp k hk hu;refine ⟨⟨?_,h5.2⟩,h6⟩;have hk2:2 <= k:=by
   have hr2:=hr;unfold yD at hr2;simp only [zfm,Bool.not_eq_true'] at hr2;rcases Nat.lt_or_ge k 2 with h2 | h2
   ·rcases (show k = 0 \/ k = 1 by omega) with rfl | rfl
    ·rw [hr2.1.1.2] at hu; cases hu
    ·rw [hr2.1.2] at hu; cases hu
   ·exact h2
  rw [hse,if_neg (by omega)];exact h5.1
def Sb.bare (g:Nat):Sb:=⟨g,0,zfi 30 0⟩
theorem has_none (k:Nat):Bits.has (zfi 30 0) k = false:=by
 have hz:Bits.at_ (zfi 30 0) (k / 8) = 0:=by
  unfold Bits.at_;rw [ze6,List.getElem?_replicate];split <;> rfl
 unfold Bits.has;rw [hz];simp
theorem Sb.bare_ok {g:Nat} (h:g < 4294967296):(Sb.bare g).Ok:=⟨h,Sb.Ok.zero.used⟩
theorem Sb.bare_right {g:Nat} (h:g ≠ 0):yD (Sb.bare g) = true:=by
 unfold yD;rw [show Bits.has (Sb.bare g).used 0 = false from has_none 0,show Bits.has (Sb.bare g).used 1 = false from has_none 1,show decide ((Sb.bare g).gen ≠ 0) = true from decide_eq_true h];rfl
theorem ZU.first {n:Nat} {d:Dk} {l0:List UInt8} (hok:d.Ok n) (h3:3 <= n) (h0:kZ d 0 l0) (hn0:yx l0 = none) (data:Nat -> List UInt8):ZU n (xC d (Sb.bare 1)) (Sb.bare 1) data:=by
 have hy:=Sb.bare_ok (g:=1) (by decide);have hr:=Sb.bare_right (g:=1) (by decide);have hl:=Wg hy;have hfo:d.flush.Ok n:=hok.flush;have hwok:(d.flush.write ((Sb.bare 1).gen % 2) (pgB (sbP (Sb.bare 1)))).Ok n:=hfo.write (by show 1 % 2 < n; omega) (by rw [yy]; exact hl);have hse:∀ j,kD (xC d (Sb.bare 1)).seen j = if 1 % 2 = j then pgB (sbP (Sb.bare 1)) else kD d.seen j:=fun j=>kX hfo (by show 1 % 2 < n; omega) _ j
 refine ⟨hwok.flush,Dk.Sync.flush _,h3,hy,hr,⟨sbP (Sb.bare 1),⟨by rw [hse]; rfl,hl⟩,K3 hy hr⟩,⟨l0,⟨?_,h0.2⟩,fun z hz=>?_⟩,fun w hw=>(by cases hw),fun k _ hk=>?_,fun k _ hk=>?_⟩
 ·rw [hse];exact h0.1
 ·rw [hn0] at hz;cases hz
 ·rw [show Bits.has (Sb.bare 1).used k = false from has_none k] at hk;cases hk
 ·rw [show Bits.has (Sb.bare 1).used k = false from has_none k] at hk;cases hk
theorem Wu (n:Nat) {i:Nat} (hi:i < n):kZ (Dk.new n) i (zfi 128 0):=by
 refine ⟨?_,by simp⟩;rw [X8];show (zfi n zy).getD i [] = zy;rw [ze6,List.getElem?_replicate,if_pos hi];rfl
end Go.Proofs.YtafclmbecmgbnaaGreatDoor
namespace Go.Proofs.YtafclmbecmgbnaaGreatDoor
open Bits (Ok has with_ without both minus first)
def wU:List Nat:=zfi 30 0
theorem xM:Ok wU:=Sb.Ok.zero.used
theorem xP (k:Nat):has wU k = false:=has_none k
structure Pst where
 sup:Sb
 new:List Nat
 gone:List Nat
def Pst.used (s:Pst):List Nat:=minus (both s.sup.used s.new) s.gone 240
def Pst.at_ (s:Pst) (k:Nat):Pst:=⟨s.sup,with_ s.new k,s.gone⟩
def Pst.drop (s:Pst) (k:Nat):Pst:=if has s.new k = true then ⟨s.sup,without s.new k,s.gone⟩ else ⟨s.sup,s.new,with_ s.gone k⟩
def Pst.next (s:Pst) (root:Int):Sb:=⟨s.sup.gen + 1,root,s.used⟩
def Pst.commit (s:Pst) (root:Int):Pst:=⟨s.next root,wU,wU⟩
def Pst.abort (s:Pst):Pst:=⟨s.sup,wU,wU⟩
def Pst.opened (x:Sb):Pst:=⟨x,wU,wU⟩
def Pst.isIn (s:Pst) (k:Nat):Bool:=has s.sup.used k || has s.new k
def Pst.first (s:Pst) (n:Nat):Option Nat:=Bits.first (both s.sup.used s.new) 2 (n - 2)
structure yP (n:Nat) (d:Dk) (s:Pst) (data firm:Nat -> List UInt8):Prop where
 held:ZU n d s.sup firm
 le:n <= 240
 newOk:Ok s.new
 goneOk:Ok s.gone
 same:∀ k,k < 240 -> has s.sup.used k = true -> data k = firm k
 fresh:∀ k,k < 240 -> has s.new k = true -> 2 <= k /\ k < n /\ has s.sup.used k = false /\ kZ d k (vh (data k)) /\ (data k).length <= 120
 goes:∀ k,k < 240 -> has s.gone k = true -> has s.sup.used k = true
section
variable {n:Nat} {d:Dk} {s:Pst} {data firm:Nat -> List UInt8}
theorem yP.usedOk (h:yP n d s data firm):Ok s.used:=(h.held.good.used.both h.newOk).minus 240
theorem yP.has_used (h:yP n d s data firm) {k:Nat} (hk:k < 240):has s.used k = (s.isIn k && !has s.gone k):=by
 unfold Pst.used Pst.isIn;rw [Bits.has_minus (h.held.good.used.both h.newOk) (ze3 _),Bits.has_both h.held.good.used h.newOk hk,decide_eq_true hk,Bool.true_and]
theorem yP.in_range (h:yP n d s data firm) {k:Nat} (hk:k < 240) (hi:s.isIn k = true):2 <= k /\ k < n:=by
 unfold Pst.isIn at hi;rcases zfo.1 hi with hi | hi
 ·exact ⟨h.held.used_two hi,h.held.lt k hk hi⟩
 ·have:=h.fresh k hk hi;exact ⟨this.1,this.2.1⟩
theorem yP.used_in (h:yP n d s data firm) {k:Nat} (hk:k < 240) (hu:has s.used k = true):s.isIn k = true:=by
 rw [h.has_used hk] at hu;exact (Bool.and_eq_true_iff.1 hu).1
theorem yP.page (h:yP n d s data firm) {k:Nat} (hk:k < 240) (hi:s.isIn k = true):kZ d k (vh (data k)) /\ (data k).length <= 120:=by
 unfold Pst.isIn at hi;rcases zfo.1 hi with hi | hi
 ·rw [h.same k hk hi];exact h.held.pages k hk hi
 ·exact (h.fresh k hk hi).2.2.2
theorem yP.first_some (h:yP n d s data firm) {k:Nat} (hf:s.first n = some k):2 <= k /\ k < n /\ s.isIn k = false /\ ∀ m,2 <= m -> m < k -> s.isIn m = true:=by
 obtain ⟨h1,h2,h3,h4⟩:=Bits.first_some hf;have h3n:=h.held.three;have hle:=h.le;have hb:∀ m,m < 240 -> has (both s.sup.used s.new) m = s.isIn m:=fun m hm=>Bits.has_both h.held.good.used h.newOk hm
 refine ⟨h1,by omega,?_,fun m a b=>?_⟩
 ·rw [<- hb k (by omega)]; exact h3
 ·rw [<- hb m (by omega)]; exact h4 m a b
theorem yP.first_none (h:yP n d s data firm) (hf:s.first n = none):∀ m,2 <= m -> m < n -> s.isIn m = true:=fun m a b=>by
 have hle:=h.le;have:=Bits.first_none hf m a (by omega);rw [Bits.has_both h.held.good.used h.newOk (by omega)] at this;exact this
def upd (data:Nat -> List UInt8) (k:Nat) (t:List UInt8):Nat -> List UInt8:=fun j=>if j = k then t else data j
theorem yP.laid (h:yP n d s data firm) {k:Nat} (hf:s.first n = some k) {t:List UInt8} (ht:t.length <= 120):yP n (d.write k (pgB (vh t))) (s.at_ k) (upd data k t) firm:=by
 obtain ⟨h2,hn,hin,_⟩:=h.first_some hf;have hle:=h.le;have hin2:has s.sup.used k = false /\ has s.new k = false:=by
  unfold Pst.isIn at hin;exact Bool.or_eq_false_iff.1 hin
 have hpl:(vh t).length = 128:=kj ht;refine ⟨h.held.write h2 hn hin2.1 (by rw [yy]; exact hpl) (fun _ _ _=>rfl),h.le,h.newOk.with_ k,h.goneOk,fun j hj hu=>?_,fun j hj hu=>?_,h.goes⟩
 ·unfold upd;rw [if_neg (by rintro rfl; have hu2:has s.sup.used j = true:=hu; rw [hin2.1] at hu2; cases hu2)];exact h.same j hj hu
 ·rw [show (s.at_ k).new = with_ s.new k from rfl,Bits.has_with h.newOk (by omega)] at hu;unfold upd;by_cases e:j = k
  ·subst e;rw [if_pos rfl];exact ⟨h2,hn,hin2.1,⟨by rw [kX h.held.ok hn,if_pos rfl],hpl⟩,ht⟩
  ·rw [if_neg e] at hu ⊢;obtain ⟨a,b,c,e2,f⟩:=h.fresh j hj hu;exact ⟨a,b,c,⟨by rw [kX h.held.ok hn,if_neg (Ne.symm e)]; exact e2.1,e2.2⟩,f⟩
theorem yP.dropped (h:yP n d s data firm) {k:Nat} (hk:k < 240) (hu:has s.used k = true):yP n d (s.drop k) data firm:=by
 have hi:=h.used_in hk hu;unfold Pst.drop;by_cases hn:has s.new k = true
 ·rw [if_pos hn];refine ⟨h.held,h.le,h.newOk.without k,h.goneOk,h.same,fun j hj hj2=>?_,h.goes⟩;rw [show (⟨s.sup,without s.new k,s.gone⟩:Pst).new = without s.new k from rfl,Bits.has_without h.newOk hk] at hj2;by_cases e:j = k
  ·rw [if_pos e] at hj2; cases hj2
  ·rw [if_neg e] at hj2; exact h.fresh j hj hj2
 ·rw [if_neg hn];refine ⟨h.held,h.le,h.newOk,h.goneOk.with_ k,h.same,h.fresh,fun j hj hj2=>?_⟩;rw [show (⟨s.sup,s.new,with_ s.gone k⟩:Pst).gone = with_ s.gone k from rfl,Bits.has_with h.goneOk hk] at hj2;by_cases e:j = k
  ·subst e;unfold Pst.isIn at hi;rcases zfo.1 hi with hi | hi
   ·exact hi
   ·exact absurd hi hn
  ·rw [if_neg e] at hj2; exact h.goes j hj hj2
def rootOk (s:Pst) (root:Int):Bool:=decide (root = 0) || vD s.used root
theorem yP.next_right (h:yP n d s data firm) {root:Int} (hr:rootOk s root = true):yD (s.next root) = true:=by
 have h0:∀ k,k < 2 -> has s.used k = false:=fun k hk=>by
  cases hu:has s.used k with
  | false=>rfl
  | true =>
   have:=h.in_range (k:=k) (by omega) (h.used_in (by omega) hu);omega
 unfold yD;rw [show (s.next root).used = s.used from rfl,h0 0 (by decide),h0 1 (by decide),show decide ((s.next root).gen ≠ 0) = true from decide_eq_true (Nat.succ_ne_zero _)];show (decide (root = 0) || (decide (2 <= root) && vD s.used root)) = true;unfold rootOk at hr;rcases zfo.1 hr with hr | hr
 ·rw [hr]; rfl
 ·have h2:2 <= root:=by
   unfold vD at hr;simp only [zfm,decide_eq_true_eq] at hr;have:=h.in_range (k:=root.toNat) (by omega) (h.used_in (by omega) hr.2);omega
  rw [hr,decide_eq_true h2];simp
theorem yP.next_ok (h:yP n d s data firm) (hg:s.sup.gen + 1 < 4294967296) (root:Int):(s.next root).Ok:=⟨hg,h.usedOk⟩
theorem yP.committed (h:yP n d s data firm) (hg:s.sup.gen + 1 < 4294967296) {root:Int} (hr:rootOk s root = true):yP n (xC d (s.next root)) (s.commit root) data data:=by
 have hlt:∀ k,k < 240 -> has s.used k = true -> k < n:=fun k hk hu=>(h.in_range hk (h.used_in hk hu)).2
 refine ⟨h.held.switch (h.next_ok hg root) (h.next_right hr) rfl hlt fun k hk hu=>h.page hk (h.used_in hk hu),h.le,xM,xM,fun _ _ _=>rfl,fun k _ hk=>?_,fun k _ hk=>?_⟩
 ·rw [show (s.commit root).new = wU from rfl,xP] at hk; cases hk
 ·rw [show (s.commit root).gone = wU from rfl,xP] at hk; cases hk
theorem yP.aborted (h:yP n d s data firm):yP n d s.abort data firm:=by
 refine ⟨h.held,h.le,xM,xM,h.same,fun k _ hk=>?_,fun k _ hk=>?_⟩
 ·rw [show s.abort.new = wU from rfl,xP] at hk; cases hk
 ·rw [show s.abort.gone = wU from rfl,xP] at hk; cases hk
theorem yP.start {n:Nat} (h3:3 <= n) (hn:n <= 240) (data:Nat -> List UInt8):yP n (xC (Dk.new n) (Sb.bare 1)) (Pst.opened (Sb.bare 1)) data data:=by
 refine ⟨ZU.first (Dk.Ok.new n) h3 (Wu n (by omega)) Vb data,hn,xM,xM,fun _ _ _=>rfl,fun k _ hk=>?_,fun k _ hk=>?_⟩
 ·rw [show (Pst.opened (Sb.bare 1)).new = wU from rfl,xP] at hk; cases hk
 ·rw [show (Pst.opened (Sb.bare 1)).gone = wU from rfl,xP] at hk; cases hk
def Xt (d:Dk) (o:Option Sb):Prop:=∃ p q,kZ d 0 p /\ kZ d 1 q /\ best (yx p) (yx q) = o
theorem yP.bestD (h:yP n d s data firm):Xt d (some s.sup):=h.held.best
theorem zai {n:Nat} (h3:3 <= n):Xt (Dk.new n) none:=⟨_,_,Wu n (by omega),Wu n (by omega),by rw [Vb]; rfl⟩
end
