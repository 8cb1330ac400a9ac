/-
 TrVal. Conditions: as each theorem says.
-/
import Derived.Test.YtafclmbecmgbnaaGreatDoorDisks
import Derived.Lib.SlBytesConst
set_option maxRecDepth 100000
set_option maxHeartbeats 1000000
namespace Go.Proofs.YtafclmbecmgbnaaGreatDoor
open Go.RowKit
def Xk (n k:Nat):List UInt8:=(List.range k).map (fun d=>UInt8.ofNat (n / 256 ^ d)) ++ List.replicate (12 - k) 46
def WN (n:Nat):ByteArray:=⟨(Xk n 4).toArray⟩
theorem qR {n k:Nat} (hk:k <= 12):(Xk n k).length = 12:=by simp [Xk]; omega
theorem zbb (n:Nat):(WN n).size = 12:=by
 have:=qR (n:=n) (k:=4) (by decide);unfold WN;show (Xk n 4).toArray.size = 12;simpa using this
theorem zcV {n k:Nat} (hk:k < 12):(Xk n k).set k (UInt8.ofNat (n / 256 ^ k)) = Xk n (k + 1):=by
 unfold Xk;rw [List.range_succ,List.map_append,List.map_singleton,List.set_append_right _ _ (by simp),List.append_assoc];congr 1;rw [List.length_map,List.length_range,Nat.sub_self,show 12 - k = (12 - (k + 1)) + 1 by omega,List.replicate_succ];rfl
theorem zcJ (w:World) (l:List UInt8):Row (w.alloc (.cells (l.map fun c=>Value.int .u8 (c.toNat:Int)).toArray 5 (l.length,l.length + 1))) w.1.size l:=fun i hi=>by
 refine ⟨?_,?_⟩
 ·rw [cell_of_row _ w.1.size i _ _ _ (heap_alloc_last w _)];simp [hi]
 ·unfold World.frozen? World.alloc;simp;omega
theorem zdn (n:Nat) (w:World):Calls Tryz.prog 21 #[.int .u32 (n:Int)] w fun e w'=>e = .returned (.string (WN n)) /\ Below w.1.size w w':=by
 obtain ⟨i0,hi,hz0,hz1,hz2⟩:=info_parts Tryz.infoByte;obtain ⟨B,HB⟩:=hY (w.1.size);obtain ⟨w1,HW1⟩:=hY (w.alloc (.cells #[.int .u8 46,.int .u8 46,.int .u8 46,.int .u8 46,.int .u8 46,.int .u8 46,.int .u8 46,.int .u8 46,.int .u8 46,.int .u8 46,.int .u8 46,.int .u8 46] 5 (12,13)));have HR1:=hI (Row w1 B (Xk n 0) /\ Below w.1.size w w1 /\ B < w1.1.size) (by
  refine ⟨by rw [HW1.o,HB.o]; exact zcJ w (Xk n 0),by rw [HW1.o]; exact (Below.refl _ _).alloc (Nat.le_refl _) _,by rw [HW1.o,HB.o]; simp⟩)
 go_enter Tryz.func21,Tryz.ntmps21
 go_wp2_with (with_reducible refine xD9 (some 5) ?_);refine wpList_buildSlice rfl 75 5 12 _ rfl #[.int .u8 46,.int .u8 46,.int .u8 46,.int .u8 46,.int .u8 46,.int .u8 46,.int .u8 46,.int .u8 46,.int .u8 46,.int .u8 46,.int .u8 46,.int .u8 46] i0 (.int .u8 0) Tryz.underlying75 hi hz0 (by rw [hz1]; decide) (by rw [hz1]; decide) ?_ ?_
 ·rw [hz1];simp only [List.map_toArray,List.map_cons,List.map_nil];exact Great.fill_flat [.int .u8 46,.int .u8 46,.int .u8 46,.int .u8 46,.int .u8 46,.int .u8 46,.int .u8 46,.int .u8 46,.int .u8 46,.int .u8 46,.int .u8 46,.int .u8 46] ((Array.range (12 * 1)).map fun x=>(Value.int IntKind.u8 0).cells[x % (Value.int IntKind.u8 0).cells.size]!) (fun v hv=>by
   have:v = .int .u8 46:=by simpa using hv
   rw [this]; rfl) (by simp)
 have HBW:=hI (w.1.size <= B) (by rw [HB.o]; exact Nat.le_refl _);have hcv:=Lib.run_convert_bytes_const (P:=Tryz.prog) w 75 5 #[.int .u8 46,.int .u8 46,.int .u8 46,.int .u8 46,.int .u8 46,.int .u8 46,.int .u8 46,.int .u8 46,.int .u8 46,.int .u8 46,.int .u8 46,.int .u8 46] 12 12 Tryz.underlying75 Tryz.underlying5;go_wp2_with fail;clear hcv;rw [<- HW1.o,<- HB.o];clear hi hz0 hz1 hz2 HW1 HB
 go_loopw [4] (fun i wr=>∃ k:Nat,k <= 4 /\ i = .int .i64 (k:Int) /\ Hid (Row wr B (Xk n k) /\ Below w.1.size w wr)) (fun i _=>4 - (intOf i).toNat)
 case atStart=>exact ⟨0,Nat.zero_le _,rfl,Hi ⟨HR1.o.1,HR1.o.2.1⟩⟩
 case round =>
  obtain ⟨k,hk,rfl,HS⟩:=hrel;clear HR1;by_cases hlt:k < 4
  ·obtain ⟨hc,hf⟩:=HS.o.1 k (by rw [qR (by omega)]; omega);obtain ⟨c,HC⟩:=hY (UInt8.ofNat (n / 256 ^ k));have hbs:=XN n k;rw [<- HC.o] at hbs;have HBS:=Hi hbs;obtain ⟨w2,HW2⟩:=hY (wr.setCell ⟨B,k,none⟩ (.int .u8 (c.toNat:Int)));have HS2:=hI (Row w2 B (Xk n (k + 1)) /\ Below w.1.size w w2) (by
    rw [HW2.o,<- zcV (n:=n) (k:=k) (by omega),<- HC.o];exact ⟨HS.o.1.store k c,HS.o.2.setCell HBW.o _⟩)
   have hk12:(k:Int) < 12:=by omega
   clear hbs HC HS;go_wp2_with fail;rw [HBS.o,<- HW2.o]
   go_roundw
   case rel=>exact ⟨k + 1,by omega,by go_num,HS2⟩
   case measure=>simp [intOf]; omega
  ·obtain rfl:k = 4:=by omega
   have ht:=HS.o.1.text (w:=wr) 12 12 (qR (by decide));have HB2:=Hi HS.o.2;have hv:=hI ((⟨(Xk n 4).toArray⟩:ByteArray) = WN n) rfl;rw [hv.out] at ht;go_wp2_with fail
   go_ret
   exact ⟨rfl,HB2.o⟩
