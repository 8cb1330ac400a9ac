/-
 ChkMath. Conditions: as each theorem says.
-/
import Derived.Test.YtafclmbecmgbnaaGreatDoorChkModel
import Derived.Test.YtafclmbecmgbnaaGreatDoorTrCutMath
namespace Go.Proofs.YtafclmbecmgbnaaGreatDoor
def zaA (x:Nd) (lv lo hi:Int) (i:Nat):Sp:=⟨x.kids.getD i 0,lv + 1,XB x lo hi i,Y1 x hi i⟩
theorem ZT (x:Nd) (lv lo hi:Int):∀ n,belowK x lv lo hi n = (List.range n).map (zaA x lv lo hi)
 | 0=>rfl
 | n + 1=>by rw [belowK,ZT x lv lo hi n,List.range_succ,List.map_append]; rfl
theorem J9 (k:Int) (vals:List ByteArray) (lv lo hi:Int):xG ⟨[],vals,[k]⟩ lv lo hi = [⟨k,lv + 1,lo,hi⟩]:=rfl
theorem KQ (m k:Int) (keys kids:List Int) (vals:List ByteArray) (lv lo hi:Int):xG ⟨m :: keys,vals,k :: kids⟩ lv lo hi = ⟨k,lv + 1,lo,m⟩ :: xG ⟨keys,vals,kids⟩ lv m hi:=by
 unfold xG;rw [ZT,ZT,List.length_cons,List.range_succ_eq_map,List.map_cons,List.map_map];refine congr (congrArg List.cons rfl) (List.map_congr_left fun i _=>?_);have he:∀ i,Y1 ⟨m :: keys,vals,k :: kids⟩ hi (i + 1) = Y1 ⟨keys,vals,kids⟩ hi i:=fun i=>by
  unfold Y1;simp only [List.length_cons,List.getD_cons_succ];by_cases h:i < keys.length
  ·rw [if_pos (by omega),if_pos h]
  ·rw [if_neg (by omega),if_neg h]
 show zaA _ lv lo hi (i + 1) = zaA _ lv m hi i;unfold zaA;simp only [List.getD_cons_succ,he];congr 1;cases i with
 | zero=>rfl
 | succ i=>exact he i
def ZL (D:Int -> Option Nd) (L:Int):List Sp -> List Int -> Prop
 | [],Q=>Q = []
 | t :: l,Q=>∃ (h:Nat) (ps:List Pr) (qs Q':List Int),Tr D h (if t.lv = 1 then 1 else 3) t.lo t.hi t.at_ ps qs /\ t.lv + h = L /\ 1 <= t.lv /\ 0 <= t.lo /\ Q = qs ++ Q' /\ ZL D L l Q'
theorem ZL.app {D:Int -> Option Nd} {L:Int} {l:List Sp}:∀ {Q:List Int} {l':List Sp} {Q':List Int},ZL D L l Q -> ZL D L l' Q' -> ZL D L (l ++ l') (Q ++ Q'):=by
 induction l with
 | nil=>rintro Q l' Q' rfl h; exact h
 | cons t l ih =>
  rintro Q l' Q' ⟨h,ps,qs,Q1,h1,h2,h3,h4,rfl,h6⟩ h7;exact ⟨h,ps,qs,Q1 ++ Q',h1,h2,h3,h4,by rw [List.append_assoc],ih h6 h7⟩
theorem Fo.spots {D:Int -> Option Nd} {L:Int} {h:Nat} {lv:Int} {vals:List ByteArray} (h1:lv + 1 + h = L) (h2:1 <= lv) {keys:List Int}:∀ {lo hi:Int} {kids:List Int} {ps:List Pr} {qs:List Int},0 <= lo -> Fo (Tr D h 3) lo hi keys kids ps qs -> ZL D L (xG ⟨keys,vals,kids⟩ lv lo hi) qs:=by
 have h3:¬ lv + 1 = 1:=by omega
 induction keys with
 | nil =>
  rintro lo hi kids ps qs h0 ⟨k,rfl,ht⟩;rw [J9];exact ⟨h,ps,qs,[],by simp only [if_neg h3]; exact ht,h1,by simp only; omega,h0,by simp,rfl⟩
 | cons m keys ih =>
  rintro lo hi kids ps qs h0 ⟨k,kids',p1,q1,p2,q2,rfl,rfl,rfl,h4,h5⟩;have hb:=(h4.bounds (.inl (by decide))).1;rw [KQ];exact ⟨h,p1,q1,q2,by simp only [if_neg h3]; exact h4,h1,by simp only; omega,h0,rfl,ih (by omega) h5⟩
theorem zej {x:Nd} {lv lo hi:Int} (h:(if lv = 1 then 1 else 3) <= x.keys.length) (hb:∀ z ∈ x.keys,lo <= z /\ z < hi):Za x lv lo hi = true:=by
 have h0:0 < x.keys.length:=by split at h <;> omega
 unfold Za;rw [decide_eq_true h,Bool.true_and,List.getD_eq_getElem?_getD,List.getElem?_eq_getElem h0,List.getD_eq_getElem?_getD,List.getElem?_eq_getElem (by omega)];have h1:=(hb _ (List.getElem_mem h0)).1;have h2:=(hb _ (List.getElem_mem (show x.keys.length - 1 < x.keys.length by omega))).2;rw [Option.getD_some,Option.getD_some,decide_eq_true h1,decide_eq_true h2];rfl
structure zan (S:TS) (L:Int) (Q:List Int) (s:Sv) (R:List Int):Prop where
 spots:ZL (Dm S) L s.wait R
 perm:(s.met ++ R).Perm Q
 flt:s.flt = []
 dep:s.dep = L \/ (s.dep = 0 /\ s.wait ≠ [])
theorem zan.step {S:TS} {L:Int} {Q:List Int} {s:Sv} {R:List Int} (h:zan S L Q s R) (hQ:Q.Nodup) (hu:∀ q ∈ Q,usd S q) (hL:1 <= L /\ L <= 12) (hw:s.wait ≠ []):∃ q R',R.length = R'.length + 1 /\ zan S L Q (yO S s) R' /\ q ∈ Q:=by
 obtain ⟨h1,h2,h3,h4⟩:=h;obtain ⟨wait,met,dep,flt⟩:=s;simp only at h1 h2 h3 h4 hw;cases wait with
 | nil=>exact absurd rfl hw
 | cons t rest =>
  obtain ⟨hh,ps,qs,R2,ht,hlv,hlv1,hlo,rfl,hr⟩:=h1;obtain ⟨x,qt,hx,rfl,hn,hmn,hk0,hkl,h7⟩:=ht.node;have hmem:t.at_ ∈ Q:=h2.mem_iff.1 (by simp);have hnm:t.at_ ∉ met:=fun hm=>by
   have:=(h2.nodup_iff.2 hQ)
   rw [List.nodup_append] at this;exact this.2.2 _ hm t.at_ (by simp) rfl
  have hld:yp S t.at_ t.lv = .ok x:=wK hx (by omega);have hus:vH S.s.used t.at_ = true:=hu _ hmem;have hb:∀ z ∈ x.keys,t.lo <= z /\ z < t.hi:=by
   cases hh with
   | zero=>exact hn.2.2.2.1
   | succ hh=>intro z hz; have:=hn.2.kids.2.2.2.1 z hz; omega
  have hfit:Za x t.lv t.lo t.hi = true:=zej hmn hb;have hst:yO S ⟨t :: rest,met,dep,flt⟩ = ⟨rest ++ xG x t.lv t.lo t.hi,met ++ [t.at_],YM x t.lv dep,if JG S t x dep = true then flt else flt ++ [2]⟩:=by
   unfold yO;simp only [if_neg hnm,hld]
  have hp:(met ++ [t.at_] ++ (R2 ++ qt)).Perm Q:=by
   refine List.Perm.trans ?_ h2;rw [List.append_assoc];refine List.Perm.append_left _ ?_;show (t.at_ :: (R2 ++ qt)).Perm (t.at_ :: (qt ++ R2));exact (List.perm_append_comm).cons _
  rw [hst];refine ⟨t.at_,R2 ++ qt,by simp; omega,?_,hmem⟩;rcases Nat.eq_zero_or_pos hh with h0 | h0
  ·-- a leaf
   subst h0;have hk:x.kids.length = 0:=hk0.2 rfl;obtain rfl:qt = []:=hn.2.2.2.2.2.2;have hlL:t.lv = L:=by simpa using hlv
   have hd:YM x t.lv dep = L:=by
    unfold YM;rcases h4 with h5 | h5
    ·by_cases h6:dep = 0
     ·omega
     ·rw [if_neg (fun h=>h6 h.2)]; exact h5
    ·rw [if_pos ⟨hk,h5.1⟩]; exact hlL
   have hok:JG S t x dep = true:=by
    unfold JG;rw [hus,hfit,hd,decide_eq_true (show L = t.lv from hlL.symm)];simp
   have hbel:xG x t.lv t.lo t.hi = []:=by unfold xG; rw [hk]; rfl
   refine ⟨?_,hp,?_,.inl hd⟩
   ·simp only [hbel,List.append_nil]; exact hr
   ·simp only [hok,if_true]; exact h3
  ·obtain ⟨hh,rfl⟩:∃ g,hh = g + 1:=⟨hh - 1,by omega⟩
   obtain ⟨e1,e2⟩:=hkl h0;have hk:x.kids.length ≠ 0:=fun h=>by have:=hk0.1 h; omega
   have hd:YM x t.lv dep = dep:=by unfold YM; rw [if_neg (fun h=>hk h.1)]
   have hok:JG S t x dep = true:=by
    unfold JG;rw [hus,hfit,decide_eq_true hk];simp
   have hsp:ZL (Dm S) L (xG x t.lv t.lo t.hi) qt:=by
    obtain ⟨keys,vals,kids⟩:=x;exact Fo.spots (by omega) hlv1 hlo hn.2
   refine ⟨hr.app hsp,hp,?_,?_⟩
   ·simp only [hok,if_true]; exact h3
   ·rw [hd];rcases h4 with h5 | h5
    ·exact .inl h5
    ·refine .inr ⟨h5.1,fun e=>?_⟩;have:=congrArg List.length e;simp only [List.length_append,List.length_nil] at this;have h8:(xG x t.lv t.lo t.hi).length = x.kids.length:=vg _ _ _ _ _;omega
theorem ZL.len {D:Int -> Option Nd} {L:Int} {l:List Sp} {R:List Int} (h:ZL D L l R):(R = [] ↔ l = []):=by
 cases l with
 | nil=>exact ⟨fun _=>rfl,fun _=>h⟩
 | cons t l =>
  obtain ⟨hh,ps,qs,R2,ht,_,_,_,rfl,_⟩:=h;obtain ⟨x,qt,_,rfl⟩:=ht.head;simp
theorem zeL {S:TS} {L:Int} {Q:List Int} (hQ:Q.Nodup) (hu:∀ q ∈ Q,usd S q) (hL:1 <= L /\ L <= 12) (n:Nat):∀ {s:Sv} {R:List Int},zan S L Q s R -> R.length = n -> ∃ met,xj S n s = ⟨[],met,L,[]⟩ /\ met.Perm Q:=by
 induction n with
 | zero =>
  intro s R h hR;obtain rfl:=List.length_eq_zero_iff.1 hR;obtain ⟨h1,h2,h3,h4⟩:=h;have hw:=h1.len.1 rfl;obtain ⟨wait,met,dep,flt⟩:=s;simp only at h1 h2 h3 h4 hw;subst hw h3;rcases h4 with rfl | h4
  ·exact ⟨met,rfl,by simpa using h2⟩
  ·exact absurd rfl h4.2
 | succ n ih =>
  intro s R h hR;have hw:s.wait ≠ []:=fun e=>by have:=h.spots.len.2 e; rw [this] at hR; cases hR
  obtain ⟨_,R',h1,h2,_⟩:=h.step hQ hu hL hw;exact ih h2 (by omega)
theorem zdB {S:TS} {h:Nat} {root:Int} {ps:List Pr} {qs:List Int} (ht:Tr (Dm S) h 1 0 4294967296 root ps qs) (hu:∀ q ∈ qs,usd S q) (hn:qs.Nodup) (hh:h + 1 <= 12):∃ met,xj S qs.length (yl root) = ⟨[],met,(h:Int) + 1,[]⟩ /\ met.Perm qs :=
 zeL hn hu (by omega) qs.length (s:=yl root) (R:=qs) ⟨⟨h,ps,qs,[],ht,by simp only; omega,by simp,by simp,by simp,rfl⟩,by simp [yl],rfl,.inr ⟨rfl,by simp [yl]⟩⟩ rfl
