/-
  The walk of the statement DiskTwice: it answers true, and no memory that was there has turned. Condition: errors.errorType is laid.
-/
import Derived.Test.YtflkhbdipmjmeaaDoorDiskTornWalk
import Derived.Test.YtflkhbdipmjmeaaDoorDiskActs
import Derived.BigQuiet
import Derived.Deep.QuietTactic
namespace Go.Proofs.YtflkhbdipmjmeaaDoor
open Go.RowKit

/-- a disk behind the first k writes to eight sectors -/
def wroteK (d : Dk) (l : List ActD) : Nat → Dk
  | 0 => d
  | k + 1 => match l[k]? with
    | some x => (wroteK d l k).write (secZ x.at_) x.page
    | none => wroteK d l k
theorem wroteK_succ {d : Dk} {l : List ActD} {k : Nat} {x : ActD} (h : l[k]? = some x) : wroteK d l (k + 1) = (wroteK d l k).write (secZ x.at_) x.page := by rw [wroteK, h]
theorem wroteK_down (d : Dk) (l : List ActD) : ∀ k, (wroteK d l k).down = d.down
  | 0 => rfl
  | k + 1 => by
    rw [wroteK]
    split
    · exact wroteK_down d l k
    · exact wroteK_down d l k
theorem wroteK_soft (d : Dk) (l : List ActD) : ∀ k, (wroteK d l k).soft.length ≤ d.soft.length + k
  | 0 => Nat.le_refl _
  | k + 1 => by
    have ih := wroteK_soft d l k
    rw [wroteK]
    split
    · show ((wroteK d l k).soft ++ [_]).length ≤ _
      rw [List.length_append, List.length_singleton]
      omega
    · omega
/-- a crash with nothing that isn't firm changes nothing -/
theorem crash_none (d : Dk) (m : Nat) (t : Int) (h : d.soft = []) : (d.crash m t).seen = d.firm := by
  show crashZ m (leftZ t) d.soft d.firm = d.firm
  rw [h]
  rfl


set_option maxRecDepth 100000 in
set_option maxHeartbeats 8000000 in
theorem twice_long (A : Option Addr) (cap : Nat) (l : List ActD) (m m2 t : Int) (w : World) (hl : 60 < l.length) (hg : Laid w) :
    Calls Tryd.prog 7 #[.slice A l.length cap, .int .u32 m, .int .u32 m2, .int .i64 t] w fun e w' => e = .returned (.bool true) ∧ Below w.heap.size w w' := by
  have HG := Lib.hid hg
  clear hg
  have hd : decide ((60 : Int) < (l.length : Int)) = true := by simp; omega

  go_enter Tryd.func7, Tryd.ntmps7
  go_wp2_with fail
  refine (awake_any _ HG.out).mono ?_
  rintro e w1 ⟨rfl, hb⟩
  have HB := Lib.hid hb
  have HG1 := Lib.hid (HG.out.carry hb)
  clear hb
  go_wp2_with fail
  refine (awake_any _ HG1.out).mono ?_
  rintro e w2 ⟨rfl, hb⟩
  have HB2 := Lib.hid (HB.out.trans (hb.mono HB.out.size))
  clear hb
  go_wp2_with fail
  go_ret
  exact ⟨rfl, HB2.out⟩

/-- a load of a sector that is carried out, in a region of reads -/
theorem wpStill_load_page_if {P : Program} {ops : Array Oper} {w : World} {Q : Act → Prop} {a : Act} {o : Oper} {rest : List Oper} (hw : Region.wanted o (yielded ops a.tmps) = true) (ty : TypeId) (x : Operand) (ho : o.op = .load ty x)
    (b off : Nat) (hx : a.eval x = .pointer (some ⟨b, off, none⟩)) (p : Pg) (hl : p.length = 128) (hc : w.rangeAt b off (pgCells p)) (d : TypeDesc)
    (hu : P.underlying ty = some d) (hd : d.isRow = true) (hi : (P.info? ty).map (·.size) = some 128)
    (h : wpStill P ops w Q rest (a.put o.dst (pgV p))) : wpStill P ops w Q (o :: rest) a := by
  refine wpStill_step fun K hK => ?_
  rw [if_pos hw]
  unfold Oper.still execOp
  simp only [ho, hx, Instr.loadAt, Instr.sureAddr, Sem.run_bind, Sem.run_pure, Result.andThen_ok, run_loadVar_mid w b off ty (pgCells p) d hc hu hd (by rw [pgCells_length, hl]; exact hi), Oper.stillUpon_value]
  exact hK _ h
/-- what stands in blocks beside a disk may turn -/
theorem DiskIs.beside {K : Nat → Prop} {w w' : World} {D F S : Nat} {v : Value} {n : Nat} {d : Dk} (h : DiskIs K w D F S v n d) (hb : ∀ k, ¬ K k → w'.heap[k]? = w.heap[k]?) : DiskIs K w' D F S v n d := by
  have hD := hb D h.kd
  have hF := hb F h.kf
  have hS := hb S h.ks
  refine ⟨h.ok, h.pos, (World.cell?_of_block (w := w) (a := ⟨D, 0, none⟩) hD).trans h.c0, (World.cell?_of_block (w := w) (a := ⟨D, 1, none⟩) hD).trans h.c1, (World.cell?_of_block (w := w) (a := ⟨D, 2, none⟩) hD).trans h.c2, (World.cell?_of_block (w := w) (a := ⟨D, 3, none⟩) hD).trans h.c3,
    fun j => (World.frozen?_of_block (w := w) (a := ⟨D, j, none⟩) hD).trans (h.fz j), fun j => (World.frozen?_of_block (w := w) (a := ⟨F, j, none⟩) hF).trans (h.ff j), fun j => (World.frozen?_of_block (w := w) (a := ⟨S, j, none⟩) hS).trans (h.fs j),
    h.firm.carry hF, h.seen.carry hS, ?_, h.kd, h.kf, h.ks, h.kv, h.df, h.ds, h.fsn⟩
  obtain ⟨h1, h2⟩ := h.soft
  refine ⟨h1, ?_⟩
  rcases h2 with h2 | ⟨g, cap, cur, e1, e2, e3, e4⟩
  · exact .inl h2
  · exact .inr ⟨g, cap, cur, e1, e2, by rw [hb g (h.kv g (by rw [e1]; rfl)).1]; exact e3, e4⟩
theorem DiskAt.beside {K : Nat → Prop} {w w' : World} {D n : Nat} {d : Dk} (h : DiskAt K w D n d) (hb : ∀ k, ¬ K k → w'.heap[k]? = w.heap[k]?) : DiskAt K w' D n d := by
  obtain ⟨F, S, v, h⟩ := h
  exact ⟨F, S, v, h.beside hb⟩
/-- the writes of a loop -/
def WriteRel (N D : Nat) (l : List ActD) (d : Dk) (w2 : World) (i : Value) (wr : World) : Prop :=
  ∃ k : Nat, k ≤ l.length ∧ i = .int .i64 (k : Int) ∧ DiskAt (· < N) wr D 8 (wroteK d l k) ∧ Kept (· < N) w2 wr
/-- eight sectors in a variable: the first k of a list, the others zero -/
def partPg (ps : List Pg) (k : Nat) : List Pg := (List.range 8).map fun j => if j < k then pgAt ps j else zeroPg
theorem partPg_length (ps : List Pg) (k : Nat) : (partPg ps k).length = 8 := by simp [partPg]
theorem partPg_set (ps : List Pg) (k : Nat) : (partPg ps k).set k (pgAt ps k) = partPg ps (k + 1) := by
  refine List.ext_getElem (by simp [partPg]) fun i h1 h2 => ?_
  have hi : i < 8 := by simpa [partPg] using h2
  rw [List.getElem_set]
  by_cases e : k = i
  · subst e; simp [partPg]
  · have e2 : (i < k + 1) = (i < k) := by rw [eq_iff_iff]; omega
    simp [partPg, e, e2]
theorem partPg_at {ps : List Pg} {k : Nat} (h : k < 8) : pgAt (partPg ps 8) k = pgAt ps k := by
  simp [pgAt, partPg, List.getD_eq_getElem?_getD, h]
def SeenRel (K : Nat → Prop) (N D b : Nat) (d : Dk) (w2 : World) (i : Value) (wr : World) : Prop :=
  ∃ k : Nat, k ≤ 8 ∧ i = .int .i64 (k : Int) ∧ DiskAt K wr D 8 d ∧ Pages wr b (partPg d.seen k) ∧ (∀ j, wr.frozen? ⟨b, j, none⟩ = false) ∧ Kept (· < N) w2 wr ∧ b < wr.heap.size
def AgainRel (K : Nat → Prop) (D b : Nat) (ps : List Pg) (d : Dk) (w5 : World) (i : Value) (wr : World) : Prop :=
  ∃ k : Nat, k ≤ 8 ∧ i = .int .i64 (k : Int) ∧ DiskAt K wr D 8 d ∧ Pages wr b (partPg ps 8) ∧ Kept K w5 wr
def zeros8 : Array Value := ((List.replicate 8 zeroPg).flatMap pgCells).toArray
theorem Tryd.info8 : (Tryd.prog.info? 49).map (fun i => (i.zero, i.size)) = some (some (.agg zeros8), 1024) := by kernel_rfl
theorem partPg_zero (ps : List Pg) : partPg ps 0 = List.replicate 8 zeroPg := by rfl
theorem zeros_pages {w : World} {b : Nat} {t : TypeId} {fr : Nat × Nat} (h : w.heap[b]? = some (.cells zeros8 t fr)) (ps : List Pg) : Pages w b (partPg ps 0) := by
  rw [partPg_zero]
  refine Pages.of_range (Whole.replicate 8 zeroPg_length) fun j u hu => ?_
  rw [cell_of_row w b (0 + j) _ _ _ h, Nat.zero_add]
  simpa [zeros8] using hu

set_option maxRecDepth 100000 in
set_option maxHeartbeats 8000000 in
theorem twice_short (A : Option Addr) (cap : Nat) (l : List ActD) (m m2 : Nat) (t : Int) (w : World) (hl : l.length ≤ 60) (hm : m < 4294967296) (hm2 : m2 < 4294967296) (ht : t ≤ 9223372036854775807) (ha : Acts w A l) (hg : Laid w) :
    Calls Tryd.prog 7 #[.slice A l.length cap, .int .u32 (m : Int), .int .u32 (m2 : Int), .int .i64 t] w fun e w' => e = .returned (.bool true) ∧ Below w.heap.size w w' := by
  have HG := Lib.hid hg
  have HA := Lib.hid ha
  clear hg ha
  have hz := Tryd.zeroPage
  have hd : decide ((60 : Int) < (l.length : Int)) = false := by simp; omega
  obtain ⟨Z, HZ⟩ : ∃ Z, Hid (Z = zeros8) := ⟨_, Lib.hid rfl⟩
  have hz8 : ∀ w', (zeroValue 49).run Tryd.prog w' = .ok (.agg Z) w' := by rw [HZ.out]; exact (zero_of_info Tryd.info8).1
  go_enter Tryd.func7, Tryd.ntmps7
  go_wp2_with fail
  refine (awake_any _ HG.out).mono ?_
  rintro e w2 ⟨rfl, hb⟩
  have HB := Lib.hid hb
  have HG2 := Lib.hid (HG.out.carry hb)
  have HA2 := Lib.hid (HA.out.below hb)
  clear hb
  go_wp2_with fail
  refine (New_yes 8 (by decide) (by decide) _).mono ?_
  obtain ⟨N, HNN⟩ : ∃ N, Hid (N = w2.heap.size) := ⟨_, Lib.hid rfl⟩
  rw [show NewPost 8 w2 = fun e w' => ∃ D, e = .returned (.tuple #[.pointer (some ⟨D, 0, none⟩), .nilIface]) ∧ DiskAt (· < N) w' D 8 (Dk.new 8) ∧ Below N w2 w' by rw [HNN.out]; rfl]
  rintro e w3 ⟨D, rfl, hdk, hb⟩
  have HD := Lib.hid hdk
  have HK : Hid (Kept (· < N) w2 w3) := Lib.hid (Kept.of_below hb (fun _ h => h))
  have HT : Hid (There (· < N) w2) := Lib.hid (fun k hk => by rw [← HNN.out]; exact hk)
  clear hdk hb
  go_wp2_with fail
  go_loopw [11] (fun i wr => WriteRel N D l (Dk.new 8) w2 i wr) (fun i _ => l.length - (intOf i).toNat)
  case atStart => exact ⟨0, Nat.zero_le _, rfl, HD.out, HK.out⟩
  case round =>
    obtain ⟨k, hk, rfl, hdk, hkp⟩ := hrel
    have HDk := Lib.hid hdk
    have HKk := Lib.hid hkp
    clear hdk hkp HD HK
    by_cases hlt : k < l.length
    · obtain ⟨b, o, rfl, hbl, hx⟩ := (HA2.out.kept HKk.out (fun j hj => by rw [HNN.out]; exact hj)).at_ hlt
      obtain ⟨x, HX⟩ : ∃ x, Hid (l[k]? = some x) := ⟨_, Lib.hid (List.getElem?_eq_getElem hlt)⟩
      have hxe : l[k] = x := by have := HX.out; rw [List.getElem?_eq_getElem hlt] at this; exact Option.some.inj this
      rw [hxe] at hx
      have HXA := Lib.hid hx
      have hki : (k : Int) < (l.length : Int) := by omega
      clear hx hxe
      go_wp2_with fail
      refine wp_region_tail 12 (by kernel_rfl) (by kernel_rfl) (fun w4 HW4 => ?_)
      simp only [List.take_succ_cons, List.take_zero, List.drop_succ_cons, List.drop_zero]
      have c1 : w4.cell? ⟨b, o + k * 132 + 1, none⟩ = some (.int .i64 x.at_) := by rw [HW4.out]; exact HXA.out.c1
      have HR4 : Hid (w4.rangeAt b (o + k * 132 + 2) (pgCells x.page)) := Lib.hid (by rw [HW4.out]; exact HXA.out.c2)
      have hb7 := secZ_and x.at_
      iterate 11 still_step
      refine wpStill_load_page rfl _ _ rfl b (o + k * 132 + 2) rfl x.page HXA.out.len HR4.out _ Tryd.underlying36 rfl Tryd.pageSize ?_
      refine wpStill_nil ?_
      have HD4 : Hid (DiskAt (· < N) w4 D 8 (wroteK (Dk.new 8) l k)) := Lib.hid (by rw [HW4.out]; exact HDk.out.carry (Below.refl _ _).drew)
      have HK4 : Hid (Kept (· < N) w2 w4) := Lib.hid (by rw [HW4.out]; exact HKk.out.drew)
      clear c1 hb7
      go_wp2_with fail
      refine (Write_yes (i := secZ x.at_) HD4.out (HT.out.kept HK4.out) (wroteK_down _ _ _) (secZ_lt _) HXA.out.len (by have := wroteK_soft (Dk.new 8) l k; simp [Dk.new] at this ⊢; omega)).mono ?_
      rintro e w5 ⟨rfl, hdk, hkp⟩
      have HD5 := Lib.hid hdk
      have HK5 := Lib.hid (HK4.out.trans hkp)
      clear hdk hkp
      go_wp2_with fail
      go_roundw
      case rel => exact ⟨k + 1, hlt, by go_num, by rw [wroteK_succ HX.out]; exact HD5.out, HK5.out⟩
      case measure => simp [intOf]; omega
    · obtain rfl : k = l.length := by omega
      obtain ⟨d1, HD1⟩ : ∃ d1, Hid (d1 = wroteK (Dk.new 8) l l.length) := ⟨_, Lib.hid rfl⟩
      rw [← HD1.out] at HDk
      have hsl : d1.soft.length ≤ 1000000 := by have := wroteK_soft (Dk.new 8) l l.length; rw [← HD1.out] at this; simp [Dk.new] at this; omega
      go_wp2_with fail
      refine (Crash_yes hm HDk.out (HT.out.kept HKk.out) hsl ht).mono ?_
      rintro e w4 ⟨rfl, hdk, hkp⟩
      have HD4 := Lib.hid hdk
      have HK4 := Lib.hid (HKk.out.trans hkp)
      clear hdk hkp
      go_wp2_with fail
      refine (Up_any HD4.out).mono ?_
      rintro e w5 ⟨rfl, hdk, hkp⟩
      have HD5 := Lib.hid hdk
      have HK5 := Lib.hid (HK4.out.trans hkp)
      clear hdk hkp
      go_wp2_with fail
      obtain ⟨w6, HW6⟩ : ∃ w6, Hid (w6 = w5.alloc (.cells Z 49)) := ⟨_, Lib.hid rfl⟩
      obtain ⟨b, HBB⟩ : ∃ b, Hid (b = w5.heap.size) := ⟨_, Lib.hid rfl⟩
      rw [← HW6.out, ← HBB.out]
      have hb6 : w6.heap[b]? = some (.cells Z 49 (0, 0)) := by rw [HW6.out, HBB.out]; exact heap_alloc_last w5 _
      have hbl : Below w5.heap.size w5 w6 := by rw [HW6.out]; exact (Below.refl _ _).alloc (Nat.le_refl _) _
      obtain ⟨K2, HK2⟩ : ∃ K2 : Nat → Prop, Hid (K2 = fun k => k < N ∨ k = b) := ⟨_, Lib.hid rfl⟩
      obtain ⟨d2, HD2⟩ : ∃ d2, Hid (d2 = (d1.crash m t).up) := ⟨_, Lib.hid rfl⟩
      rw [← HD2.out] at HD5
      have HD6 : Hid (DiskAt K2 w6 D 8 d2) := Lib.hid (by
        rw [HK2.out]
        exact HD5.out.more hbl (fun k hk => by rcases hk with h | h; exact .inl h; exact .inr (by rw [h, HBB.out]; exact Nat.le_refl _)))
      have HP6 : Hid (Pages w6 b (partPg d2.seen 0)) := Lib.hid (zeros_pages (by rw [← HZ.out]; exact hb6) _)
      have HF6 : Hid (∀ j, w6.frozen? ⟨b, j, none⟩ = false) := Lib.hid (fun j => frozen_of_row w6 b j _ _ hb6)
      have HK6 : Hid (Kept (· < N) w2 w6) := Lib.hid (HK5.out.trans (Kept.of_below hbl (fun k hk => HT.out.kept HK5.out k hk)))
      have HBN : Hid (N ≤ b) := Lib.hid (by rw [HBB.out, HNN.out]; exact HK5.out.size)
      have HS6 : Hid (b < w6.heap.size) := Lib.hid (by rw [HW6.out, HBB.out]; simp)
      clear hb6 hbl HDk HKk HD4 HK4 HD5 HK5 hsl HW6
      go_loopw [13] (fun i wr => SeenRel K2 N D b d2 w2 i wr) (fun i _ => 8 - (intOf i).toNat)
      case atStart => exact ⟨0, by decide, rfl, HD6.out, HP6.out, HF6.out, HK6.out, HS6.out⟩
      case round =>
        obtain ⟨k, hk, rfl, hdk, hpg, hfz, hkp, hbz⟩ := hrel
        have HDk := Lib.hid hdk
        have HPk := Lib.hid hpg
        have HFk := Lib.hid hfz
        have HKk := Lib.hid hkp
        have HSk := Lib.hid hbz
        clear hdk hpg hfz hkp hbz HD6 HP6 HF6 HK6 HS6
        by_cases hlt : k < 8
        · go_wp2_with fail
          refine (Read_any HDk.out (k : Int)).mono ?_
          have hdn : d2.down = false := by rw [HD2.out]; rfl
          rw [hdn, codeZ_in hlt, if_pos rfl, show ((k : Int)).toNat = k from by omega]
          rintro e w7 ⟨v, rfl, he, hb⟩
          obtain rfl := he.zero
          have HB7 := Lib.hid hb
          have hsl7 : k < d2.seen.length := by rw [HDk.out.ok.seen]; exact hlt
          have HL7 : Hid ((pgAt d2.seen k).length = 128) := Lib.hid (pgAt_length HDk.out.ok.ws hsl7)
          have HP7 : Hid (Pages w7 b (partPg d2.seen k)) := Lib.hid (HPk.out.carry (hb.block b HSk.out))
          have HF7 : Hid (∀ j, w7.frozen? ⟨b, j, none⟩ = false) := Lib.hid (fun j => (hb.frozen (p := ⟨b, j, none⟩) HSk.out).trans (HFk.out j))
          clear he hb hdn
          go_wp2_with (with_reducible refine stop_at (o := ⟨none, _, _, _, _, _⟩) ?_)
          refine wpList_store_page rfl _ _ _ rfl b (k * 128) (pgAt d2.seen k) HL7.out rfl rfl (HP7.out.there HF7.out (by rw [partPg_length]; exact hlt)) Tryd.pageSize (fun w8 HW8 => ?_)
          have HP8 : Hid (Pages w8 b (partPg d2.seen (k + 1))) := Lib.hid (by rw [HW8.out, ← partPg_set]; exact HP7.out.store HF7.out (by rw [partPg_length]; exact hlt) HL7.out)
          have HF8 : Hid (∀ j, w8.frozen? ⟨b, j, none⟩ = false) := Lib.hid (by rw [HW8.out]; exact frozen_setCells HF7.out _ _ _)
          have HD8 : Hid (DiskAt K2 w8 D 8 d2) := Lib.hid ((HDk.out.carry HB7.out).beside (fun j hj => by rw [HW8.out]; exact setCells_block b (fun e => hj (by rw [HK2.out, e]; exact .inr rfl)) _ _ _))
          have hbn : ¬ b < N := by have := HBN.out; omega
          have HK8 : Hid (Kept (· < N) w2 w8) := Lib.hid (by rw [HW8.out]; exact (HKk.out.trans (Kept.of_below HB7.out (fun j hj => HT.out.kept HKk.out j hj))).setCells hbn _ _)
          have HS8 : Hid (b < w8.heap.size) := Lib.hid (by rw [HW8.out, setCells_size]; exact Nat.lt_of_lt_of_le HSk.out HB7.out.size)
          clear hsl7 hbn
          go_wp2_with fail
          go_roundw
          case rel => exact ⟨k + 1, hlt, by go_num, HD8.out, HP8.out, HF8.out, HK8.out, HS8.out⟩
          case measure => simp [intOf]; omega
        · obtain rfl : k = 8 := by omega
          have HT2 : Hid (There K2 wr) := Lib.hid (by
            rw [HK2.out]
            intro j hj
            rcases hj with h | h
            · exact HT.out.kept HKk.out j h
            · rw [h]; exact HSk.out)
          have hs0 : d2.soft = [] := by rw [HD2.out]; rfl
          have hfs : d2.firm = d2.seen := by rw [HD2.out]; rfl
          have HS0 := Lib.hid hs0
          have HFS := Lib.hid hfs
          clear hs0 hfs
          go_wp2_with fail
          refine (Crash_yes hm2 HDk.out HT2.out (by rw [HS0.out]; decide) ht).mono ?_
          rintro e w7 ⟨rfl, hdk, hkp⟩
          have HD7 := Lib.hid hdk
          have HK7 := Lib.hid hkp
          clear hdk hkp
          go_wp2_with fail
          refine (Up_any HD7.out).mono ?_
          rintro e w8 ⟨rfl, hdk, hkp⟩
          obtain ⟨d3, HD3⟩ : ∃ d3, Hid (d3 = (d2.crash m2 t).up) := ⟨_, Lib.hid rfl⟩
          rw [← HD3.out] at hdk
          have HD8 := Lib.hid hdk
          have HK8 := Lib.hid (HK7.out.trans hkp)
          have HSE : Hid (d3.seen = d2.seen) := Lib.hid (by rw [HD3.out]; exact (crash_none d2 m2 t HS0.out).trans HFS.out)
          have HP8 : Hid (Pages w8 b (partPg d2.seen 8)) := Lib.hid (HPk.out.carry (HK8.out.block b (by rw [HK2.out]; exact .inr rfl)))
          have HKA : Hid (Kept (· < N) w2 wr) := HKk
          have HLS : Hid (d2.seen.length = 8) := Lib.hid HDk.out.ok.seen
          clear hdk hkp HD7 HK7 HDk HPk HFk
          go_wp2_with fail
          obtain ⟨wo, rfl⟩ : ∃ wo : World, wo = wr := ⟨_, rfl⟩
          go_loopw [14] (fun i wr => AgainRel K2 D b d2.seen d3 wo i wr) (fun i _ => 8 - (intOf i).toNat)
          case atStart => exact ⟨0, by decide, rfl, HD8.out, HP8.out, HK8.out⟩
          case round =>
            obtain ⟨k, hk, rfl, hdk, hpg, hkp⟩ := hrel
            have HDk := Lib.hid hdk
            have HPk := Lib.hid hpg
            have HKk' := Lib.hid hkp
            clear hdk hpg hkp HD8 HP8 HK8
            by_cases hlt : k < 8
            · go_wp2_with fail
              refine (Read_any HDk.out (k : Int)).mono ?_
              have hdn : d3.down = false := by rw [HD3.out]; rfl
              rw [hdn, codeZ_in hlt, if_pos rfl, show ((k : Int)).toNat = k from by omega, HSE.out]
              rintro e w9 ⟨v, rfl, he, hb⟩
              obtain rfl := he.zero
              have HB9 := Lib.hid hb
              obtain ⟨pg, HPG⟩ : ∃ pg, Hid (pg = pgAt d2.seen k) := ⟨_, Lib.hid rfl⟩
              have HL9 : Hid (pg.length = 128) := Lib.hid (by rw [HPG.out, ← HSE.out]; exact pgAt_length HDk.out.ok.ws (by rw [HDk.out.ok.seen]; exact hlt))
              rw [← HPG.out]
              have hbw : b < wr.heap.size := HPk.out.lt (by rw [partPg_length]; decide)
              clear he hb hdn
              go_wp2_with (with_reducible refine stop_at (o := ⟨none, _, _, _, _, _⟩) ?_)
              refine wpList_store_last rfl _ _ _ rfl (pgArr zeroPg) (pgArr pg) _ rfl rfl rfl (by rw [pgArr_size, HL9.out]; exact Tryd.pageSize) (by rw [pgArr_size, pgArr_size, HL9.out, zeroPg_length]) (pgArr_all _) ?_
              obtain ⟨wa, HWA⟩ : ∃ wa, Hid (wa = w9.alloc (.cells (pgArr pg) 36)) := ⟨_, Lib.hid rfl⟩
              obtain ⟨ba, HBA⟩ : ∃ ba, Hid (ba = w9.heap.size) := ⟨_, Lib.hid rfl⟩
              rw [← HWA.out, ← HBA.out]
              have hba : wa.heap[ba]? = some (.cells (pgArr pg) 36 (0, 0)) := by rw [HWA.out, HBA.out]; exact heap_alloc_last w9 _
              have hbb : Below wr.heap.size wr wa := by rw [HWA.out]; exact HB9.out.trans ((Below.refl _ _).alloc HB9.out.size _)
              have HRA : Hid (wa.rangeAt ba 0 (pgCells pg)) := Lib.hid (by
                intro j u hu
                rw [cell_of_row wa ba (0 + j) _ _ _ hba, Nat.zero_add]
                simpa [pgArr] using hu)
              have HPA : Hid (wa.rangeAt b (k * 128) (pgCells pg)) := Lib.hid (by
                have h1 := (HPk.out.carry (hbb.block b hbw)).at_ (i := k) (by rw [partPg_length]; exact hlt)
                rw [partPg_at hlt, ← HPG.out] at h1
                exact h1.2)
              have HPB : Hid (Pages wa b (partPg d2.seen 8)) := Lib.hid (HPk.out.carry (hbb.block b hbw))
              have HDA : Hid (DiskAt K2 wa D 8 d3) := Lib.hid (HDk.out.carry hbb)
              have HKB : Hid (Kept K2 wo wa) := Lib.hid (HKk'.out.trans (Kept.of_below hbb (fun j hj => HT2.out.kept HKk'.out j hj)))
              have heq := equalIn_page pg HL9.out
              have hgp := guardPage
              clear hba hbb hbw HWA
              go_wp2_with fail
              refine wp_region_reads (by kernel_rfl) (by kernel_rfl) (fun w1 HW1 => ?_)
              have HRA1 : Hid (w1.rangeAt ba 0 (pgCells pg)) := Lib.hid (by rw [HW1.out]; exact HRA.out)
              have HPA1 : Hid (w1.rangeAt b (k * 128) (pgCells pg)) := Lib.hid (by rw [HW1.out]; exact HPA.out)
              have HPB1 : Hid (Pages w1 b (partPg d2.seen 8)) := Lib.hid (by rw [HW1.out]; exact HPB.out)
              have HDA1 : Hid (DiskAt K2 w1 D 8 d3) := Lib.hid (by rw [HW1.out]; exact HDA.out.carry (Below.refl _ _).drew)
              have HKB1 : Hid (Kept K2 wo w1) := Lib.hid (by rw [HW1.out]; exact HKB.out.drew)
              clear HW1 HRA HPA HPB HDA HKB
              still_step
              refine wpStill_step (fun K hK => ?_)
              go_simp
              refine ⟨_, (Num_nil _).mono (fun _ _ h => ⟨h.1, h.2.symm⟩), hK _ ?_⟩
              clear hK K
              iterate 2 still_step
              refine wpStill_load_page_if (by rfl) _ _ rfl ba 0 rfl pg HL9.out HRA1.out _ Tryd.underlying36 rfl Tryd.pageSize ?_
              simp only [Act.put, List.setIfInBounds_toArray, List.set_cons_zero, List.set_cons_succ]
              iterate 2 (refine wpStill_want (by rfl) (fun K hK => ?_); go_simp; refine hK _ ?_; clear hK K)
              refine wpStill_load_page_if (by rfl) _ _ rfl b (k * 128) rfl pg HL9.out HPA1.out _ Tryd.underlying36 rfl Tryd.pageSize ?_
              simp only [Act.put, List.setIfInBounds_toArray, List.set_cons_zero, List.set_cons_succ]
              refine wpStill_want (by rfl) (fun K hK => ?_)
              go_simp
              refine hK _ ?_
              clear hK K
              still_step
              refine wpStill_nil ?_
              clear heq hgp
              go_wp2_with fail
              go_roundw
              case rel => exact ⟨k + 1, hlt, by go_num, HDA1.out, HPB1.out, HKB1.out⟩
              case measure => simp [intOf]; omega
            · obtain rfl : k = 8 := by omega
              go_wp2_with fail
              refine (Num_nil _).mono ?_
              rintro e w' ⟨rfl, rfl⟩
              go_wp2_with fail
              go_ret
              exact ⟨rfl, HB.out.trans (((HKA.out.trans (HKk'.out.mono (fun j hj => by rw [HK2.out]; exact .inl hj))).below (fun j hj => by have := HB.out.size; rw [HNN.out]; omega)))⟩
end Go.Proofs.YtflkhbdipmjmeaaDoor
