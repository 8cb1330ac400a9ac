/-
  The walk of GridNears: open neighbours and the cells of a sign, held against the document's. Conditions: none beyond the premises of each theorem.
-/
import Derived.Test.YtoempilmofbhdaaDoorGridRefRight
import Derived.Test.YtoempilmofbhdaaDoorGridKind
namespace Go.Proofs.YtoempilmofbhdaaDoor
open Go.RowKit

/-- those of the first n numbers that are asked for -/
def those (f : Nat → Bool) (n : Nat) : List Nat := (List.range n).filter f
theorem those_succ (f : Nat → Bool) (n : Nat) : those f (n + 1) = those f n ++ (if f n = true then [n] else []) := by
  unfold those
  rw [List.range_succ, List.filter_append]
  cases h : f n <;> simp [h]
theorem those_le (f : Nat → Bool) (n : Nat) : (those f n).length ≤ n := by
  unfold those
  have := List.length_filter_le f (List.range n)
  simpa using this
theorem those_pre (f : Nat → Bool) {n N : Nat} (h : n ≤ N) : ∃ r, those f N = those f n ++ r := by
  induction N with
  | zero => obtain rfl : n = 0 := by omega
            exact ⟨[], by simp⟩
  | succ N ih =>
    rcases Nat.lt_or_eq_of_le h with h1 | h1
    · obtain ⟨r, hr⟩ := ih (by omega)
      exact ⟨r ++ (if f N = true then [N] else []), by rw [those_succ, hr, List.append_assoc]⟩
    · subst h1; exact ⟨[], by simp⟩
theorem those_at (f : Nat → Bool) {n N : Nat} (h : n < N) (hf : f n = true) : ∃ hl : (those f n).length < (those f N).length, (those f N)[(those f n).length] = n := by
  obtain ⟨r, hr⟩ := those_pre f (show n + 1 ≤ N by omega)
  rw [those_succ, if_pos hf] at hr
  have hl : (those f n).length < (those f N).length := by rw [hr]; simp
  refine ⟨hl, ?_⟩
  have : (those f N)[(those f n).length]? = some n := by rw [hr]; simp
  exact (List.getElem?_eq_some_iff.1 this).2
theorem those_len (f : Nat → Bool) (n : Nat) : (those f (n + 1)).length = (those f n).length + (if f n = true then 1 else 0) := by
  rw [those_succ]; cases f n <;> simp
def signK (xs : List UInt8) (k : UInt8) (i : Nat) : Bool := match xs[i]? with | some c => c == k | none => false
def besK (xs : List UInt8) (a c : Nat) (i : Nat) : Bool := Grid.openAt xs i && Grid.beside a c i
theorem kinds_those (xs : List UInt8) (k : UInt8) : Grid.kinds xs k = those (signK xs k) xs.length := rfl
theorem nears_those (xs : List UInt8) (a c : Nat) : Grid.nears xs a c = those (besK xs a c) xs.length := rfl
theorem byte_is (s : ByteArray) (k : UInt8) (n : Nat) (hn : n < s.size) : ((s[n].toNat : Int) == (k.toNat : Int)) = signK s.data.toList k n := by
  have hl : n < s.data.toList.length := by rw [Array.length_toList]; exact hn
  unfold signK
  rw [List.getElem?_eq_getElem hl]
  have e : s.data.toList[n] = s[n] := by simp; rfl
  rw [e, Bool.eq_iff_iff]
  simp only [beq_iff_eq]
  constructor
  · intro h; exact UInt8.toNat.inj (by omega)
  · intro h; rw [h]
theorem byte_wall (s : ByteArray) (n : Nat) (hn : n < s.size) : ((s[n].toNat : Int) == 35) = !(Grid.openAt s.data.toList n) := by
  rw [← byte_ne_int s n hn]
  simp [bne]
theorem near_on2 {a m : Nat} {s : ByteArray} {i : Nat} (hr : rightM (a : Int) (m : Int) s = true) (hi : i < s.size) (ho : Grid.openAt s.data.toList i = true) : nearM (a : Int) (m : Int) s (i : Int) = Grid.nears s.data.toList a i := by
  unfold nearM
  rw [openM_on hi, ho, hr]
  simp
/-- the law's variables -/
structure VSt (w0 : World) (p : Nat) (W H : Int) (s : ByteArray) (A1 : Option Addr) (L : List Nat) (A2 : Option Addr) (K : List Nat) (w : World) : Prop where
  ref : RefAt w p W H s
  n1 : Nums w .i64 A1 (ints L)
  n2 : Nums w .i64 A2 (ints K)
  below : Below w0.heap.size w0 w
theorem VSt.carry {w0 w w' : World} {p : Nat} {W H : Int} {s : ByteArray} {A1 A2 : Option Addr} {L K : List Nat} (h : VSt w0 p W H s A1 L A2 K w) (hb : Below w.heap.size w w') : VSt w0 p W H s A1 L A2 K w' :=
  ⟨h.ref.carry hb, h.n1.carry hb, h.n2.carry hb, h.below.trans (hb.mono h.below.size)⟩
set_option maxRecDepth 100000 in
set_option maxHeartbeats 4000000 in
theorem nears_walk (W H : Int) (s : ByteArray) (c : Int) (b : Nat) (hb : b < 256) (w : World) : Calls Tryd.prog 5 #[.agg #[.int .i64 W, .int .i64 H, .string s], .int .i64 c, .int .u8 (b : Int)] w fun e w' => e = .returned (.bool true) ∧ Below w.heap.size w w' := by
  obtain ⟨kd, rfl⟩ : ∃ kd : UInt8, b = kd.toNat := ⟨UInt8.ofNat b, by simp; omega⟩
  obtain ⟨w1, HW1⟩ : ∃ w1, Hid (w1 = w.alloc (.cells #[.int .i64 W, .int .i64 H, .string s] 23)) := ⟨_, Lib.hid rfl⟩
  obtain ⟨p, HP⟩ : ∃ p, Hid (p = w.heap.size) := ⟨_, Lib.hid rfl⟩
  have HR1 : Hid (RefAt w1 p W H s) := Lib.hid (by rw [HW1.out, HP.out]; exact heap_alloc_new w _)
  have HB1 : Hid (Below w.heap.size w w1) := Lib.hid (by rw [HW1.out]; exact (Below.refl _ _).alloc (Nat.le_refl _) _)
  go_enter Tryd.func5, Tryd.ntmps5
  go_upto_region 1 with (fail)
  rw [← HP.out, ← HW1.out]
  clear HP HW1 hb
  go_wp2_with fail
  refine (awake_any w1).mono ?_
  rintro e w2 ⟨rfl, hbw⟩
  have HR2 := Lib.hid (HR1.out.carry hbw)
  have HB2 := Lib.hid (HB1.out.trans (hbw.mono HB1.out.size))
  clear hbw HR1 HB1
  dsimp only
  have c0 := HR2.out.w_
  have c1 := HR2.out.h_
  have c2 := HR2.out.s_
  by_cases h200 : 200 < s.size
  · go_wp2_with fail
    refine (awake_any w2).mono ?_
    rintro e w3 ⟨rfl, hbw⟩
    have HB3 := Lib.hid (HB2.out.trans (hbw.mono HB2.out.size))
    clear hbw
    dsimp only
    go_wp2_with fail
    go_ret
    exact ⟨rfl, HB3.out⟩
  · have hsm : s.size ≤ maxLen := by unfold maxLen; omega
    have h2 : s.size ≤ 200 := by omega
    clear h200
    go_wp2_with fail
    refine (Of_any W H s w2).mono ?_
    rintro e w3 ⟨rfl, hbw⟩
    have HR3 := Lib.hid (HR2.out.carry hbw)
    have HB3 := Lib.hid (HB2.out.trans (hbw.mono HB2.out.size))
    clear hbw HR2 HB2 c0 c1 c2
    dsimp only
    go_wp2_with fail
    refine (Near_any W H s c hsm w3).mono ?_
    obtain ⟨L, HL⟩ : ∃ L, Hid (L = nearM W H s c) := ⟨_, Lib.hid rfl⟩
    rw [← HL.out]
    rintro e w4 ⟨A1, cap1, rfl, hnum, hbw⟩
    have HR4 := Lib.hid (HR3.out.carry hbw)
    have HB4 := Lib.hid (HB3.out.trans (hbw.mono HB3.out.size))
    have HN1 := Lib.hid hnum
    clear hbw hnum HR3 HB3
    dsimp only
    have c0 := HR4.out.w_
    have c1 := HR4.out.h_
    have c2 := HR4.out.s_
    go_wp2_with fail
    refine (Of_any W H s w4).mono ?_
    rintro e w5 ⟨rfl, hbw⟩
    have HR5 := Lib.hid (HR4.out.carry hbw)
    have HB5 := Lib.hid (HB4.out.trans (hbw.mono HB4.out.size))
    have HN5 := Lib.hid (HN1.out.carry hbw)
    clear hbw HR4 HB4 HN1 c0 c1 c2
    dsimp only
    go_wp2_with fail
    refine (Kind_any W H s kd hsm w5).mono ?_
    obtain ⟨K, HK⟩ : ∃ K, Hid (K = kindM W H s kd) := ⟨_, Lib.hid rfl⟩
    rw [← HK.out]
    rintro e w6 ⟨A2, cap2, rfl, hnum, hbw⟩
    have HV6 : Hid (VSt w p W H s A1 L A2 K w6) := Lib.hid ⟨HR5.out.carry hbw, HN5.out.carry hbw, hnum, HB5.out.trans (hbw.mono HB5.out.size)⟩
    clear hbw hnum HR5 HB5 HN5
    dsimp only
    have c0 := HV6.out.ref.w_
    have c1 := HV6.out.ref.h_
    have c2 := HV6.out.ref.s_
    go_wp2_with fail
    refine (RefRight_any W H s w6).mono ?_
    obtain ⟨z, HZ⟩ : ∃ z, Hid (z = rightM W H s) := ⟨_, Lib.hid rfl⟩
    rw [← HZ.out]
    rintro e w7 ⟨rfl, hbw⟩
    have HV7 := Lib.hid (HV6.out.carry hbw)
    clear hbw HV6 c0 c1 c2
    dsimp only
    have c0 := HV7.out.ref.w_
    have c1 := HV7.out.ref.h_
    have c2 := HV7.out.ref.s_
    cases z with
    | false =>
      have hop : openM W H s c = false := by unfold openM; rw [← HZ.out]; simp
      obtain rfl : L = [] := by rw [HL.out]; unfold nearM; rw [hop]; rfl
      obtain rfl : K = [] := by rw [HK.out]; unfold kindM; rw [← HZ.out]; rfl
      dsimp only [List.length_nil]
      go_wp2_with fail
      refine (Of_any W H s w7).mono ?_
      rintro e w8 ⟨rfl, hbw⟩
      have HV8 := Lib.hid (HV7.out.carry hbw)
      clear hbw
      dsimp only
      go_wp2_with fail
      refine (Open_any W H s c hsm w8).mono ?_
      rw [hop]
      rintro e w9 ⟨rfl, hbw⟩
      have HV9 := Lib.hid (HV8.out.carry hbw)
      clear hbw
      dsimp only
      go_wp2_with fail
      go_ret
      exact ⟨rfl, HV9.out.below⟩
    | true =>
      have hr := Grid.rightB_iff.1 HZ.out.symm
      obtain ⟨a, m, rfl, rfl, h1, h8, hh1, hh8, hn, _⟩ := Grid.sized_nat hr.1
      have hl : s.data.toList.length = s.size := by rw [Array.length_toList]; rfl
      rw [hl] at hn
      clear hr hn
      have HKT : Hid (K = those (signK s.data.toList kd) s.size) := Lib.hid (by rw [HK.out]; unfold kindM; rw [← HZ.out, if_pos rfl, kinds_those, hl])
      clear HK
      by_cases hc0 : 0 ≤ c
      · by_cases hc1 : c < (s.size : Int)
        · obtain ⟨ci, rfl⟩ := Int.eq_ofNat_of_zero_le hc0
          have hci : ci < s.size := by omega
          clear hc0 hc1
          have hco := byte_ne_int s ci hci
          obtain ⟨o, HO⟩ : ∃ o, Hid (o = Grid.openAt s.data.toList ci) := ⟨_, Lib.hid rfl⟩
          rw [← HO.out] at hco
          cases o with
          | false =>
            have hop : openM (a : Int) (m : Int) s (ci : Int) = false := by rw [openM_on hci, ← HO.out]; rfl
            obtain rfl : L = [] := by rw [HL.out]; unfold nearM; rw [hop]; rfl
            dsimp only [List.length_nil]
            go_wp2_with fail
            refine (Of_any (a : Int) (m : Int) s w7).mono ?_
            rintro e w8 ⟨rfl, hbw⟩
            have HV8 := Lib.hid (HV7.out.carry hbw)
            clear hbw HV7 c0 c1 c2
            dsimp only
            go_wp2_with fail
            refine (Open_any (a : Int) (m : Int) s (ci : Int) hsm w8).mono ?_
            rw [hop]
            rintro e w9 ⟨rfl, hbw⟩
            have HV9 := Lib.hid (HV8.out.carry hbw)
            clear hbw HV8
            dsimp only
            have c2 := HV9.out.ref.s_
            go_wp2_with fail
            clear c2
            go_loopw [10, 11, 12] (fun i j n wr => ∃ n' : Nat, n' ≤ s.size ∧ n = .int .i64 (n' : Int) ∧ i = .int .i64 0 ∧ j = .int .i64 ((those (signK s.data.toList kd) n').length : Int) ∧ VSt w p a m s A1 [] A2 K wr) (fun _ _ n _ => s.size - (intOf n).toNat)
            case atStart => exact ⟨0, Nat.zero_le _, rfl, rfl, rfl, HV9.out⟩
            case round =>
              obtain ⟨n, hn, rfl, rfl, rfl, hst⟩ := hrel
              have HST := Lib.hid hst
              clear hst HV9
              have c0 := HST.out.ref.w_
              have c1 := HST.out.ref.h_
              have c2 := HST.out.ref.s_
              have hjs := those_len (signK s.data.toList kd) n
              have hjl := those_le (signK s.data.toList kd) n
              by_cases hlt : n < s.size
              · have hbk := byte_is s kd n hlt
                have hat := those_at (signK s.data.toList kd) hlt
                obtain ⟨kb, HKB⟩ : ∃ kb, Hid (kb = signK s.data.toList kd n) := ⟨_, Lib.hid rfl⟩
                rw [← HKB.out] at hbk hat hjs
                rw [← HKT.out] at hat
                have HJS := Lib.hid hjs
                clear hjs
                obtain ⟨j, HJ⟩ : ∃ j, Hid (j = (those (signK s.data.toList kd) n).length) := ⟨_, Lib.hid rfl⟩
                rw [← HJ.out] at hjl ⊢
                simp only [← HJ.out] at hat
                cases kb with
                | false =>
                  clear hat
                  go_wp2_with fail
                  go_roundw
                  case rel => exact ⟨n + 1, hlt, by go_num, rfl, by rw [HJS.out, HJ.out]; rfl, HST.out⟩
                  case measure => simp [intOf]; omega
                | true =>
                  obtain ⟨hjk, hje⟩ := hat rfl
                  obtain ⟨x, rfl, hxc⟩ := HST.out.n2.at_ (ints_at hjk)
                  rw [hje] at hxc
                  clear hat hje
                  go_wp2_with fail
                  go_roundw
                  case rel => exact ⟨n + 1, hlt, by go_num, rfl, by rw [HJS.out, HJ.out]; rfl, HST.out⟩
                  case measure => simp [intOf]; omega
              · obtain rfl : n = s.size := by omega
                rw [← HKT.out]
                clear hjs hjl
                go_wp2_with fail
                go_ret
                exact ⟨rfl, HST.out.below⟩
          | true =>
            have HCO := Lib.hid HO.out.symm
            clear HO
            have hop : openM (a : Int) (m : Int) s (ci : Int) = true := by rw [openM_on hci, ← HZ.out, HCO.out]; rfl
            have HLT : Hid (L = those (besK s.data.toList a ci) s.size) := Lib.hid (by rw [HL.out]; unfold nearM; rw [hop, if_pos rfl, Int.toNat_natCast, Int.toNat_natCast, nears_those, hl])
            clear HL
            go_wp2_with fail
            refine (Of_any (a : Int) (m : Int) s w7).mono ?_
            rintro e w8 ⟨rfl, hbw⟩
            have HV8 := Lib.hid (HV7.out.carry hbw)
            clear hbw HV7 c0 c1 c2 hco
            dsimp only
            go_wp2_with fail
            refine (Open_any (a : Int) (m : Int) s (ci : Int) hsm w8).mono ?_
            rw [hop]
            rintro e w9 ⟨rfl, hbw⟩
            have HV9 := Lib.hid (HV8.out.carry hbw)
            clear hbw HV8 hop
            dsimp only
            have c2 := HV9.out.ref.s_
            go_wp2_with fail
            clear c2
            go_loopw [10, 11, 12] (fun i j n wr => ∃ n' : Nat, n' ≤ s.size ∧ n = .int .i64 (n' : Int) ∧ i = .int .i64 ((those (besK s.data.toList a ci) n').length : Int) ∧ j = .int .i64 ((those (signK s.data.toList kd) n').length : Int) ∧ VSt w p a m s A1 L A2 K wr) (fun _ _ n _ => s.size - (intOf n).toNat)
            case atStart => exact ⟨0, Nat.zero_le _, rfl, rfl, rfl, HV9.out⟩
            case round =>
              obtain ⟨n, hn, rfl, rfl, rfl, hst⟩ := hrel
              have HST := Lib.hid hst
              clear hst HV9
              have c0 := HST.out.ref.w_
              have c1 := HST.out.ref.h_
              have c2 := HST.out.ref.s_
              have hjs := those_len (signK s.data.toList kd) n
              have hjl := those_le (signK s.data.toList kd) n
              by_cases hlt : n < s.size
              · have hbk := byte_is s kd n hlt
                have hat := those_at (signK s.data.toList kd) hlt
                obtain ⟨kb, HKB⟩ : ∃ kb, Hid (kb = signK s.data.toList kd n) := ⟨_, Lib.hid rfl⟩
                rw [← HKB.out] at hbk hat hjs
                rw [← HKT.out] at hat
                obtain ⟨j, HJ⟩ : ∃ j, Hid (j = (those (signK s.data.toList kd) n).length) := ⟨_, Lib.hid rfl⟩
                obtain ⟨j2, HJ2⟩ : ∃ j2, Hid (j2 = (those (signK s.data.toList kd) (n + 1)).length) := ⟨_, Lib.hid rfl⟩
                rw [← HJ.out] at hjl hjs ⊢
                rw [← HJ2.out] at hjs
                simp only [← HJ.out] at hat
                cases kb with
                | false =>
                  clear hat
                  go_upto_region 18 with (fail)
                  obtain rfl : j = j2 := by simpa using hjs.symm
                  clear hjs hbk HKB HJ hjl
                  have hob := byte_wall s n hlt
                  obtain ⟨o2, HO2⟩ : ∃ o2, Hid (o2 = Grid.openAt s.data.toList n) := ⟨_, Lib.hid rfl⟩
                  rw [← HO2.out] at hob
                  cases o2 with
                  | false =>
                    have HPF : Hid (besK s.data.toList a ci n = false) := Lib.hid (by unfold besK; rw [← HO2.out]; rfl)
                    go_wp2_with fail
                    go_roundw
                    case rel => exact ⟨n + 1, hlt, by go_num, by rw [those_len, HPF.out]; rfl, by first | rfl | (rw [HJ2.out]), HST.out⟩
                    case measure => simp [intOf]; omega
                  | true =>
                    go_wp2_with fail
                    refine (RefBeside_any a ci n h1 h8 (by omega) (by omega) _).mono ?_
                    obtain ⟨bs, HBS⟩ : ∃ bs, Hid (bs = Grid.beside a ci n) := ⟨_, Lib.hid rfl⟩
                    rw [← HBS.out]
                    rintro e w10 ⟨rfl, hbw⟩
                    have HS10 := Lib.hid (HST.out.carry hbw)
                    clear hbw HST c0 c1 c2
                    dsimp only
                    have hpf : besK s.data.toList a ci n = bs := by unfold besK; rw [← HO2.out, HBS.out]; rfl
                    have HPF := Lib.hid hpf
                    have hil := those_le (besK s.data.toList a ci) n
                    have his := those_len (besK s.data.toList a ci) n
                    have hat := those_at (besK s.data.toList a ci) hlt
                    rw [hpf] at his hat
                    rw [← HLT.out] at hat
                    have HIS := Lib.hid his
                    clear his hpf
                    obtain ⟨i, HI⟩ : ∃ i, Hid (i = (those (besK s.data.toList a ci) n).length) := ⟨_, Lib.hid rfl⟩
                    rw [← HI.out] at hil ⊢
                    simp only [← HI.out] at hat
                    cases bs with
                    | false =>
                      clear hat
                      go_wp2_with fail
                      go_roundw
                      case rel => exact ⟨n + 1, hlt, by go_num, by rw [HIS.out, HI.out]; rfl, by first | rfl | (rw [HJ2.out]), HS10.out⟩
                      case measure => simp [intOf]; omega
                    | true =>
                      obtain ⟨hik, hie⟩ := hat rfl
                      obtain ⟨x1, hx1, hxd⟩ := HS10.out.n1.at_ (ints_at hik)
                      rw [hie] at hxd
                      subst hx1
                      clear hat hie
                      have c0 := HS10.out.ref.w_
                      have c1 := HS10.out.ref.h_
                      have c2 := HS10.out.ref.s_
                      go_wp2_with fail
                      refine (Of_any (a : Int) (m : Int) s w10).mono ?_
                      rintro e w11 ⟨rfl, hbw⟩
                      have HS11 := Lib.hid (HS10.out.carry hbw)
                      clear hbw HS10 c0 c1 c2 hxd
                      dsimp only
                      go_wp2_with fail
                      refine (Near_any (a : Int) (m : Int) s n hsm w11).mono ?_
                      rw [near_on2 HZ.out.symm hlt HO2.out.symm]
                      obtain ⟨Bk, HBK⟩ : ∃ Bk, Hid (Bk = Grid.nears s.data.toList a n) := ⟨_, Lib.hid rfl⟩
                      rw [← HBK.out]
                      rintro e w12 ⟨A3, cap3, rfl, hnum, hbw⟩
                      have HS12 := Lib.hid (HS11.out.carry hbw)
                      have HN12 := Lib.hid hnum
                      clear hbw hnum HS11
                      dsimp only
                      have hbl : Bk.length ≤ 4 := by rw [HBK.out]; exact Grid.nears_length_le h1 h8
                      have HIN : Hid (Bk.contains ci = true) := Lib.hid (by
                        rw [HBK.out, List.contains_iff_mem]
                        exact Grid.mem_nears.2 ⟨HCO.out, by rw [Grid.beside_comm]; exact HBS.out.symm⟩)
                      go_wp2_with fail
                      go_loopw [14, 15] (fun f9 q9 wr => ∃ q' : Nat, q' ≤ Bk.length ∧ q9 = .int .i64 (q' : Int) ∧ f9 = .bool ((Bk.take q').contains ci) ∧ VSt w p a m s (some x1) L A2 K wr ∧ Nums wr .i64 A3 (ints Bk)) (fun _ q9 _ => Bk.length - (intOf q9).toNat)
                      case atStart => exact ⟨0, Nat.zero_le _, rfl, by simp, HS12.out, HN12.out⟩
                      case round =>
                        obtain ⟨q', hq, rfl, rfl, hst, hnum⟩ := hrel
                        have HS13 := Lib.hid hst
                        have HN13 := Lib.hid hnum
                        clear hst hnum HS12 HN12
                        by_cases hql : q' < Bk.length
                        · obtain ⟨y, HY⟩ : ∃ y, Hid (y = Bk[q']) := ⟨_, Lib.hid rfl⟩
                          obtain ⟨x3, rfl, hxc⟩ := HN13.out.at_ (ints_at hql)
                          rw [← HY.out] at hxc
                          have hst2 : (Bk.take (q' + 1)).contains ci = ((Bk.take q').contains ci || y == ci) := by
                            rw [List.take_succ_eq_append_getElem hql, HY.out, Bool.eq_iff_iff]
                            simp only [List.contains_iff_mem, List.mem_append, List.mem_singleton, Bool.or_eq_true, beq_iff_eq]
                            exact or_congr Iff.rfl eq_comm
                          have HST2 := Lib.hid hst2
                          clear hst2
                          have hcmp : ((y : Int) == (ci : Int)) = (y == ci) := by rw [Bool.eq_iff_iff]; simp only [beq_iff_eq]; omega
                          obtain ⟨f1, HF1⟩ : ∃ f1, Hid (f1 = (Bk.take q').contains ci) := ⟨_, Lib.hid rfl⟩
                          obtain ⟨f2, HF2⟩ : ∃ f2, Hid (f2 = (y == ci)) := ⟨_, Lib.hid rfl⟩
                          rw [← HF2.out] at hcmp
                          rw [← HF1.out, ← HF2.out] at HST2
                          rw [← HF1.out]
                          cases f1 with
                          | true =>
                            go_wp2_with fail
                            go_roundw
                            case rel => exact ⟨q' + 1, hql, by go_num, by rw [HST2.out]; rfl, HS13.out, HN13.out⟩
                            case measure => simp [intOf]; omega
                          | false =>
                            go_wp2_with fail
                            go_roundw
                            case rel => exact ⟨q' + 1, hql, by go_num, by rw [HST2.out]; rfl, HS13.out, HN13.out⟩
                            case measure => simp [intOf]; omega
                        · obtain rfl : q' = Bk.length := by omega
                          rw [List.take_length, HIN.out]
                          go_wp2_with fail
                          go_roundw
                          case rel => exact ⟨n + 1, hlt, by go_num, by rw [HIS.out, HI.out]; go_num, by first | rfl | (rw [HJ2.out]), HS13.out⟩
                          case measure => simp [intOf]; omega
                | true =>
                  obtain ⟨hjk, hje⟩ := hat rfl
                  obtain ⟨x, hxx, hxc⟩ := HST.out.n2.at_ (ints_at hjk)
                  rw [hje] at hxc
                  subst hxx
                  clear hat hje
                  go_upto_region 18 with (fail)
                  rw [show (j : Int) + 1 = (j2 : Int) by rw [if_pos rfl] at hjs; omega]
                  clear hjs hbk HKB HJ hjl hxc hjk
                  have hob := byte_wall s n hlt
                  obtain ⟨o2, HO2⟩ : ∃ o2, Hid (o2 = Grid.openAt s.data.toList n) := ⟨_, Lib.hid rfl⟩
                  rw [← HO2.out] at hob
                  cases o2 with
                  | false =>
                    have HPF : Hid (besK s.data.toList a ci n = false) := Lib.hid (by unfold besK; rw [← HO2.out]; rfl)
                    go_wp2_with fail
                    go_roundw
                    case rel => exact ⟨n + 1, hlt, by go_num, by rw [those_len, HPF.out]; rfl, by first | rfl | (rw [HJ2.out]), HST.out⟩
                    case measure => simp [intOf]; omega
                  | true =>
                    go_wp2_with fail
                    refine (RefBeside_any a ci n h1 h8 (by omega) (by omega) _).mono ?_
                    obtain ⟨bs, HBS⟩ : ∃ bs, Hid (bs = Grid.beside a ci n) := ⟨_, Lib.hid rfl⟩
                    rw [← HBS.out]
                    rintro e w10 ⟨rfl, hbw⟩
                    have HS10 := Lib.hid (HST.out.carry hbw)
                    clear hbw HST c0 c1 c2
                    dsimp only
                    have hpf : besK s.data.toList a ci n = bs := by unfold besK; rw [← HO2.out, HBS.out]; rfl
                    have HPF := Lib.hid hpf
                    have hil := those_le (besK s.data.toList a ci) n
                    have his := those_len (besK s.data.toList a ci) n
                    have hat := those_at (besK s.data.toList a ci) hlt
                    rw [hpf] at his hat
                    rw [← HLT.out] at hat
                    have HIS := Lib.hid his
                    clear his hpf
                    obtain ⟨i, HI⟩ : ∃ i, Hid (i = (those (besK s.data.toList a ci) n).length) := ⟨_, Lib.hid rfl⟩
                    rw [← HI.out] at hil ⊢
                    simp only [← HI.out] at hat
                    cases bs with
                    | false =>
                      clear hat
                      go_wp2_with fail
                      go_roundw
                      case rel => exact ⟨n + 1, hlt, by go_num, by rw [HIS.out, HI.out]; rfl, by first | rfl | (rw [HJ2.out]), HS10.out⟩
                      case measure => simp [intOf]; omega
                    | true =>
                      obtain ⟨hik, hie⟩ := hat rfl
                      obtain ⟨x1, hx1, hxd⟩ := HS10.out.n1.at_ (ints_at hik)
                      rw [hie] at hxd
                      subst hx1
                      clear hat hie
                      have c0 := HS10.out.ref.w_
                      have c1 := HS10.out.ref.h_
                      have c2 := HS10.out.ref.s_
                      go_wp2_with fail
                      refine (Of_any (a : Int) (m : Int) s w10).mono ?_
                      rintro e w11 ⟨rfl, hbw⟩
                      have HS11 := Lib.hid (HS10.out.carry hbw)
                      clear hbw HS10 c0 c1 c2 hxd
                      dsimp only
                      go_wp2_with fail
                      refine (Near_any (a : Int) (m : Int) s n hsm w11).mono ?_
                      rw [near_on2 HZ.out.symm hlt HO2.out.symm]
                      obtain ⟨Bk, HBK⟩ : ∃ Bk, Hid (Bk = Grid.nears s.data.toList a n) := ⟨_, Lib.hid rfl⟩
                      rw [← HBK.out]
                      rintro e w12 ⟨A3, cap3, rfl, hnum, hbw⟩
                      have HS12 := Lib.hid (HS11.out.carry hbw)
                      have HN12 := Lib.hid hnum
                      clear hbw hnum HS11
                      dsimp only
                      have hbl : Bk.length ≤ 4 := by rw [HBK.out]; exact Grid.nears_length_le h1 h8
                      have HIN : Hid (Bk.contains ci = true) := Lib.hid (by
                        rw [HBK.out, List.contains_iff_mem]
                        exact Grid.mem_nears.2 ⟨HCO.out, by rw [Grid.beside_comm]; exact HBS.out.symm⟩)
                      go_wp2_with fail
                      go_loopw [14, 15] (fun f9 q9 wr => ∃ q' : Nat, q' ≤ Bk.length ∧ q9 = .int .i64 (q' : Int) ∧ f9 = .bool ((Bk.take q').contains ci) ∧ VSt w p a m s (some x1) L (some x) K wr ∧ Nums wr .i64 A3 (ints Bk)) (fun _ q9 _ => Bk.length - (intOf q9).toNat)
                      case atStart => exact ⟨0, Nat.zero_le _, rfl, by simp, HS12.out, HN12.out⟩
                      case round =>
                        obtain ⟨q', hq, rfl, rfl, hst, hnum⟩ := hrel
                        have HS13 := Lib.hid hst
                        have HN13 := Lib.hid hnum
                        clear hst hnum HS12 HN12
                        by_cases hql : q' < Bk.length
                        · obtain ⟨y, HY⟩ : ∃ y, Hid (y = Bk[q']) := ⟨_, Lib.hid rfl⟩
                          obtain ⟨x3, rfl, hxc⟩ := HN13.out.at_ (ints_at hql)
                          rw [← HY.out] at hxc
                          have hst2 : (Bk.take (q' + 1)).contains ci = ((Bk.take q').contains ci || y == ci) := by
                            rw [List.take_succ_eq_append_getElem hql, HY.out, Bool.eq_iff_iff]
                            simp only [List.contains_iff_mem, List.mem_append, List.mem_singleton, Bool.or_eq_true, beq_iff_eq]
                            exact or_congr Iff.rfl eq_comm
                          have HST2 := Lib.hid hst2
                          clear hst2
                          have hcmp : ((y : Int) == (ci : Int)) = (y == ci) := by rw [Bool.eq_iff_iff]; simp only [beq_iff_eq]; omega
                          obtain ⟨f1, HF1⟩ : ∃ f1, Hid (f1 = (Bk.take q').contains ci) := ⟨_, Lib.hid rfl⟩
                          obtain ⟨f2, HF2⟩ : ∃ f2, Hid (f2 = (y == ci)) := ⟨_, Lib.hid rfl⟩
                          rw [← HF2.out] at hcmp
                          rw [← HF1.out, ← HF2.out] at HST2
                          rw [← HF1.out]
                          cases f1 with
                          | true =>
                            go_wp2_with fail
                            go_roundw
                            case rel => exact ⟨q' + 1, hql, by go_num, by rw [HST2.out]; rfl, HS13.out, HN13.out⟩
                            case measure => simp [intOf]; omega
                          | false =>
                            go_wp2_with fail
                            go_roundw
                            case rel => exact ⟨q' + 1, hql, by go_num, by rw [HST2.out]; rfl, HS13.out, HN13.out⟩
                            case measure => simp [intOf]; omega
                        · obtain rfl : q' = Bk.length := by omega
                          rw [List.take_length, HIN.out]
                          go_wp2_with fail
                          go_roundw
                          case rel => exact ⟨n + 1, hlt, by go_num, by rw [HIS.out, HI.out]; go_num, by first | rfl | (rw [HJ2.out]), HS13.out⟩
                          case measure => simp [intOf]; omega
              · obtain rfl : n = s.size := by omega
                rw [← HKT.out, ← HLT.out]
                clear hjs hjl
                go_wp2_with fail
                go_ret
                exact ⟨rfl, HST.out.below⟩
        · have hc2 : (s.size : Int) ≤ c := by omega
          clear hc1
          have hop : openM (a : Int) (m : Int) s c = false := by exact openM_off (by omega)
          obtain rfl : L = [] := by rw [HL.out]; unfold nearM; rw [hop]; rfl
          dsimp only [List.length_nil]
          go_wp2_with fail
          refine (Of_any (a : Int) (m : Int) s w7).mono ?_
          rintro e w8 ⟨rfl, hbw⟩
          have HV8 := Lib.hid (HV7.out.carry hbw)
          clear hbw HV7 c0 c1 c2
          dsimp only
          go_wp2_with fail
          refine (Open_any (a : Int) (m : Int) s c hsm w8).mono ?_
          rw [hop]
          rintro e w9 ⟨rfl, hbw⟩
          have HV9 := Lib.hid (HV8.out.carry hbw)
          clear hbw HV8
          dsimp only
          have c2 := HV9.out.ref.s_
          go_wp2_with fail
          clear c2
          go_loopw [10, 11, 12] (fun i j n wr => ∃ n' : Nat, n' ≤ s.size ∧ n = .int .i64 (n' : Int) ∧ i = .int .i64 0 ∧ j = .int .i64 ((those (signK s.data.toList kd) n').length : Int) ∧ VSt w p a m s A1 [] A2 K wr) (fun _ _ n _ => s.size - (intOf n).toNat)
          case atStart => exact ⟨0, Nat.zero_le _, rfl, rfl, rfl, HV9.out⟩
          case round =>
            obtain ⟨n, hn, rfl, rfl, rfl, hst⟩ := hrel
            have HST := Lib.hid hst
            clear hst HV9
            have c0 := HST.out.ref.w_
            have c1 := HST.out.ref.h_
            have c2 := HST.out.ref.s_
            have hjs := those_len (signK s.data.toList kd) n
            have hjl := those_le (signK s.data.toList kd) n
            by_cases hlt : n < s.size
            · have hbk := byte_is s kd n hlt
              have hat := those_at (signK s.data.toList kd) hlt
              obtain ⟨kb, HKB⟩ : ∃ kb, Hid (kb = signK s.data.toList kd n) := ⟨_, Lib.hid rfl⟩
              rw [← HKB.out] at hbk hat hjs
              rw [← HKT.out] at hat
              have HJS := Lib.hid hjs
              clear hjs
              obtain ⟨j, HJ⟩ : ∃ j, Hid (j = (those (signK s.data.toList kd) n).length) := ⟨_, Lib.hid rfl⟩
              rw [← HJ.out] at hjl ⊢
              simp only [← HJ.out] at hat
              cases kb with
              | false =>
                clear hat
                go_wp2_with fail
                go_roundw
                case rel => exact ⟨n + 1, hlt, by go_num, rfl, by rw [HJS.out, HJ.out]; rfl, HST.out⟩
                case measure => simp [intOf]; omega
              | true =>
                obtain ⟨hjk, hje⟩ := hat rfl
                obtain ⟨x, rfl, hxc⟩ := HST.out.n2.at_ (ints_at hjk)
                rw [hje] at hxc
                clear hat hje
                go_wp2_with fail
                go_roundw
                case rel => exact ⟨n + 1, hlt, by go_num, rfl, by rw [HJS.out, HJ.out]; rfl, HST.out⟩
                case measure => simp [intOf]; omega
            · obtain rfl : n = s.size := by omega
              rw [← HKT.out]
              clear hjs hjl
              go_wp2_with fail
              go_ret
              exact ⟨rfl, HST.out.below⟩
      · have hc2 : c < 0 := by omega
        clear hc0
        have hop : openM (a : Int) (m : Int) s c = false := by exact openM_off (by omega)
        obtain rfl : L = [] := by rw [HL.out]; unfold nearM; rw [hop]; rfl
        dsimp only [List.length_nil]
        go_wp2_with fail
        refine (Of_any (a : Int) (m : Int) s w7).mono ?_
        rintro e w8 ⟨rfl, hbw⟩
        have HV8 := Lib.hid (HV7.out.carry hbw)
        clear hbw HV7 c0 c1 c2
        dsimp only
        go_wp2_with fail
        refine (Open_any (a : Int) (m : Int) s c hsm w8).mono ?_
        rw [hop]
        rintro e w9 ⟨rfl, hbw⟩
        have HV9 := Lib.hid (HV8.out.carry hbw)
        clear hbw HV8
        dsimp only
        have c2 := HV9.out.ref.s_
        go_wp2_with fail
        clear c2
        go_loopw [10, 11, 12] (fun i j n wr => ∃ n' : Nat, n' ≤ s.size ∧ n = .int .i64 (n' : Int) ∧ i = .int .i64 0 ∧ j = .int .i64 ((those (signK s.data.toList kd) n').length : Int) ∧ VSt w p a m s A1 [] A2 K wr) (fun _ _ n _ => s.size - (intOf n).toNat)
        case atStart => exact ⟨0, Nat.zero_le _, rfl, rfl, rfl, HV9.out⟩
        case round =>
          obtain ⟨n, hn, rfl, rfl, rfl, hst⟩ := hrel
          have HST := Lib.hid hst
          clear hst HV9
          have c0 := HST.out.ref.w_
          have c1 := HST.out.ref.h_
          have c2 := HST.out.ref.s_
          have hjs := those_len (signK s.data.toList kd) n
          have hjl := those_le (signK s.data.toList kd) n
          by_cases hlt : n < s.size
          · have hbk := byte_is s kd n hlt
            have hat := those_at (signK s.data.toList kd) hlt
            obtain ⟨kb, HKB⟩ : ∃ kb, Hid (kb = signK s.data.toList kd n) := ⟨_, Lib.hid rfl⟩
            rw [← HKB.out] at hbk hat hjs
            rw [← HKT.out] at hat
            have HJS := Lib.hid hjs
            clear hjs
            obtain ⟨j, HJ⟩ : ∃ j, Hid (j = (those (signK s.data.toList kd) n).length) := ⟨_, Lib.hid rfl⟩
            rw [← HJ.out] at hjl ⊢
            simp only [← HJ.out] at hat
            cases kb with
            | false =>
              clear hat
              go_wp2_with fail
              go_roundw
              case rel => exact ⟨n + 1, hlt, by go_num, rfl, by rw [HJS.out, HJ.out]; rfl, HST.out⟩
              case measure => simp [intOf]; omega
            | true =>
              obtain ⟨hjk, hje⟩ := hat rfl
              obtain ⟨x, rfl, hxc⟩ := HST.out.n2.at_ (ints_at hjk)
              rw [hje] at hxc
              clear hat hje
              go_wp2_with fail
              go_roundw
              case rel => exact ⟨n + 1, hlt, by go_num, rfl, by rw [HJS.out, HJ.out]; rfl, HST.out⟩
              case measure => simp [intOf]; omega
          · obtain rfl : n = s.size := by omega
            rw [← HKT.out]
            clear hjs hjl
            go_wp2_with fail
            go_ret
            exact ⟨rfl, HST.out.below⟩
end Go.Proofs.YtoempilmofbhdaaDoor
