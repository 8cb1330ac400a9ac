/-
  The contract of field.Way (layer 16). Conditions: none beyond the premises of each theorem.
-/
import Derived.Test.YtiffgmgefpoblaaDoorFieldDown
namespace Go.Proofs.YtiffgmgefpoblaaDoor
open Go.RowKit Hp Fld

noncomputable def wayZ (W H : Int) (s : ByteArray) (F : List Int) (c : Int) : List Nat := wayM (fun c => downZ W H s F c) 64 c
theorem wayM_nil {dn : Int → List Nat} {k : Nat} {c : Int} (h : dn c = []) : wayM dn (k + 1) c = [] := by
  unfold wayM
  rw [h]
theorem wayM_cons {dn : Int → List Nat} {k j : Nat} {r : List Nat} {c : Int} (h : dn c = j :: r) : wayM dn (k + 1) c = j :: wayM dn k (j : Int) := by
  rw [wayM, h]
set_option maxRecDepth 100000 in
theorem Way_any {w : World} {A : Option Addr} {cap : Nat} {F : List Int} (W H : Int) (s : ByteArray) (c : Int) (hsz : s.size ≤ maxLen) (hfl : F.length ≤ maxLen) (hz : Nums w .i64 A F) :
    Calls Tryd.prog 16 #[.agg #[.int .i64 W, .int .i64 H, .string s], .slice A F.length cap, .int .i64 c] w (NearPost (wayZ W H s F c) w) := by
  obtain ⟨w1, HW1⟩ : ∃ w1, Hid (w1 = w.alloc (.cells #[.int .i64 W, .int .i64 H, .string s] 30)) := ⟨_, Lib.hid rfl⟩
  obtain ⟨q, HQ⟩ : ∃ q, Hid (q = w.heap.size) := ⟨_, Lib.hid rfl⟩
  have hbw : Below w.heap.size w w1 := by rw [HW1.out]; exact (Below.refl _ _).alloc (Nat.le_refl _) _
  have HM1 : Hid (MapAt w1 q W H s) := Lib.hid (by rw [HW1.out, HQ.out]; exact heap_alloc_new w _)
  have HB1 : Hid (Below w.heap.size w w1) := Lib.hid hbw
  have HZ1 : Hid (Nums w1 .i64 A F) := Lib.hid (hz.carry hbw)
  obtain ⟨way, HWY⟩ : ∃ way, Hid (way = wayZ W H s F c) := ⟨_, Lib.hid rfl⟩
  obtain ⟨dn, HDN⟩ : ∃ dn : Int → List Nat, Hid (dn = fun c => downZ W H s F c) := ⟨_, Lib.hid rfl⟩
  have HWD : Hid (way = wayM dn 64 c) := Lib.hid (by rw [HWY.out, HDN.out]; rfl)
  have hdn := fun (c : Int) (w9 : World) (hz9 : Nums w9 .i64 A F) => Down_any (cap := cap) W H s c hsz hfl hz9
  have HDO : Hid (∀ (c : Int) (w9 : World), Nums w9 .i64 A F → Calls Tryd.prog 18 #[.agg #[.int .i64 W, .int .i64 H, .string s], .slice A F.length cap, .int .i64 c] w9 (NearPost (dn c) w9)) := Lib.hid (by rw [HDN.out]; exact hdn)
  rw [← HWY.out]
  clear hbw hz hdn HWY HDN
  obtain ⟨B, HB⟩ : ∃ B, Hid (B = w1.heap.size) := ⟨_, Lib.hid rfl⟩
  obtain ⟨ii, hj0, hj1, hj2, hj3⟩ := info_parts Tryd.infoNum
  go_enter Tryd.func16, Tryd.ntmps16
  go_wp2_with fail
  rw [← HW1.out, ← HQ.out]
  go_loopw [2, 7, 9] (fun u2 u7 u wr => ∃ (k : Nat) (c' : Int) (pre : List Nat), u = .int .i64 (k : Int) ∧ u2 = .int .i64 c' ∧ k ≤ 64 ∧ pre.length = k ∧ way = pre ++ wayM dn (64 - k) c' ∧ wr.ownsRow B 3 1 u7 pre.length (numCells pre) ∧ Below B w1 wr) (fun _ _ u _ => 64 - (intOf u).toNat)
  case atStart => exact ⟨0, c, [], rfl, rfl, Nat.zero_le _, rfl, by rw [HWD.out]; rfl, World.ownsRow_nil _ _ _ _, Below.refl _ _⟩
  case round =>
    clear HWD
    obtain ⟨k, c', pre, rfl, rfl, hk, hpl, hway, hrow, hbl⟩ := hrel
    have HK := Lib.hid hk
    have HPL := Lib.hid hpl
    have HWAY := Lib.hid hway
    have HR := Lib.hid hrow
    have HBL := Lib.hid hbl
    have HBr : Hid (B ≤ wr.heap.size) := Lib.hid (by rw [HB.out]; exact hbl.size)
    have HM : Hid (MapAt wr q W H s) := Lib.hid ((HBL.out.block q (by rw [HB.out]; exact HM1.out.lt)).trans HM1.out)
    have HZ : Hid (Nums wr .i64 A F) := Lib.hid (HZ1.out.carry (by rw [← HB.out]; exact HBL.out))
    clear hk hpl hway hrow hbl
    have HEND : Hid (∀ (e : List Nat), way = e → ∀ u, u7 = u → e.length = pre.length → numCells e = numCells pre → NearPost way w (.returned u7) wr) := Lib.hid (fun e he u hu h1 h2 => by
      obtain ⟨A9, cap9, hv9, hnums⟩ := ListBox.nums HR.out
      have hfr := row_far HR.out
      have hee : e = pre := by
        have : (numCells e).map (fun v => match v with | .int _ n => n.toNat | _ => 0) = (numCells pre).map (fun v => match v with | .int _ n => n.toNat | _ => 0) := by rw [h2]
        simpa [numCells, List.map_map, Function.comp_def] using this
      subst hee
      subst he
      refine ⟨A9, cap9, by rw [hv9], hnums, HB1.out.trans (HBL.out.mono (by rw [HB.out]; exact HB1.out.size)), fun ad hA => ?_⟩
      subst hA
      have := hfr ad cap9 hv9
      have := HB.out
      have := HB1.out.size
      omega)
    have m0 := HM.out.w_
    have m1 := HM.out.h_
    have m2 := HM.out.s_
    by_cases hk64 : k < 64
    · obtain ⟨l, HL⟩ : ∃ l, Hid (l = dn c') := ⟨_, Lib.hid rfl⟩
      have hdo := Lib.hid (HDO.out c' wr HZ.out)
      rw [← HL.out] at hdo
      go_wp2_with fail
      refine hdo.out.mono ?_
      rintro e w4 ⟨A4, cap4, rfl, hn4, hb4, _⟩
      cases l with
      | nil =>
        have HE := Lib.hid (HEND.out pre (by rw [HWAY.out, show 64 - k = (64 - (k + 1)) + 1 by omega, wayM_nil HL.out.symm, List.append_nil]) u7 rfl rfl rfl)
        clear hdo m0 m1 m2
        go_wp2_with fail
        go_ret
        obtain ⟨A9, cap9, h1, h2, h3, h4⟩ := HE.out
        exact ⟨A9, cap9, h1, h2.carry hb4, h3.trans (hb4.mono h3.size), h4⟩
      | cons d r =>
        clear HEND
        obtain ⟨ad, hcA, hcc⟩ := hn4.at_ (i := 0) (z := (d : Int)) rfl
        subst hcA
        have hcc' : w4.cell? ad = some (.int .i64 (d : Int)) := by simpa [Addr.add] using hcc
        have HR4 : Hid (w4.ownsRow B 3 1 u7 pre.length (numCells pre)) := Lib.hid (HR.out.kept (row := none) ⟨hb4.os, hb4.tape, hb4.output, hb4.size, fun k hk _ => hb4.block k hk⟩ (by cases u7.ownBlock <;> simp))
        have HB4 : Hid (Below B w1 w4) := Lib.hid (HBL.out.trans (hb4.mono HBr.out))
        have HBs : Hid (B ≤ w4.heap.size) := Lib.hid (Nat.le_trans HBr.out hb4.size)
        have HLN : Hid (0 < (d :: r).length) := Lib.hid (by simp)
        clear hdo m0 m1 m2 hn4 hb4 hcc HR HBL HBr HM HZ
        go_wp2_with (with_reducible refine stop_at (o := ⟨some 24, _, _, _, _, _⟩) ?_)
        have hn9 : ∀ (j : Nat) u, ([.int .i64 (d : Int)] : List Value)[j]? = some u → (w4.alloc (.cells #[.int .i64 (d : Int)] 3)).cell? ((⟨w4.heap.size, 0, none⟩ : Addr).add j) = some u := World.news_of_block (cs := #[.int .i64 (d : Int)]) (heap_alloc_last w4 _)
        have hpl := HPL.out
        refine wpList_append_lies _ rfl _ _ 24 rfl B 3 ii _ 1 8 Tryd.underlying24 hj0 hj1 hj2 hj3 rfl (by decide) u7 pre.length (numCells pre) rfl (HR4.out.alloc _) ⟨w4.heap.size, 0, none⟩ 1 1 [.int .i64 (d : Int)] rfl rfl hn9 (fun u hu => by rw [List.mem_singleton.1 hu]; rfl) (by decide) (by unfold maxLen; omega) (by omega) (by have := HBs.out; simp; omega) (w4.heap.size + 1) (by simp) ?_
        intro g capr w6 hown hgrow _ _
        have HR6 : Hid (w6.ownsRow B 3 1 (.slice (some ⟨g, 0, none⟩) (pre.length + 1) capr) (pre ++ [d]).length (numCells (pre ++ [d]))) := Lib.hid (by
          rw [List.length_append, List.length_singleton]
          unfold numCells at hown ⊢
          rw [List.map_append]
          exact hown)
        have HB6 : Hid (Below B w1 w6) := Lib.hid (by
          have h0 := HB4.out.alloc HBs.out (.cells #[.int .i64 (d : Int)] 3)
          exact h0.grown hgrow (by have := HBs.out; simp; omega) (fun t e => (HR4.out.lt t e).1))
        have HW6 : Hid (way = (pre ++ [d]) ++ wayM dn (64 - (k + 1)) (d : Int)) := Lib.hid (by
          rw [HWAY.out, show 64 - k = (64 - (k + 1)) + 1 by omega, wayM_cons HL.out.symm, List.append_assoc]
          rfl)
        clear hown hgrow hn9 HR4 HB4 HBs hcc'
        go_wp2_with fail
        go_roundw
        case rel => exact ⟨k + 1, (d : Int), pre ++ [d], by go_num, rfl, hk64, by rw [List.length_append, hpl]; rfl, HW6.out, by have h9 := HR6.out; rw [hpl] at h9; exact h9, HB6.out⟩
        case measure => simp [intOf]; omega
    · obtain rfl : k = 64 := by have := HK.out; omega
      have HE := Lib.hid (HEND.out pre (by rw [HWAY.out]; simp [wayM]) u7 rfl rfl rfl)
      go_wp2_with fail
      go_ret
      exact HE.out
end Go.Proofs.YtiffgmgefpoblaaDoor
