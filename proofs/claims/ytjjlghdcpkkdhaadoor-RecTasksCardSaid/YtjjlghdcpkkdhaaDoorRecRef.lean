/-
  The document's own functions of layer 12: which things are right, their bytes. Conditions: none beyond the premises of each theorem.
-/
import Derived.Test.YtjjlghdcpkkdhaaDoorRecAwake
import Derived.Laws.BytesArg
namespace Go.Proofs.YtjjlghdcpkkdhaaDoor
open Go.RowKit

theorem nums_text {w : World} {b n cap : Nat} {l : List UInt8} (h : Nums w .u8 (some ⟨b, 0, none⟩) (l.map fun c => (c.toNat : Int))) (hn : l.length = n) :
    (convert 68 9 (.slice (some ⟨b, 0, none⟩) n cap)).run Tryd.prog w = .ok (.string ⟨l.toArray⟩) w := by
  have e := run_convert_bytes_arg (P := Tryd.prog) w 68 5 Tryd.underlying68 Tryd.underlying5 b 0 n cap (l.map fun c => (c.toNat : Int)) (by simp [hn])
    (fun i hi => by
      have hi' : i < l.length := by omega
      obtain ⟨A, hA, hc⟩ := h.at_ (i := i) (z := (l[i].toNat : Int)) (by simp [hi'])
      obtain rfl := Option.some.inj hA
      rw [Addr.add_mid] at hc
      rw [hc]
      simp [List.getD, hi']) 9 Tryd.underlying9
  rw [e]
  have e2 : (strOfNums (l.map fun c => (c.toNat : Int))) = ⟨l.toArray⟩ := by
    unfold strOfNums
    rw [List.map_map]
    have : (l.map ((fun n : Int => UInt8.ofNat n.toNat) ∘ fun c : UInt8 => (c.toNat : Int))) = l := by
      rw [List.map_congr_left (g := id) (fun c _ => by simp), List.map_id]
    rw [this]
  rw [e2]
theorem off_text {w : World} {b o n cap : Nat} {l : List Nat} (h : w.rangeAt b o (offCells l)) (hn : l.length = n) :
    (convert 68 9 (.slice (some ⟨b, o, none⟩) n cap)).run Tryd.prog w = .ok (.string ⟨(l.map UInt8.ofNat).toArray⟩) w := by
  have e := run_convert_bytes_arg (P := Tryd.prog) w 68 5 Tryd.underlying68 Tryd.underlying5 b o n cap (ints l) (by simp [ints, hn])
    (fun i hi => by
      have hi' : i < l.length := by omega
      rw [h i _ (offCells_at hi')]
      simp [ints, List.getD, hi']) 9 Tryd.underlying9
  rw [e]
  have e2 : (strOfNums (ints l)) = ⟨(l.map UInt8.ofNat).toArray⟩ := by
    unfold strOfNums ints
    rw [List.map_map]
    rfl
  rw [e2]
theorem Tryd.u8Info : (Tryd.prog.info? 5).map (·.size) = some 1 := by kernel_rfl
theorem Tryd.u8Zero : ((Tryd.prog.info? 5).bind (·.zero)).isSome = true := by kernel_rfl
theorem be_one (n : Nat) : be 1 n = [UInt8.ofNat n] := by simp [be]
theorem layT_bytes {x : Tas} (h : rightT x = true) : (layT x).map (fun c => (c.toNat : Int)) = [x.frm, x.to, x.state, 0, 0, 0, 0, 0, 0, 0, 0, 0] := by
  have h := of_decide_eq_true h
  obtain ⟨a, b, c⟩ := x
  obtain ⟨a, rfl⟩ : ∃ n : Nat, a = n := ⟨a.toNat, by simp at h; omega⟩
  obtain ⟨b, rfl⟩ : ∃ n : Nat, b = n := ⟨b.toNat, by simp at h; omega⟩
  obtain ⟨c, rfl⟩ : ∃ n : Nat, c = n := ⟨c.toNat, by simp at h; omega⟩
  have e4 : be 4 0 = [0, 0, 0, 0] := by decide
  have e1 : be 1 0 = [0] := by decide
  have e : layT ⟨a, b, c⟩ = be 1 a ++ (be 1 b ++ (be 1 c ++ (be 4 0 ++ (be 4 0 ++ (be 1 0 ++ []))))) := rfl
  rw [e, e4, e1, be_one, be_one, be_one]
  simp only at h
  simp
  omega
set_option maxRecDepth 100000 in
theorem RefLayTask_any (x : Tas) (hr : rightT x = true) (w : World) : Calls Tryd.prog 21 #[tasV x] w fun e w' => e = .returned (.string ⟨(layT x).toArray⟩) ∧ Below w.heap.size w w' := by
  have HLT := Lib.hid (layT_bytes hr)
  have h9 := of_decide_eq_true hr
  have m0 : x.frm % 256 = x.frm := by omega
  have m1 : x.to % 256 = x.to := by omega
  have m2 : x.state % 256 = x.state := by omega
  clear hr h9
  obtain ⟨b, HB⟩ : ∃ b, Hid (b = w.heap.size) := ⟨_, Lib.hid rfl⟩
  unfold tasV
  go_enter Tryd.func21, Tryd.ntmps21
  go_upto_region 1 with (fail)
  obtain ⟨w1, HW⟩ : ∃ w1, Hid (w1 = w.alloc (.cells #[.int .i64 x.frm, .int .i64 x.to, .int .i64 x.state] 37)) := ⟨_, Lib.hid rfl⟩
  rw [← HW.out, ← HB.out]
  have HO : Hid (TasAt w1 b x) := Lib.hid (by rw [HW.out, HB.out]; exact TasAt.new _)
  have HBL : Hid (Below w.heap.size w w1) := Lib.hid (by rw [HW.out]; exact (Below.refl _ _).alloc (Nat.le_refl _) _)
  clear HW
  obtain ⟨c0, c1, c2⟩ := HO.out
  go_wp2_with (with_reducible refine stop_at (o := ⟨some 12, _, _, _, _, _⟩) ?_)
  refine wpList_nums rfl 68 5 .u8 12 _ rfl [x.frm, x.to, x.state, 0, 0, 0, 0, 0, 0, 0, 0, 0] Tryd.underlying68 Tryd.u8Info Tryd.u8Zero rfl (by decide) (by decide) rfl ?_
  intro w2 B2 HE2 HN2 HB2
  rw [← HLT.out] at HN2
  have hcv := nums_text (cap := 12) (n := 12) HN2.out (layT_length x)
  have HB3 := Lib.hid (HBL.out.trans (HB2.out.mono HBL.out.size))
  clear c0 c1 c2
  go_wp2_with fail
  go_ret
  exact ⟨rfl, HB3.out⟩
theorem layR_bytes (a b c d e f g : Nat) : layR ⟨a, b, c, (d : Int) - 1, e, f, (g : Int) - 32768⟩ = [UInt8.ofNat a, UInt8.ofNat b, UInt8.ofNat c, UInt8.ofNat d] ++ be 3 e ++ be 3 f ++ be 2 g := by
  have h1 : ((d : Int) - 1 + 1).toNat = d := by omega
  have h2 : ((g : Int) - 32768 + 32768).toNat = g := by omega
  have e0 : layR ⟨a, b, c, (d : Int) - 1, e, f, (g : Int) - 32768⟩ = be 1 a ++ (be 1 b ++ (be 1 c ++ (be 1 ((d : Int) - 1 + 1).toNat ++ (be 3 e ++ (be 3 f ++ (be 2 ((g : Int) - 32768 + 32768).toNat ++ [])))))) := rfl
  rw [e0, h1, h2, be_one, be_one, be_one, be_one]
  simp
set_option maxRecDepth 100000 in
set_option maxHeartbeats 4000000 in
theorem RefLayRobot_at (a b c d e f g : Nat) (ha : a < 256) (hb : b < 256) (hc : c < 256) (hd : d < 256) (he : e < 4294967296) (hf : f < 4294967296) (hg : g < 4294967296) (w : World) :
    Calls Tryd.prog 14 #[robV ⟨a, b, c, (d : Int) - 1, e, f, (g : Int) - 32768⟩] w fun e9 w' => e9 = .returned (.string ⟨(layR ⟨a, b, c, (d : Int) - 1, e, f, (g : Int) - 32768⟩).toArray⟩) ∧ Below w.heap.size w w' := by
  have HLe := Lib.hid he
  have HLf := Lib.hid hf
  have HLg := Lib.hid hg
  have ma : IntKind.u8.wrap (a : Int) = (a : Int) := by rw [IntKind.wrap_u8]; omega
  have mb : IntKind.u8.wrap (b : Int) = (b : Int) := by rw [IntKind.wrap_u8]; omega
  have mc : IntKind.u8.wrap (c : Int) = (c : Int) := by rw [IntKind.wrap_u8]; omega
  have md : IntKind.u8.wrap (d : Int) = (d : Int) := by rw [IntKind.wrap_u8]; omega
  have nd : IntKind.i64.wrap (d : Int) = (d : Int) := by rw [IntKind.wrap_i64]; omega
  have ng : IntKind.i64.wrap (g : Int) = (g : Int) := by rw [IntKind.wrap_i64]; omega
  have HTX : Hid (∀ (wx : World) (B6 : Nat), Nums wx .u8 (some ⟨B6, 0, none⟩) [(a : Int), (b : Int), (c : Int), (d : Int)] → (convert 68 9 (.slice (some ⟨B6, 0, none⟩) 4 4)).run Tryd.prog wx = .ok (.string ⟨[UInt8.ofNat a, UInt8.ofNat b, UInt8.ofNat c, UInt8.ofNat d].toArray⟩) wx) := Lib.hid fun wx B6 h => nums_text (l := [UInt8.ofNat a, UInt8.ofNat b, UInt8.ofNat c, UInt8.ofNat d]) (by
    have e1 : ([UInt8.ofNat a, UInt8.ofNat b, UInt8.ofNat c, UInt8.ofNat d].map fun c => (c.toNat : Int)) = [(a : Int), (b : Int), (c : Int), (d : Int)] := by
      simp
      omega
    rw [e1]
    exact h) rfl
  obtain ⟨s0, HS0⟩ : ∃ s : ByteArray, Hid (s = ⟨[UInt8.ofNat a, UInt8.ofNat b, UInt8.ofNat c, UInt8.ofNat d].toArray⟩) := ⟨_, Lib.hid rfl⟩
  obtain ⟨p1, HP1⟩ : ∃ s : ByteArray, Hid (s = ⟨(be 3 e).toArray⟩) := ⟨_, Lib.hid rfl⟩
  obtain ⟨p2, HP2⟩ : ∃ s : ByteArray, Hid (s = ⟨(be 3 f).toArray⟩) := ⟨_, Lib.hid rfl⟩
  obtain ⟨p3, HP3⟩ : ∃ s : ByteArray, Hid (s = ⟨(be 2 g).toArray⟩) := ⟨_, Lib.hid rfl⟩
  have z0 : s0.size = 4 := by rw [HS0.out]; rfl
  have z1 : p1.size = 3 := by rw [HP1.out]; exact be_length 3 e
  have z2 : p2.size = 3 := by rw [HP2.out]; exact be_length 3 f
  have z3 : p3.size = 2 := by rw [HP3.out]; exact be_length 2 g
  have hc1 : ∀ w, (Op.stringOp .add s0 p1).run Tryd.prog w = .ok (.string (s0 ++ p1)) w := fun w => run_string_add_sum w _ _ (by omega)
  have hc2 : ∀ w, (Op.stringOp .add (s0 ++ p1) p2).run Tryd.prog w = .ok (.string ((s0 ++ p1) ++ p2)) w := fun w => run_string_add_sum w _ _ (by rw [ByteArray.size_append]; omega)
  have hc3 : ∀ w, (Op.stringOp .add ((s0 ++ p1) ++ p2) p3).run Tryd.prog w = .ok (.string (((s0 ++ p1) ++ p2) ++ p3)) w := fun w => run_string_add_sum w _ _ (by rw [ByteArray.size_append, ByteArray.size_append]; omega)
  have HEND : Hid ((.returned (.string (((s0 ++ p1) ++ p2) ++ p3)) : Ending) = .returned (.string ⟨(layR ⟨a, b, c, (d : Int) - 1, e, f, (g : Int) - 32768⟩).toArray⟩)) := Lib.hid (by
    have e1 : ((s0 ++ p1) ++ p2) ++ p3 = ⟨(layR ⟨a, b, c, (d : Int) - 1, e, f, (g : Int) - 32768⟩).toArray⟩ := by
      apply ByteArray.ext
      apply Array.toList_inj.1
      rw [layR_bytes, HS0.out, HP1.out, HP2.out, HP3.out]
      simp
    rw [e1])
  rw [← HS0.out] at HTX
  clear z0 z1 z2 z3 ha hb hc hd he hf hg HS0
  obtain ⟨x0, HX0⟩ : ∃ x0 : Rob, Hid (x0 = ⟨a, b, c, (d : Int) - 1, e, f, (g : Int) - 32768⟩) := ⟨_, Lib.hid rfl⟩
  obtain ⟨bb, HBB⟩ : ∃ b, Hid (b = w.heap.size) := ⟨_, Lib.hid rfl⟩
  unfold robV
  go_enter Tryd.func14, Tryd.ntmps14
  go_upto_region 1 with (fail)
  obtain ⟨w1, HW⟩ : ∃ w1, Hid (w1 = w.alloc (.cells #[.int .i64 (a : Int), .int .i64 (b : Int), .int .i64 (c : Int), .int .i64 ((d : Int) - 1), .int .i64 (e : Int), .int .i64 (f : Int), .int .i64 ((g : Int) - 32768)] 23)) := ⟨_, Lib.hid rfl⟩
  rw [← HW.out, ← HBB.out]
  obtain rfl := HX0.out
  refine wp_region_held (S := fun wr => RobAt wr bb ⟨a, b, c, (d : Int) - 1, e, f, (g : Int) - 32768⟩ ∧ Below w.heap.size w wr) (by kernel_rfl) ?_
  change wpAnyH _ _ _ _ _ _ _ _ w1.drew
  obtain ⟨wa, HWA⟩ : ∃ wa, Hid (wa = w1.drew) := ⟨_, Lib.hid rfl⟩
  rw [← HWA.out]
  have hS : RobAt wa bb ⟨a, b, c, (d : Int) - 1, e, f, (g : Int) - 32768⟩ ∧ Below w.heap.size w wa := by
    rw [HWA.out, HW.out, HBB.out]
    exact ⟨(RobAt.new (x := ⟨a, b, c, (d : Int) - 1, e, f, (g : Int) - 32768⟩) _).drewN 1, ((Below.refl _ _).alloc (Nat.le_refl _) _).drew⟩
  clear HW HWA HBB
  refine takeH (i := 0) 3 (v := .pointer (some ⟨bb, 0, none⟩)) rfl (by kernel_rfl) (by kernel_rfl) (by kernel_rfl) rfl (fun _ _ _ h => h) (.inl ⟨by rfl, fun _ _ => by go_simp⟩) hS ?_
  simp only [Act.put, List.setIfInBounds_toArray, List.set_cons_zero, List.set_cons_succ]
  refine takeH (i := 1) 4 (v := .int .i64 (a : Int)) rfl (by kernel_rfl) (by kernel_rfl) (by kernel_rfl) rfl (fun _ _ _ h => h) (.inl ⟨by rfl, fun _ h => by have c0 := h.1.c0; go_simp⟩) hS ?_
  simp only [Act.put, List.setIfInBounds_toArray, List.set_cons_zero, List.set_cons_succ]
  refine takeH (i := 2) 5 (v := .int .u8 (a : Int)) rfl (by kernel_rfl) (by kernel_rfl) (by kernel_rfl) rfl (fun _ _ _ h => h) (.inl ⟨by rfl, fun _ _ => by go_simp⟩) hS ?_
  simp only [Act.put, List.setIfInBounds_toArray, List.set_cons_zero, List.set_cons_succ]
  refine takeH (i := 3) 6 (v := .pointer (some ⟨bb, 1, none⟩)) rfl (by kernel_rfl) (by kernel_rfl) (by kernel_rfl) rfl (fun _ _ _ h => h) (.inl ⟨by rfl, fun _ _ => by go_simp⟩) hS ?_
  simp only [Act.put, List.setIfInBounds_toArray, List.set_cons_zero, List.set_cons_succ]
  refine takeH (i := 4) 7 (v := .int .i64 (b : Int)) rfl (by kernel_rfl) (by kernel_rfl) (by kernel_rfl) rfl (fun _ _ _ h => h) (.inl ⟨by rfl, fun _ h => by have c0 := h.1.c1; go_simp⟩) hS ?_
  simp only [Act.put, List.setIfInBounds_toArray, List.set_cons_zero, List.set_cons_succ]
  refine takeH (i := 5) 8 (v := .int .u8 (b : Int)) rfl (by kernel_rfl) (by kernel_rfl) (by kernel_rfl) rfl (fun _ _ _ h => h) (.inl ⟨by rfl, fun _ _ => by go_simp⟩) hS ?_
  simp only [Act.put, List.setIfInBounds_toArray, List.set_cons_zero, List.set_cons_succ]
  refine takeH (i := 6) 9 (v := .pointer (some ⟨bb, 2, none⟩)) rfl (by kernel_rfl) (by kernel_rfl) (by kernel_rfl) rfl (fun _ _ _ h => h) (.inl ⟨by rfl, fun _ _ => by go_simp⟩) hS ?_
  simp only [Act.put, List.setIfInBounds_toArray, List.set_cons_zero, List.set_cons_succ]
  refine takeH (i := 7) 10 (v := .int .i64 (c : Int)) rfl (by kernel_rfl) (by kernel_rfl) (by kernel_rfl) rfl (fun _ _ _ h => h) (.inl ⟨by rfl, fun _ h => by have c0 := h.1.c2; go_simp⟩) hS ?_
  simp only [Act.put, List.setIfInBounds_toArray, List.set_cons_zero, List.set_cons_succ]
  refine takeH (i := 8) 11 (v := .int .u8 (c : Int)) rfl (by kernel_rfl) (by kernel_rfl) (by kernel_rfl) rfl (fun _ _ _ h => h) (.inl ⟨by rfl, fun _ _ => by go_simp⟩) hS ?_
  simp only [Act.put, List.setIfInBounds_toArray, List.set_cons_zero, List.set_cons_succ]
  refine takeH (i := 9) 12 (v := .pointer (some ⟨bb, 3, none⟩)) rfl (by kernel_rfl) (by kernel_rfl) (by kernel_rfl) rfl (fun _ _ _ h => h) (.inl ⟨by rfl, fun _ _ => by go_simp⟩) hS ?_
  simp only [Act.put, List.setIfInBounds_toArray, List.set_cons_zero, List.set_cons_succ]
  refine takeH (i := 10) 13 (v := .int .i64 ((d : Int) - 1)) rfl (by kernel_rfl) (by kernel_rfl) (by kernel_rfl) rfl (fun _ _ _ h => h) (.inl ⟨by rfl, fun _ h => by have c0 := h.1.c3; go_simp⟩) hS ?_
  simp only [Act.put, List.setIfInBounds_toArray, List.set_cons_zero, List.set_cons_succ]
  refine takeH (i := 11) 14 (v := .int .i64 (d : Int)) rfl (by kernel_rfl) (by kernel_rfl) (by kernel_rfl) rfl (fun _ _ _ h => h) (.inl ⟨by rfl, fun _ _ => by go_simp⟩) hS ?_
  simp only [Act.put, List.setIfInBounds_toArray, List.set_cons_zero, List.set_cons_succ]
  refine takeH (i := 12) 15 (v := .int .u8 (d : Int)) rfl (by kernel_rfl) (by kernel_rfl) (by kernel_rfl) rfl (fun _ _ _ h => h) (.inl ⟨by rfl, fun _ _ => by go_simp⟩) hS ?_
  simp only [Act.put, List.setIfInBounds_toArray, List.set_cons_zero, List.set_cons_succ]
  refine takeH (i := 15) 18 (v := .pointer (some ⟨bb, 4, none⟩)) rfl (by kernel_rfl) (by kernel_rfl) (by kernel_rfl) rfl (fun _ _ _ h => h) (.inl ⟨by rfl, fun _ _ => by go_simp⟩) hS ?_
  simp only [Act.put, List.setIfInBounds_toArray, List.set_cons_zero, List.set_cons_succ]
  refine takeH (i := 16) 19 (v := .int .i64 (e : Int)) rfl (by kernel_rfl) (by kernel_rfl) (by kernel_rfl) rfl (fun _ _ _ h => h) (.inl ⟨by rfl, fun _ h => by have c0 := h.1.c4; go_simp⟩) hS ?_
  simp only [Act.put, List.setIfInBounds_toArray, List.set_cons_zero, List.set_cons_succ]
  refine takeH (i := 19) 22 (v := .pointer (some ⟨bb, 5, none⟩)) rfl (by kernel_rfl) (by kernel_rfl) (by kernel_rfl) rfl (fun _ _ _ h => h) (.inl ⟨by rfl, fun _ _ => by go_simp⟩) hS ?_
  simp only [Act.put, List.setIfInBounds_toArray, List.set_cons_zero, List.set_cons_succ]
  refine takeH (i := 20) 23 (v := .int .i64 (f : Int)) rfl (by kernel_rfl) (by kernel_rfl) (by kernel_rfl) rfl (fun _ _ _ h => h) (.inl ⟨by rfl, fun _ h => by have c0 := h.1.c5; go_simp⟩) hS ?_
  simp only [Act.put, List.setIfInBounds_toArray, List.set_cons_zero, List.set_cons_succ]
  refine takeH (i := 23) 26 (v := .pointer (some ⟨bb, 6, none⟩)) rfl (by kernel_rfl) (by kernel_rfl) (by kernel_rfl) rfl (fun _ _ _ h => h) (.inl ⟨by rfl, fun _ _ => by go_simp⟩) hS ?_
  simp only [Act.put, List.setIfInBounds_toArray, List.set_cons_zero, List.set_cons_succ]
  refine takeH (i := 24) 27 (v := .int .i64 ((g : Int) - 32768)) rfl (by kernel_rfl) (by kernel_rfl) (by kernel_rfl) rfl (fun _ _ _ h => h) (.inl ⟨by rfl, fun _ h => by have c0 := h.1.c6; go_simp⟩) hS ?_
  simp only [Act.put, List.setIfInBounds_toArray, List.set_cons_zero, List.set_cons_succ]
  refine takeH (i := 25) 28 (v := .int .i64 (g : Int)) rfl (by kernel_rfl) (by kernel_rfl) (by kernel_rfl) rfl (fun _ _ _ h => h) (.inl ⟨by rfl, fun _ _ => by go_simp⟩) hS ?_
  simp only [Act.put, List.setIfInBounds_toArray, List.set_cons_zero, List.set_cons_succ]
  refine twoH (i := 13) (j := 17) (oi := ⟨some 16, _, _, _, _, _⟩) (oj := ⟨some 20, _, _, _, _, _⟩) rfl rfl (by kernel_rfl) (fun K0 hK => ?_) (fun K0 hK => ?_)
  · rw [if_pos (by rfl)]
    refine wp_nums 68 5 .u8 4 _ rfl [(a : Int), (b : Int), (c : Int), (d : Int)] Tryd.underlying68 Tryd.u8Info Tryd.u8Zero rfl (by decide) (by decide) rfl ?_
    intro w1x B6 HE6 HN6 HB6
    have hb := HB6.out
    have hS2 : RobAt w1x bb ⟨a, b, c, (d : Int) - 1, e, f, (g : Int) - 32768⟩ ∧ Below w.heap.size w w1x := ⟨hS.1.carry hb, hS.2.trans (hb.mono hS.2.size)⟩
    clear HE6 HB6
    clear hb hS
    refine hK.out _ _ hS2 ?_
    clear hK K0
    have hS := hS2
    clear hS2
    try simp only [Act.put, List.setIfInBounds_toArray, List.set_cons_zero, List.set_cons_succ]
    refine twoH (i := 14) (j := 17) (oi := ⟨some 17, _, _, _, _, _⟩) (oj := ⟨some 20, _, _, _, _, _⟩) rfl rfl (by kernel_rfl) (fun K0 hK => ?_) (fun K0 hK => ?_)
    · have hcv := HTX.out _ _ HN6.out
      go_simp
      have hb : Below w1x.heap.size w1x w1x := Below.refl _ _
      have hS2 := hS
      clear hcv
      clear hb hS
      refine hK.out _ _ hS2 ?_
      clear hK K0
      have hS := hS2
      clear hS2
      try simp only [Act.put, List.setIfInBounds_toArray, List.set_cons_zero, List.set_cons_succ]
      refine oneH (i := 17) (oi := ⟨some 20, _, _, _, _, _⟩) rfl (by kernel_rfl) (fun K0 hK => ?_)
      go_simp
      refine (RefPut_nat 3 e _ (by decide) HLe.out).mono ?_
      rw [← HP1.out]
      rintro e0 w2x ⟨rfl, hb⟩
      have hS2 : RobAt w2x bb ⟨a, b, c, (d : Int) - 1, e, f, (g : Int) - 32768⟩ ∧ Below w.heap.size w w2x := ⟨hS.1.carry hb, hS.2.trans (hb.mono hS.2.size)⟩
      replace HN6 := Lib.hid (HN6.out.carry hb)
      clear hb hS
      refine hK.out _ _ hS2 ?_
      clear hK K0
      have hS := hS2
      clear hS2
      try simp only [Act.put, List.setIfInBounds_toArray, List.set_cons_zero, List.set_cons_succ]
      refine takeH (i := 18) 21 (v := .string (s0 ++ p1)) rfl (by kernel_rfl) (by kernel_rfl) (by kernel_rfl) rfl (fun _ _ _ h => h) (.inl ⟨by rfl, fun _ _ => by go_simp⟩) hS ?_
      simp only [Act.put, List.setIfInBounds_toArray, List.set_cons_zero, List.set_cons_succ]
      refine oneH (i := 21) (oi := ⟨some 24, _, _, _, _, _⟩) rfl (by kernel_rfl) (fun K0 hK => ?_)
      go_simp
      refine (RefPut_nat 3 f _ (by decide) HLf.out).mono ?_
      rw [← HP2.out]
      rintro e0 w3x ⟨rfl, hb⟩
      have hS2 : RobAt w3x bb ⟨a, b, c, (d : Int) - 1, e, f, (g : Int) - 32768⟩ ∧ Below w.heap.size w w3x := ⟨hS.1.carry hb, hS.2.trans (hb.mono hS.2.size)⟩
      replace HN6 := Lib.hid (HN6.out.carry hb)
      clear hb hS
      refine hK.out _ _ hS2 ?_
      clear hK K0
      have hS := hS2
      clear hS2
      try simp only [Act.put, List.setIfInBounds_toArray, List.set_cons_zero, List.set_cons_succ]
      refine takeH (i := 22) 25 (v := .string ((s0 ++ p1) ++ p2)) rfl (by kernel_rfl) (by kernel_rfl) (by kernel_rfl) rfl (fun _ _ _ h => h) (.inl ⟨by rfl, fun _ _ => by go_simp⟩) hS ?_
      simp only [Act.put, List.setIfInBounds_toArray, List.set_cons_zero, List.set_cons_succ]
      refine oneH (i := 26) (oi := ⟨some 29, _, _, _, _, _⟩) rfl (by kernel_rfl) (fun K0 hK => ?_)
      go_simp
      refine (RefPut_nat 2 g _ (by decide) HLg.out).mono ?_
      rw [← HP3.out]
      rintro e0 w4x ⟨rfl, hb⟩
      have hS2 : RobAt w4x bb ⟨a, b, c, (d : Int) - 1, e, f, (g : Int) - 32768⟩ ∧ Below w.heap.size w w4x := ⟨hS.1.carry hb, hS.2.trans (hb.mono hS.2.size)⟩
      replace HN6 := Lib.hid (HN6.out.carry hb)
      clear hb hS
      refine hK.out _ _ hS2 ?_
      clear hK K0
      have hS := hS2
      clear hS2
      try simp only [Act.put, List.setIfInBounds_toArray, List.set_cons_zero, List.set_cons_succ]
      refine takeH (i := 27) 30 (v := .string (((s0 ++ p1) ++ p2) ++ p3)) rfl (by kernel_rfl) (by kernel_rfl) (by kernel_rfl) rfl (fun _ _ _ h => h) (.inl ⟨by rfl, fun _ _ => by go_simp⟩) hS ?_
      simp only [Act.put, List.setIfInBounds_toArray, List.set_cons_zero, List.set_cons_succ]
      refine takeH (i := 28) 2 (v := .string (((s0 ++ p1) ++ p2) ++ p3)) rfl (by kernel_rfl) (by kernel_rfl) (by kernel_rfl) rfl (fun _ _ _ h => h) (.inl ⟨by rfl, fun _ _ => by go_simp⟩) hS ?_
      simp only [Act.put, List.setIfInBounds_toArray, List.set_cons_zero, List.set_cons_succ]
      refine wpAnyH_done (by kernel_rfl) ?_ _
      go_wp2_with fail
      go_ret
      exact ⟨HEND.out, hS.2⟩
    · go_simp
      refine (RefPut_nat 3 e _ (by decide) HLe.out).mono ?_
      rw [← HP1.out]
      rintro e0 w5x ⟨rfl, hb⟩
      have hS2 : RobAt w5x bb ⟨a, b, c, (d : Int) - 1, e, f, (g : Int) - 32768⟩ ∧ Below w.heap.size w w5x := ⟨hS.1.carry hb, hS.2.trans (hb.mono hS.2.size)⟩
      replace HN6 := Lib.hid (HN6.out.carry hb)
      clear hb hS
      refine hK.out _ _ hS2 ?_
      clear hK K0
      have hS := hS2
      clear hS2
      try simp only [Act.put, List.setIfInBounds_toArray, List.set_cons_zero, List.set_cons_succ]
      refine twoH (i := 14) (j := 21) (oi := ⟨some 17, _, _, _, _, _⟩) (oj := ⟨some 24, _, _, _, _, _⟩) rfl rfl (by kernel_rfl) (fun K0 hK => ?_) (fun K0 hK => ?_)
      · have hcv := HTX.out _ _ HN6.out
        go_simp
        have hb : Below w5x.heap.size w5x w5x := Below.refl _ _
        have hS2 := hS
        clear hcv
        clear hb hS
        refine hK.out _ _ hS2 ?_
        clear hK K0
        have hS := hS2
        clear hS2
        try simp only [Act.put, List.setIfInBounds_toArray, List.set_cons_zero, List.set_cons_succ]
        refine takeH (i := 18) 21 (v := .string (s0 ++ p1)) rfl (by kernel_rfl) (by kernel_rfl) (by kernel_rfl) rfl (fun _ _ _ h => h) (.inl ⟨by rfl, fun _ _ => by go_simp⟩) hS ?_
        simp only [Act.put, List.setIfInBounds_toArray, List.set_cons_zero, List.set_cons_succ]
        refine oneH (i := 21) (oi := ⟨some 24, _, _, _, _, _⟩) rfl (by kernel_rfl) (fun K0 hK => ?_)
        go_simp
        refine (RefPut_nat 3 f _ (by decide) HLf.out).mono ?_
        rw [← HP2.out]
        rintro e0 w6x ⟨rfl, hb⟩
        have hS2 : RobAt w6x bb ⟨a, b, c, (d : Int) - 1, e, f, (g : Int) - 32768⟩ ∧ Below w.heap.size w w6x := ⟨hS.1.carry hb, hS.2.trans (hb.mono hS.2.size)⟩
        replace HN6 := Lib.hid (HN6.out.carry hb)
        clear hb hS
        refine hK.out _ _ hS2 ?_
        clear hK K0
        have hS := hS2
        clear hS2
        try simp only [Act.put, List.setIfInBounds_toArray, List.set_cons_zero, List.set_cons_succ]
        refine takeH (i := 22) 25 (v := .string ((s0 ++ p1) ++ p2)) rfl (by kernel_rfl) (by kernel_rfl) (by kernel_rfl) rfl (fun _ _ _ h => h) (.inl ⟨by rfl, fun _ _ => by go_simp⟩) hS ?_
        simp only [Act.put, List.setIfInBounds_toArray, List.set_cons_zero, List.set_cons_succ]
        refine oneH (i := 26) (oi := ⟨some 29, _, _, _, _, _⟩) rfl (by kernel_rfl) (fun K0 hK => ?_)
        go_simp
        refine (RefPut_nat 2 g _ (by decide) HLg.out).mono ?_
        rw [← HP3.out]
        rintro e0 w7x ⟨rfl, hb⟩
        have hS2 : RobAt w7x bb ⟨a, b, c, (d : Int) - 1, e, f, (g : Int) - 32768⟩ ∧ Below w.heap.size w w7x := ⟨hS.1.carry hb, hS.2.trans (hb.mono hS.2.size)⟩
        replace HN6 := Lib.hid (HN6.out.carry hb)
        clear hb hS
        refine hK.out _ _ hS2 ?_
        clear hK K0
        have hS := hS2
        clear hS2
        try simp only [Act.put, List.setIfInBounds_toArray, List.set_cons_zero, List.set_cons_succ]
        refine takeH (i := 27) 30 (v := .string (((s0 ++ p1) ++ p2) ++ p3)) rfl (by kernel_rfl) (by kernel_rfl) (by kernel_rfl) rfl (fun _ _ _ h => h) (.inl ⟨by rfl, fun _ _ => by go_simp⟩) hS ?_
        simp only [Act.put, List.setIfInBounds_toArray, List.set_cons_zero, List.set_cons_succ]
        refine takeH (i := 28) 2 (v := .string (((s0 ++ p1) ++ p2) ++ p3)) rfl (by kernel_rfl) (by kernel_rfl) (by kernel_rfl) rfl (fun _ _ _ h => h) (.inl ⟨by rfl, fun _ _ => by go_simp⟩) hS ?_
        simp only [Act.put, List.setIfInBounds_toArray, List.set_cons_zero, List.set_cons_succ]
        refine wpAnyH_done (by kernel_rfl) ?_ _
        go_wp2_with fail
        go_ret
        exact ⟨HEND.out, hS.2⟩
      · go_simp
        refine (RefPut_nat 3 f _ (by decide) HLf.out).mono ?_
        rw [← HP2.out]
        rintro e0 w8x ⟨rfl, hb⟩
        have hS2 : RobAt w8x bb ⟨a, b, c, (d : Int) - 1, e, f, (g : Int) - 32768⟩ ∧ Below w.heap.size w w8x := ⟨hS.1.carry hb, hS.2.trans (hb.mono hS.2.size)⟩
        replace HN6 := Lib.hid (HN6.out.carry hb)
        clear hb hS
        refine hK.out _ _ hS2 ?_
        clear hK K0
        have hS := hS2
        clear hS2
        try simp only [Act.put, List.setIfInBounds_toArray, List.set_cons_zero, List.set_cons_succ]
        refine twoH (i := 14) (j := 26) (oi := ⟨some 17, _, _, _, _, _⟩) (oj := ⟨some 29, _, _, _, _, _⟩) rfl rfl (by kernel_rfl) (fun K0 hK => ?_) (fun K0 hK => ?_)
        · have hcv := HTX.out _ _ HN6.out
          go_simp
          have hb : Below w8x.heap.size w8x w8x := Below.refl _ _
          have hS2 := hS
          clear hcv
          clear hb hS
          refine hK.out _ _ hS2 ?_
          clear hK K0
          have hS := hS2
          clear hS2
          try simp only [Act.put, List.setIfInBounds_toArray, List.set_cons_zero, List.set_cons_succ]
          refine takeH (i := 18) 21 (v := .string (s0 ++ p1)) rfl (by kernel_rfl) (by kernel_rfl) (by kernel_rfl) rfl (fun _ _ _ h => h) (.inl ⟨by rfl, fun _ _ => by go_simp⟩) hS ?_
          simp only [Act.put, List.setIfInBounds_toArray, List.set_cons_zero, List.set_cons_succ]
          refine takeH (i := 22) 25 (v := .string ((s0 ++ p1) ++ p2)) rfl (by kernel_rfl) (by kernel_rfl) (by kernel_rfl) rfl (fun _ _ _ h => h) (.inl ⟨by rfl, fun _ _ => by go_simp⟩) hS ?_
          simp only [Act.put, List.setIfInBounds_toArray, List.set_cons_zero, List.set_cons_succ]
          refine oneH (i := 26) (oi := ⟨some 29, _, _, _, _, _⟩) rfl (by kernel_rfl) (fun K0 hK => ?_)
          go_simp
          refine (RefPut_nat 2 g _ (by decide) HLg.out).mono ?_
          rw [← HP3.out]
          rintro e0 w9x ⟨rfl, hb⟩
          have hS2 : RobAt w9x bb ⟨a, b, c, (d : Int) - 1, e, f, (g : Int) - 32768⟩ ∧ Below w.heap.size w w9x := ⟨hS.1.carry hb, hS.2.trans (hb.mono hS.2.size)⟩
          replace HN6 := Lib.hid (HN6.out.carry hb)
          clear hb hS
          refine hK.out _ _ hS2 ?_
          clear hK K0
          have hS := hS2
          clear hS2
          try simp only [Act.put, List.setIfInBounds_toArray, List.set_cons_zero, List.set_cons_succ]
          refine takeH (i := 27) 30 (v := .string (((s0 ++ p1) ++ p2) ++ p3)) rfl (by kernel_rfl) (by kernel_rfl) (by kernel_rfl) rfl (fun _ _ _ h => h) (.inl ⟨by rfl, fun _ _ => by go_simp⟩) hS ?_
          simp only [Act.put, List.setIfInBounds_toArray, List.set_cons_zero, List.set_cons_succ]
          refine takeH (i := 28) 2 (v := .string (((s0 ++ p1) ++ p2) ++ p3)) rfl (by kernel_rfl) (by kernel_rfl) (by kernel_rfl) rfl (fun _ _ _ h => h) (.inl ⟨by rfl, fun _ _ => by go_simp⟩) hS ?_
          simp only [Act.put, List.setIfInBounds_toArray, List.set_cons_zero, List.set_cons_succ]
          refine wpAnyH_done (by kernel_rfl) ?_ _
          go_wp2_with fail
          go_ret
          exact ⟨HEND.out, hS.2⟩
        · go_simp
          refine (RefPut_nat 2 g _ (by decide) HLg.out).mono ?_
          rw [← HP3.out]
          rintro e0 w10x ⟨rfl, hb⟩
          have hS2 : RobAt w10x bb ⟨a, b, c, (d : Int) - 1, e, f, (g : Int) - 32768⟩ ∧ Below w.heap.size w w10x := ⟨hS.1.carry hb, hS.2.trans (hb.mono hS.2.size)⟩
          replace HN6 := Lib.hid (HN6.out.carry hb)
          clear hb hS
          refine hK.out _ _ hS2 ?_
          clear hK K0
          have hS := hS2
          clear hS2
          try simp only [Act.put, List.setIfInBounds_toArray, List.set_cons_zero, List.set_cons_succ]
          refine oneH (i := 14) (oi := ⟨some 17, _, _, _, _, _⟩) rfl (by kernel_rfl) (fun K0 hK => ?_)
          have hcv := HTX.out _ _ HN6.out
          go_simp
          have hb : Below w10x.heap.size w10x w10x := Below.refl _ _
          have hS2 := hS
          clear hcv
          clear hb hS
          refine hK.out _ _ hS2 ?_
          clear hK K0
          have hS := hS2
          clear hS2
          try simp only [Act.put, List.setIfInBounds_toArray, List.set_cons_zero, List.set_cons_succ]
          refine takeH (i := 18) 21 (v := .string (s0 ++ p1)) rfl (by kernel_rfl) (by kernel_rfl) (by kernel_rfl) rfl (fun _ _ _ h => h) (.inl ⟨by rfl, fun _ _ => by go_simp⟩) hS ?_
          simp only [Act.put, List.setIfInBounds_toArray, List.set_cons_zero, List.set_cons_succ]
          refine takeH (i := 22) 25 (v := .string ((s0 ++ p1) ++ p2)) rfl (by kernel_rfl) (by kernel_rfl) (by kernel_rfl) rfl (fun _ _ _ h => h) (.inl ⟨by rfl, fun _ _ => by go_simp⟩) hS ?_
          simp only [Act.put, List.setIfInBounds_toArray, List.set_cons_zero, List.set_cons_succ]
          refine takeH (i := 27) 30 (v := .string (((s0 ++ p1) ++ p2) ++ p3)) rfl (by kernel_rfl) (by kernel_rfl) (by kernel_rfl) rfl (fun _ _ _ h => h) (.inl ⟨by rfl, fun _ _ => by go_simp⟩) hS ?_
          simp only [Act.put, List.setIfInBounds_toArray, List.set_cons_zero, List.set_cons_succ]
          refine takeH (i := 28) 2 (v := .string (((s0 ++ p1) ++ p2) ++ p3)) rfl (by kernel_rfl) (by kernel_rfl) (by kernel_rfl) rfl (fun _ _ _ h => h) (.inl ⟨by rfl, fun _ _ => by go_simp⟩) hS ?_
          simp only [Act.put, List.setIfInBounds_toArray, List.set_cons_zero, List.set_cons_succ]
          refine wpAnyH_done (by kernel_rfl) ?_ _
          go_wp2_with fail
          go_ret
          exact ⟨HEND.out, hS.2⟩
  · go_simp
    refine (RefPut_nat 3 e _ (by decide) HLe.out).mono ?_
    rw [← HP1.out]
    rintro e0 w11x ⟨rfl, hb⟩
    have hS2 : RobAt w11x bb ⟨a, b, c, (d : Int) - 1, e, f, (g : Int) - 32768⟩ ∧ Below w.heap.size w w11x := ⟨hS.1.carry hb, hS.2.trans (hb.mono hS.2.size)⟩
    clear hb hS
    refine hK.out _ _ hS2 ?_
    clear hK K0
    have hS := hS2
    clear hS2
    try simp only [Act.put, List.setIfInBounds_toArray, List.set_cons_zero, List.set_cons_succ]
    refine twoH (i := 13) (j := 21) (oi := ⟨some 16, _, _, _, _, _⟩) (oj := ⟨some 24, _, _, _, _, _⟩) rfl rfl (by kernel_rfl) (fun K0 hK => ?_) (fun K0 hK => ?_)
    · rw [if_pos (by rfl)]
      refine wp_nums 68 5 .u8 4 _ rfl [(a : Int), (b : Int), (c : Int), (d : Int)] Tryd.underlying68 Tryd.u8Info Tryd.u8Zero rfl (by decide) (by decide) rfl ?_
      intro w12x B6 HE6 HN6 HB6
      have hb := HB6.out
      have hS2 : RobAt w12x bb ⟨a, b, c, (d : Int) - 1, e, f, (g : Int) - 32768⟩ ∧ Below w.heap.size w w12x := ⟨hS.1.carry hb, hS.2.trans (hb.mono hS.2.size)⟩
      clear HE6 HB6
      clear hb hS
      refine hK.out _ _ hS2 ?_
      clear hK K0
      have hS := hS2
      clear hS2
      try simp only [Act.put, List.setIfInBounds_toArray, List.set_cons_zero, List.set_cons_succ]
      refine twoH (i := 14) (j := 21) (oi := ⟨some 17, _, _, _, _, _⟩) (oj := ⟨some 24, _, _, _, _, _⟩) rfl rfl (by kernel_rfl) (fun K0 hK => ?_) (fun K0 hK => ?_)
      · have hcv := HTX.out _ _ HN6.out
        go_simp
        have hb : Below w12x.heap.size w12x w12x := Below.refl _ _
        have hS2 := hS
        clear hcv
        clear hb hS
        refine hK.out _ _ hS2 ?_
        clear hK K0
        have hS := hS2
        clear hS2
        try simp only [Act.put, List.setIfInBounds_toArray, List.set_cons_zero, List.set_cons_succ]
        refine takeH (i := 18) 21 (v := .string (s0 ++ p1)) rfl (by kernel_rfl) (by kernel_rfl) (by kernel_rfl) rfl (fun _ _ _ h => h) (.inl ⟨by rfl, fun _ _ => by go_simp⟩) hS ?_
        simp only [Act.put, List.setIfInBounds_toArray, List.set_cons_zero, List.set_cons_succ]
        refine oneH (i := 21) (oi := ⟨some 24, _, _, _, _, _⟩) rfl (by kernel_rfl) (fun K0 hK => ?_)
        go_simp
        refine (RefPut_nat 3 f _ (by decide) HLf.out).mono ?_
        rw [← HP2.out]
        rintro e0 w13x ⟨rfl, hb⟩
        have hS2 : RobAt w13x bb ⟨a, b, c, (d : Int) - 1, e, f, (g : Int) - 32768⟩ ∧ Below w.heap.size w w13x := ⟨hS.1.carry hb, hS.2.trans (hb.mono hS.2.size)⟩
        replace HN6 := Lib.hid (HN6.out.carry hb)
        clear hb hS
        refine hK.out _ _ hS2 ?_
        clear hK K0
        have hS := hS2
        clear hS2
        try simp only [Act.put, List.setIfInBounds_toArray, List.set_cons_zero, List.set_cons_succ]
        refine takeH (i := 22) 25 (v := .string ((s0 ++ p1) ++ p2)) rfl (by kernel_rfl) (by kernel_rfl) (by kernel_rfl) rfl (fun _ _ _ h => h) (.inl ⟨by rfl, fun _ _ => by go_simp⟩) hS ?_
        simp only [Act.put, List.setIfInBounds_toArray, List.set_cons_zero, List.set_cons_succ]
        refine oneH (i := 26) (oi := ⟨some 29, _, _, _, _, _⟩) rfl (by kernel_rfl) (fun K0 hK => ?_)
        go_simp
        refine (RefPut_nat 2 g _ (by decide) HLg.out).mono ?_
        rw [← HP3.out]
        rintro e0 w14x ⟨rfl, hb⟩
        have hS2 : RobAt w14x bb ⟨a, b, c, (d : Int) - 1, e, f, (g : Int) - 32768⟩ ∧ Below w.heap.size w w14x := ⟨hS.1.carry hb, hS.2.trans (hb.mono hS.2.size)⟩
        replace HN6 := Lib.hid (HN6.out.carry hb)
        clear hb hS
        refine hK.out _ _ hS2 ?_
        clear hK K0
        have hS := hS2
        clear hS2
        try simp only [Act.put, List.setIfInBounds_toArray, List.set_cons_zero, List.set_cons_succ]
        refine takeH (i := 27) 30 (v := .string (((s0 ++ p1) ++ p2) ++ p3)) rfl (by kernel_rfl) (by kernel_rfl) (by kernel_rfl) rfl (fun _ _ _ h => h) (.inl ⟨by rfl, fun _ _ => by go_simp⟩) hS ?_
        simp only [Act.put, List.setIfInBounds_toArray, List.set_cons_zero, List.set_cons_succ]
        refine takeH (i := 28) 2 (v := .string (((s0 ++ p1) ++ p2) ++ p3)) rfl (by kernel_rfl) (by kernel_rfl) (by kernel_rfl) rfl (fun _ _ _ h => h) (.inl ⟨by rfl, fun _ _ => by go_simp⟩) hS ?_
        simp only [Act.put, List.setIfInBounds_toArray, List.set_cons_zero, List.set_cons_succ]
        refine wpAnyH_done (by kernel_rfl) ?_ _
        go_wp2_with fail
        go_ret
        exact ⟨HEND.out, hS.2⟩
      · go_simp
        refine (RefPut_nat 3 f _ (by decide) HLf.out).mono ?_
        rw [← HP2.out]
        rintro e0 w15x ⟨rfl, hb⟩
        have hS2 : RobAt w15x bb ⟨a, b, c, (d : Int) - 1, e, f, (g : Int) - 32768⟩ ∧ Below w.heap.size w w15x := ⟨hS.1.carry hb, hS.2.trans (hb.mono hS.2.size)⟩
        replace HN6 := Lib.hid (HN6.out.carry hb)
        clear hb hS
        refine hK.out _ _ hS2 ?_
        clear hK K0
        have hS := hS2
        clear hS2
        try simp only [Act.put, List.setIfInBounds_toArray, List.set_cons_zero, List.set_cons_succ]
        refine twoH (i := 14) (j := 26) (oi := ⟨some 17, _, _, _, _, _⟩) (oj := ⟨some 29, _, _, _, _, _⟩) rfl rfl (by kernel_rfl) (fun K0 hK => ?_) (fun K0 hK => ?_)
        · have hcv := HTX.out _ _ HN6.out
          go_simp
          have hb : Below w15x.heap.size w15x w15x := Below.refl _ _
          have hS2 := hS
          clear hcv
          clear hb hS
          refine hK.out _ _ hS2 ?_
          clear hK K0
          have hS := hS2
          clear hS2
          try simp only [Act.put, List.setIfInBounds_toArray, List.set_cons_zero, List.set_cons_succ]
          refine takeH (i := 18) 21 (v := .string (s0 ++ p1)) rfl (by kernel_rfl) (by kernel_rfl) (by kernel_rfl) rfl (fun _ _ _ h => h) (.inl ⟨by rfl, fun _ _ => by go_simp⟩) hS ?_
          simp only [Act.put, List.setIfInBounds_toArray, List.set_cons_zero, List.set_cons_succ]
          refine takeH (i := 22) 25 (v := .string ((s0 ++ p1) ++ p2)) rfl (by kernel_rfl) (by kernel_rfl) (by kernel_rfl) rfl (fun _ _ _ h => h) (.inl ⟨by rfl, fun _ _ => by go_simp⟩) hS ?_
          simp only [Act.put, List.setIfInBounds_toArray, List.set_cons_zero, List.set_cons_succ]
          refine oneH (i := 26) (oi := ⟨some 29, _, _, _, _, _⟩) rfl (by kernel_rfl) (fun K0 hK => ?_)
          go_simp
          refine (RefPut_nat 2 g _ (by decide) HLg.out).mono ?_
          rw [← HP3.out]
          rintro e0 w16x ⟨rfl, hb⟩
          have hS2 : RobAt w16x bb ⟨a, b, c, (d : Int) - 1, e, f, (g : Int) - 32768⟩ ∧ Below w.heap.size w w16x := ⟨hS.1.carry hb, hS.2.trans (hb.mono hS.2.size)⟩
          replace HN6 := Lib.hid (HN6.out.carry hb)
          clear hb hS
          refine hK.out _ _ hS2 ?_
          clear hK K0
          have hS := hS2
          clear hS2
          try simp only [Act.put, List.setIfInBounds_toArray, List.set_cons_zero, List.set_cons_succ]
          refine takeH (i := 27) 30 (v := .string (((s0 ++ p1) ++ p2) ++ p3)) rfl (by kernel_rfl) (by kernel_rfl) (by kernel_rfl) rfl (fun _ _ _ h => h) (.inl ⟨by rfl, fun _ _ => by go_simp⟩) hS ?_
          simp only [Act.put, List.setIfInBounds_toArray, List.set_cons_zero, List.set_cons_succ]
          refine takeH (i := 28) 2 (v := .string (((s0 ++ p1) ++ p2) ++ p3)) rfl (by kernel_rfl) (by kernel_rfl) (by kernel_rfl) rfl (fun _ _ _ h => h) (.inl ⟨by rfl, fun _ _ => by go_simp⟩) hS ?_
          simp only [Act.put, List.setIfInBounds_toArray, List.set_cons_zero, List.set_cons_succ]
          refine wpAnyH_done (by kernel_rfl) ?_ _
          go_wp2_with fail
          go_ret
          exact ⟨HEND.out, hS.2⟩
        · go_simp
          refine (RefPut_nat 2 g _ (by decide) HLg.out).mono ?_
          rw [← HP3.out]
          rintro e0 w17x ⟨rfl, hb⟩
          have hS2 : RobAt w17x bb ⟨a, b, c, (d : Int) - 1, e, f, (g : Int) - 32768⟩ ∧ Below w.heap.size w w17x := ⟨hS.1.carry hb, hS.2.trans (hb.mono hS.2.size)⟩
          replace HN6 := Lib.hid (HN6.out.carry hb)
          clear hb hS
          refine hK.out _ _ hS2 ?_
          clear hK K0
          have hS := hS2
          clear hS2
          try simp only [Act.put, List.setIfInBounds_toArray, List.set_cons_zero, List.set_cons_succ]
          refine oneH (i := 14) (oi := ⟨some 17, _, _, _, _, _⟩) rfl (by kernel_rfl) (fun K0 hK => ?_)
          have hcv := HTX.out _ _ HN6.out
          go_simp
          have hb : Below w17x.heap.size w17x w17x := Below.refl _ _
          have hS2 := hS
          clear hcv
          clear hb hS
          refine hK.out _ _ hS2 ?_
          clear hK K0
          have hS := hS2
          clear hS2
          try simp only [Act.put, List.setIfInBounds_toArray, List.set_cons_zero, List.set_cons_succ]
          refine takeH (i := 18) 21 (v := .string (s0 ++ p1)) rfl (by kernel_rfl) (by kernel_rfl) (by kernel_rfl) rfl (fun _ _ _ h => h) (.inl ⟨by rfl, fun _ _ => by go_simp⟩) hS ?_
          simp only [Act.put, List.setIfInBounds_toArray, List.set_cons_zero, List.set_cons_succ]
          refine takeH (i := 22) 25 (v := .string ((s0 ++ p1) ++ p2)) rfl (by kernel_rfl) (by kernel_rfl) (by kernel_rfl) rfl (fun _ _ _ h => h) (.inl ⟨by rfl, fun _ _ => by go_simp⟩) hS ?_
          simp only [Act.put, List.setIfInBounds_toArray, List.set_cons_zero, List.set_cons_succ]
          refine takeH (i := 27) 30 (v := .string (((s0 ++ p1) ++ p2) ++ p3)) rfl (by kernel_rfl) (by kernel_rfl) (by kernel_rfl) rfl (fun _ _ _ h => h) (.inl ⟨by rfl, fun _ _ => by go_simp⟩) hS ?_
          simp only [Act.put, List.setIfInBounds_toArray, List.set_cons_zero, List.set_cons_succ]
          refine takeH (i := 28) 2 (v := .string (((s0 ++ p1) ++ p2) ++ p3)) rfl (by kernel_rfl) (by kernel_rfl) (by kernel_rfl) rfl (fun _ _ _ h => h) (.inl ⟨by rfl, fun _ _ => by go_simp⟩) hS ?_
          simp only [Act.put, List.setIfInBounds_toArray, List.set_cons_zero, List.set_cons_succ]
          refine wpAnyH_done (by kernel_rfl) ?_ _
          go_wp2_with fail
          go_ret
          exact ⟨HEND.out, hS.2⟩
    · go_simp
      refine (RefPut_nat 3 f _ (by decide) HLf.out).mono ?_
      rw [← HP2.out]
      rintro e0 w18x ⟨rfl, hb⟩
      have hS2 : RobAt w18x bb ⟨a, b, c, (d : Int) - 1, e, f, (g : Int) - 32768⟩ ∧ Below w.heap.size w w18x := ⟨hS.1.carry hb, hS.2.trans (hb.mono hS.2.size)⟩
      clear hb hS
      refine hK.out _ _ hS2 ?_
      clear hK K0
      have hS := hS2
      clear hS2
      try simp only [Act.put, List.setIfInBounds_toArray, List.set_cons_zero, List.set_cons_succ]
      refine twoH (i := 13) (j := 26) (oi := ⟨some 16, _, _, _, _, _⟩) (oj := ⟨some 29, _, _, _, _, _⟩) rfl rfl (by kernel_rfl) (fun K0 hK => ?_) (fun K0 hK => ?_)
      · rw [if_pos (by rfl)]
        refine wp_nums 68 5 .u8 4 _ rfl [(a : Int), (b : Int), (c : Int), (d : Int)] Tryd.underlying68 Tryd.u8Info Tryd.u8Zero rfl (by decide) (by decide) rfl ?_
        intro w19x B6 HE6 HN6 HB6
        have hb := HB6.out
        have hS2 : RobAt w19x bb ⟨a, b, c, (d : Int) - 1, e, f, (g : Int) - 32768⟩ ∧ Below w.heap.size w w19x := ⟨hS.1.carry hb, hS.2.trans (hb.mono hS.2.size)⟩
        clear HE6 HB6
        clear hb hS
        refine hK.out _ _ hS2 ?_
        clear hK K0
        have hS := hS2
        clear hS2
        try simp only [Act.put, List.setIfInBounds_toArray, List.set_cons_zero, List.set_cons_succ]
        refine twoH (i := 14) (j := 26) (oi := ⟨some 17, _, _, _, _, _⟩) (oj := ⟨some 29, _, _, _, _, _⟩) rfl rfl (by kernel_rfl) (fun K0 hK => ?_) (fun K0 hK => ?_)
        · have hcv := HTX.out _ _ HN6.out
          go_simp
          have hb : Below w19x.heap.size w19x w19x := Below.refl _ _
          have hS2 := hS
          clear hcv
          clear hb hS
          refine hK.out _ _ hS2 ?_
          clear hK K0
          have hS := hS2
          clear hS2
          try simp only [Act.put, List.setIfInBounds_toArray, List.set_cons_zero, List.set_cons_succ]
          refine takeH (i := 18) 21 (v := .string (s0 ++ p1)) rfl (by kernel_rfl) (by kernel_rfl) (by kernel_rfl) rfl (fun _ _ _ h => h) (.inl ⟨by rfl, fun _ _ => by go_simp⟩) hS ?_
          simp only [Act.put, List.setIfInBounds_toArray, List.set_cons_zero, List.set_cons_succ]
          refine takeH (i := 22) 25 (v := .string ((s0 ++ p1) ++ p2)) rfl (by kernel_rfl) (by kernel_rfl) (by kernel_rfl) rfl (fun _ _ _ h => h) (.inl ⟨by rfl, fun _ _ => by go_simp⟩) hS ?_
          simp only [Act.put, List.setIfInBounds_toArray, List.set_cons_zero, List.set_cons_succ]
          refine oneH (i := 26) (oi := ⟨some 29, _, _, _, _, _⟩) rfl (by kernel_rfl) (fun K0 hK => ?_)
          go_simp
          refine (RefPut_nat 2 g _ (by decide) HLg.out).mono ?_
          rw [← HP3.out]
          rintro e0 w20x ⟨rfl, hb⟩
          have hS2 : RobAt w20x bb ⟨a, b, c, (d : Int) - 1, e, f, (g : Int) - 32768⟩ ∧ Below w.heap.size w w20x := ⟨hS.1.carry hb, hS.2.trans (hb.mono hS.2.size)⟩
          replace HN6 := Lib.hid (HN6.out.carry hb)
          clear hb hS
          refine hK.out _ _ hS2 ?_
          clear hK K0
          have hS := hS2
          clear hS2
          try simp only [Act.put, List.setIfInBounds_toArray, List.set_cons_zero, List.set_cons_succ]
          refine takeH (i := 27) 30 (v := .string (((s0 ++ p1) ++ p2) ++ p3)) rfl (by kernel_rfl) (by kernel_rfl) (by kernel_rfl) rfl (fun _ _ _ h => h) (.inl ⟨by rfl, fun _ _ => by go_simp⟩) hS ?_
          simp only [Act.put, List.setIfInBounds_toArray, List.set_cons_zero, List.set_cons_succ]
          refine takeH (i := 28) 2 (v := .string (((s0 ++ p1) ++ p2) ++ p3)) rfl (by kernel_rfl) (by kernel_rfl) (by kernel_rfl) rfl (fun _ _ _ h => h) (.inl ⟨by rfl, fun _ _ => by go_simp⟩) hS ?_
          simp only [Act.put, List.setIfInBounds_toArray, List.set_cons_zero, List.set_cons_succ]
          refine wpAnyH_done (by kernel_rfl) ?_ _
          go_wp2_with fail
          go_ret
          exact ⟨HEND.out, hS.2⟩
        · go_simp
          refine (RefPut_nat 2 g _ (by decide) HLg.out).mono ?_
          rw [← HP3.out]
          rintro e0 w21x ⟨rfl, hb⟩
          have hS2 : RobAt w21x bb ⟨a, b, c, (d : Int) - 1, e, f, (g : Int) - 32768⟩ ∧ Below w.heap.size w w21x := ⟨hS.1.carry hb, hS.2.trans (hb.mono hS.2.size)⟩
          replace HN6 := Lib.hid (HN6.out.carry hb)
          clear hb hS
          refine hK.out _ _ hS2 ?_
          clear hK K0
          have hS := hS2
          clear hS2
          try simp only [Act.put, List.setIfInBounds_toArray, List.set_cons_zero, List.set_cons_succ]
          refine oneH (i := 14) (oi := ⟨some 17, _, _, _, _, _⟩) rfl (by kernel_rfl) (fun K0 hK => ?_)
          have hcv := HTX.out _ _ HN6.out
          go_simp
          have hb : Below w21x.heap.size w21x w21x := Below.refl _ _
          have hS2 := hS
          clear hcv
          clear hb hS
          refine hK.out _ _ hS2 ?_
          clear hK K0
          have hS := hS2
          clear hS2
          try simp only [Act.put, List.setIfInBounds_toArray, List.set_cons_zero, List.set_cons_succ]
          refine takeH (i := 18) 21 (v := .string (s0 ++ p1)) rfl (by kernel_rfl) (by kernel_rfl) (by kernel_rfl) rfl (fun _ _ _ h => h) (.inl ⟨by rfl, fun _ _ => by go_simp⟩) hS ?_
          simp only [Act.put, List.setIfInBounds_toArray, List.set_cons_zero, List.set_cons_succ]
          refine takeH (i := 22) 25 (v := .string ((s0 ++ p1) ++ p2)) rfl (by kernel_rfl) (by kernel_rfl) (by kernel_rfl) rfl (fun _ _ _ h => h) (.inl ⟨by rfl, fun _ _ => by go_simp⟩) hS ?_
          simp only [Act.put, List.setIfInBounds_toArray, List.set_cons_zero, List.set_cons_succ]
          refine takeH (i := 27) 30 (v := .string (((s0 ++ p1) ++ p2) ++ p3)) rfl (by kernel_rfl) (by kernel_rfl) (by kernel_rfl) rfl (fun _ _ _ h => h) (.inl ⟨by rfl, fun _ _ => by go_simp⟩) hS ?_
          simp only [Act.put, List.setIfInBounds_toArray, List.set_cons_zero, List.set_cons_succ]
          refine takeH (i := 28) 2 (v := .string (((s0 ++ p1) ++ p2) ++ p3)) rfl (by kernel_rfl) (by kernel_rfl) (by kernel_rfl) rfl (fun _ _ _ h => h) (.inl ⟨by rfl, fun _ _ => by go_simp⟩) hS ?_
          simp only [Act.put, List.setIfInBounds_toArray, List.set_cons_zero, List.set_cons_succ]
          refine wpAnyH_done (by kernel_rfl) ?_ _
          go_wp2_with fail
          go_ret
          exact ⟨HEND.out, hS.2⟩
      · go_simp
        refine (RefPut_nat 2 g _ (by decide) HLg.out).mono ?_
        rw [← HP3.out]
        rintro e0 w22x ⟨rfl, hb⟩
        have hS2 : RobAt w22x bb ⟨a, b, c, (d : Int) - 1, e, f, (g : Int) - 32768⟩ ∧ Below w.heap.size w w22x := ⟨hS.1.carry hb, hS.2.trans (hb.mono hS.2.size)⟩
        clear hb hS
        refine hK.out _ _ hS2 ?_
        clear hK K0
        have hS := hS2
        clear hS2
        try simp only [Act.put, List.setIfInBounds_toArray, List.set_cons_zero, List.set_cons_succ]
        refine oneH (i := 13) (oi := ⟨some 16, _, _, _, _, _⟩) rfl (by kernel_rfl) (fun K0 hK => ?_)
        rw [if_pos (by rfl)]
        refine wp_nums 68 5 .u8 4 _ rfl [(a : Int), (b : Int), (c : Int), (d : Int)] Tryd.underlying68 Tryd.u8Info Tryd.u8Zero rfl (by decide) (by decide) rfl ?_
        intro w23x B6 HE6 HN6 HB6
        have hb := HB6.out
        have hS2 : RobAt w23x bb ⟨a, b, c, (d : Int) - 1, e, f, (g : Int) - 32768⟩ ∧ Below w.heap.size w w23x := ⟨hS.1.carry hb, hS.2.trans (hb.mono hS.2.size)⟩
        clear HE6 HB6
        clear hb hS
        refine hK.out _ _ hS2 ?_
        clear hK K0
        have hS := hS2
        clear hS2
        try simp only [Act.put, List.setIfInBounds_toArray, List.set_cons_zero, List.set_cons_succ]
        refine oneH (i := 14) (oi := ⟨some 17, _, _, _, _, _⟩) rfl (by kernel_rfl) (fun K0 hK => ?_)
        have hcv := HTX.out _ _ HN6.out
        go_simp
        have hb : Below w23x.heap.size w23x w23x := Below.refl _ _
        have hS2 := hS
        clear hcv
        clear hb hS
        refine hK.out _ _ hS2 ?_
        clear hK K0
        have hS := hS2
        clear hS2
        try simp only [Act.put, List.setIfInBounds_toArray, List.set_cons_zero, List.set_cons_succ]
        refine takeH (i := 18) 21 (v := .string (s0 ++ p1)) rfl (by kernel_rfl) (by kernel_rfl) (by kernel_rfl) rfl (fun _ _ _ h => h) (.inl ⟨by rfl, fun _ _ => by go_simp⟩) hS ?_
        simp only [Act.put, List.setIfInBounds_toArray, List.set_cons_zero, List.set_cons_succ]
        refine takeH (i := 22) 25 (v := .string ((s0 ++ p1) ++ p2)) rfl (by kernel_rfl) (by kernel_rfl) (by kernel_rfl) rfl (fun _ _ _ h => h) (.inl ⟨by rfl, fun _ _ => by go_simp⟩) hS ?_
        simp only [Act.put, List.setIfInBounds_toArray, List.set_cons_zero, List.set_cons_succ]
        refine takeH (i := 27) 30 (v := .string (((s0 ++ p1) ++ p2) ++ p3)) rfl (by kernel_rfl) (by kernel_rfl) (by kernel_rfl) rfl (fun _ _ _ h => h) (.inl ⟨by rfl, fun _ _ => by go_simp⟩) hS ?_
        simp only [Act.put, List.setIfInBounds_toArray, List.set_cons_zero, List.set_cons_succ]
        refine takeH (i := 28) 2 (v := .string (((s0 ++ p1) ++ p2) ++ p3)) rfl (by kernel_rfl) (by kernel_rfl) (by kernel_rfl) rfl (fun _ _ _ h => h) (.inl ⟨by rfl, fun _ _ => by go_simp⟩) hS ?_
        simp only [Act.put, List.setIfInBounds_toArray, List.set_cons_zero, List.set_cons_succ]
        refine wpAnyH_done (by kernel_rfl) ?_ _
        go_wp2_with fail
        go_ret
        exact ⟨HEND.out, hS.2⟩
theorem RefLayRobot_any (x : Rob) (hr : rightR x = true) (w : World) : Calls Tryd.prog 14 #[robV x] w fun e w' => e = .returned (.string ⟨(layR x).toArray⟩) ∧ Below w.heap.size w w' := by
  have h := of_decide_eq_true hr
  have e : x = ⟨x.cell.toNat, x.charge.toNat, x.phase.toNat, ((x.task + 1).toNat : Int) - 1, x.moved.toNat, x.gained.toNat, ((x.adj + 32768).toNat : Int) - 32768⟩ := by
    cases x
    simp only [Rob.mk.injEq] at h ⊢
    omega
  have h1 := RefLayRobot_at x.cell.toNat x.charge.toNat x.phase.toNat (x.task + 1).toNat x.moved.toNat x.gained.toNat (x.adj + 32768).toNat (by omega) (by omega) (by omega) (by omega) (by omega) (by omega) (by omega) w
  rw [← e] at h1
  exact h1
theorem layA_bytes (t : Nat) (l : List Nat) (hl : l.length = 8) : layA ⟨t, l⟩ = be 4 t ++ l.map UInt8.ofNat := by
  have e0 : layA ⟨t, l⟩ = be 4 t ++ lays ([1, 1, 1, 1, 1, 1, 1, 1].zip l) := rfl
  rw [e0]
  congr 1
  match l, hl with
  | [a, b, c, d, e, f, g, h], _ =>
    have e1 : lays ([1, 1, 1, 1, 1, 1, 1, 1].zip [a, b, c, d, e, f, g, h]) = be 1 a ++ (be 1 b ++ (be 1 c ++ (be 1 d ++ (be 1 e ++ (be 1 f ++ (be 1 g ++ (be 1 h ++ []))))))) := rfl
    rw [e1]
    simp [be_one]
set_option maxRecDepth 100000 in
set_option maxHeartbeats 1000000 in
theorem RefLayAll_any (x : Als) (hx : x.Ok) (hr : rightA x = true) (w : World) : Calls Tryd.prog 22 #[alsV x] w fun e w' => e = .returned (.string ⟨(layA x).toArray⟩) ∧ Below w.heap.size w w' := by
  have h9 := of_decide_eq_true hr
  obtain ⟨t, HT⟩ : ∃ t : Nat, Hid (t = x.tick.toNat) := ⟨_, Lib.hid rfl⟩
  have HTK : Hid (x.tick = (t : Int)) := Lib.hid (by rw [HT.out]; omega)
  have HLt : Hid (t < 4294967296) := Lib.hid (by rw [HT.out]; omega)
  obtain ⟨p1, HP1⟩ : ∃ s : ByteArray, Hid (s = ⟨(be 4 t).toArray⟩) := ⟨_, Lib.hid rfl⟩
  obtain ⟨s2, HS2⟩ : ∃ s : ByteArray, Hid (s = ⟨(x.off.map UInt8.ofNat).toArray⟩) := ⟨_, Lib.hid rfl⟩
  have HTX : Hid (∀ wx : World, wx.rangeAt w.heap.size 1 (offCells x.off) → (convert 68 9 (.slice (some ⟨w.heap.size, 1, none⟩) 8 8)).run Tryd.prog wx = .ok (.string s2) wx) := Lib.hid fun wx h => by rw [HS2.out]; exact off_text h hx.len
  have z1 : p1.size = 4 := by rw [HP1.out]; exact be_length 4 t
  have z2 : s2.size = 8 := by rw [HS2.out]; show (x.off.map UInt8.ofNat).length = 8; rw [List.length_map, hx.len]
  have hc1 : ∀ w, (Op.stringOp .add p1 s2).run Tryd.prog w = .ok (.string (p1 ++ s2)) w := fun w => run_string_add_sum w _ _ (by omega)
  have HEND : Hid ((.returned (.string (p1 ++ s2)) : Ending) = .returned (.string ⟨(layA x).toArray⟩)) := Lib.hid (by
    have e1 : p1 ++ s2 = ⟨(layA x).toArray⟩ := by
      apply ByteArray.ext
      apply Array.toList_inj.1
      have e2 : x = ⟨(t : Int), x.off⟩ := by rw [← HTK.out]
      rw [e2, layA_bytes t x.off hx.len, HP1.out, HS2.out]
      simp
    rw [e1])
  clear z1 z2 h9 hr
  obtain ⟨bb, HBB⟩ : ∃ b, Hid (b = w.heap.size) := ⟨_, Lib.hid rfl⟩
  rw [← HBB.out] at HTX
  unfold alsV
  go_enter Tryd.func22, Tryd.ntmps22
  go_upto_region 1 with (fail)
  obtain ⟨w1, HW⟩ : ∃ w1, Hid (w1 = w.alloc (.cells (alsArr x) 40)) := ⟨_, Lib.hid rfl⟩
  rw [← HW.out, ← HBB.out]
  refine wp_region_held (S := fun wr => AlsAt wr bb x ∧ Below w.heap.size w wr) (by kernel_rfl) ?_
  change wpAnyH _ _ _ _ _ _ _ _ w1.drew
  obtain ⟨wa, HWA⟩ : ∃ wa, Hid (wa = w1.drew) := ⟨_, Lib.hid rfl⟩
  rw [← HWA.out]
  have hS : AlsAt wa bb x ∧ Below w.heap.size w wa := by
    have hb : Below w1.heap.size w1 w1.drew := (Below.refl _ _).drew
    rw [HWA.out]
    refine ⟨AlsAt.carry ?_ hb, ?_⟩
    · rw [HW.out, HBB.out]; exact AlsAt.new _
    · rw [HW.out]; exact ((Below.refl _ _).alloc (Nat.le_refl _) _).drew
  clear HW HWA HBB
  refine takeH (i := 0) 3 (v := .pointer (some ⟨bb, 0, none⟩)) rfl (by kernel_rfl) (by kernel_rfl) (by kernel_rfl) rfl (fun _ _ _ h => h) (.inl ⟨by rfl, fun _ _ => by go_simp⟩) hS ?_
  simp only [Act.put, List.setIfInBounds_toArray, List.set_cons_zero, List.set_cons_succ]
  refine takeH (i := 1) 4 (v := .int .i64 (t : Int)) rfl (by kernel_rfl) (by kernel_rfl) (by kernel_rfl) rfl (fun _ _ _ h => h) (.inl ⟨by rfl, fun _ h => by have c0 := h.1.c0; rw [HTK.out] at c0; go_simp⟩) hS ?_
  simp only [Act.put, List.setIfInBounds_toArray, List.set_cons_zero, List.set_cons_succ]
  refine takeH (i := 3) 6 (v := .pointer (some ⟨bb, 1, none⟩)) rfl (by kernel_rfl) (by kernel_rfl) (by kernel_rfl) rfl (fun _ _ _ h => h) (.inl ⟨by rfl, fun _ _ => by go_simp⟩) hS ?_
  simp only [Act.put, List.setIfInBounds_toArray, List.set_cons_zero, List.set_cons_succ]
  refine takeH (i := 4) 7 (v := .slice (some ⟨bb, 1, none⟩) 8 8) rfl (by kernel_rfl) (by kernel_rfl) (by kernel_rfl) rfl (fun _ _ _ h => h) (.inl ⟨by rfl, fun _ _ => by go_simp⟩) hS ?_
  simp only [Act.put, List.setIfInBounds_toArray, List.set_cons_zero, List.set_cons_succ]
  refine takeH (i := 5) 8 (v := .string s2) rfl (by kernel_rfl) (by kernel_rfl) (by kernel_rfl) rfl (fun _ _ _ h => h) (.inl ⟨by rfl, fun _ h => by have hcv := HTX.out _ h.1.off; go_simp⟩) hS ?_
  simp only [Act.put, List.setIfInBounds_toArray, List.set_cons_zero, List.set_cons_succ]
  refine oneH (i := 2) (oi := ⟨some 5, _, _, _, _, _⟩) rfl (by kernel_rfl) (fun K0 hK => ?_)
  go_simp
  refine (RefPut_nat 4 t _ (by decide) HLt.out).mono ?_
  rw [← HP1.out]
  rintro e0 w1x ⟨rfl, hb⟩
  have hS2 : AlsAt w1x bb x ∧ Below w.heap.size w w1x := ⟨hS.1.carry hb, hS.2.trans (hb.mono hS.2.size)⟩
  clear hb hS
  refine hK.out _ _ hS2 ?_
  clear hK K0
  have hS := hS2
  clear hS2
  try simp only [Act.put, List.setIfInBounds_toArray, List.set_cons_zero, List.set_cons_succ]
  refine takeH (i := 6) 9 (v := .string (p1 ++ s2)) rfl (by kernel_rfl) (by kernel_rfl) (by kernel_rfl) rfl (fun _ _ _ h => h) (.inl ⟨by rfl, fun _ _ => by go_simp⟩) hS ?_
  simp only [Act.put, List.setIfInBounds_toArray, List.set_cons_zero, List.set_cons_succ]
  refine takeH (i := 7) 2 (v := .string (p1 ++ s2)) rfl (by kernel_rfl) (by kernel_rfl) (by kernel_rfl) rfl (fun _ _ _ h => h) (.inl ⟨by rfl, fun _ _ => by go_simp⟩) hS ?_
  simp only [Act.put, List.setIfInBounds_toArray, List.set_cons_zero, List.set_cons_succ]
  refine wpAnyH_done (by kernel_rfl) ?_ _
  go_wp2_with fail
  go_ret
  exact ⟨HEND.out, hS.2⟩
end Go.Proofs.YtjjlghdcpkkdhaaDoor
