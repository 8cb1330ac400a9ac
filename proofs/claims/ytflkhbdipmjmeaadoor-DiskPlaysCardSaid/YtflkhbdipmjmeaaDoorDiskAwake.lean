/-
  The document's example for layer 4: the law's 'awake' answers true. Condition: errors.errorType is laid.
-/
import Derived.Test.YtflkhbdipmjmeaaDoorDiskNew
import Derived.Laws.StructEq
namespace Go.Proofs.YtflkhbdipmjmeaaDoor
open Go.RowKit

/-- two sectors are compared: a sector is itself -/
theorem run_equalIn_same {P : Program} (w : World) (d len : Nat) (t e : TypeId) (p : Pg) (ht : P.underlying t = some (.array len e)) (he : P.underlying e = some (.int .u8)) (hs : ∀ w, (sizeOf e).run P w = .ok 1 w) (hl : p.length = len) :
    (Op.equalIn (d + 2) t (.agg (pgArr p)) (.agg (pgArr p))).run P w = .ok true w := by
  have hp : ∀ i, i < len → (part e (pgArr p) (i * 1)).run P w = .ok (.int .u8 (p.getD i 0)) w := by
    intro i hi
    have hi' : i < p.length := by omega
    simp [part, isAgg, underlying, he, pgArr, pgCells, hi']
  rw [Op.equalIn]
  simp only [Sem.run_bind, run_underlying ht, Result.andThen_ok, hs, Std.Legacy.Range.forIn_eq_forIn_range']
  have key : ∀ l : List Nat, (∀ i ∈ l, i < len) → (forIn l (none, ()) fun i (_ : Option Bool × Unit) => do
      let a ← part e (pgArr p) (i * 1)
      let b ← part e (pgArr p) (i * 1)
      let r ← Op.equalIn (d + 1) e a b
      if (!r) = true then pure (ForInStep.done (some false, ())) else pure (ForInStep.yield ((none : Option Bool), ())) : Sem (Option Bool × Unit)).run P w = .ok (none, ()) w := by
    intro l
    induction l with
    | nil => intro _; simp
    | cons i r ih =>
      intro h
      simp only [List.forIn_cons, Sem.run_bind, hp i (h i (by simp)), Result.andThen_ok, run_equalIn_int w d e .u8 .u8 _ _ he, beq_self_eq_true, Bool.not_true, Bool.false_eq_true, if_false, Sem.run_pure]
      exact ih fun k hk => h k (by simp [hk])
  rw [key _ (fun i hi => by have := List.mem_range'.1 hi; obtain ⟨k, hk, rfl⟩ := this; simp at hk; omega)]
  rfl
theorem sizeByte (w : World) : (sizeOf 5).run Tryd.prog w = .ok 1 w := by kernel_rfl
theorem guardPage : Tryd.prog.eqGuardType Tryd.prog.depth 36 = false := by kernel_rfl
theorem eql_page (w : World) (p : Pg) (hl : p.length = 128) : (binOp .eql 36 (pgV p) (pgV p)).run Tryd.prog w = .ok (.bool true) w := by
  rw [run_eql_struct, run_equalIn_same w 9998 128 36 5 p Tryd.underlying36 Tryd.underlying5 sizeByte hl]
  rfl
theorem neq_page (w : World) (p : Pg) (hl : p.length = 128) : (binOp .neq 36 (pgV p) (pgV p)).run Tryd.prog w = .ok (.bool false) w := by
  rw [run_neq_struct, run_equalIn_same w 9998 128 36 5 p Tryd.underlying36 Tryd.underlying5 sizeByte hl]
  rfl
/-- ones -/
def onesPg (k : Nat) : Pg := List.replicate k 1 ++ List.replicate (128 - k) 0
theorem Tryd.built5 : Tryd.prog.built 36 [(0, .int .u8 1), (1, .int .u8 1), (2, .int .u8 1), (3, .int .u8 1), (4, .int .u8 1)] = some (pgArr (onesPg 5)) := by kernel_rfl
theorem Tryd.built3 : Tryd.prog.built 36 [(0, .int .u8 1), (1, .int .u8 1), (2, .int .u8 1)] = some (pgArr (onesPg 3)) := by kernel_rfl
/-- a literal -/
theorem wpList_build_at {P : Program} {ops : Array Oper} {rest : List Oper} {o : Oper} {a : Act} {w : World} {Q : Exit → Act → World → Prop} (hgd : o.guard = none) (t : TypeId) (parts : Array (Nat × Operand)) (ho : o.op = .build t parts) (c : Array Value) (l : List (Nat × Value)) (hp : (parts.map fun (i, x) => (i, a.eval x)).toList = l)
    (hb : P.built t l = some c) (h : wpList P ops Q rest (a.put o.dst (.agg c)) w) : wpList P ops Q (o :: rest) a w :=
  wpList_plain hgd fun _ hK => wp_build t parts ho (by rw [hp, hb]; rfl) (hK _ _ (by rw [hp, hb]; exact h))

theorem wp_build_at {P : Program} {o : Oper} {a : Act} {w : World} {K : Act → World → Prop} {Q : Exit → Act → World → Prop} (t : TypeId) (parts : Array (Nat × Operand)) (ho : o.op = .build t parts) (c : Array Value) (l : List (Nat × Value))
    (hp : (parts.map fun (i, x) => (i, a.eval x)).toList = l) (hb : P.built t l = some c) (h : K (a.put o.dst (.agg c)) w) : o.wp P a w K Q :=
  wp_build t parts ho (by rw [hp, hb]; rfl) (by rw [hp, hb]; exact h)
/-- the example, as data -/
theorem awake_data : pgAt ((((Dk.new 4).write 0 (onesPg 5)).crash 0 3).up).seen 0 = onesPg 3 := by kernel_rfl
theorem onesPg_length (k : Nat) (h : k ≤ 128) : (onesPg k).length = 128 := by simp [onesPg]; omega
theorem below_kept {w w1 : World} {B : Nat} (h : Below w1.heap.size w w1) (hB : B ≤ w.heap.size) (_ : w.heap.size ≤ w1.heap.size) : Kept (· < B) w w1 := ⟨h.os, h.tape, h.output, h.size, fun k hk => h.block k (by omega)⟩
theorem equalIn_page (p : Pg) (hl : p.length = 128) (w : World) : (Op.equalIn 10000 36 (pgV p) (pgV p)).run Tryd.prog w = .ok true w :=
  run_equalIn_same w 9998 128 36 5 p Tryd.underlying36 Tryd.underlying5 sizeByte hl

set_option maxRecDepth 100000 in
set_option maxHeartbeats 4000000 in
theorem awake_any (w : World) (hg : Laid w) : Calls Tryd.prog 8 #[] w fun e w' => e = .returned (.bool true) ∧ Below w.heap.size w w' := by
  have HG := Lib.hid hg
  clear hg
  have hz := Tryd.zeroPage
  obtain ⟨B, HBB⟩ : ∃ B, Hid (B = w.heap.size) := ⟨_, Lib.hid rfl⟩
  rw [← HBB.out]
  go_enter Tryd.func8, Tryd.ntmps8
  go_wp2_with fail
  refine (New_yes 4 (by decide) (by decide) _).mono ?_
  rw [show NewPost 4 w = fun e w' => ∃ D, e = .returned (.tuple #[.pointer (some ⟨D, 0, none⟩), .nilIface]) ∧ DiskAt (· < B) w' D 4 (Dk.new 4) ∧ Below B w w' by rw [HBB.out]; rfl]
  rintro e w1 ⟨D, rfl, hd, hb⟩
  have HD := Lib.hid hd
  have HK : Hid (Kept (· < B) w w1) := Lib.hid (Kept.of_below hb (fun _ h => h))
  have HT : Hid (There (· < B) w) := Lib.hid (fun k hk => by rw [← HBB.out]; exact hk)
  clear hd hb
  go_wp2_with (with_reducible refine stop_at (o := ⟨some 13, _, _, _, _, _⟩) ?_)
  refine wpList_build_at rfl _ _ rfl _ _ (by simp only [List.map_toArray, List.map_cons, List.map_nil]; rfl) Tryd.built5 ?_
  go_wp2_with fail
  refine (Write_yes (i := 0) HD.out (HT.out.kept HK.out) rfl (by decide) (onesPg_length 5 (by decide)) (by decide)).mono ?_
  rintro e w2 ⟨rfl, hd, hk⟩
  have HD2 := Lib.hid hd
  have HK2 := Lib.hid (HK.out.trans hk)
  clear hd hk HD HK
  go_wp2_with fail
  refine (Crash_yes (m := 0) (t := 3) (by decide) HD2.out (HT.out.kept HK2.out) (by decide) (by decide)).mono ?_
  rintro e w3 ⟨rfl, hd, hk⟩
  have HD3 := Lib.hid hd
  have HK3 := Lib.hid (HK2.out.trans hk)
  clear hd hk HD2 HK2
  go_wp2_with fail
  refine (Read_any HD3.out 0).mono ?_
  rw [show codeZ (((Dk.new 4).write 0 (onesPg 5)).crash 0 3).down 4 0 = 7 from rfl]
  rintro e w4 ⟨v, rfl, he, hb⟩
  have HE4 := Lib.hid he
  have HB4 := Lib.hid hb
  clear he hb
  rw [if_neg (by decide)]
  go_wp2_with (with_reducible refine stop_at (o := ⟨none, _, _, _, _, _⟩) ?_)
  refine wpList_store_last rfl _ _ _ rfl (pgArr zeroPg) (pgArr zeroPg) _ rfl rfl rfl (by rw [pgArr_size, zeroPg_length]; exact Tryd.pageSize) rfl (pgArr_all _) ?_
  obtain ⟨w5, HW5⟩ : ∃ w5, Hid (w5 = w4.alloc (.cells (pgArr zeroPg) 36)) := ⟨_, Lib.hid rfl⟩
  rw [← HW5.out]
  have hb5 : Below w4.heap.size w4 w5 := by rw [HW5.out]; exact (Below.refl _ _).alloc (Nat.le_refl _) _
  have HB5 : Hid (Below w3.heap.size w3 w5) := Lib.hid (HB4.out.trans (hb5.mono HB4.out.size))
  have HE5 := Lib.hid (HE4.out.below hb5)
  clear hb5 HB4 HE4
  obtain ⟨K5, HK5⟩ : ∃ K5 : Nat → Prop, Hid (K5 = fun k => k < B ∨ (w3.heap.size ≤ k ∧ k < w5.heap.size)) := ⟨_, Lib.hid rfl⟩
  have HD5 : Hid (DiskAt K5 w5 D 4 (((Dk.new 4).write 0 (onesPg 5)).crash 0 3)) := Lib.hid (by
    rw [HK5.out]
    exact HD3.out.more HB5.out (fun k hk => by rcases hk with h | h; exact .inl h; exact .inr h.1))
  go_wp2_with fail
  refine (Up_any HD5.out).mono ?_
  rintro e w6 ⟨rfl, hd, hk⟩
  have HD6 := Lib.hid hd
  have HKK := Lib.hid hk
  clear hd hk HD5 HD3
  go_wp2_with fail
  refine (Read_any HD6.out 0).mono ?_
  rw [show codeZ (((Dk.new 4).write 0 (onesPg 5)).crash 0 3).up.down 4 0 = 0 from rfl, if_pos rfl, show (0 : Int).toNat = 0 from rfl, awake_data]
  rintro e w7 ⟨v', rfl, he, hb⟩
  obtain rfl := he.zero
  have HB7 := Lib.hid hb
  clear he hb
  go_wp2_with (with_reducible refine stop_at (o := ⟨none, _, _, _, _, _⟩) ?_)
  refine wpList_store_last rfl _ _ _ rfl (pgArr zeroPg) (pgArr (onesPg 3)) _ rfl rfl rfl (by rw [pgArr_size, onesPg_length 3 (by decide)]; exact Tryd.pageSize) rfl (pgArr_all _) ?_
  obtain ⟨w8, HW8⟩ : ∃ w8, Hid (w8 = w7.alloc (.cells (pgArr (onesPg 3)) 36)) := ⟨_, Lib.hid rfl⟩
  obtain ⟨b8, HB8⟩ : ∃ b8, Hid (b8 = w7.heap.size) := ⟨_, Lib.hid rfl⟩
  rw [← HW8.out, ← HB8.out]
  have hb8 : w8.heap[b8]? = some (.cells (pgArr (onesPg 3)) 36 (0, 0)) := by rw [HW8.out, HB8.out]; exact heap_alloc_last w7 _
  have hbb : Below w7.heap.size w7 w8 := by rw [HW8.out]; exact (Below.refl _ _).alloc (Nat.le_refl _) _
  have HBB8 : Hid (Below w6.heap.size w6 w8) := Lib.hid (HB7.out.trans (hbb.mono HB7.out.size))
  have HR8 : Hid (w8.rangeAt b8 0 (pgCells (onesPg 3))) := Lib.hid (fun j u hu => by
    rw [cell_of_row w8 b8 (0 + j) _ _ _ hb8, Nat.zero_add]
    simpa [pgArr] using hu)
  have HE6 : Hid (ErrAt w6 w3.heap.size 7 v) := Lib.hid (HE5.out.carry HKK.out.size (fun k h1 h2 => HKK.out.block k (by rw [HK5.out]; exact .inr ⟨h1, h2⟩)))
  have HE8 : Hid (ErrIs w8 7 v) := Lib.hid (HE6.out.below HBB8.out).is
  have HK6 : Hid (Kept (· < B) w w6) := Lib.hid ((HK3.out.trans (Kept.of_below HB5.out (fun k hk => HT.out.kept HK3.out k hk))).trans (HKK.out.mono (fun k hk => by rw [HK5.out]; exact .inl hk)))
  have HK8 : Hid (Below B w w8) := Lib.hid ((HK6.out.trans (Kept.of_below HBB8.out (fun k hk => HT.out.kept HK6.out k hk))).below (fun _ h => h))
  have HG8 : Hid (Laid w8) := Lib.hid (HG.out.carry (by rw [← HBB.out]; exact HK8.out))
  clear hb8 hbb HE6 HE5 HK6 HKK HB5 HB7 HBB8 HW8 HD6 hz
  go_wp2_with fail
  refine (Num_nil _).mono ?_
  rintro e w' ⟨rfl, rfl⟩
  go_wp2_with fail
  refine (Num_nil _).mono ?_
  rintro e w' ⟨rfl, rfl⟩
  go_wp2_with fail
  refine (Num_any 7 v _ HE8.out HG8.out).mono ?_
  rintro e w9 ⟨rfl, hb⟩
  have HB9 := Lib.hid hb
  have HR9 : Hid (w9.rangeAt b8 0 (pgCells (onesPg 3))) := Lib.hid (fun j u hu => (HB9.out.cell (p := ⟨b8, 0 + j, none⟩) (lt_of_cell (HR8.out j u hu))).trans (HR8.out j u hu))
  clear hb
  go_wp2_with fail
  refine (Num_nil _).mono ?_
  rintro e w' ⟨rfl, rfl⟩
  go_wp2_with (with_reducible refine stop_at (o := ⟨some 48, _, _, _, _, _⟩) ?_)
  refine BigFrame.wpList_want (by rfl) (fun K hK => ?_)
  refine wp_load_mid _ _ rfl b8 0 rfl (pgCells (onesPg 3)) _ HR9.out Tryd.underlying36 rfl (by rw [pgCells_length, onesPg_length 3 (by decide)]; exact Tryd.pageSize) (hK _ _ ?_)
  rw [show Value.agg (pgCells (onesPg 3)).toArray = pgV (onesPg 3) from rfl]
  clear hK K
  refine BigFrame.wpList_want (by rfl) (fun K hK => ?_)
  refine wp_build_at _ _ rfl _ _ (by simp only [List.map_toArray, List.map_cons, List.map_nil]; rfl) Tryd.built3 (hK _ _ ?_)
  clear hK K
  have heq := equalIn_page (onesPg 3) (onesPg_length 3 (by decide))
  have hgp := guardPage
  go_wp2_with fail
  go_ret
  exact ⟨rfl, HK8.out.trans (HB9.out.mono (by have := HK8.out.size; rw [← HBB.out] at this; exact this))⟩
end Go.Proofs.YtflkhbdipmjmeaaDoor
