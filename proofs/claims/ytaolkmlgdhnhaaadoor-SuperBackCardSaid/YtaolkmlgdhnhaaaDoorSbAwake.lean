/-
  The document's example for layer 7: the law's 'awake' answers true. Conditions: errors.errorType and crc.halved are laid.
-/
import Derived.Test.YtaolkmlgdhnhaaaDoorSbBest
import Derived.Test.YtaolkmlgdhnhaaaDoorSbSwitch
import Derived.Test.YtaolkmlgdhnhaaaDoorFrAwake
import Derived.Test.YtaolkmlgdhnhaaaDoorDiskAwake
namespace Go.Proofs.YtaolkmlgdhnhaaaDoor
open Go.RowKit

theorem swDk_seen {d : Dk} {n : Nat} (hok : d.Ok n) (hn : 2 ≤ n) (x : Sb) (j : Nat) : pgAt (swDk d x).seen j = if x.gen % 2 = j then pgB (sbP x) else pgAt d.seen j :=
  pgAt_set (by show x.gen % 2 < d.seen.length; rw [hok.seen]; omega)
theorem swDk_down (d : Dk) (x : Sb) : (swDk d x).down = d.down := rfl
theorem new_seen {n j : Nat} (h : j < n) : pgAt (Dk.new n).seen j = pgB (List.replicate 128 0) := by
  rw [pgB_zero]
  simp [pgAt, Dk.new, List.getD_eq_getElem?_getD, h]
theorem best_zero : best (sbOf (List.replicate 128 0)) (sbOf (List.replicate 128 0)) = none := by rw [sbOf_zero]; rfl
/-- the example's superblock -/
def sb5 : Sb := ⟨5, 0, zeroSt⟩
theorem sb5_ok : sb5.Ok := ⟨by decide, zeroSt_ok⟩
theorem sb5_right : rightB sb5 = true := by decide +kernel
theorem Tryd.sb5Built : Tryd.prog.built 33 [(0, .int .u32 5)] = some (sbArr sb5) := by kernel_rfl
theorem best_five : best (sbOf (List.replicate 128 0)) (sbOf (sbP sb5)) = some sb5 := by rw [sbOf_zero, sbOf_sbP sb5_ok sb5_right]; rfl
/-- an error outside a disk's blocks -/
theorem ErrFrom.kept {K : Nat → Prop} {w w' : World} {lo : Nat} {c : Int} {v : Value} (h : ErrFrom w lo c v) (hk : Kept K w w') (hK : ∀ k, lo ≤ k → k < w.heap.size → K k) : ErrFrom w' lo c v :=
  h.carry hk.size fun b h1 h2 => hk.block b (hK b h1 h2)
set_option maxRecDepth 100000 in
set_option maxHeartbeats 4000000 in
theorem awake_any (w : World) (hg : Laid2 w) : Calls Tryd.prog 8 #[] w fun e w' => e = .returned (.bool true) ∧ Below w.heap.size w w' := by
  have hz := Tryd.sbProg.zero
  obtain ⟨N, HNN⟩ : ∃ N, Hid (N = w.heap.size) := ⟨_, Lib.hid rfl⟩
  obtain ⟨zs, HZS⟩ : ∃ zs : List UInt8, Hid (zs = List.replicate 128 0) := ⟨_, Lib.hid rfl⟩
  have HZL : Hid (zs.length = 128) := Lib.hid (by rw [HZS.out]; simp)
  have HGK : Hid (∀ w', Below N w w' → Laid2 w') := Lib.hid fun w' h => hg.carry (by rw [← HNN.out]; exact h)
  clear hg
  go_enter Tryd.func8, Tryd.ntmps8
  go_wp2_with fail
  refine (New_yes 4 (by decide) (by decide) w).mono ?_
  rintro e w1 ⟨D, rfl, hd, hb⟩
  rw [← HNN.out] at hd hb
  have HD := Lib.hid hd
  have HB1 := Lib.hid hb
  clear hd hb
  go_wp2_with fail
  refine (Best_yes HD.out rfl (by decide) zs zs HZL.out HZL.out (by rw [HZS.out]; exact new_seen (by decide)) (by rw [HZS.out]; exact new_seen (by decide)) (HGK.out _ HB1.out).crc).mono ?_
  rw [show best (sbOf zs) (sbOf zs) = none by rw [HZS.out]; exact best_zero]
  rintro e w2 ⟨f, rfl, he, hb⟩
  obtain ⟨M, HM⟩ : ∃ M, Hid (M = w1.heap.size) := ⟨_, Lib.hid rfl⟩
  rw [← HM.out] at he hb
  have HE2 : Hid (ErrFrom w2 M 4 f) := Lib.hid he
  have HB2 := Lib.hid hb
  clear he hb
  go_wp2_with (with_reducible refine stop_at (o := ⟨none, _, _, _, _, _⟩) ?_)
  refine wpList_store_last rfl _ _ _ rfl (sbArr Sb.zero) (sbArr Sb.zero) _ rfl rfl rfl (by rw [sbArr_size Sb.Ok.zero]; exact Tryd.sbProg.size) rfl (sbArr_all _) ?_
  obtain ⟨w3, HW⟩ : ∃ w3, Hid (w3 = w2.alloc (.cells (sbArr Sb.zero) 33)) := ⟨_, Lib.hid rfl⟩
  obtain ⟨b3, HB3E⟩ : ∃ b3, Hid (b3 = w2.heap.size) := ⟨_, Lib.hid rfl⟩
  rw [← HW.out, ← HB3E.out]
  have hb3 : Below w2.heap.size w2 w3 := by rw [HW.out]; exact (Below.refl _ _).alloc (Nat.le_refl _) _
  have HE3 := Lib.hid (HE2.out.below hb3)
  have HB3 : Hid (Below M w1 w3) := Lib.hid (HB2.out.trans (hb3.mono (by rw [HM.out]; exact HB2.out.size)))
  have HNM : Hid (N ≤ M) := Lib.hid (by rw [HNN.out, HM.out]; exact HB1.out.size)
  obtain ⟨R, HR⟩ : ∃ R, Hid (R = w3.heap.size) := ⟨_, Lib.hid rfl⟩
  obtain ⟨K, HK⟩ : ∃ K : Nat → Prop, Hid (K = fun k => k < N ∨ (M ≤ k ∧ k < R)) := ⟨_, Lib.hid rfl⟩
  have HKN : Hid (∀ k, k < N → K k) := Lib.hid fun k hk => by rw [HK.out]; exact .inl hk
  have HKM : Hid (∀ k, M ≤ k → k < w3.heap.size → K k) := Lib.hid fun k h1 h2 => by rw [HK.out]; exact .inr ⟨h1, by rw [HR.out]; exact h2⟩
  have HD3 : Hid (DiskAt K w3 D 4 (Dk.new 4)) := Lib.hid (HD.out.more (by rw [← HM.out]; exact HB3.out) fun k hk => by
    rw [HK.out] at hk
    rcases hk with hk | hk
    · exact .inl hk
    · exact .inr (by rw [← HM.out]; exact hk.1))
  have HT3 : Hid (There K w3) := Lib.hid fun k hk => by
    rw [HK.out] at hk
    rw [← HR.out]
    rcases hk with hk | hk
    · have h1 := HB3.out.size; have h2 := HNM.out; rw [← HM.out, ← HR.out] at h1; omega
    · exact hk.2
  have HW3 : Hid (Below N w w3) := Lib.hid (HB1.out.trans (HB3.out.mono HNM.out))
  have HGK2 : Hid (∀ w', Kept K w3 w' → Below N w w') := Lib.hid fun w' h => HW3.out.trans ((h.less HKN.out).below fun k hk => hk)
  clear hb3 HW HD HE2 HB2 HB3E
  go_wp2_with (with_reducible refine stop_at (o := ⟨some 18, _, _, _, _, _⟩) ?_)
  refine wpList_build_at rfl _ _ rfl (sbArr sb5) [(0, .int .u32 5)] (by simp only [List.map_toArray, List.map_cons, List.map_nil]; rfl) Tryd.sb5Built ?_
  go_wp2_with fail
  refine (Switch_yes HD3.out HT3.out rfl (by decide) sb5 sb5_ok sb5_right fun w' h => (HGK.out _ (HGK2.out _ h)).crc).mono ?_
  rintro e w4 ⟨rfl, hd, hk⟩
  have HD4 := Lib.hid hd
  have HE4 := Lib.hid (HE3.out.kept hk HKM.out)
  have HB4 := Lib.hid (HGK2.out _ hk)
  clear hd hk HD3 HE3 HT3 HGK2
  have h40 : pgAt (swDk (Dk.new 4) sb5).seen 0 = pgB zs := by rw [swDk_seen (Dk.Ok.new 4) (by decide), if_neg (by decide), HZS.out]; exact new_seen (by decide)
  have h41 : pgAt (swDk (Dk.new 4) sb5).seen 1 = pgB (sbP sb5) := by rw [swDk_seen (Dk.Ok.new 4) (by decide), if_pos (by decide)]
  have H40 := Lib.hid h40
  have H41 := Lib.hid h41
  clear h40 h41
  go_wp2_with fail
  refine (Best_yes HD4.out rfl (by decide) zs (sbP sb5) HZL.out (sbP_length sb5_ok) H40.out H41.out (HGK.out _ HB4.out).crc).mono ?_
  rw [show best (sbOf zs) (sbOf (sbP sb5)) = some sb5 by rw [HZS.out]; exact best_five]
  rintro e w5 ⟨h, rfl, he, hb⟩
  obtain rfl := he.zero
  have HE5 := Lib.hid (HE4.out.below hb)
  have HB5 : Hid (Below N w w5) := Lib.hid (HB4.out.trans (hb.mono (by rw [HNN.out]; exact HB4.out.size)))
  clear he hb HE4 HD4 H40 H41
  go_wp2_with (with_reducible refine stop_at (o := ⟨none, _, _, _, _, _⟩) ?_)
  refine wpList_store_last rfl _ _ _ rfl (sbArr Sb.zero) (sbArr sb5) _ rfl rfl rfl (by rw [sbArr_size sb5_ok]; exact Tryd.sbProg.size) rfl (sbArr_all _) ?_
  obtain ⟨w6, HW⟩ : ∃ w6, Hid (w6 = w5.alloc (.cells (sbArr sb5) 33)) := ⟨_, Lib.hid rfl⟩
  obtain ⟨b6, HB6E⟩ : ∃ b6, Hid (b6 = w5.heap.size) := ⟨_, Lib.hid rfl⟩
  rw [← HW.out, ← HB6E.out]
  have hb6 : Below w5.heap.size w5 w6 := by rw [HW.out]; exact (Below.refl _ _).alloc (Nat.le_refl _) _
  have HE6 := Lib.hid ((HE5.out.below hb6).is)
  have HO6 : Hid (BOwn w6 b6 sb5) := Lib.hid (by rw [HW.out, HB6E.out]; exact BOwn.new _)
  have HB6 : Hid (Below N w w6) := Lib.hid (HB5.out.trans (hb6.mono (by rw [HNN.out]; exact HB5.out.size)))
  clear hb6 HW HB6E HE5
  go_wp2_with fail
  refine (Num_nil _).mono ?_
  rintro e w' ⟨rfl, rfl⟩
  go_wp2_with fail
  refine (Num_any 4 f w6 HE6.out (HGK.out _ HB6.out).err).mono ?_
  rintro e w7 ⟨rfl, hb⟩
  have HO7 := Lib.hid (HO6.out.below hb HO6.out.lt)
  have HB7 : Hid (Below N w w7) := Lib.hid (HB6.out.trans (hb.mono (by rw [HNN.out]; exact HB6.out.size)))
  have c0 := HO7.out.gen
  rw [show sb5.gen = 5 from rfl] at c0
  clear hb
  go_wp2_with fail
  refine (Num_nil _).mono ?_
  rintro e w' ⟨rfl, rfl⟩
  go_wp2_with fail
  refine (Num_nil _).mono ?_
  rintro e w' ⟨rfl, rfl⟩
  go_wp2_with fail
  go_ret
  exact ⟨rfl, by rw [← HNN.out]; exact HB7.out⟩
end Go.Proofs.YtaolkmlgdhnhaaaDoor
