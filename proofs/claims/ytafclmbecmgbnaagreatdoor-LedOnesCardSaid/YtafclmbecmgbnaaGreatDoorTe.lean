/-
  Te. Conditions: as said.
-/
import Derived.Test.YtafclmbecmgbnaaGreatDoorTq
open List renaming getElem?_cons_succ -> zfV
namespace Go.Proofs.YtafclmbecmgbnaaGreatDoor
open Go.RowKit
section
theorem Tryz.infoRPair9 : (Tryz.prog.info? 94).map (fun i => (i.zero, i.size, i.bytes)) = some (some (.agg #[.int .i64 0, .string ⟨#[]⟩]), 2, 24) := by kernel_rfl
theorem VU (ps : List Pr) : ∀ {k : Nat} {p : Pr}, ps[k]? = some p -> (yv ps)[k * 2]? = some (.int .i64 p.1) /\ (yv ps)[k * 2 + 1]? = some (.string p.2) := by
 induction ps with
 | nil => intro k p h; simp at h
 | cons q ps ih =>
  intro k p h;have e : yv (q :: ps) = .int .i64 q.1 :: .string q.2 :: yv ps := by simp [yv, VT]
  rw [e];cases k with
  | zero =>
   simp only [List.getElem?_cons_zero, Option.some.injEq] at h;subst h;exact ⟨rfl, rfl⟩
  | succ k =>
   rw [zfV] at h;obtain ⟨h1, h2⟩ := ih h;rw [show (k + 1) * 2 = k * 2 + 1 + 1 by omega];exact ⟨by rw [zfV, zfV]; exact h1, by rw [zfV, zfV]; exact h2⟩
theorem Ym {w : World} {N : Nat} {T : TypeId} {A : Option Addr} {c : Nat} {ps : List Pr} (h : w.ownsRow N T 2 (.slice A ps.length c) ps.length (yv ps)) {k : Nat} (hk : k < ps.length) :
  ∃ g, A = some ⟨g, 0, none⟩ /\ w.cell? ⟨g, k * 2, none⟩ = some (.int .i64 (ps[k].1)) /\ w.cell? ⟨g, k * 2 + 1, none⟩ = some (.string (ps[k].2)) := by
 rcases h.2 with ⟨_, h0⟩ | ⟨g, cap, cur, e1, e2, e3, e4, e5, e6⟩
 ·omega
 ·simp only [Value.slice.injEq] at e1;obtain ⟨h1, h2⟩ := VU ps (List.getElem?_eq_getElem hk);have hc : ∀ (j : Nat) (v : Value), (yv ps)[j]? = some v -> w.cell? ⟨g, j, none⟩ = some v := fun j v hj => by
   rw [<- e6.2, List.getElem?_take] at hj;split at hj
   ·rw [cell_of_row w g j cur T (0, 0) e3]
    rwa [Array.getElem?_toList] at hj
   ·cases hj
  exact ⟨g, e1.1, hc _ _ h1, hc _ _ h2⟩
theorem Q0 {w : World} (T : TypeId) (u v : Value) : ∀ (j : Nat) x, ([u, v] : List Value)[j]? = some x -> (w.alloc (.cells #[u, v] T)).cell? ((⟨w.1.size, 0, none⟩ : Addr).add j) = some x := World.news_of_block (cs := #[u, v]) (heap_alloc_last w _)
theorem wI {w w' : World} {N : Nat} {T : TypeId} {s : Nat} {v : Value} {n : Nat} {xs : List Value} (h : w.ownsRow N T s v n xs) (hb : Below w.1.size w w') : w'.ownsRow N T s v n xs := zw h fun g hg => hb.block g (h.lt g hg).2
end
section
end
