/-
  The plain mathematics of a robot's, a task's and all's value: their bytes, what they are read as, there and back. Conditions: none beyond the premises of each theorem.
-/
import Derived.Test.YtjjlghdcpkkdhaaDoorPackParse
import Derived.Test.YtjjlghdcpkkdhaaDoorPackRefFew
namespace Go.Proofs.YtjjlghdcpkkdhaaDoor

theorem lays_splits {ws : List Nat} {s : List UInt8} (h : s.length = ws.sum) : lays (ws.zip (splits ws s)) = s := by
  induction ws generalizing s with
  | nil =>
    simp at h
    subst h
    rfl
  | cons k r ih =>
    show be k (num (s.take k)) ++ lays (r.zip (splits r (s.drop k))) = s
    simp only [List.sum_cons] at h
    rw [ih (by rw [List.length_drop]; omega)]
    have e : be k (num (s.take k)) = s.take k := by
      have hl : (s.take k).length = k := by rw [List.length_take]; omega
      have h2 := be_num (s.take k)
      rw [hl] at h2
      exact h2
    rw [e, List.take_append_drop]
theorem splits_fit {ws : List Nat} {s : List UInt8} : FitAll ws (splits ws s) := by
  intro i h1 h2
  rw [splits_at s h1]
  exact Nat.lt_of_lt_of_le (num_lt _) (Nat.pow_le_pow_right (by decide) (by rw [List.length_take]; omega))

/-- a robot -/
structure Rob where
  cell : Int
  charge : Int
  phase : Int
  task : Int
  moved : Int
  gained : Int
  adj : Int
deriving DecidableEq
def Rob.zero : Rob := ⟨0, 0, 0, 0, 0, 0, 0⟩
def rightR (r : Rob) : Bool := decide (0 ≤ r.cell ∧ r.cell ≤ 63 ∧ 0 ≤ r.charge ∧ r.charge ≤ 200 ∧ 0 ≤ r.phase ∧ r.phase ≤ 4 ∧ -1 ≤ r.task ∧ r.task ≤ 19 ∧ 0 ≤ r.moved ∧ r.moved ≤ 16777215 ∧ 0 ≤ r.gained ∧ r.gained ≤ 16777215 ∧ -32768 ≤ r.adj ∧ r.adj ≤ 32767)
def wsR : List Nat := [1, 1, 1, 1, 3, 3, 2]
def numsR (r : Rob) : List Nat := [r.cell.toNat, r.charge.toNat, r.phase.toNat, (r.task + 1).toNat, r.moved.toNat, r.gained.toNat, (r.adj + 32768).toNat]
def tellR : List Nat → Rob
  | [a, b, c, d, e, f, g] => ⟨a, b, c, (d : Int) - 1, e, f, (g : Int) - 32768⟩
  | _ => Rob.zero
def layR (r : Rob) : List UInt8 := lays (wsR.zip (numsR r))
/-- a task -/
structure Tas where
  frm : Int
  to : Int
  state : Int
deriving DecidableEq
def Tas.zero : Tas := ⟨0, 0, 0⟩
def rightT (t : Tas) : Bool := decide (0 ≤ t.frm ∧ t.frm ≤ 63 ∧ 0 ≤ t.to ∧ t.to ≤ 63 ∧ 0 ≤ t.state ∧ t.state ≤ 3)
def wsT : List Nat := [1, 1, 1, 4, 4, 1]
def numsT (t : Tas) : List Nat := [t.frm.toNat, t.to.toNat, t.state.toNat, 0, 0, 0]
def tellT : List Nat → Tas
  | [a, b, c, _, _, _] => ⟨a, b, c⟩
  | _ => Tas.zero
def layT (t : Tas) : List UInt8 := lays (wsT.zip (numsT t))
/-- the state of all: a tick, and eight bytes -/
structure Als where
  tick : Int
  off : List Nat
deriving DecidableEq
def Als.zero : Als := ⟨0, [0, 0, 0, 0, 0, 0, 0, 0]⟩
structure Als.Ok (a : Als) : Prop where
  len : a.off.length = 8
  small : ∀ b ∈ a.off, b < 256
theorem Als.Ok.zero : Als.zero.Ok := ⟨rfl, by decide⟩
def rightA (a : Als) : Bool := decide (0 ≤ a.tick ∧ a.tick ≤ 2147483647)
def wsA : List Nat := [4, 1, 1, 1, 1, 1, 1, 1, 1]
def numsA (a : Als) : List Nat := a.tick.toNat :: a.off
def tellA : List Nat → Als
  | t :: r => ⟨t, r⟩
  | _ => Als.zero
def layA (a : Als) : List UInt8 := lays (wsA.zip (numsA a))

theorem widthsR : Widths wsR := ⟨by decide, by decide⟩
theorem widthsT : Widths wsT := ⟨by decide, by decide⟩
theorem widthsA : Widths wsA := ⟨by decide, by decide⟩
theorem fitR {r : Rob} (h : rightR r = true) : FitAll wsR (numsR r) := by
  have h := of_decide_eq_true h
  intro i h1 h2
  match i, h1 with
  | 0, _ => show r.cell.toNat < 256; omega
  | 1, _ => show r.charge.toNat < 256; omega
  | 2, _ => show r.phase.toNat < 256; omega
  | 3, _ => show (r.task + 1).toNat < 256; omega
  | 4, _ => show r.moved.toNat < 16777216; omega
  | 5, _ => show r.gained.toNat < 16777216; omega
  | 6, _ => show (r.adj + 32768).toNat < 65536; omega
theorem fitT {t : Tas} (h : rightT t = true) : FitAll wsT (numsT t) := by
  have h := of_decide_eq_true h
  intro i h1 h2
  match i, h1 with
  | 0, _ => show t.frm.toNat < 256; omega
  | 1, _ => show t.to.toNat < 256; omega
  | 2, _ => show t.state.toNat < 256; omega
  | 3, _ => show 0 < 4294967296; omega
  | 4, _ => show 0 < 4294967296; omega
  | 5, _ => show 0 < 256; omega
theorem fitA {a : Als} (ho : a.Ok) (h : rightA a = true) : FitAll wsA (numsA a) := by
  have h := of_decide_eq_true h
  intro i h1 h2
  cases i with
  | zero => show a.tick.toNat < 4294967296; omega
  | succ i =>
    have e : wsA[i + 1] = 1 := by
      have h8 : i < 8 := by
        simp [wsA] at h1
        omega
      match i, h8 with
      | 0, _ | 1, _ | 2, _ | 3, _ | 4, _ | 5, _ | 6, _ | 7, _ => rfl
    rw [e]
    exact ho.small _ (List.getElem_mem _)
theorem lenR (r : Rob) : (numsR r).length = wsR.length := rfl
theorem lenT (t : Tas) : (numsT t).length = wsT.length := rfl
theorem lenA {a : Als} (h : a.Ok) : (numsA a).length = wsA.length := by show a.off.length + 1 = 9; rw [h.len]
theorem tell_numsR {r : Rob} (h : rightR r = true) : tellR (numsR r) = r := by
  have h := of_decide_eq_true h
  obtain ⟨a, b, c, d, e, f, g⟩ := r
  simp only [numsR, tellR, Rob.mk.injEq] at h ⊢
  omega
theorem tell_numsT {t : Tas} (h : rightT t = true) : tellT (numsT t) = t := by
  have h := of_decide_eq_true h
  obtain ⟨a, b, c⟩ := t
  simp only [numsT, tellT, Tas.mk.injEq] at h ⊢
  omega
theorem tell_numsA {a : Als} (h : rightA a = true) : tellA (numsA a) = a := by
  have h := of_decide_eq_true h
  obtain ⟨t, o⟩ := a
  simp only [numsA, tellA, Als.mk.injEq, and_true] at h ⊢
  omega
/-- what a text is read as -/
def readR (s : List UInt8) : Option Rob := if s.length = 12 ∧ rightR (tellR (splits wsR s)) = true ∧ layR (tellR (splits wsR s)) = s then some (tellR (splits wsR s)) else none
def readT (s : List UInt8) : Option Tas := if s.length = 12 ∧ rightT (tellT (splits wsT s)) = true ∧ layT (tellT (splits wsT s)) = s then some (tellT (splits wsT s)) else none
def readA (s : List UInt8) : Option Als := if s.length = 12 ∧ rightA (tellA (splits wsA s)) = true ∧ layA (tellA (splits wsA s)) = s then some (tellA (splits wsA s)) else none
theorem lays_len {ws ns : List Nat} (h : ns.length = ws.length) : (lays (ws.zip ns)).length = ws.sum := by
  rw [lays_length, List.map_fst_zip (by omega)]
theorem layR_length (r : Rob) : (layR r).length = 12 := lays_len (lenR r)
theorem layT_length (t : Tas) : (layT t).length = 12 := lays_len (lenT t)
theorem layA_length {a : Als} (h : a.Ok) : (layA a).length = 12 := lays_len (lenA h)
theorem read_layR {r : Rob} (h : rightR r = true) : readR (layR r) = some r := by
  have e : tellR (splits wsR (layR r)) = r := by unfold layR; rw [splits_lays (lenR r) (fitR h), tell_numsR h]
  unfold readR
  rw [e, if_pos ⟨layR_length r, h, rfl⟩]
theorem read_layT {t : Tas} (h : rightT t = true) : readT (layT t) = some t := by
  have e : tellT (splits wsT (layT t)) = t := by unfold layT; rw [splits_lays (lenT t) (fitT h), tell_numsT h]
  unfold readT
  rw [e, if_pos ⟨layT_length t, h, rfl⟩]
theorem read_layA {a : Als} (ho : a.Ok) (h : rightA a = true) : readA (layA a) = some a := by
  have e : tellA (splits wsA (layA a)) = a := by unfold layA; rw [splits_lays (lenA ho) (fitA ho h), tell_numsA h]
  unfold readA
  rw [e, if_pos ⟨layA_length ho, h, rfl⟩]
theorem of_readR {s : List UInt8} {r : Rob} (h : readR s = some r) : rightR r = true ∧ layR r = s := by
  unfold readR at h
  split at h
  · rename_i hc
    obtain rfl := Option.some.inj h
    exact hc.2
  · cases h
theorem of_readT {s : List UInt8} {t : Tas} (h : readT s = some t) : rightT t = true ∧ layT t = s := by
  unfold readT at h
  split at h
  · rename_i hc
    obtain rfl := Option.some.inj h
    exact hc.2
  · cases h
theorem tellA_ok (s : List UInt8) : (tellA (splits wsA s)).Ok := by
  refine ⟨?_, ?_⟩
  · show (splits [1, 1, 1, 1, 1, 1, 1, 1] (s.drop 4)).length = 8
    rw [splits_length]; rfl
  · intro b hb
    have hb : b ∈ splits [1, 1, 1, 1, 1, 1, 1, 1] (s.drop 4) := hb
    obtain ⟨i, hi, rfl⟩ := List.getElem_of_mem hb
    have h8 : i < 8 := by simpa [splits_length] using hi
    have := splits_fit (ws := [1, 1, 1, 1, 1, 1, 1, 1]) (s := s.drop 4) i (by simpa using h8) hi
    have e : ([1, 1, 1, 1, 1, 1, 1, 1] : List Nat)[i]'(by simpa using h8) = 1 := by
      match i, h8 with
      | 0, _ | 1, _ | 2, _ | 3, _ | 4, _ | 5, _ | 6, _ | 7, _ => rfl
    rw [e] at this
    exact this
theorem of_readA {s : List UInt8} {a : Als} (h : readA s = some a) : rightA a = true ∧ layA a = s ∧ a.Ok := by
  unfold readA at h
  split at h
  · rename_i hc
    obtain rfl := Option.some.inj h
    exact ⟨hc.2.1, hc.2.2, tellA_ok s⟩
  · cases h
theorem layR_inj {a b : Rob} (ha : rightR a = true) (hb : rightR b = true) (h : layR a = layR b) : a = b := by
  have := read_layR ha
  rw [h, read_layR hb] at this
  exact (Option.some.inj this).symm
theorem readR_len {s : List UInt8} (h : s.length ≠ 12) : readR s = none := by unfold readR; rw [if_neg (fun c => h c.1)]
theorem readT_len {s : List UInt8} (h : s.length ≠ 12) : readT s = none := by unfold readT; rw [if_neg (fun c => h c.1)]
theorem readA_len {s : List UInt8} (h : s.length ≠ 12) : readA s = none := by unfold readA; rw [if_neg (fun c => h c.1)]
end Go.Proofs.YtjjlghdcpkkdhaaDoor
