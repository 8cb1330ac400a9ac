/-
  The plain mathematics of a disk with writes that aren't firm: what is read, what a crash leaves, by the code's way and by the document's. It imports nothing of the program. Conditions: none beyond the premises of each theorem.
-/
namespace Go.Proofs.YtaolkmlgdhnhaaaDoor

/-- a sector's bytes -/
abbrev Pg := List Int
abbrev Soft := List (Nat × Pg)
/-- all zero bytes -/
def zeroPg : Pg := List.replicate 128 0
theorem zeroPg_length : zeroPg.length = 128 := by simp [zeroPg]
/-- each one has 128 bytes -/
def Whole (l : List Pg) : Prop := ∀ p ∈ l, p.length = 128
theorem Whole.at_ {l : List Pg} (h : Whole l) {i : Nat} (hi : i < l.length) : (l[i]).length = 128 := h _ (List.getElem_mem _)
theorem Whole.set {l : List Pg} (h : Whole l) (i : Nat) {p : Pg} (hp : p.length = 128) : Whole (l.set i p) := fun q hq => by
  rcases List.mem_or_eq_of_mem_set hq with h1 | rfl
  · exact h q h1
  · exact hp
theorem Whole.replicate (n : Nat) {p : Pg} (hp : p.length = 128) : Whole (List.replicate n p) := fun q hq => by
  rw [(List.mem_replicate.1 hq).2]; exact hp
/-- the writes go where there are sectors -/
def Fits (n : Nat) (s : Soft) : Prop := ∀ x ∈ s, x.1 < n ∧ x.2.length = 128
theorem Fits.nil (n : Nat) : Fits n [] := by simp [Fits]
theorem Fits.snoc {n : Nat} {s : Soft} (h : Fits n s) {a : Nat} {p : Pg} (ha : a < n) (hp : p.length = 128) : Fits n (s ++ [(a, p)]) := fun x hx => by
  rcases List.mem_append.1 hx with h1 | h1
  · exact h x h1
  · obtain rfl := List.mem_singleton.1 h1
    exact ⟨ha, hp⟩
theorem Fits.at_ {n : Nat} {s : Soft} (h : Fits n s) {i : Nat} (hi : i < s.length) : (s[i]).1 < n ∧ (s[i]).2.length = 128 := h _ (List.getElem_mem _)

/-- what is read, the first k writes looked at -/
def readK (firm : List Pg) (s : Soft) (i : Nat) : Nat → Pg
  | 0 => firm.getD i []
  | k + 1 => if (s.getD k (0, [])).1 = i then (s.getD k (0, [])).2 else readK firm s i k
def readZ (firm : List Pg) (s : Soft) (i : Nat) : Pg := readK firm s i s.length
theorem readK_append (firm : List Pg) (s t : Soft) (i : Nat) : ∀ k, k ≤ s.length → readK firm (s ++ t) i k = readK firm s i k
  | 0, _ => rfl
  | k + 1, h => by
    have e : (s ++ t).getD k (0, []) = s.getD k (0, []) := by
      rw [List.getD_eq_getElem?_getD, List.getD_eq_getElem?_getD, List.getElem?_append_left (by omega)]
    rw [readK, readK, e, readK_append firm s t i k (by omega)]
theorem readZ_nil (firm : List Pg) (i : Nat) : readZ firm [] i = firm.getD i [] := rfl
theorem readZ_snoc (firm : List Pg) (s : Soft) (a : Nat) (p : Pg) (i : Nat) : readZ firm (s ++ [(a, p)]) i = if a = i then p else readZ firm s i := by
  unfold readZ
  rw [List.length_append, List.length_singleton, readK, readK_append firm s _ i _ (Nat.le_refl _)]
  simp [List.getD_eq_getElem?_getD]
theorem readK_length {firm : List Pg} {s : Soft} {i : Nat} (hf : Whole firm) (hi : i < firm.length) (hs : Fits firm.length s) : ∀ k, k ≤ s.length → (readK firm s i k).length = 128
  | 0, _ => by
    show (firm.getD i []).length = 128
    rw [List.getD_eq_getElem?_getD, List.getElem?_eq_getElem hi]
    exact hf.at_ hi
  | k + 1, h => by
    rw [readK]
    split
    · rw [List.getD_eq_getElem?_getD, List.getElem?_eq_getElem (by omega)]
      exact (hs.at_ (by omega)).2
    · exact readK_length hf hi hs k (by omega)

/-- is the i-th write kept? -/
def kept (m i : Nat) : Prop := m / 2 ^ (i % 32) % 2 = 1
instance (m i : Nat) : Decidable (kept m i) := by unfold kept; infer_instance
/-- so many bytes of one sector over another one -/
def over (k : Nat) (p q : Pg) : Pg := p.take k ++ q.drop k
theorem over_length {k : Nat} {p q : Pg} (hp : p.length = 128) (hq : q.length = 128) (hk : k ≤ 128) : (over k p q).length = 128 := by
  unfold over
  rw [List.length_append, List.length_take, List.length_drop]
  omega
theorem over_zero (p q : Pg) : over 0 p q = q := by simp [over]
/-- one write of a crash: what is firm, and how many bytes the first one leaves that isn't kept -/
def crashStep (m k : Nat) (x : Nat × Pg) (f : List Pg × Nat) : List Pg × Nat :=
  if kept m k then (f.1.set x.1 x.2, f.2) else (f.1.set x.1 (over f.2 x.2 (f.1.getD x.1 [])), 0)
def crashK (m : Nat) (s : Soft) (f : List Pg × Nat) : Nat → List Pg × Nat
  | 0 => f
  | k + 1 => crashStep m k (s.getD k (0, [])) (crashK m s f k)
/-- what is firm behind a crash -/
def crashZ (m left : Nat) (s : Soft) (firm : List Pg) : List Pg := (crashK m s (firm, left) s.length).1
theorem crashStep_length (m k : Nat) (x : Nat × Pg) (f : List Pg × Nat) : (crashStep m k x f).1.length = f.1.length := by
  unfold crashStep; split <;> simp
theorem crashK_length (m : Nat) (s : Soft) (f : List Pg × Nat) : ∀ k, (crashK m s f k).1.length = f.1.length
  | 0 => rfl
  | k + 1 => by rw [crashK, crashStep_length, crashK_length m s f k]
theorem crashZ_length (m left : Nat) (s : Soft) (firm : List Pg) : (crashZ m left s firm).length = firm.length := crashK_length _ _ _ _
theorem crashK_left (m : Nat) (s : Soft) (f : List Pg × Nat) : ∀ k, (crashK m s f k).2 ≤ f.2
  | 0 => Nat.le_refl _
  | k + 1 => by
    rw [crashK]; unfold crashStep
    split
    · exact crashK_left m s f k
    · exact Nat.zero_le _
theorem crashK_whole {m : Nat} {s : Soft} {f : List Pg × Nat} (hf : Whole f.1) (hs : Fits f.1.length s) (hl : f.2 ≤ 128) : ∀ k, k ≤ s.length → Whole (crashK m s f k).1
  | 0, _ => hf
  | k + 1, h => by
    have ih := crashK_whole (m := m) hf hs hl k (by omega)
    have hle := crashK_left m s f k
    have hle2 := crashK_length m s f k
    rw [crashK, List.getD_eq_getElem?_getD, List.getElem?_eq_getElem (by omega)]
    have hx := hs.at_ (show k < s.length by omega)
    unfold crashStep
    split
    · exact ih.set _ hx.2
    · refine ih.set _ (over_length hx.2 ?_ (by omega))
      rw [List.getD_eq_getElem?_getD, List.getElem?_eq_getElem (by rw [hle2]; exact hx.1)]
      exact ih.at_ (by rw [hle2]; exact hx.1)
theorem crashZ_whole {m left : Nat} {s : Soft} {firm : List Pg} (hf : Whole firm) (hs : Fits firm.length s) (hl : left ≤ 128) : Whole (crashZ m left s firm) := crashK_whole hf hs hl _ (Nat.le_refl _)

/-- how many bytes of a torn write there are -/
def leftZ (t : Int) : Nat := ((if t < 0 then 0 else t) % 128).toNat
theorem leftZ_le (t : Int) : leftZ t < 128 := by unfold leftZ; split <;> omega

/-- a disk, as data -/
structure Dk where
  firm : List Pg
  seen : List Pg
  soft : Soft
  down : Bool
def Dk.new (n : Nat) : Dk := ⟨List.replicate n zeroPg, List.replicate n zeroPg, [], false⟩
def Dk.write (d : Dk) (i : Nat) (p : Pg) : Dk := ⟨d.firm, d.seen.set i p, d.soft ++ [(i, p)], d.down⟩
def Dk.flush (d : Dk) : Dk := ⟨d.seen, d.seen, [], d.down⟩
def Dk.crash (d : Dk) (m : Nat) (t : Int) : Dk := ⟨crashZ m (leftZ t) d.soft d.firm, crashZ m (leftZ t) d.soft d.firm, [], true⟩
def Dk.up (d : Dk) : Dk := ⟨d.firm, d.seen, d.soft, false⟩
/-- it is one -/
structure Dk.Ok (d : Dk) (n : Nat) : Prop where
  firm : d.firm.length = n
  seen : d.seen.length = n
  wf : Whole d.firm
  ws : Whole d.seen
  fits : Fits n d.soft
theorem Dk.Ok.new (n : Nat) : (Dk.new n).Ok n := ⟨by simp [Dk.new], by simp [Dk.new], Whole.replicate _ zeroPg_length, Whole.replicate _ zeroPg_length, Fits.nil _⟩
theorem Dk.Ok.write {d : Dk} {n : Nat} (h : d.Ok n) {i : Nat} (hi : i < n) {p : Pg} (hp : p.length = 128) : (d.write i p).Ok n :=
  ⟨h.firm, by simp [Dk.write, h.seen], h.wf, h.ws.set _ hp, h.fits.snoc hi hp⟩
theorem Dk.Ok.flush {d : Dk} {n : Nat} (h : d.Ok n) : d.flush.Ok n := ⟨h.seen, h.seen, h.ws, h.ws, Fits.nil _⟩
theorem Dk.Ok.crash {d : Dk} {n : Nat} (h : d.Ok n) (m : Nat) (t : Int) : (d.crash m t).Ok n := by
  have hw : Whole (crashZ m (leftZ t) d.soft d.firm) := crashZ_whole h.wf (by rw [h.firm]; exact h.fits) (Nat.le_of_lt (leftZ_le t))
  have hl : (crashZ m (leftZ t) d.soft d.firm).length = n := by rw [crashZ_length, h.firm]
  exact ⟨hl, hl, hw, hw, Fits.nil _⟩
theorem Dk.Ok.up {d : Dk} {n : Nat} (h : d.Ok n) : d.up.Ok n := ⟨h.firm, h.seen, h.wf, h.ws, h.fits⟩

/-- a sector of a list -/
def pgAt (l : List Pg) (i : Nat) : Pg := l.getD i []
theorem pgAt_eq {l : List Pg} {i : Nat} (h : i < l.length) : l[i]? = some (pgAt l i) := by
  rw [pgAt, List.getD_eq_getElem?_getD, List.getElem?_eq_getElem h]; rfl
theorem pgAt_set {l : List Pg} {i j : Nat} {p : Pg} (h : i < l.length) : pgAt (l.set i p) j = if i = j then p else pgAt l j := by
  unfold pgAt
  rw [List.getD_eq_getElem?_getD, List.getD_eq_getElem?_getD, List.getElem?_set]
  by_cases e : i = j
  · subst e; simp [h]
  · simp [e]
theorem pgAt_length {l : List Pg} {i : Nat} (hw : Whole l) (h : i < l.length) : (pgAt l i).length = 128 := by
  rw [pgAt, List.getD_eq_getElem?_getD, List.getElem?_eq_getElem h]; exact hw.at_ h
theorem ext_pgAt {a b : List Pg} (hl : a.length = b.length) (h : ∀ i, i < a.length → pgAt a i = pgAt b i) : a = b := by
  refine List.ext_getElem hl fun i h1 h2 => ?_
  have := h i h1
  simpa [pgAt, List.getD_eq_getElem?_getD, h1, h2] using this
/-- a disk reads what the document says -/
def Dk.Sync (d : Dk) : Prop := ∀ i, i < d.firm.length → pgAt d.seen i = readZ d.firm d.soft i
theorem Dk.Sync.new (n : Nat) : (Dk.new n).Sync := fun _ _ => rfl
theorem Dk.Sync.write {d : Dk} {n : Nat} (hk : d.Ok n) (h : d.Sync) {i : Nat} (hi : i < n) (p : Pg) : (d.write i p).Sync := fun j hj => by
  show pgAt (d.seen.set i p) j = readZ d.firm (d.soft ++ [(i, p)]) j
  rw [pgAt_set (by rw [hk.seen]; exact hi), readZ_snoc, h j hj]
theorem Dk.Sync.flush (d : Dk) : d.flush.Sync := fun _ _ => rfl
theorem Dk.Sync.crash (d : Dk) (m : Nat) (t : Int) : (d.crash m t).Sync := fun _ _ => rfl
theorem Dk.Sync.up {d : Dk} (h : d.Sync) : d.up.Sync := h
/-- what the document flushes is what the code has seen -/
theorem Dk.Sync.flushed {d : Dk} {n : Nat} (hk : d.Ok n) (h : d.Sync) : (List.range n).map (readZ d.firm d.soft) = d.seen := by
  refine ext_pgAt (by simp [hk.seen]) fun i hi => ?_
  have hi' : i < n := by simpa using hi
  rw [h i (by rw [hk.firm]; exact hi')]
  simp [pgAt, List.getD_eq_getElem?_getD, hi']

/-- a write that isn't there changes no sector -/
theorem crashStep_other {m k : Nat} {x : Nat × Pg} {f : List Pg × Nat} {i : Nat} (h : x.1 ≠ i) : pgAt (crashStep m k x f).1 i = pgAt f.1 i := by
  unfold crashStep
  split <;> simp [pgAt, List.getD_eq_getElem?_getD, List.getElem?_set_ne h]
theorem crashK_other {m : Nat} {s : Soft} {f : List Pg × Nat} {i : Nat} : ∀ k, k ≤ s.length → (∀ x ∈ s, x.1 ≠ i) → pgAt (crashK m s f k).1 i = pgAt f.1 i
  | 0, _, _ => rfl
  | k + 1, h, hs => by
    rw [crashK, crashStep_other, crashK_other k (by omega) hs]
    rw [List.getD_eq_getElem?_getD, List.getElem?_eq_getElem (show k < s.length by omega)]
    exact hs _ (List.getElem_mem _)
theorem crashZ_other {m l : Nat} {s : Soft} {firm : List Pg} {i : Nat} (hs : ∀ x ∈ s, x.1 ≠ i) : pgAt (crashZ m l s firm) i = pgAt firm i := crashK_other _ (Nat.le_refl _) hs
/-- all kept: the last writes -/
theorem kept_all (i : Nat) : kept 4294967295 i := by
  unfold kept
  have h : i % 32 < 32 := Nat.mod_lt _ (by decide)
  have key : ∀ k, k < 32 → 4294967295 / 2 ^ k % 2 = 1 := by decide
  exact key _ h
theorem crashK_all (s : Soft) (f : List Pg × Nat) (hs : Fits f.1.length s) {i : Nat} (hi : i < f.1.length) : ∀ k, k ≤ s.length → pgAt (crashK 4294967295 s f k).1 i = readK f.1 s i k
  | 0, _ => rfl
  | k + 1, h => by
    rw [crashK, readK]
    unfold crashStep
    rw [if_pos (kept_all k)]
    have e : s.getD k (0, []) = s[k] := by rw [List.getD_eq_getElem?_getD, List.getElem?_eq_getElem (by omega)]; rfl
    rw [e]
    rw [pgAt_set (by rw [crashK_length]; exact (hs.at_ (by omega)).1), crashK_all s f hs hi k (by omega)]
theorem crashZ_all {l : Nat} {s : Soft} {firm : List Pg} (hs : Fits firm.length s) {i : Nat} (hi : i < firm.length) : pgAt (crashZ 4294967295 l s firm) i = readZ firm s i := crashK_all s (firm, l) hs hi _ (Nat.le_refl _)
end Go.Proofs.YtaolkmlgdhnhaaaDoor
