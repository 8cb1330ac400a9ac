/-
  The contracts of (Errno).Error, tag.textOf and (*Tagged).Error at a number with tags around it: the text is the tags', the outermost first, a point behind each, and the number's. Condition: the text has at most 2^47 bytes.
-/
import Derived.Test.YtbngcempcihgoaaDoorAs
import Derived.Test.YtbngcempcihgoaaDoorBuild
namespace Go.Proofs.YtbngcempcihgoaaDoor
open Go.RowKit Go.Extern.Stop Go.Stop Go.Extern

/-- the two digits of a number below 100 -/
def digs (n : Int) : ByteArray := strOfNums [48 + n / 10, 48 + n % 10]
/-- a number's text -/
def numText (n : Int) : ByteArray := if 0 ≤ n ∧ n < 100 then ⟨#[102, 97, 117, 108, 116, 32]⟩ ++ digs n else ⟨#[102, 97, 117, 108, 116]⟩

set_option maxHeartbeats 2000000 in
set_option maxRecDepth 100000 in
theorem errno_in (n : Int) (w : World) (h0 : 0 ≤ n) (h1 : n < 100) :
    Calls Tryd.prog 18 #[.int .i64 n] w fun e w' => e = .returned (.string (numText n)) ∧ Below w.heap.size w w' := by
  have hcv := run_convert_bytes_arg (P := Tryd.prog) (w.alloc (.cells #[.int .u8 (48 + n / 10), .int .u8 (48 + n % 10)] 5)) 49 5 Tryd.underlying49 Tryd.underlying5 w.heap.size 0 2 2 [48 + n / 10, 48 + n % 10] rfl
    (fun i hi => by match i, hi with
      | 0, _ => simp
      | 1, _ => simp) 9 Tryd.underlying9
  go_enter Tryd.func18, Tryd.ntmps18
  go_wp2
  go_ret
  refine ⟨?_, (Below.refl _ _).alloc (Nat.le_refl _) _⟩
  rw [numText, if_pos ⟨h0, h1⟩]
  rfl
theorem errno_out (n : Int) (w : World) (h : ¬ (0 ≤ n ∧ n < 100)) :
    Calls Tryd.prog 18 #[.int .i64 n] w fun e w' => e = .returned (.string (numText n)) ∧ w = w' := by
  have HT := Lib.hid (show numText n = ⟨#[102, 97, 117, 108, 116]⟩ by rw [numText, if_neg h])
  by_cases h0 : 0 ≤ n
  · have h1 : ¬ n < 100 := fun h1 => h ⟨h0, h1⟩
    clear h
    go_enter Tryd.func18, Tryd.ntmps18
    go_wp2
    go_ret
    exact ⟨by rw [HT.out]; rfl, rfl⟩
  · clear h
    go_enter Tryd.func18, Tryd.ntmps18
    go_wp2
    go_ret
    exact ⟨by rw [HT.out]; rfl, rfl⟩
theorem errno_any (n : Int) (w : World) : Calls Tryd.prog 18 #[.int .i64 n] w fun e w' => e = .returned (.string (numText n)) ∧ Below w.heap.size w w' := by
  by_cases h : 0 ≤ n ∧ n < 100
  · exact errno_in n w h.1 h.2
  · exact (errno_out n w h).mono fun e w' ⟨h1, h2⟩ => ⟨h1, by subst h2; exact Below.refl _ _⟩

theorem idle34 (w : World) : CallsD Tryd.prog 34 #[] .returning w fun e u' w' => e = .returned (.tuple #[]) ∧ u' = .returning ∧ w' = w := by
  refine callsD_of_wpS Tryd.func34 rfl fun c₀ cs hu => ?_
  apply wpS_region
  simp [wpOpsS, go_sem, recoverD, hu, Tryd.ntmps34, bodyPostS, results, Tryd.results34]
  cases c₀
  simp_all

set_option maxHeartbeats 2000000 in
theorem textOf_num (n : Int) (w : World) : Calls Tryd.prog 25 #[.iface 29 (.int .i64 n)] w fun e w' => e = .returned (.string (numText n)) ∧ Below w.heap.size w w' := by
  have m1 := Tryd.methodErrno
  go_enter_defers Tryd.func25, Tryd.ntmps25
  go_wp2_with (go_at_call 18; refine (errno_any n _).mono ?_; rintro e w' ⟨rfl, hb⟩)
  refine leaves_cons (f := 34) (args := #[]) (by simp) (by simp [go_sem]) ?_
  refine (idle34 _).mono ?_
  rintro e u' w'' ⟨rfl, rfl, rfl⟩
  simp [Leaves, settle, results, Tryd.results25, go_sem, hb]

set_option maxHeartbeats 2000000 in
theorem textOf_nil (w : World) : Calls Tryd.prog 25 #[.nilIface] w fun e w' => e = .returned (.string ⟨#[]⟩) ∧ w = w' := by
  go_enter_defers Tryd.func25, Tryd.ntmps25
  go_wp2
  refine leaves_cons (f := 34) (args := #[]) (by simp) (by simp [go_sem]) ?_
  refine (idle34 _).mono ?_
  rintro e u' w'' ⟨rfl, rfl, rfl⟩
  simp [Leaves, settle, results, Tryd.results25, go_sem]

/-! ### the builder, by the bytes that it holds -/
theorem writeStr (B b : Nat) (done : List UInt8) (s : ByteArray) (w : World) (h : Lib.IsBuilder 52 5 B b (Lib.byteCells done) w) (hlen : done.length + s.size ≤ 140737488355328) (hBw : B ≤ w.heap.size) :
    Calls Tryd.prog 23 #[.pointer (some ⟨b, 0, none⟩), .string s] w fun e w' => e = .returned (.tuple #[.int .i64 s.size, .nilIface]) ∧ Lib.IsBuilder 52 5 B b (Lib.byteCells (done ++ s.data.toList)) w' ∧ Below B w w' := by
  refine (writeString_any B b _ s w h (by rw [Lib.byteCells_length]; exact hlen) hBw).mono ?_
  rintro e w' ⟨rfl, h1, h2⟩
  exact ⟨rfl, .inr (by rw [Lib.byteCells_append, ← Lib.strCells_eq]; exact h1), h2⟩
theorem writeDot (B b : Nat) (done : List UInt8) (w : World) (h : Lib.IsBuilder 52 5 B b (Lib.byteCells done) w) (hlen : done.length + 1 ≤ 140737488355328) (hBw : B ≤ w.heap.size) :
    Calls Tryd.prog 24 #[.pointer (some ⟨b, 0, none⟩), .int .u8 46] w fun e w' => e = .returned .nilIface ∧ Lib.IsBuilder 52 5 B b (Lib.byteCells (done ++ [46])) w' ∧ Below B w w' := by
  refine (writeByte_any B b _ 46 w h (by rw [Lib.byteCells_length]; exact hlen) hBw).mono ?_
  rintro e w' ⟨rfl, h1, h2⟩
  exact ⟨rfl, .inr (by rw [Lib.byteCells_append]; exact h1), h2⟩

/-- a builder stays where nothing that was there turns -/
theorem keepBuilder {B b : Nat} {bs : List Value} {w w' : World} (h : Lib.IsBuilder 52 5 B b bs w) (hb : Below w.heap.size w w') : Lib.IsBuilder 52 5 B b bs w' := by
  have key : ∀ p, Lib.BuilderAt 52 5 B b p bs w → Lib.BuilderAt 52 5 B b p bs w' := by
    rintro p ⟨hB, v, hbk, hown, hne⟩
    refine ⟨hB, v, ?_, ?_, hne⟩
    · have hlt : b < w.heap.size := by
        rcases Nat.lt_or_ge b w.heap.size with h' | h'
        · exact h'
        · simp [Array.getElem?_eq_none h'] at hbk
      rw [hb.block b hlt]; exact hbk
    · obtain ⟨h1, h2⟩ := hown
      refine ⟨h1, ?_⟩
      rcases h2 with h2 | ⟨g, cap, cur, hv, hg, hh, r⟩
      · exact .inl h2
      · have hlt : g < w.heap.size := by
          rcases Nat.lt_or_ge g w.heap.size with h' | h'
          · exact h'
          · simp [Array.getElem?_eq_none h'] at hh
        exact .inr ⟨g, cap, cur, hv, hg, by rw [hb.block g hlt]; exact hh, r⟩
  rcases h with h | h
  · exact .inl (key _ h)
  · exact .inr (key _ h)

theorem lenS (s : ByteArray) : s.data.toList.length = s.size := by rw [Array.length_toList]; rfl
/-- the text of a number with tags around it -/
def chainText (n : Int) : List ByteArray → List UInt8
  | [] => (numText n).data.toList
  | s :: l => s.data.toList ++ 46 :: chainText n l

def ErrRel (n : Int) (T : List UInt8) (w : World) (g : Nat) (t : Value) (wr : World) : Prop :=
  ∃ done : List UInt8, Lib.IsBuilder 52 5 w.heap.size w.heap.size (Lib.byteCells done) wr ∧ Below w.heap.size w wr ∧ w.heap.size ≤ wr.heap.size ∧
    ((∃ (p : Nat) (s : ByteArray) (l : List ByteArray), t = .pointer (some ⟨p, 0, none⟩) ∧ Chain w n (.iface 36 (.pointer (some ⟨p, 0, none⟩))) (s :: l) ∧ g = l.length + 1 ∧ done ++ chainText n (s :: l) = T) ∨ (t = .pointer none ∧ g = 0 ∧ done = T))

set_option maxHeartbeats 4000000 in
set_option maxRecDepth 100000 in
theorem error_chain (n : Int) (p : Nat) (s : ByteArray) (l : List ByteArray) (w : World) (hc : Chain w n (.iface 36 (.pointer (some ⟨p, 0, none⟩))) (s :: l)) (hlen : (chainText n (s :: l)).length ≤ 140737488355328) :
    Calls Tryd.prog 16 #[.pointer (some ⟨p, 0, none⟩)] w fun e w' => e = .returned (.string ⟨(chainText n (s :: l)).toArray⟩) ∧ Below w.heap.size w w' := by
  have a1 := Tryd.isTag36
  have a2 := Tryd.isTag29
  obtain ⟨T, hT⟩ : ∃ T, T = chainText n (s :: l) := ⟨_, rfl⟩
  rw [← hT] at hlen ⊢
  have HT := Lib.hid hT
  have HL := Lib.hid hlen
  have HC := Lib.hid hc
  clear hT hlen hc
  go_enter Tryd.func16, Tryd.ntmps16
  go_wp2
  go_loopg [0] (l.length + 1) (fun g t wr => ErrRel n T w g t wr)
  case atStart => exact ⟨[], Lib.fresh_isBuilder 52 5 w, (Below.refl _ _).alloc (Nat.le_refl _) _, by simp, .inl ⟨p, s, l, rfl, HC.out, rfl, by rw [HT.out]; rfl⟩⟩
  case round =>
    obtain ⟨done, hbu, hbw, hsz, h⟩ := hrel
    have HBU := Lib.hid hbu
    have HBW := Lib.hid hbw
    have HSZ := Lib.hid hsz
    clear hbu hbw hsz HC HT
    rcases h with ⟨p', s', l', rfl, hch, rfl, hd⟩ | ⟨rfl, rfl, hd⟩
    · have hch2 := hch
      cases hch2 with
      | tag _ _ t x _ h0 h1 hlt hch3 =>
        have k0 : wr.cell? ⟨p', 0, none⟩ = some (.string s') := (HBW.out.cell (p := ⟨p', 0, none⟩) hlt).trans h0
        have HD := Lib.hid hd
        have H1 := Lib.hid h1
        have H3 := Lib.hid hch3
        have HLT := Lib.hid hlt
        clear hch hd h0 h1 hch3 hlt
        have HN : Hid (done.length + s'.size + 1 + (chainText n l').length ≤ 140737488355328) := by
          have h := congrArg List.length HD.out
          have h' := HL.out
          have e := lenS s'
          simp only [chainText, List.length_append, List.length_cons, e] at h
          exact (by omega : done.length + s'.size + 1 + (chainText n l').length ≤ 140737488355328)
        go_wp2_with fail
        refine (writeStr w.heap.size w.heap.size done s' wr HBU.out (by have := HN.out; omega) HSZ.out).mono ?_
        rintro e w1 ⟨rfl, hu1, hb1⟩
        have HB1 := Lib.hid (HBW.out.trans hb1)
        have HU1 := Lib.hid hu1
        clear hb1 hu1 HBU HBW k0
        go_wp2_with fail
        refine (writeDot w.heap.size w.heap.size (done ++ s'.data.toList) w1 HU1.out (by have := HN.out; rw [List.length_append, lenS]; omega) HB1.out.size).mono ?_
        rintro e w2 ⟨rfl, hu2, hb2⟩
        have HB2 := Lib.hid (HB1.out.trans hb2)
        have HU2 := Lib.hid hu2
        have k1 : w2.cell? ⟨p', 1, none⟩ = some (.iface t x) := (HB2.out.cell (p := ⟨p', 1, none⟩) HLT.out).trans H1.out
        clear hb2 hu2 HB1 HU1
        have h3 := H3.out
        cases h3 with
        | base =>
          go_wp2_with fail
          refine (textOf_num n w2).mono ?_
          rintro e w3 ⟨rfl, hb3⟩
          have HB3 := Lib.hid (HB2.out.trans (hb3.mono HB2.out.size))
          have HU3 := Lib.hid (keepBuilder HU2.out hb3)
          clear hb3
          go_wp2_with fail
          refine (writeStr w.heap.size w.heap.size (done ++ s'.data.toList ++ [46]) (numText n) w3 HU3.out (by have := HN.out; have e : (chainText n []).length = (numText n).size := lenS _; simp only [List.length_append, List.length_cons, List.length_nil, lenS]; omega) HB3.out.size).mono ?_
          rintro e w4 ⟨rfl, hu4, hb4⟩
          have HB4 := Lib.hid (HB3.out.trans hb4)
          have HU4 := Lib.hid hu4
          clear hu4 hb4
          go_wp2
          go_roundg 0
          case measure => simp
          case rel => exact ⟨_, HU4.out, HB4.out, HB4.out.size, .inr ⟨rfl, rfl, by rw [← HD.out]; simp only [chainText, List.append_assoc, List.cons_append, List.nil_append]⟩⟩
        | tag p2 s2 t2 x2 l2 g0 g1 glt gch =>
          have G := Lib.hid (Chain.tag p2 s2 t2 x2 l2 g0 g1 glt gch)
          clear g0 g1 glt gch H3
          go_wp2
          go_roundg (l2.length + 1)
          case measure => simp
          case rel => exact ⟨_, HU2.out, HB2.out, HB2.out.size, .inl ⟨p2, s2, l2, rfl, G.out, rfl, by rw [← HD.out]; simp only [chainText, List.append_assoc, List.cons_append, List.nil_append]⟩⟩
    · have HD := Lib.hid hd
      clear hd
      go_wp2_with fail
      refine (Tryd.Builder_String_any w.heap.size w.heap.size done wr HBU.out HSZ.out).mono ?_
      rintro e w1 ⟨rfl, hb1⟩
      have HB1 := Lib.hid (HBW.out.trans hb1)
      clear hb1
      go_wp2
      go_ret
      exact ⟨by rw [HD.out]; rfl, HB1.out⟩
end Go.Proofs.YtbngcempcihgoaaDoor
