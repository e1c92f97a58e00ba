/-
  One option between two ends: all its configurations, as a table that is closed.
-/
import Derived.Test.YtdpfjbpfafekfaaOa
namespace Go.Proofs.Ytdpfjbpfafekfaa

/-- A configuration of one option between its performer (a) and the other end (b): their states, the words on the way to each, the greatest of 'words less four times asks', and how many hearings are still to come at most. -/
structure Row where
  a : Int
  b : Int
  ta : List Bool
  tb : List Bool
  d : Int
  m : Nat
def tab00 : List Row := [⟨0, 0, [], [], 0, 0⟩, ⟨0, 2, [], [false], -8, 1⟩, ⟨0, 3, [], [false], -12, 3⟩, ⟨0, 4, [], [false], -2, 1⟩, ⟨0, 4, [true], [], -3, 2⟩, ⟨0, 5, [], [false], -6, 1⟩, ⟨0, 5, [true], [], -7, 2⟩, ⟨1, 1, [], [], -6, 0⟩, ⟨1, 2, [false], [], -9, 2⟩, ⟨1, 3, [false], [], -13, 4⟩, ⟨1, 4, [], [true], -6, 1⟩, ⟨1, 5, [], [true], -10, 3⟩, ⟨2, 0, [false], [], -8, 1⟩, ⟨2, 1, [], [false], -9, 2⟩, ⟨2, 2, [false], [false], -12, 2⟩, ⟨2, 3, [false], [false], -16, 4⟩, ⟨2, 4, [], [true, false], -9, 3⟩, ⟨2, 4, [false, true], [], -11, 3⟩, ⟨2, 5, [], [true, false], -13, 3⟩, ⟨2, 5, [false, true], [], -15, 3⟩, ⟨3, 0, [false], [], -12, 3⟩, ⟨3, 1, [], [false], -13, 4⟩, ⟨3, 2, [false], [false], -16, 4⟩, ⟨3, 3, [false], [false], -20, 4⟩, ⟨3, 4, [], [true, false], -13, 5⟩, ⟨3, 4, [false, true], [], -15, 3⟩, ⟨3, 5, [], [true, false], -17, 5⟩, ⟨3, 5, [false, true], [], -19, 5⟩, ⟨4, 0, [], [true], -3, 2⟩, ⟨4, 0, [false], [], -2, 1⟩, ⟨4, 1, [true], [], -6, 1⟩, ⟨4, 2, [], [false, true], -11, 3⟩, ⟨4, 2, [true, false], [], -9, 3⟩, ⟨4, 3, [], [false, true], -15, 3⟩, ⟨4, 3, [true, false], [], -13, 5⟩, ⟨4, 4, [], [false, true], -5, 3⟩, ⟨4, 4, [false, true], [], -5, 3⟩, ⟨4, 4, [true], [true], -6, 2⟩, ⟨4, 5, [], [false, true], -9, 3⟩, ⟨4, 5, [false, true], [], -9, 3⟩, ⟨4, 5, [true], [true], -10, 4⟩, ⟨5, 0, [], [true], -7, 2⟩, ⟨5, 0, [false], [], -6, 1⟩, ⟨5, 1, [true], [], -10, 3⟩, ⟨5, 2, [], [false, true], -15, 3⟩, ⟨5, 2, [true, false], [], -13, 3⟩, ⟨5, 3, [], [false, true], -19, 5⟩, ⟨5, 3, [true, false], [], -17, 5⟩, ⟨5, 4, [], [false, true], -9, 3⟩, ⟨5, 4, [false, true], [], -9, 3⟩, ⟨5, 4, [true], [true], -10, 4⟩, ⟨5, 5, [], [false, true], -13, 3⟩, ⟨5, 5, [false, true], [], -13, 3⟩, ⟨5, 5, [true], [true], -14, 4⟩]
def tab01 : List Row := [⟨0, 0, [], [], 0, 0⟩, ⟨0, 2, [], [false], -4, 1⟩, ⟨0, 3, [], [false], -8, 3⟩, ⟨0, 4, [], [false], -2, 1⟩, ⟨0, 4, [true], [], -3, 2⟩, ⟨0, 5, [], [false], -6, 1⟩, ⟨0, 5, [true], [], -7, 2⟩, ⟨1, 1, [], [], -2, 0⟩, ⟨1, 2, [false], [], -5, 2⟩, ⟨1, 3, [false], [], -9, 4⟩, ⟨1, 4, [], [true], -6, 1⟩, ⟨1, 5, [], [true], -10, 3⟩, ⟨2, 0, [false], [], -4, 1⟩, ⟨2, 1, [], [false], -5, 2⟩, ⟨2, 2, [false], [false], -8, 2⟩, ⟨2, 3, [false], [false], -12, 4⟩, ⟨2, 4, [], [true, false], -9, 3⟩, ⟨2, 4, [false, true], [], -7, 3⟩, ⟨2, 5, [], [true, false], -13, 3⟩, ⟨2, 5, [false, true], [], -11, 3⟩, ⟨3, 0, [false], [], -8, 3⟩, ⟨3, 1, [], [false], -9, 4⟩, ⟨3, 2, [false], [false], -12, 4⟩, ⟨3, 3, [false], [false], -16, 4⟩, ⟨3, 4, [], [true, false], -13, 5⟩, ⟨3, 4, [false, true], [], -11, 3⟩, ⟨3, 5, [], [true, false], -17, 5⟩, ⟨3, 5, [false, true], [], -15, 5⟩, ⟨4, 0, [], [true], -3, 2⟩, ⟨4, 1, [true], [], -2, 1⟩, ⟨4, 2, [], [false, true], -7, 3⟩, ⟨4, 2, [true, false], [], -5, 3⟩, ⟨4, 3, [], [false, true], -11, 3⟩, ⟨4, 3, [true, false], [], -9, 5⟩, ⟨4, 4, [], [false, true], -5, 3⟩, ⟨4, 4, [true], [true], -6, 2⟩, ⟨4, 5, [], [false, true], -9, 3⟩, ⟨4, 5, [true], [true], -10, 4⟩, ⟨5, 0, [], [true], -7, 4⟩, ⟨5, 1, [true], [], -6, 3⟩, ⟨5, 2, [], [false, true], -11, 5⟩, ⟨5, 2, [true, false], [], -9, 3⟩, ⟨5, 3, [], [false, true], -15, 5⟩, ⟨5, 3, [true, false], [], -13, 5⟩, ⟨5, 4, [], [false, true], -9, 5⟩, ⟨5, 4, [true], [true], -10, 4⟩, ⟨5, 5, [], [false, true], -13, 5⟩, ⟨5, 5, [true], [true], -14, 4⟩]
def tab10 : List Row := [⟨0, 0, [], [], 0, 0⟩, ⟨0, 2, [], [false], -4, 1⟩, ⟨0, 3, [], [false], -8, 3⟩, ⟨0, 4, [true], [], -3, 2⟩, ⟨0, 5, [true], [], -7, 4⟩, ⟨1, 1, [], [], -2, 0⟩, ⟨1, 2, [false], [], -5, 2⟩, ⟨1, 3, [false], [], -9, 4⟩, ⟨1, 4, [], [true], -2, 1⟩, ⟨1, 5, [], [true], -6, 3⟩, ⟨2, 0, [false], [], -4, 1⟩, ⟨2, 1, [], [false], -5, 2⟩, ⟨2, 2, [false], [false], -8, 2⟩, ⟨2, 3, [false], [false], -12, 4⟩, ⟨2, 4, [], [true, false], -5, 3⟩, ⟨2, 4, [false, true], [], -7, 3⟩, ⟨2, 5, [], [true, false], -9, 3⟩, ⟨2, 5, [false, true], [], -11, 5⟩, ⟨3, 0, [false], [], -8, 3⟩, ⟨3, 1, [], [false], -9, 4⟩, ⟨3, 2, [false], [false], -12, 4⟩, ⟨3, 3, [false], [false], -16, 4⟩, ⟨3, 4, [], [true, false], -9, 5⟩, ⟨3, 4, [false, true], [], -11, 3⟩, ⟨3, 5, [], [true, false], -13, 5⟩, ⟨3, 5, [false, true], [], -15, 5⟩, ⟨4, 0, [], [true], -3, 2⟩, ⟨4, 0, [false], [], -2, 1⟩, ⟨4, 1, [true], [], -6, 1⟩, ⟨4, 2, [], [false, true], -7, 3⟩, ⟨4, 2, [true, false], [], -9, 3⟩, ⟨4, 3, [], [false, true], -11, 3⟩, ⟨4, 3, [true, false], [], -13, 5⟩, ⟨4, 4, [false, true], [], -5, 3⟩, ⟨4, 4, [true], [true], -6, 2⟩, ⟨4, 5, [false, true], [], -9, 5⟩, ⟨4, 5, [true], [true], -10, 4⟩, ⟨5, 0, [], [true], -7, 2⟩, ⟨5, 0, [false], [], -6, 1⟩, ⟨5, 1, [true], [], -10, 3⟩, ⟨5, 2, [], [false, true], -11, 3⟩, ⟨5, 2, [true, false], [], -13, 3⟩, ⟨5, 3, [], [false, true], -15, 5⟩, ⟨5, 3, [true, false], [], -17, 5⟩, ⟨5, 4, [false, true], [], -9, 3⟩, ⟨5, 4, [true], [true], -10, 4⟩, ⟨5, 5, [false, true], [], -13, 5⟩, ⟨5, 5, [true], [true], -14, 4⟩]
def tab11 : List Row := [⟨0, 0, [], [], 0, 0⟩, ⟨0, 2, [], [false], -4, 1⟩, ⟨0, 3, [], [false], -8, 3⟩, ⟨0, 4, [true], [], -3, 2⟩, ⟨0, 5, [true], [], -7, 4⟩, ⟨1, 1, [], [], -2, 0⟩, ⟨1, 2, [false], [], -5, 2⟩, ⟨1, 3, [false], [], -9, 4⟩, ⟨1, 4, [], [true], -2, 1⟩, ⟨1, 5, [], [true], -6, 3⟩, ⟨2, 0, [false], [], -4, 1⟩, ⟨2, 1, [], [false], -5, 2⟩, ⟨2, 2, [false], [false], -8, 2⟩, ⟨2, 3, [false], [false], -12, 4⟩, ⟨2, 4, [], [true, false], -5, 3⟩, ⟨2, 4, [false, true], [], -7, 3⟩, ⟨2, 5, [], [true, false], -9, 3⟩, ⟨2, 5, [false, true], [], -11, 5⟩, ⟨3, 0, [false], [], -8, 3⟩, ⟨3, 1, [], [false], -9, 4⟩, ⟨3, 2, [false], [false], -12, 4⟩, ⟨3, 3, [false], [false], -16, 4⟩, ⟨3, 4, [], [true, false], -9, 5⟩, ⟨3, 4, [false, true], [], -11, 3⟩, ⟨3, 5, [], [true, false], -13, 5⟩, ⟨3, 5, [false, true], [], -15, 5⟩, ⟨4, 0, [], [true], -3, 2⟩, ⟨4, 1, [true], [], -2, 1⟩, ⟨4, 2, [], [false, true], -7, 3⟩, ⟨4, 2, [true, false], [], -5, 3⟩, ⟨4, 3, [], [false, true], -11, 3⟩, ⟨4, 3, [true, false], [], -9, 5⟩, ⟨4, 4, [true], [true], -6, 2⟩, ⟨4, 5, [true], [true], -10, 4⟩, ⟨5, 0, [], [true], -7, 4⟩, ⟨5, 1, [true], [], -6, 3⟩, ⟨5, 2, [], [false, true], -11, 5⟩, ⟨5, 2, [true, false], [], -9, 3⟩, ⟨5, 3, [], [false, true], -15, 5⟩, ⟨5, 3, [true, false], [], -13, 5⟩, ⟨5, 4, [true], [true], -10, 4⟩, ⟨5, 5, [true], [true], -14, 4⟩]
def tab (p q : Bool) : List Row := match p, q with
  | false, false => tab00
  | false, true => tab01
  | true, false => tab10
  | true, true => tab11
/-- The word that is said. -/
def wordL (say : Int) : List Bool := if say = 0 then [] else [decide (say = 1)]
def wordN (say : Int) : Int := if say = 0 then 0 else 1
/-- a hears its eldest word; b hears; they ask. -/
def cHearA (p : Bool) (r : Row) : Option (Int × Int × List Bool × List Bool × Int) := match r.ta with
  | [] => none
  | t :: ta => let h := if t then hOn r.a p else hOff r.a; some (h.1, r.b, ta, r.tb ++ wordL h.2, wordN h.2)
def cHearB (q : Bool) (r : Row) : Option (Int × Int × List Bool × List Bool × Int) := match r.tb with
  | [] => none
  | t :: tb => let h := if t then hOn r.b q else hOff r.b; some (r.a, h.1, r.ta ++ wordL h.2, tb, wordN h.2)
def cAskA (on : Bool) (r : Row) : Option (Int × Int × List Bool × List Bool × Int) := let h := askN r.a on; if h.2.2 then some (h.1, r.b, r.ta, r.tb ++ wordL h.2.1, wordN h.2.1) else none
def cAskB (on : Bool) (r : Row) : Option (Int × Int × List Bool × List Bool × Int) := let h := askN r.b on; if h.2.2 then some (r.a, h.1, r.ta ++ wordL h.2.1, r.tb, wordN h.2.1) else none
/-- A row of the table answers for what follows. -/
def okAs (t : List Row) (k : Int) (dm : Nat) (r : Row) (x : Option (Int × Int × List Bool × List Bool × Int)) : Bool := match x with
  | none => true
  | some (a, b, ta, tb, n) => t.any fun s => s.a == a && s.b == b && s.ta == ta && s.tb == tb && decide (r.d + n - k ≤ s.d) && decide (s.m + dm ≤ r.m)
def okAs' (t : List Row) (k : Int) (r : Row) (x : Option (Int × Int × List Bool × List Bool × Int)) : Bool := match x with
  | none => true
  | some (a, b, ta, tb, n) => t.any fun s => s.a == a && s.b == b && s.ta == ta && s.tb == tb && decide (r.d + n - k ≤ s.d)
def okRow (p q : Bool) (r : Row) : Bool :=
  okAs (tab p q) 0 1 r (cHearA p r) && okAs (tab p q) 0 1 r (cHearB q r) && okAs' (tab p q) 4 r (cAskA true r) && okAs' (tab p q) 4 r (cAskA false r) && okAs' (tab p q) 4 r (cAskB true r) && okAs' (tab p q) 4 r (cAskB false r)
    && decide (r.d ≤ 0) && decide (r.m ≤ 5) && (!(r.ta.isEmpty && r.tb.isEmpty) || (r.a == r.b && (r.a == 0 || r.a == 1))) && (!(r.ta.isEmpty && r.tb.isEmpty) || r.m == 0)
set_option maxRecDepth 100000 in
theorem tab_ok : ∀ p q : Bool, (tab p q).all (okRow p q) = true := by decide +kernel
theorem tab_new : ∀ p q : Bool, (⟨0, 0, [], [], 0, 0⟩ : Row) ∈ tab p q := by
  intro p q
  cases p <;> cases q <;> exact List.Mem.head _
theorem row_ok {p q : Bool} {r : Row} (h : r ∈ tab p q) : okRow p q r = true := List.all_eq_true.1 (tab_ok p q) r h
theorem as_row {t : List Row} {k : Int} {dm : Nat} {r : Row} {a b : Int} {ta tb : List Bool} {n : Int} (h : okAs t k dm r (some (a, b, ta, tb, n)) = true) : ∃ d m, (⟨a, b, ta, tb, d, m⟩ : Row) ∈ t ∧ r.d + n - k ≤ d ∧ m + dm ≤ r.m := by
  obtain ⟨s, hs, h⟩ := List.any_eq_true.1 h
  simp at h
  obtain ⟨⟨⟨⟨⟨h1, h2⟩, h3⟩, h4⟩, h5⟩, h6⟩ := h
  subst h1 h2 h3 h4
  exact ⟨s.d, s.m, hs, h5, h6⟩
theorem as_row' {t : List Row} {k : Int} {r : Row} {a b : Int} {ta tb : List Bool} {n : Int} (h : okAs' t k r (some (a, b, ta, tb, n)) = true) : ∃ d m, (⟨a, b, ta, tb, d, m⟩ : Row) ∈ t ∧ r.d + n - k ≤ d := by
  obtain ⟨s, hs, h⟩ := List.any_eq_true.1 h
  simp at h
  obtain ⟨⟨⟨⟨h1, h2⟩, h3⟩, h4⟩, h5⟩ := h
  subst h1 h2 h3 h4
  exact ⟨s.d, s.m, hs, h5⟩
/-- Is there such a configuration? -/
def InT (p q : Bool) (a b : Int) (ta tb : List Bool) (d : Int) (m : Nat) : Prop := (⟨a, b, ta, tb, d, m⟩ : Row) ∈ tab p q
theorem InT.le {p q : Bool} {a b : Int} {ta tb : List Bool} {d : Int} {m : Nat} (h : InT p q a b ta tb d m) : d ≤ 0 ∧ m ≤ 5 := by
  have := row_ok h
  simp [okRow] at this
  exact ⟨this.1.1.1.2, this.1.1.2⟩
theorem InT.rest {p q : Bool} {a b : Int} {d : Int} {m : Nat} (h : InT p q a b [] [] d m) : a = b ∧ (a = 0 ∨ a = 1) ∧ m = 0 := by
  have := row_ok h
  simp [okRow] at this
  exact ⟨this.1.2.1, this.1.2.2, this.2⟩
theorem InT.hearA {p q : Bool} {a b : Int} {t : Bool} {ta tb : List Bool} {d : Int} {m : Nat} (h : InT p q a b (t :: ta) tb d m) : ∃ d' m', InT p q (if t then hOn a p else hOff a).1 b ta (tb ++ wordL (if t then hOn a p else hOff a).2) d' m' ∧ d + wordN (if t then hOn a p else hOff a).2 ≤ d' ∧ m' + 1 ≤ m := by
  have := row_ok h
  simp only [okRow, Bool.and_eq_true] at this
  obtain ⟨d', m', h1, h2, h3⟩ := as_row this.1.1.1.1.1.1.1.1.1
  exact ⟨d', m', h1, by simpa using h2, h3⟩
theorem InT.hearB {p q : Bool} {a b : Int} {t : Bool} {ta tb : List Bool} {d : Int} {m : Nat} (h : InT p q a b ta (t :: tb) d m) : ∃ d' m', InT p q a (if t then hOn b q else hOff b).1 (ta ++ wordL (if t then hOn b q else hOff b).2) tb d' m' ∧ d + wordN (if t then hOn b q else hOff b).2 ≤ d' ∧ m' + 1 ≤ m := by
  have := row_ok h
  simp only [okRow, Bool.and_eq_true] at this
  obtain ⟨d', m', h1, h2, h3⟩ := as_row this.1.1.1.1.1.1.1.1.2
  exact ⟨d', m', h1, by simpa using h2, h3⟩
theorem InT.askA {p q : Bool} {a b : Int} {ta tb : List Bool} {d : Int} {m : Nat} (h : InT p q a b ta tb d m) (on : Bool) (ha : (askN a on).2.2 = true) : ∃ d' m', InT p q (askN a on).1 b ta (tb ++ wordL (askN a on).2.1) d' m' ∧ d + wordN (askN a on).2.1 - 4 ≤ d' := by
  have hr := row_ok h
  simp only [okRow, Bool.and_eq_true] at hr
  cases on
  · have hq := hr.1.1.1.1.1.1.2
    rw [show cAskA false ⟨a, b, ta, tb, d, m⟩ = some ((askN a false).1, b, ta, tb ++ wordL (askN a false).2.1, wordN (askN a false).2.1) from if_pos ha] at hq
    obtain ⟨d', m', h1, h2⟩ := as_row' hq
    exact ⟨d', m', h1, h2⟩
  · have hq := hr.1.1.1.1.1.1.1.2
    rw [show cAskA true ⟨a, b, ta, tb, d, m⟩ = some ((askN a true).1, b, ta, tb ++ wordL (askN a true).2.1, wordN (askN a true).2.1) from if_pos ha] at hq
    obtain ⟨d', m', h1, h2⟩ := as_row' hq
    exact ⟨d', m', h1, h2⟩
theorem InT.askB {p q : Bool} {a b : Int} {ta tb : List Bool} {d : Int} {m : Nat} (h : InT p q a b ta tb d m) (on : Bool) (ha : (askN b on).2.2 = true) : ∃ d' m', InT p q a (askN b on).1 (ta ++ wordL (askN b on).2.1) tb d' m' ∧ d + wordN (askN b on).2.1 - 4 ≤ d' := by
  have hr := row_ok h
  simp only [okRow, Bool.and_eq_true] at hr
  cases on
  · have hq := hr.1.1.1.1.2
    rw [show cAskB false ⟨a, b, ta, tb, d, m⟩ = some (a, (askN b false).1, ta ++ wordL (askN b false).2.1, tb, wordN (askN b false).2.1) from if_pos ha] at hq
    obtain ⟨d', m', h1, h2⟩ := as_row' hq
    exact ⟨d', m', h1, h2⟩
  · have hq := hr.1.1.1.1.1.2
    rw [show cAskB true ⟨a, b, ta, tb, d, m⟩ = some (a, (askN b true).1, ta ++ wordL (askN b true).2.1, tb, wordN (askN b true).2.1) from if_pos ha] at hq
    obtain ⟨d', m', h1, h2⟩ := as_row' hq
    exact ⟨d', m', h1, h2⟩
end Go.Proofs.Ytdpfjbpfafekfaa
