/-
  The talk's invariant; a hearing keeps it.
-/
import Derived.Test.YtdpfjbpfafekfaaPe
namespace Go.Proofs.Ytdpfjbpfafekfaa
open Go.RowKit Go.Lib

theorem Glob.most {G0 G1 : Nat → Bool} {S0 S1 : Nat → Int} {q0 q1 : List (Nat × Nat)} {n asks : Int} {tot : Nat} (h : Glob G0 G1 S0 S1 q0 q1 n asks tot) : n ≤ 4 * asks := by
  obtain ⟨⟨D0, D1, M0, M1, h1, h2, h3, h4⟩, _⟩ := h
  have a (o : Nat) (ho : o < 4) := InT.le (h1 o ho)
  have b (o : Nat) (ho : o < 4) := InT.le (h2 o ho)
  have a0 := a 0 (by omega); have a1 := a 1 (by omega); have a2 := a 2 (by omega); have a3 := a 3 (by omega)
  have b0 := b 0 (by omega); have b1 := b 1 (by omega); have b2 := b 2 (by omega); have b3 := b 3 (by omega)
  unfold sumD at h3
  omega
theorem msgL_length (side say : Int) (o : Nat) : ((msgL side say o).length : Int) = wordN say := by
  unfold msgL wordN
  split <;> rfl
/-- Two ends talk; z: it is known that no word is on its way to the first. -/
def TI (B t g0 g1 : Nat) (G0 G1 : Nat → Bool) (asks : Int) (z : Bool) (tot : Nat) (W : World) : Prop :=
  ∃ v0 v1 S0 S1 q0 q1 n, Talk B W t g0 g1 v0 v1 G0 G1 S0 S1 q0 q1 n ∧ Glob G0 G1 S0 S1 q0 q1 n asks tot ∧ ((q0.length : Int) + q1.length ≤ n) ∧ (z = true → q0 = [])
/-- No word is on its way. -/
def TE (B t g0 g1 : Nat) (G0 G1 : Nat → Bool) (asks : Int) (W : World) : Prop :=
  ∃ v0 v1 S0 S1 n tot, Talk B W t g0 g1 v0 v1 G0 G1 S0 S1 [] [] n ∧ Glob G0 G1 S0 S1 [] [] n asks tot ∧ 0 ≤ n
section
variable {B t g0 g1 : Nat} {G0 G1 : Nat → Bool} {asks : Int} {z : Bool} {tot : Nat} {W : World}
theorem TI.few (h : TI B t g0 g1 G0 G1 asks z tot W) : tot ≤ 40 := by
  obtain ⟨v0, v1, S0, S1, q0, q1, n, hT, hG, hn, hz⟩ := h
  exact hG.few
theorem TI.step {W' : World} (h : TI B t g0 g1 G0 G1 asks z tot W) (hb : Below W.heap.size W W') : TI B t g0 g1 G0 G1 asks z tot W' := by
  obtain ⟨v0, v1, S0, S1, q0, q1, n, hT, hG, hn, hz⟩ := h
  exact ⟨v0, v1, S0, S1, q0, q1, n, hT.step hb, hG, hn, hz⟩
theorem TI.any (h : TI B t g0 g1 G0 G1 asks z tot W) : TI B t g0 g1 G0 G1 asks false tot W := by
  obtain ⟨v0, v1, S0, S1, q0, q1, n, hT, hG, hn, hz⟩ := h
  exact ⟨v0, v1, S0, S1, q0, q1, n, hT, hG, hn, fun h => by cases h⟩
theorem TI.base (h : TI B t g0 g1 G0 G1 asks z tot W) : B ≤ W.heap.size := by
  obtain ⟨v0, v1, S0, S1, q0, q1, n, hT, hG, hn, hz⟩ := h
  have := hT.base
  have := hT.lt
  omega
/-- The first end hears, or has nothing to hear. -/
def TH0D (B t g0 g1 : Nat) (G0 G1 : Nat → Bool) (asks : Int) (tot : Nat) (w : World) (e : Ending) (w' : World) : Prop :=
  ∃ r, e = .returned (.bool r) ∧ Below B w w' ∧ ∃ tot', (r = true → tot' + 1 ≤ tot) ∧ tot' ≤ tot ∧ TI B t g0 g1 G0 G1 asks (!r) tot' w'
theorem ti_hear_0 (h : TI B t g0 g1 G0 G1 asks false tot W) (ha : asks ≤ 100) : Calls Try.prog 24 #[.pointer (some ⟨t, 0, none⟩), .int .i64 0] W (TH0D B t g0 g1 G0 G1 asks tot W) := by
  have hB := h.base
  obtain ⟨v0, v1, S0, S1, q0, q1, n, hT, hG, hn, -⟩ := h
  have hm := hG.most
  cases q0 with
  | nil => exact (thear_none_0 B t g0 g1 v0 v1 G0 G1 S0 S1 q1 n W hT).mono fun e w' ⟨he, hb⟩ => ⟨false, he, hb.mono hB, tot, (fun h => by cases h), Nat.le_refl _, _, _, _, _, _, _, _, hT.step hb, hG, hn, fun _ => rfl⟩
  | cons m q0 =>
    obtain ⟨v, o⟩ := m
    obtain ⟨hv, ho⟩ := hG.v0 (v, o) (by simp)
    simp only [List.length_cons] at hn
    refine (thear_0 B t g0 g1 v0 v1 G0 G1 S0 S1 v o q0 q1 n W hT hv (by simp only at ho; omega) (by omega) (by omega)).mono fun e w' ⟨he, hb, v0', v1', hT'⟩ => ?_
    obtain ⟨tot', ht, hG'⟩ := hG.hear (hT.m0.ok _)
    refine ⟨true, he, hb, tot', fun _ => ht, by omega, _, _, _, _, _, _, _, hT', hG', ?_, fun h => by cases h⟩
    rw [List.length_append]
    have := msgL_length (sideOf v) (hearN v (S0 (idx (sideOf v) o)) (G0 (idx (sideOf v) o))).2 o
    omega
/-- The second end hears, or has nothing to hear. -/
def TH1D (B t g0 g1 : Nat) (G0 G1 : Nat → Bool) (asks : Int) (z : Bool) (tot : Nat) (w : World) (e : Ending) (w' : World) : Prop :=
  ∃ r, e = .returned (.bool r) ∧ Below B w w' ∧ ∃ tot', (r = true → tot' + 1 ≤ tot) ∧ tot' ≤ tot ∧ TI B t g0 g1 G0 G1 asks false tot' w' ∧ (z = true → r = false → TE B t g0 g1 G0 G1 asks w')
theorem ti_hear_1 (h : TI B t g0 g1 G0 G1 asks z tot W) (ha : asks ≤ 100) : Calls Try.prog 24 #[.pointer (some ⟨t, 0, none⟩), .int .i64 1] W (TH1D B t g0 g1 G0 G1 asks z tot W) := by
  have hB := h.base
  obtain ⟨v0, v1, S0, S1, q0, q1, n, hT, hG, hn, hz⟩ := h
  have hm := hG.most
  cases q1 with
  | nil =>
    refine (thear_none_1 B t g0 g1 v0 v1 G0 G1 S0 S1 q0 n W hT).mono fun e w' ⟨he, hb⟩ => ⟨false, he, hb.mono hB, tot, (fun h => by cases h), Nat.le_refl _, ⟨_, _, _, _, _, _, _, hT.step hb, hG, hn, fun h => by cases h⟩, fun hz' _ => ?_⟩
    obtain rfl := hz hz'
    exact ⟨_, _, _, _, _, _, hT.step hb, hG, by simp at hn; omega⟩
  | cons m q1 =>
    obtain ⟨v, o⟩ := m
    obtain ⟨hv, ho⟩ := hG.v1 (v, o) (by simp)
    simp only [List.length_cons] at hn
    refine (thear_1 B t g0 g1 v0 v1 G0 G1 S0 S1 v o q0 q1 n W hT hv (by simp only at ho; omega) (by omega) (by omega)).mono fun e w' ⟨he, hb, v0', v1', hT'⟩ => ?_
    obtain ⟨tot', ht, hG'⟩ := hG.swap.hear (hT.m1.ok _)
    refine ⟨true, he, hb, tot', fun _ => ht, by omega, ⟨_, _, _, _, _, _, _, hT', hG'.swap, ?_, fun h => by cases h⟩, fun _ h => by cases h⟩
    rw [List.length_append]
    have := msgL_length (sideOf v) (hearN v (S1 (idx (sideOf v) o)) (G1 (idx (sideOf v) o))).2 o
    omega
end
end Go.Proofs.Ytdpfjbpfafekfaa
