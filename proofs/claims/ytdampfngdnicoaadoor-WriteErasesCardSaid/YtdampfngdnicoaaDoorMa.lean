/-
  An extended attribute, applied to a cell: the program's and the reference's.
-/
import Derived.Test.YtdampfngdnicoaaDoorGc
import Derived.Test.YtdampfngdnicoaaDoorOe
import Derived.Deep.RegionHeld3
namespace Go.Proofs.YtdampfngdnicoaaDoor
open Go.RowKit Go.Lib

/-- A byte's six bits, without 2. -/
def six6 (v : Nat) : Int := bitsZ (ofP v) (ofN v) (ofD v) (ofM v)
theorem and61 : ∀ v : Nat, v < 256 → bits .and .u8 (v : Int) 61 = six6 v := by decide +kernel
/-- Six stores into a block. -/
def put6 (W : World) (g : Nat) (x0 x1 x2 x3 x4 x5 : Value) : World := (((((W.setCell ⟨g, 0, none⟩ x0).setCell ⟨g, 1, none⟩ x1).setCell ⟨g, 2, none⟩ x2).setCell ⟨g, 3, none⟩ x3).setCell ⟨g, 4, none⟩ x4).setCell ⟨g, 5, none⟩ x5
theorem addr_ne {g i j : Nat} (h : i ≠ j) : (⟨g, i, none⟩ : Addr) ≠ ⟨g, j, none⟩ := fun e => h (by injection e)
theorem sco6 (W : World) (g i j : Nat) (v : Value) (h : i ≠ j) : (W.setCell ⟨g, i, none⟩ v).cell? ⟨g, j, none⟩ = W.cell? ⟨g, j, none⟩ := World.cell?_setCell_other (w := W) (a := ⟨g, i, none⟩) (v := v) (b := ⟨g, j, none⟩) (h := addr_ne h)
theorem scs6 (W : World) (g i : Nat) (v u : Value) (h : W.cell? ⟨g, i, none⟩ = some u) : (W.setCell ⟨g, i, none⟩ v).cell? ⟨g, i, none⟩ = some v := World.cell?_setCell_same (w := W) (a := ⟨g, i, none⟩) (v := v) (h := h)
theorem six_has {W : World} {g i j : Nat} {v u : Value} (h : W.cell? ⟨g, j, none⟩ = some u) : ∃ u', (W.setCell ⟨g, i, none⟩ v).cell? ⟨g, j, none⟩ = some u' := cell?_setCell_some h
theorem put6_cells {W : World} {g : Nat} {x0 x1 x2 x3 x4 x5 u0 u1 u2 u3 u4 u5 : Value} (h0 : W.cell? ⟨g, 0, none⟩ = some u0) (h1 : W.cell? ⟨g, 1, none⟩ = some u1) (h2 : W.cell? ⟨g, 2, none⟩ = some u2) (h3 : W.cell? ⟨g, 3, none⟩ = some u3) (h4 : W.cell? ⟨g, 4, none⟩ = some u4) (h5 : W.cell? ⟨g, 5, none⟩ = some u5) :
    (put6 W g x0 x1 x2 x3 x4 x5).cell? ⟨g, 0, none⟩ = some x0 ∧ (put6 W g x0 x1 x2 x3 x4 x5).cell? ⟨g, 1, none⟩ = some x1 ∧ (put6 W g x0 x1 x2 x3 x4 x5).cell? ⟨g, 2, none⟩ = some x2 ∧ (put6 W g x0 x1 x2 x3 x4 x5).cell? ⟨g, 3, none⟩ = some x3 ∧ (put6 W g x0 x1 x2 x3 x4 x5).cell? ⟨g, 4, none⟩ = some x4 ∧ (put6 W g x0 x1 x2 x3 x4 x5).cell? ⟨g, 5, none⟩ = some x5 := by
  unfold put6
  refine ⟨?_, ?_, ?_, ?_, ?_, ?_⟩
  · rw [sco6 _ _ 5 0 _ (by decide), sco6 _ _ 4 0 _ (by decide), sco6 _ _ 3 0 _ (by decide), sco6 _ _ 2 0 _ (by decide), sco6 _ _ 1 0 _ (by decide)]
    refine scs6 _ _ 0 _ u0 ?_
    exact h0
  · rw [sco6 _ _ 5 1 _ (by decide), sco6 _ _ 4 1 _ (by decide), sco6 _ _ 3 1 _ (by decide), sco6 _ _ 2 1 _ (by decide)]
    refine scs6 _ _ 1 _ u1 ?_
    rw [sco6 _ _ 0 1 _ (by decide)]
    exact h1
  · rw [sco6 _ _ 5 2 _ (by decide), sco6 _ _ 4 2 _ (by decide), sco6 _ _ 3 2 _ (by decide)]
    refine scs6 _ _ 2 _ u2 ?_
    rw [sco6 _ _ 1 2 _ (by decide), sco6 _ _ 0 2 _ (by decide)]
    exact h2
  · rw [sco6 _ _ 5 3 _ (by decide), sco6 _ _ 4 3 _ (by decide)]
    refine scs6 _ _ 3 _ u3 ?_
    rw [sco6 _ _ 2 3 _ (by decide), sco6 _ _ 1 3 _ (by decide), sco6 _ _ 0 3 _ (by decide)]
    exact h3
  · rw [sco6 _ _ 5 4 _ (by decide)]
    refine scs6 _ _ 4 _ u4 ?_
    rw [sco6 _ _ 3 4 _ (by decide), sco6 _ _ 2 4 _ (by decide), sco6 _ _ 1 4 _ (by decide), sco6 _ _ 0 4 _ (by decide)]
    exact h4
  · refine scs6 _ _ 5 _ u5 ?_
    rw [sco6 _ _ 4 5 _ (by decide), sco6 _ _ 3 5 _ (by decide), sco6 _ _ 2 5 _ (by decide), sco6 _ _ 1 5 _ (by decide), sco6 _ _ 0 5 _ (by decide)]
    exact h5
theorem put6_below {B : Nat} {w W : World} {g : Nat} (x0 x1 x2 x3 x4 x5 : Value) (h : Below B w W) (hg : B ≤ g) : Below B w (put6 W g x0 x1 x2 x3 x4 x5) :=
  (((((h.setCell hg _).setCell hg _).setCell hg _).setCell hg _).setCell hg _).setCell hg _
theorem known_type {t v : Nat} (h : knownB t v = true) : t = 0 ∨ t = 65 ∨ t = 66 ∨ t = 67 ∨ t = 192 := by
  by_cases h0 : t = 0
  · exact .inl h0
  by_cases h1 : t = 65
  · exact .inr (.inl h1)
  by_cases h2 : t = 66
  · exact .inr (.inr (.inl h2))
  by_cases h3 : t = 67
  · exact .inr (.inr (.inr (.inl h3)))
  by_cases h4 : t = 192
  · exact .inr (.inr (.inr (.inr h4)))
  rw [known_none v h0 h1 h2 h3 h4] at h
  cases h
theorem known_zero {v : Nat} (h : knownB 0 v = true) : v = 0 := by
  rw [known_0] at h
  simpa using h
set_option maxRecDepth 100000 in
set_option maxHeartbeats 2000000 in
theorem apply_0 (t v : Nat) (ht : t = 0) (hv : v < 256) (hk : knownB t v = true) (ch fa hi co se : Int) (a : Bool) (w : World) : Calls Tryd.prog 83 #[pairV t v, .agg #[.int .u8 ch, .bool a, .int .u8 fa, .int .u8 hi, .int .u8 co, .int .u8 se]] w fun e w' => e = .returned (.tuple #[.agg #[.int .u8 ch, .bool a, .int .u8 fa, .int .u8 0, .int .u8 0, .int .u8 0], .int .i64 0]) ∧ Below w.heap.size w w' := by
  have H := hid (check_any t v hv)
  rw [hk] at H
  simp only [if_true] at H
  have e0 : ((t : Int) == 0) = true := by simp; omega
  clear hk ht
  go_enter Tryd.func83, Tryd.ntmps83
  go_wp2_with fail
  with_reducible refine (H.out _).mono ?_
  rintro e w1 ⟨rfl, hb1⟩
  have p0 := keepc (a := ⟨w.heap.size, 0, none⟩) (v := .int .u8 t) hb1 (by simp [go_sem])
  have p1 := keepc (a := ⟨w.heap.size, 1, none⟩) (v := .int .u8 v) hb1 (by simp [go_sem])
  have c0 := keepc (a := ⟨w.heap.size + 1, 0, none⟩) (v := .int .u8 ch) hb1 (by simp [go_sem])
  have c1 := keepc (a := ⟨w.heap.size + 1, 1, none⟩) (v := .bool a) hb1 (by simp [go_sem])
  have c2 := keepc (a := ⟨w.heap.size + 1, 2, none⟩) (v := .int .u8 fa) hb1 (by simp [go_sem])
  have c3 := keepc (a := ⟨w.heap.size + 1, 3, none⟩) (v := .int .u8 hi) hb1 (by simp [go_sem])
  have c4 := keepc (a := ⟨w.heap.size + 1, 4, none⟩) (v := .int .u8 co) hb1 (by simp [go_sem])
  have c5 := keepc (a := ⟨w.heap.size + 1, 5, none⟩) (v := .int .u8 se) hb1 (by simp [go_sem])
  have r0 := keepc (a := ⟨w.heap.size + 1 + 1, 0, none⟩) (v := .int .u8 0) hb1 (by simp [go_sem])
  have r1 := keepc (a := ⟨w.heap.size + 1 + 1, 1, none⟩) (v := .bool false) hb1 (by simp [go_sem])
  have r2 := keepc (a := ⟨w.heap.size + 1 + 1, 2, none⟩) (v := .int .u8 0) hb1 (by simp [go_sem])
  have r3 := keepc (a := ⟨w.heap.size + 1 + 1, 3, none⟩) (v := .int .u8 0) hb1 (by simp [go_sem])
  have r4 := keepc (a := ⟨w.heap.size + 1 + 1, 4, none⟩) (v := .int .u8 0) hb1 (by simp [go_sem])
  have r5 := keepc (a := ⟨w.heap.size + 1 + 1, 5, none⟩) (v := .int .u8 0) hb1 (by simp [go_sem])
  have f0 := (hb1.frozen (p := ⟨w.heap.size + 1, 0, none⟩) (by simp; try omega)).trans (show _ = false by simp [go_sem])
  have f1 := (hb1.frozen (p := ⟨w.heap.size + 1, 1, none⟩) (by simp; try omega)).trans (show _ = false by simp [go_sem])
  have f2 := (hb1.frozen (p := ⟨w.heap.size + 1, 2, none⟩) (by simp; try omega)).trans (show _ = false by simp [go_sem])
  have f3 := (hb1.frozen (p := ⟨w.heap.size + 1, 3, none⟩) (by simp; try omega)).trans (show _ = false by simp [go_sem])
  have f4 := (hb1.frozen (p := ⟨w.heap.size + 1, 4, none⟩) (by simp; try omega)).trans (show _ = false by simp [go_sem])
  have f5 := (hb1.frozen (p := ⟨w.heap.size + 1, 5, none⟩) (by simp; try omega)).trans (show _ = false by simp [go_sem])
  have g0 := (hb1.frozen (p := ⟨w.heap.size + 1 + 1, 0, none⟩) (by simp; try omega)).trans (show _ = false by simp [go_sem])
  have g1 := (hb1.frozen (p := ⟨w.heap.size + 1 + 1, 1, none⟩) (by simp; try omega)).trans (show _ = false by simp [go_sem])
  have g2 := (hb1.frozen (p := ⟨w.heap.size + 1 + 1, 2, none⟩) (by simp; try omega)).trans (show _ = false by simp [go_sem])
  have g3 := (hb1.frozen (p := ⟨w.heap.size + 1 + 1, 3, none⟩) (by simp; try omega)).trans (show _ = false by simp [go_sem])
  have g4 := (hb1.frozen (p := ⟨w.heap.size + 1 + 1, 4, none⟩) (by simp; try omega)).trans (show _ = false by simp [go_sem])
  have g5 := (hb1.frozen (p := ⟨w.heap.size + 1 + 1, 5, none⟩) (by simp; try omega)).trans (show _ = false by simp [go_sem])
  have H1 : Hid (Below w.heap.size w w1) := ((((Below.refl _ _).alloc (Nat.le_refl _) _).alloc (by simp) _).alloc (by simp; omega) _).trans (hb1.mono (by simp; omega))
  clear hb1
  go_wp2
  have q := put6_cells (W := (((w1.setCell ⟨w.heap.size + 1, 3, none⟩ (.int .u8 0)).setCell ⟨w.heap.size + 1, 4, none⟩ (.int .u8 0)).setCell ⟨w.heap.size + 1, 5, none⟩ (.int .u8 0))) (g := w.heap.size + 1 + 1) (x0 := .int .u8 ch) (x1 := .bool a) (x2 := .int .u8 fa) (x3 := .int .u8 0) (x4 := .int .u8 0) (x5 := .int .u8 0) (by rw [World.cell?_setCell_far _ _ _ _ (by simp), World.cell?_setCell_far _ _ _ _ (by simp), World.cell?_setCell_far _ _ _ _ (by simp)]; exact r0) (by rw [World.cell?_setCell_far _ _ _ _ (by simp), World.cell?_setCell_far _ _ _ _ (by simp), World.cell?_setCell_far _ _ _ _ (by simp)]; exact r1) (by rw [World.cell?_setCell_far _ _ _ _ (by simp), World.cell?_setCell_far _ _ _ _ (by simp), World.cell?_setCell_far _ _ _ _ (by simp)]; exact r2) (by rw [World.cell?_setCell_far _ _ _ _ (by simp), World.cell?_setCell_far _ _ _ _ (by simp), World.cell?_setCell_far _ _ _ _ (by simp)]; exact r3) (by rw [World.cell?_setCell_far _ _ _ _ (by simp), World.cell?_setCell_far _ _ _ _ (by simp), World.cell?_setCell_far _ _ _ _ (by simp)]; exact r4) (by rw [World.cell?_setCell_far _ _ _ _ (by simp), World.cell?_setCell_far _ _ _ _ (by simp), World.cell?_setCell_far _ _ _ _ (by simp)]; exact r5)
  have hb := put6_below (W := (((w1.setCell ⟨w.heap.size + 1, 3, none⟩ (.int .u8 0)).setCell ⟨w.heap.size + 1, 4, none⟩ (.int .u8 0)).setCell ⟨w.heap.size + 1, 5, none⟩ (.int .u8 0))) (g := w.heap.size + 1 + 1) (.int .u8 ch) (.bool a) (.int .u8 fa) (.int .u8 0) (.int .u8 0) (.int .u8 0) (show Below w.heap.size w (((w1.setCell ⟨w.heap.size + 1, 3, none⟩ (.int .u8 0)).setCell ⟨w.heap.size + 1, 4, none⟩ (.int .u8 0)).setCell ⟨w.heap.size + 1, 5, none⟩ (.int .u8 0)) from (((H1.out.setCell (by simp) _).setCell (by simp) _).setCell (by simp) _)) (by omega)
  unfold put6 at q hb
  refine bodyPost_ret (v := .tuple #[.agg #[.int .u8 ch, .bool a, .int .u8 fa, .int .u8 0, .int .u8 0, .int .u8 0], .int .i64 0]) ?_ rfl ⟨rfl, hb⟩
  clear hb
  generalize World.setCell _ ⟨w.heap.size + 1 + 1, 5, none⟩ _ = W' at q ⊢
  obtain ⟨q0, q1, q2, q3, q4, q5⟩ := q
  simp [results, Tryd.results83, go_sem, q0, q1, q2, q3, q4, q5]
set_option maxRecDepth 100000 in
set_option maxHeartbeats 2000000 in
theorem apply_65 (t v : Nat) (ht : t = 65) (hv : v < 256) (hk : knownB t v = true) (ch fa hi co se : Int) (a : Bool) (w : World) : Calls Tryd.prog 83 #[pairV t v, .agg #[.int .u8 ch, .bool a, .int .u8 fa, .int .u8 hi, .int .u8 co, .int .u8 se]] w fun e w' => e = .returned (.tuple #[.agg #[.int .u8 ch, .bool a, .int .u8 fa, .int .u8 v, .int .u8 co, .int .u8 se], .int .i64 0]) ∧ Below w.heap.size w w' := by
  have H := hid (check_any t v hv)
  rw [hk] at H
  simp only [if_true] at H
  have e0 : ((t : Int) == 0) = false := by simp; omega
  have e65 : ((t : Int) == 65) = true := by simp; omega
  clear hk ht
  go_enter Tryd.func83, Tryd.ntmps83
  go_wp2_with fail
  with_reducible refine (H.out _).mono ?_
  rintro e w1 ⟨rfl, hb1⟩
  have p0 := keepc (a := ⟨w.heap.size, 0, none⟩) (v := .int .u8 t) hb1 (by simp [go_sem])
  have p1 := keepc (a := ⟨w.heap.size, 1, none⟩) (v := .int .u8 v) hb1 (by simp [go_sem])
  have c0 := keepc (a := ⟨w.heap.size + 1, 0, none⟩) (v := .int .u8 ch) hb1 (by simp [go_sem])
  have c1 := keepc (a := ⟨w.heap.size + 1, 1, none⟩) (v := .bool a) hb1 (by simp [go_sem])
  have c2 := keepc (a := ⟨w.heap.size + 1, 2, none⟩) (v := .int .u8 fa) hb1 (by simp [go_sem])
  have c3 := keepc (a := ⟨w.heap.size + 1, 3, none⟩) (v := .int .u8 hi) hb1 (by simp [go_sem])
  have c4 := keepc (a := ⟨w.heap.size + 1, 4, none⟩) (v := .int .u8 co) hb1 (by simp [go_sem])
  have c5 := keepc (a := ⟨w.heap.size + 1, 5, none⟩) (v := .int .u8 se) hb1 (by simp [go_sem])
  have r0 := keepc (a := ⟨w.heap.size + 1 + 1, 0, none⟩) (v := .int .u8 0) hb1 (by simp [go_sem])
  have r1 := keepc (a := ⟨w.heap.size + 1 + 1, 1, none⟩) (v := .bool false) hb1 (by simp [go_sem])
  have r2 := keepc (a := ⟨w.heap.size + 1 + 1, 2, none⟩) (v := .int .u8 0) hb1 (by simp [go_sem])
  have r3 := keepc (a := ⟨w.heap.size + 1 + 1, 3, none⟩) (v := .int .u8 0) hb1 (by simp [go_sem])
  have r4 := keepc (a := ⟨w.heap.size + 1 + 1, 4, none⟩) (v := .int .u8 0) hb1 (by simp [go_sem])
  have r5 := keepc (a := ⟨w.heap.size + 1 + 1, 5, none⟩) (v := .int .u8 0) hb1 (by simp [go_sem])
  have f0 := (hb1.frozen (p := ⟨w.heap.size + 1, 0, none⟩) (by simp; try omega)).trans (show _ = false by simp [go_sem])
  have f1 := (hb1.frozen (p := ⟨w.heap.size + 1, 1, none⟩) (by simp; try omega)).trans (show _ = false by simp [go_sem])
  have f2 := (hb1.frozen (p := ⟨w.heap.size + 1, 2, none⟩) (by simp; try omega)).trans (show _ = false by simp [go_sem])
  have f3 := (hb1.frozen (p := ⟨w.heap.size + 1, 3, none⟩) (by simp; try omega)).trans (show _ = false by simp [go_sem])
  have f4 := (hb1.frozen (p := ⟨w.heap.size + 1, 4, none⟩) (by simp; try omega)).trans (show _ = false by simp [go_sem])
  have f5 := (hb1.frozen (p := ⟨w.heap.size + 1, 5, none⟩) (by simp; try omega)).trans (show _ = false by simp [go_sem])
  have g0 := (hb1.frozen (p := ⟨w.heap.size + 1 + 1, 0, none⟩) (by simp; try omega)).trans (show _ = false by simp [go_sem])
  have g1 := (hb1.frozen (p := ⟨w.heap.size + 1 + 1, 1, none⟩) (by simp; try omega)).trans (show _ = false by simp [go_sem])
  have g2 := (hb1.frozen (p := ⟨w.heap.size + 1 + 1, 2, none⟩) (by simp; try omega)).trans (show _ = false by simp [go_sem])
  have g3 := (hb1.frozen (p := ⟨w.heap.size + 1 + 1, 3, none⟩) (by simp; try omega)).trans (show _ = false by simp [go_sem])
  have g4 := (hb1.frozen (p := ⟨w.heap.size + 1 + 1, 4, none⟩) (by simp; try omega)).trans (show _ = false by simp [go_sem])
  have g5 := (hb1.frozen (p := ⟨w.heap.size + 1 + 1, 5, none⟩) (by simp; try omega)).trans (show _ = false by simp [go_sem])
  have H1 : Hid (Below w.heap.size w w1) := ((((Below.refl _ _).alloc (Nat.le_refl _) _).alloc (by simp) _).alloc (by simp; omega) _).trans (hb1.mono (by simp; omega))
  clear hb1
  go_wp2
  have q := put6_cells (W := (w1.setCell ⟨w.heap.size + 1, 3, none⟩ (.int .u8 v))) (g := w.heap.size + 1 + 1) (x0 := .int .u8 ch) (x1 := .bool a) (x2 := .int .u8 fa) (x3 := .int .u8 v) (x4 := .int .u8 co) (x5 := .int .u8 se) (by rw [World.cell?_setCell_far _ _ _ _ (by simp)]; exact r0) (by rw [World.cell?_setCell_far _ _ _ _ (by simp)]; exact r1) (by rw [World.cell?_setCell_far _ _ _ _ (by simp)]; exact r2) (by rw [World.cell?_setCell_far _ _ _ _ (by simp)]; exact r3) (by rw [World.cell?_setCell_far _ _ _ _ (by simp)]; exact r4) (by rw [World.cell?_setCell_far _ _ _ _ (by simp)]; exact r5)
  have hb := put6_below (W := (w1.setCell ⟨w.heap.size + 1, 3, none⟩ (.int .u8 v))) (g := w.heap.size + 1 + 1) (.int .u8 ch) (.bool a) (.int .u8 fa) (.int .u8 v) (.int .u8 co) (.int .u8 se) (show Below w.heap.size w (w1.setCell ⟨w.heap.size + 1, 3, none⟩ (.int .u8 v)) from (H1.out.setCell (by simp) _)) (by omega)
  unfold put6 at q hb
  refine bodyPost_ret (v := .tuple #[.agg #[.int .u8 ch, .bool a, .int .u8 fa, .int .u8 v, .int .u8 co, .int .u8 se], .int .i64 0]) ?_ rfl ⟨rfl, hb⟩
  clear hb
  generalize World.setCell _ ⟨w.heap.size + 1 + 1, 5, none⟩ _ = W' at q ⊢
  obtain ⟨q0, q1, q2, q3, q4, q5⟩ := q
  simp [results, Tryd.results83, go_sem, q0, q1, q2, q3, q4, q5]
set_option maxRecDepth 100000 in
set_option maxHeartbeats 2000000 in
theorem apply_66 (t v : Nat) (ht : t = 66) (hv : v < 256) (hk : knownB t v = true) (ch fa hi co se : Int) (a : Bool) (w : World) : Calls Tryd.prog 83 #[pairV t v, .agg #[.int .u8 ch, .bool a, .int .u8 fa, .int .u8 hi, .int .u8 co, .int .u8 se]] w fun e w' => e = .returned (.tuple #[.agg #[.int .u8 ch, .bool a, .int .u8 fa, .int .u8 hi, .int .u8 v, .int .u8 se], .int .i64 0]) ∧ Below w.heap.size w w' := by
  have H := hid (check_any t v hv)
  rw [hk] at H
  simp only [if_true] at H
  have e0 : ((t : Int) == 0) = false := by simp; omega
  have e65 : ((t : Int) == 65) = false := by simp; omega
  have e66 : ((t : Int) == 66) = true := by simp; omega
  clear hk ht
  go_enter Tryd.func83, Tryd.ntmps83
  go_wp2_with fail
  with_reducible refine (H.out _).mono ?_
  rintro e w1 ⟨rfl, hb1⟩
  have p0 := keepc (a := ⟨w.heap.size, 0, none⟩) (v := .int .u8 t) hb1 (by simp [go_sem])
  have p1 := keepc (a := ⟨w.heap.size, 1, none⟩) (v := .int .u8 v) hb1 (by simp [go_sem])
  have c0 := keepc (a := ⟨w.heap.size + 1, 0, none⟩) (v := .int .u8 ch) hb1 (by simp [go_sem])
  have c1 := keepc (a := ⟨w.heap.size + 1, 1, none⟩) (v := .bool a) hb1 (by simp [go_sem])
  have c2 := keepc (a := ⟨w.heap.size + 1, 2, none⟩) (v := .int .u8 fa) hb1 (by simp [go_sem])
  have c3 := keepc (a := ⟨w.heap.size + 1, 3, none⟩) (v := .int .u8 hi) hb1 (by simp [go_sem])
  have c4 := keepc (a := ⟨w.heap.size + 1, 4, none⟩) (v := .int .u8 co) hb1 (by simp [go_sem])
  have c5 := keepc (a := ⟨w.heap.size + 1, 5, none⟩) (v := .int .u8 se) hb1 (by simp [go_sem])
  have r0 := keepc (a := ⟨w.heap.size + 1 + 1, 0, none⟩) (v := .int .u8 0) hb1 (by simp [go_sem])
  have r1 := keepc (a := ⟨w.heap.size + 1 + 1, 1, none⟩) (v := .bool false) hb1 (by simp [go_sem])
  have r2 := keepc (a := ⟨w.heap.size + 1 + 1, 2, none⟩) (v := .int .u8 0) hb1 (by simp [go_sem])
  have r3 := keepc (a := ⟨w.heap.size + 1 + 1, 3, none⟩) (v := .int .u8 0) hb1 (by simp [go_sem])
  have r4 := keepc (a := ⟨w.heap.size + 1 + 1, 4, none⟩) (v := .int .u8 0) hb1 (by simp [go_sem])
  have r5 := keepc (a := ⟨w.heap.size + 1 + 1, 5, none⟩) (v := .int .u8 0) hb1 (by simp [go_sem])
  have f0 := (hb1.frozen (p := ⟨w.heap.size + 1, 0, none⟩) (by simp; try omega)).trans (show _ = false by simp [go_sem])
  have f1 := (hb1.frozen (p := ⟨w.heap.size + 1, 1, none⟩) (by simp; try omega)).trans (show _ = false by simp [go_sem])
  have f2 := (hb1.frozen (p := ⟨w.heap.size + 1, 2, none⟩) (by simp; try omega)).trans (show _ = false by simp [go_sem])
  have f3 := (hb1.frozen (p := ⟨w.heap.size + 1, 3, none⟩) (by simp; try omega)).trans (show _ = false by simp [go_sem])
  have f4 := (hb1.frozen (p := ⟨w.heap.size + 1, 4, none⟩) (by simp; try omega)).trans (show _ = false by simp [go_sem])
  have f5 := (hb1.frozen (p := ⟨w.heap.size + 1, 5, none⟩) (by simp; try omega)).trans (show _ = false by simp [go_sem])
  have g0 := (hb1.frozen (p := ⟨w.heap.size + 1 + 1, 0, none⟩) (by simp; try omega)).trans (show _ = false by simp [go_sem])
  have g1 := (hb1.frozen (p := ⟨w.heap.size + 1 + 1, 1, none⟩) (by simp; try omega)).trans (show _ = false by simp [go_sem])
  have g2 := (hb1.frozen (p := ⟨w.heap.size + 1 + 1, 2, none⟩) (by simp; try omega)).trans (show _ = false by simp [go_sem])
  have g3 := (hb1.frozen (p := ⟨w.heap.size + 1 + 1, 3, none⟩) (by simp; try omega)).trans (show _ = false by simp [go_sem])
  have g4 := (hb1.frozen (p := ⟨w.heap.size + 1 + 1, 4, none⟩) (by simp; try omega)).trans (show _ = false by simp [go_sem])
  have g5 := (hb1.frozen (p := ⟨w.heap.size + 1 + 1, 5, none⟩) (by simp; try omega)).trans (show _ = false by simp [go_sem])
  have H1 : Hid (Below w.heap.size w w1) := ((((Below.refl _ _).alloc (Nat.le_refl _) _).alloc (by simp) _).alloc (by simp; omega) _).trans (hb1.mono (by simp; omega))
  clear hb1
  go_wp2
  have q := put6_cells (W := (w1.setCell ⟨w.heap.size + 1, 4, none⟩ (.int .u8 v))) (g := w.heap.size + 1 + 1) (x0 := .int .u8 ch) (x1 := .bool a) (x2 := .int .u8 fa) (x3 := .int .u8 hi) (x4 := .int .u8 v) (x5 := .int .u8 se) (by rw [World.cell?_setCell_far _ _ _ _ (by simp)]; exact r0) (by rw [World.cell?_setCell_far _ _ _ _ (by simp)]; exact r1) (by rw [World.cell?_setCell_far _ _ _ _ (by simp)]; exact r2) (by rw [World.cell?_setCell_far _ _ _ _ (by simp)]; exact r3) (by rw [World.cell?_setCell_far _ _ _ _ (by simp)]; exact r4) (by rw [World.cell?_setCell_far _ _ _ _ (by simp)]; exact r5)
  have hb := put6_below (W := (w1.setCell ⟨w.heap.size + 1, 4, none⟩ (.int .u8 v))) (g := w.heap.size + 1 + 1) (.int .u8 ch) (.bool a) (.int .u8 fa) (.int .u8 hi) (.int .u8 v) (.int .u8 se) (show Below w.heap.size w (w1.setCell ⟨w.heap.size + 1, 4, none⟩ (.int .u8 v)) from (H1.out.setCell (by simp) _)) (by omega)
  unfold put6 at q hb
  refine bodyPost_ret (v := .tuple #[.agg #[.int .u8 ch, .bool a, .int .u8 fa, .int .u8 hi, .int .u8 v, .int .u8 se], .int .i64 0]) ?_ rfl ⟨rfl, hb⟩
  clear hb
  generalize World.setCell _ ⟨w.heap.size + 1 + 1, 5, none⟩ _ = W' at q ⊢
  obtain ⟨q0, q1, q2, q3, q4, q5⟩ := q
  simp [results, Tryd.results83, go_sem, q0, q1, q2, q3, q4, q5]
set_option maxRecDepth 100000 in
set_option maxHeartbeats 2000000 in
theorem apply_67 (t v : Nat) (ht : t = 67) (hv : v < 256) (hk : knownB t v = true) (ch fa hi co se : Int) (a : Bool) (w : World) : Calls Tryd.prog 83 #[pairV t v, .agg #[.int .u8 ch, .bool a, .int .u8 fa, .int .u8 hi, .int .u8 co, .int .u8 se]] w fun e w' => e = .returned (.tuple #[.agg #[.int .u8 ch, .bool a, .int .u8 fa, .int .u8 hi, .int .u8 co, .int .u8 v], .int .i64 0]) ∧ Below w.heap.size w w' := by
  have H := hid (check_any t v hv)
  rw [hk] at H
  simp only [if_true] at H
  have e0 : ((t : Int) == 0) = false := by simp; omega
  have e65 : ((t : Int) == 65) = false := by simp; omega
  have e66 : ((t : Int) == 66) = false := by simp; omega
  have e67 : ((t : Int) == 67) = true := by simp; omega
  clear hk ht
  go_enter Tryd.func83, Tryd.ntmps83
  go_wp2_with fail
  with_reducible refine (H.out _).mono ?_
  rintro e w1 ⟨rfl, hb1⟩
  have p0 := keepc (a := ⟨w.heap.size, 0, none⟩) (v := .int .u8 t) hb1 (by simp [go_sem])
  have p1 := keepc (a := ⟨w.heap.size, 1, none⟩) (v := .int .u8 v) hb1 (by simp [go_sem])
  have c0 := keepc (a := ⟨w.heap.size + 1, 0, none⟩) (v := .int .u8 ch) hb1 (by simp [go_sem])
  have c1 := keepc (a := ⟨w.heap.size + 1, 1, none⟩) (v := .bool a) hb1 (by simp [go_sem])
  have c2 := keepc (a := ⟨w.heap.size + 1, 2, none⟩) (v := .int .u8 fa) hb1 (by simp [go_sem])
  have c3 := keepc (a := ⟨w.heap.size + 1, 3, none⟩) (v := .int .u8 hi) hb1 (by simp [go_sem])
  have c4 := keepc (a := ⟨w.heap.size + 1, 4, none⟩) (v := .int .u8 co) hb1 (by simp [go_sem])
  have c5 := keepc (a := ⟨w.heap.size + 1, 5, none⟩) (v := .int .u8 se) hb1 (by simp [go_sem])
  have r0 := keepc (a := ⟨w.heap.size + 1 + 1, 0, none⟩) (v := .int .u8 0) hb1 (by simp [go_sem])
  have r1 := keepc (a := ⟨w.heap.size + 1 + 1, 1, none⟩) (v := .bool false) hb1 (by simp [go_sem])
  have r2 := keepc (a := ⟨w.heap.size + 1 + 1, 2, none⟩) (v := .int .u8 0) hb1 (by simp [go_sem])
  have r3 := keepc (a := ⟨w.heap.size + 1 + 1, 3, none⟩) (v := .int .u8 0) hb1 (by simp [go_sem])
  have r4 := keepc (a := ⟨w.heap.size + 1 + 1, 4, none⟩) (v := .int .u8 0) hb1 (by simp [go_sem])
  have r5 := keepc (a := ⟨w.heap.size + 1 + 1, 5, none⟩) (v := .int .u8 0) hb1 (by simp [go_sem])
  have f0 := (hb1.frozen (p := ⟨w.heap.size + 1, 0, none⟩) (by simp; try omega)).trans (show _ = false by simp [go_sem])
  have f1 := (hb1.frozen (p := ⟨w.heap.size + 1, 1, none⟩) (by simp; try omega)).trans (show _ = false by simp [go_sem])
  have f2 := (hb1.frozen (p := ⟨w.heap.size + 1, 2, none⟩) (by simp; try omega)).trans (show _ = false by simp [go_sem])
  have f3 := (hb1.frozen (p := ⟨w.heap.size + 1, 3, none⟩) (by simp; try omega)).trans (show _ = false by simp [go_sem])
  have f4 := (hb1.frozen (p := ⟨w.heap.size + 1, 4, none⟩) (by simp; try omega)).trans (show _ = false by simp [go_sem])
  have f5 := (hb1.frozen (p := ⟨w.heap.size + 1, 5, none⟩) (by simp; try omega)).trans (show _ = false by simp [go_sem])
  have g0 := (hb1.frozen (p := ⟨w.heap.size + 1 + 1, 0, none⟩) (by simp; try omega)).trans (show _ = false by simp [go_sem])
  have g1 := (hb1.frozen (p := ⟨w.heap.size + 1 + 1, 1, none⟩) (by simp; try omega)).trans (show _ = false by simp [go_sem])
  have g2 := (hb1.frozen (p := ⟨w.heap.size + 1 + 1, 2, none⟩) (by simp; try omega)).trans (show _ = false by simp [go_sem])
  have g3 := (hb1.frozen (p := ⟨w.heap.size + 1 + 1, 3, none⟩) (by simp; try omega)).trans (show _ = false by simp [go_sem])
  have g4 := (hb1.frozen (p := ⟨w.heap.size + 1 + 1, 4, none⟩) (by simp; try omega)).trans (show _ = false by simp [go_sem])
  have g5 := (hb1.frozen (p := ⟨w.heap.size + 1 + 1, 5, none⟩) (by simp; try omega)).trans (show _ = false by simp [go_sem])
  have H1 : Hid (Below w.heap.size w w1) := ((((Below.refl _ _).alloc (Nat.le_refl _) _).alloc (by simp) _).alloc (by simp; omega) _).trans (hb1.mono (by simp; omega))
  clear hb1
  go_wp2
  have q := put6_cells (W := (w1.setCell ⟨w.heap.size + 1, 5, none⟩ (.int .u8 v))) (g := w.heap.size + 1 + 1) (x0 := .int .u8 ch) (x1 := .bool a) (x2 := .int .u8 fa) (x3 := .int .u8 hi) (x4 := .int .u8 co) (x5 := .int .u8 v) (by rw [World.cell?_setCell_far _ _ _ _ (by simp)]; exact r0) (by rw [World.cell?_setCell_far _ _ _ _ (by simp)]; exact r1) (by rw [World.cell?_setCell_far _ _ _ _ (by simp)]; exact r2) (by rw [World.cell?_setCell_far _ _ _ _ (by simp)]; exact r3) (by rw [World.cell?_setCell_far _ _ _ _ (by simp)]; exact r4) (by rw [World.cell?_setCell_far _ _ _ _ (by simp)]; exact r5)
  have hb := put6_below (W := (w1.setCell ⟨w.heap.size + 1, 5, none⟩ (.int .u8 v))) (g := w.heap.size + 1 + 1) (.int .u8 ch) (.bool a) (.int .u8 fa) (.int .u8 hi) (.int .u8 co) (.int .u8 v) (show Below w.heap.size w (w1.setCell ⟨w.heap.size + 1, 5, none⟩ (.int .u8 v)) from (H1.out.setCell (by simp) _)) (by omega)
  unfold put6 at q hb
  refine bodyPost_ret (v := .tuple #[.agg #[.int .u8 ch, .bool a, .int .u8 fa, .int .u8 hi, .int .u8 co, .int .u8 v], .int .i64 0]) ?_ rfl ⟨rfl, hb⟩
  clear hb
  generalize World.setCell _ ⟨w.heap.size + 1 + 1, 5, none⟩ _ = W' at q ⊢
  obtain ⟨q0, q1, q2, q3, q4, q5⟩ := q
  simp [results, Tryd.results83, go_sem, q0, q1, q2, q3, q4, q5]
set_option maxRecDepth 100000 in
set_option maxHeartbeats 2000000 in
theorem apply_192t (t v : Nat) (ht : t = 192) (hv : v < 256) (hk : knownB t v = true) (ch fa hi co se : Int) (Z : Int) (hZ : bits .and .u8 (v : Int) 61 = Z) (w : World) : Calls Tryd.prog 83 #[pairV t v, .agg #[.int .u8 ch, .bool true, .int .u8 fa, .int .u8 hi, .int .u8 co, .int .u8 se]] w fun e w' => e = .returned (.tuple #[.agg #[.int .u8 ch, .bool true, .int .u8 Z, .int .u8 hi, .int .u8 co, .int .u8 se], .int .i64 0]) ∧ Below w.heap.size w w' := by
  have H := hid (check_any t v hv)
  rw [hk] at H
  simp only [if_true] at H
  have e0 : ((t : Int) == 0) = false := by simp; omega
  have e65 : ((t : Int) == 65) = false := by simp; omega
  have e66 : ((t : Int) == 66) = false := by simp; omega
  have e67 : ((t : Int) == 67) = false := by simp; omega
  have e192 : ((t : Int) == 192) = true := by simp; omega
  clear hk ht
  go_enter Tryd.func83, Tryd.ntmps83
  go_wp2_with fail
  with_reducible refine (H.out _).mono ?_
  rintro e w1 ⟨rfl, hb1⟩
  have p0 := keepc (a := ⟨w.heap.size, 0, none⟩) (v := .int .u8 t) hb1 (by simp [go_sem])
  have p1 := keepc (a := ⟨w.heap.size, 1, none⟩) (v := .int .u8 v) hb1 (by simp [go_sem])
  have c0 := keepc (a := ⟨w.heap.size + 1, 0, none⟩) (v := .int .u8 ch) hb1 (by simp [go_sem])
  have c1 := keepc (a := ⟨w.heap.size + 1, 1, none⟩) (v := .bool true) hb1 (by simp [go_sem])
  have c2 := keepc (a := ⟨w.heap.size + 1, 2, none⟩) (v := .int .u8 fa) hb1 (by simp [go_sem])
  have c3 := keepc (a := ⟨w.heap.size + 1, 3, none⟩) (v := .int .u8 hi) hb1 (by simp [go_sem])
  have c4 := keepc (a := ⟨w.heap.size + 1, 4, none⟩) (v := .int .u8 co) hb1 (by simp [go_sem])
  have c5 := keepc (a := ⟨w.heap.size + 1, 5, none⟩) (v := .int .u8 se) hb1 (by simp [go_sem])
  have r0 := keepc (a := ⟨w.heap.size + 1 + 1, 0, none⟩) (v := .int .u8 0) hb1 (by simp [go_sem])
  have r1 := keepc (a := ⟨w.heap.size + 1 + 1, 1, none⟩) (v := .bool false) hb1 (by simp [go_sem])
  have r2 := keepc (a := ⟨w.heap.size + 1 + 1, 2, none⟩) (v := .int .u8 0) hb1 (by simp [go_sem])
  have r3 := keepc (a := ⟨w.heap.size + 1 + 1, 3, none⟩) (v := .int .u8 0) hb1 (by simp [go_sem])
  have r4 := keepc (a := ⟨w.heap.size + 1 + 1, 4, none⟩) (v := .int .u8 0) hb1 (by simp [go_sem])
  have r5 := keepc (a := ⟨w.heap.size + 1 + 1, 5, none⟩) (v := .int .u8 0) hb1 (by simp [go_sem])
  have f0 := (hb1.frozen (p := ⟨w.heap.size + 1, 0, none⟩) (by simp; try omega)).trans (show _ = false by simp [go_sem])
  have f1 := (hb1.frozen (p := ⟨w.heap.size + 1, 1, none⟩) (by simp; try omega)).trans (show _ = false by simp [go_sem])
  have f2 := (hb1.frozen (p := ⟨w.heap.size + 1, 2, none⟩) (by simp; try omega)).trans (show _ = false by simp [go_sem])
  have f3 := (hb1.frozen (p := ⟨w.heap.size + 1, 3, none⟩) (by simp; try omega)).trans (show _ = false by simp [go_sem])
  have f4 := (hb1.frozen (p := ⟨w.heap.size + 1, 4, none⟩) (by simp; try omega)).trans (show _ = false by simp [go_sem])
  have f5 := (hb1.frozen (p := ⟨w.heap.size + 1, 5, none⟩) (by simp; try omega)).trans (show _ = false by simp [go_sem])
  have g0 := (hb1.frozen (p := ⟨w.heap.size + 1 + 1, 0, none⟩) (by simp; try omega)).trans (show _ = false by simp [go_sem])
  have g1 := (hb1.frozen (p := ⟨w.heap.size + 1 + 1, 1, none⟩) (by simp; try omega)).trans (show _ = false by simp [go_sem])
  have g2 := (hb1.frozen (p := ⟨w.heap.size + 1 + 1, 2, none⟩) (by simp; try omega)).trans (show _ = false by simp [go_sem])
  have g3 := (hb1.frozen (p := ⟨w.heap.size + 1 + 1, 3, none⟩) (by simp; try omega)).trans (show _ = false by simp [go_sem])
  have g4 := (hb1.frozen (p := ⟨w.heap.size + 1 + 1, 4, none⟩) (by simp; try omega)).trans (show _ = false by simp [go_sem])
  have g5 := (hb1.frozen (p := ⟨w.heap.size + 1 + 1, 5, none⟩) (by simp; try omega)).trans (show _ = false by simp [go_sem])
  have H1 : Hid (Below w.heap.size w w1) := ((((Below.refl _ _).alloc (Nat.le_refl _) _).alloc (by simp) _).alloc (by simp; omega) _).trans (hb1.mono (by simp; omega))
  clear hb1
  go_wp2
  have q := put6_cells (W := (w1.setCell ⟨w.heap.size + 1, 2, none⟩ (.int .u8 Z))) (g := w.heap.size + 1 + 1) (x0 := .int .u8 ch) (x1 := .bool true) (x2 := .int .u8 Z) (x3 := .int .u8 hi) (x4 := .int .u8 co) (x5 := .int .u8 se) (by rw [World.cell?_setCell_far _ _ _ _ (by simp)]; exact r0) (by rw [World.cell?_setCell_far _ _ _ _ (by simp)]; exact r1) (by rw [World.cell?_setCell_far _ _ _ _ (by simp)]; exact r2) (by rw [World.cell?_setCell_far _ _ _ _ (by simp)]; exact r3) (by rw [World.cell?_setCell_far _ _ _ _ (by simp)]; exact r4) (by rw [World.cell?_setCell_far _ _ _ _ (by simp)]; exact r5)
  have hb := put6_below (W := (w1.setCell ⟨w.heap.size + 1, 2, none⟩ (.int .u8 Z))) (g := w.heap.size + 1 + 1) (.int .u8 ch) (.bool true) (.int .u8 Z) (.int .u8 hi) (.int .u8 co) (.int .u8 se) (show Below w.heap.size w (w1.setCell ⟨w.heap.size + 1, 2, none⟩ (.int .u8 Z)) from (H1.out.setCell (by simp) _)) (by omega)
  unfold put6 at q hb
  refine bodyPost_ret (v := .tuple #[.agg #[.int .u8 ch, .bool true, .int .u8 Z, .int .u8 hi, .int .u8 co, .int .u8 se], .int .i64 0]) ?_ rfl ⟨rfl, hb⟩
  clear hb
  generalize World.setCell _ ⟨w.heap.size + 1 + 1, 5, none⟩ _ = W' at q ⊢
  obtain ⟨q0, q1, q2, q3, q4, q5⟩ := q
  simp [results, Tryd.results83, go_sem, q0, q1, q2, q3, q4, q5]
set_option maxRecDepth 100000 in
set_option maxHeartbeats 2000000 in
theorem apply_192f (t v : Nat) (ht : t = 192) (hv : v < 256) (hk : knownB t v = true) (ch fa hi co se : Int) (w : World) : Calls Tryd.prog 83 #[pairV t v, .agg #[.int .u8 ch, .bool false, .int .u8 fa, .int .u8 hi, .int .u8 co, .int .u8 se]] w fun e w' => e = .returned (.tuple #[.agg #[.int .u8 ch, .bool false, .int .u8 fa, .int .u8 hi, .int .u8 co, .int .u8 se], .int .i64 0]) ∧ Below w.heap.size w w' := by
  have H := hid (check_any t v hv)
  rw [hk] at H
  simp only [if_true] at H
  have e0 : ((t : Int) == 0) = false := by simp; omega
  have e65 : ((t : Int) == 65) = false := by simp; omega
  have e66 : ((t : Int) == 66) = false := by simp; omega
  have e67 : ((t : Int) == 67) = false := by simp; omega
  have e192 : ((t : Int) == 192) = true := by simp; omega
  clear hk ht
  go_enter Tryd.func83, Tryd.ntmps83
  go_wp2_with fail
  with_reducible refine (H.out _).mono ?_
  rintro e w1 ⟨rfl, hb1⟩
  have p0 := keepc (a := ⟨w.heap.size, 0, none⟩) (v := .int .u8 t) hb1 (by simp [go_sem])
  have p1 := keepc (a := ⟨w.heap.size, 1, none⟩) (v := .int .u8 v) hb1 (by simp [go_sem])
  have c0 := keepc (a := ⟨w.heap.size + 1, 0, none⟩) (v := .int .u8 ch) hb1 (by simp [go_sem])
  have c1 := keepc (a := ⟨w.heap.size + 1, 1, none⟩) (v := .bool false) hb1 (by simp [go_sem])
  have c2 := keepc (a := ⟨w.heap.size + 1, 2, none⟩) (v := .int .u8 fa) hb1 (by simp [go_sem])
  have c3 := keepc (a := ⟨w.heap.size + 1, 3, none⟩) (v := .int .u8 hi) hb1 (by simp [go_sem])
  have c4 := keepc (a := ⟨w.heap.size + 1, 4, none⟩) (v := .int .u8 co) hb1 (by simp [go_sem])
  have c5 := keepc (a := ⟨w.heap.size + 1, 5, none⟩) (v := .int .u8 se) hb1 (by simp [go_sem])
  have r0 := keepc (a := ⟨w.heap.size + 1 + 1, 0, none⟩) (v := .int .u8 0) hb1 (by simp [go_sem])
  have r1 := keepc (a := ⟨w.heap.size + 1 + 1, 1, none⟩) (v := .bool false) hb1 (by simp [go_sem])
  have r2 := keepc (a := ⟨w.heap.size + 1 + 1, 2, none⟩) (v := .int .u8 0) hb1 (by simp [go_sem])
  have r3 := keepc (a := ⟨w.heap.size + 1 + 1, 3, none⟩) (v := .int .u8 0) hb1 (by simp [go_sem])
  have r4 := keepc (a := ⟨w.heap.size + 1 + 1, 4, none⟩) (v := .int .u8 0) hb1 (by simp [go_sem])
  have r5 := keepc (a := ⟨w.heap.size + 1 + 1, 5, none⟩) (v := .int .u8 0) hb1 (by simp [go_sem])
  have f0 := (hb1.frozen (p := ⟨w.heap.size + 1, 0, none⟩) (by simp; try omega)).trans (show _ = false by simp [go_sem])
  have f1 := (hb1.frozen (p := ⟨w.heap.size + 1, 1, none⟩) (by simp; try omega)).trans (show _ = false by simp [go_sem])
  have f2 := (hb1.frozen (p := ⟨w.heap.size + 1, 2, none⟩) (by simp; try omega)).trans (show _ = false by simp [go_sem])
  have f3 := (hb1.frozen (p := ⟨w.heap.size + 1, 3, none⟩) (by simp; try omega)).trans (show _ = false by simp [go_sem])
  have f4 := (hb1.frozen (p := ⟨w.heap.size + 1, 4, none⟩) (by simp; try omega)).trans (show _ = false by simp [go_sem])
  have f5 := (hb1.frozen (p := ⟨w.heap.size + 1, 5, none⟩) (by simp; try omega)).trans (show _ = false by simp [go_sem])
  have g0 := (hb1.frozen (p := ⟨w.heap.size + 1 + 1, 0, none⟩) (by simp; try omega)).trans (show _ = false by simp [go_sem])
  have g1 := (hb1.frozen (p := ⟨w.heap.size + 1 + 1, 1, none⟩) (by simp; try omega)).trans (show _ = false by simp [go_sem])
  have g2 := (hb1.frozen (p := ⟨w.heap.size + 1 + 1, 2, none⟩) (by simp; try omega)).trans (show _ = false by simp [go_sem])
  have g3 := (hb1.frozen (p := ⟨w.heap.size + 1 + 1, 3, none⟩) (by simp; try omega)).trans (show _ = false by simp [go_sem])
  have g4 := (hb1.frozen (p := ⟨w.heap.size + 1 + 1, 4, none⟩) (by simp; try omega)).trans (show _ = false by simp [go_sem])
  have g5 := (hb1.frozen (p := ⟨w.heap.size + 1 + 1, 5, none⟩) (by simp; try omega)).trans (show _ = false by simp [go_sem])
  have H1 : Hid (Below w.heap.size w w1) := ((((Below.refl _ _).alloc (Nat.le_refl _) _).alloc (by simp) _).alloc (by simp; omega) _).trans (hb1.mono (by simp; omega))
  clear hb1
  go_wp2
  have q := put6_cells (W := w1) (g := w.heap.size + 1 + 1) (x0 := .int .u8 ch) (x1 := .bool false) (x2 := .int .u8 fa) (x3 := .int .u8 hi) (x4 := .int .u8 co) (x5 := .int .u8 se) r0 r1 r2 r3 r4 r5
  have hb := put6_below (W := w1) (g := w.heap.size + 1 + 1) (.int .u8 ch) (.bool false) (.int .u8 fa) (.int .u8 hi) (.int .u8 co) (.int .u8 se) (show Below w.heap.size w w1 from H1.out) (by omega)
  unfold put6 at q hb
  refine bodyPost_ret (v := .tuple #[.agg #[.int .u8 ch, .bool false, .int .u8 fa, .int .u8 hi, .int .u8 co, .int .u8 se], .int .i64 0]) ?_ rfl ⟨rfl, hb⟩
  clear hb
  generalize World.setCell _ ⟨w.heap.size + 1 + 1, 5, none⟩ _ = W' at q ⊢
  obtain ⟨q0, q1, q2, q3, q4, q5⟩ := q
  simp [results, Tryd.results83, go_sem, q0, q1, q2, q3, q4, q5]
set_option maxRecDepth 100000 in
set_option maxHeartbeats 2000000 in
theorem apply_no (t v : Nat) (hv : v < 256) (hk : knownB t v = false) (ch fa hi co se : Int) (a : Bool) (w : World) : Calls Tryd.prog 83 #[pairV t v, .agg #[.int .u8 ch, .bool a, .int .u8 fa, .int .u8 hi, .int .u8 co, .int .u8 se]] w fun e w' => e = .returned (.tuple #[.agg #[.int .u8 0, .bool false, .int .u8 0, .int .u8 0, .int .u8 0, .int .u8 0], .int .i64 10]) ∧ Below w.heap.size w w' := by
  have H := hid (check_any t v hv)
  rw [hk] at H
  simp only [Bool.false_eq_true, if_false] at H
  clear hk
  go_enter Tryd.func83, Tryd.ntmps83
  go_wp2_with fail
  with_reducible refine (H.out _).mono ?_
  rintro e w1 ⟨rfl, hb1⟩
  have p0 := keepc (a := ⟨w.heap.size, 0, none⟩) (v := .int .u8 t) hb1 (by simp [go_sem])
  have p1 := keepc (a := ⟨w.heap.size, 1, none⟩) (v := .int .u8 v) hb1 (by simp [go_sem])
  have c0 := keepc (a := ⟨w.heap.size + 1, 0, none⟩) (v := .int .u8 ch) hb1 (by simp [go_sem])
  have c1 := keepc (a := ⟨w.heap.size + 1, 1, none⟩) (v := .bool a) hb1 (by simp [go_sem])
  have c2 := keepc (a := ⟨w.heap.size + 1, 2, none⟩) (v := .int .u8 fa) hb1 (by simp [go_sem])
  have c3 := keepc (a := ⟨w.heap.size + 1, 3, none⟩) (v := .int .u8 hi) hb1 (by simp [go_sem])
  have c4 := keepc (a := ⟨w.heap.size + 1, 4, none⟩) (v := .int .u8 co) hb1 (by simp [go_sem])
  have c5 := keepc (a := ⟨w.heap.size + 1, 5, none⟩) (v := .int .u8 se) hb1 (by simp [go_sem])
  have r0 := keepc (a := ⟨w.heap.size + 1 + 1, 0, none⟩) (v := .int .u8 0) hb1 (by simp [go_sem])
  have r1 := keepc (a := ⟨w.heap.size + 1 + 1, 1, none⟩) (v := .bool false) hb1 (by simp [go_sem])
  have r2 := keepc (a := ⟨w.heap.size + 1 + 1, 2, none⟩) (v := .int .u8 0) hb1 (by simp [go_sem])
  have r3 := keepc (a := ⟨w.heap.size + 1 + 1, 3, none⟩) (v := .int .u8 0) hb1 (by simp [go_sem])
  have r4 := keepc (a := ⟨w.heap.size + 1 + 1, 4, none⟩) (v := .int .u8 0) hb1 (by simp [go_sem])
  have r5 := keepc (a := ⟨w.heap.size + 1 + 1, 5, none⟩) (v := .int .u8 0) hb1 (by simp [go_sem])
  have f0 := (hb1.frozen (p := ⟨w.heap.size + 1, 0, none⟩) (by simp; try omega)).trans (show _ = false by simp [go_sem])
  have f1 := (hb1.frozen (p := ⟨w.heap.size + 1, 1, none⟩) (by simp; try omega)).trans (show _ = false by simp [go_sem])
  have f2 := (hb1.frozen (p := ⟨w.heap.size + 1, 2, none⟩) (by simp; try omega)).trans (show _ = false by simp [go_sem])
  have f3 := (hb1.frozen (p := ⟨w.heap.size + 1, 3, none⟩) (by simp; try omega)).trans (show _ = false by simp [go_sem])
  have f4 := (hb1.frozen (p := ⟨w.heap.size + 1, 4, none⟩) (by simp; try omega)).trans (show _ = false by simp [go_sem])
  have f5 := (hb1.frozen (p := ⟨w.heap.size + 1, 5, none⟩) (by simp; try omega)).trans (show _ = false by simp [go_sem])
  have g0 := (hb1.frozen (p := ⟨w.heap.size + 1 + 1, 0, none⟩) (by simp; try omega)).trans (show _ = false by simp [go_sem])
  have g1 := (hb1.frozen (p := ⟨w.heap.size + 1 + 1, 1, none⟩) (by simp; try omega)).trans (show _ = false by simp [go_sem])
  have g2 := (hb1.frozen (p := ⟨w.heap.size + 1 + 1, 2, none⟩) (by simp; try omega)).trans (show _ = false by simp [go_sem])
  have g3 := (hb1.frozen (p := ⟨w.heap.size + 1 + 1, 3, none⟩) (by simp; try omega)).trans (show _ = false by simp [go_sem])
  have g4 := (hb1.frozen (p := ⟨w.heap.size + 1 + 1, 4, none⟩) (by simp; try omega)).trans (show _ = false by simp [go_sem])
  have g5 := (hb1.frozen (p := ⟨w.heap.size + 1 + 1, 5, none⟩) (by simp; try omega)).trans (show _ = false by simp [go_sem])
  have H1 : Hid (Below w.heap.size w w1) := ((((Below.refl _ _).alloc (Nat.le_refl _) _).alloc (by simp) _).alloc (by simp; omega) _).trans (hb1.mono (by simp; omega))
  clear hb1
  go_wp2
  have q := put6_cells (W := w1) (g := w.heap.size + 1 + 1) (x0 := .int .u8 0) (x1 := .bool false) (x2 := .int .u8 0) (x3 := .int .u8 0) (x4 := .int .u8 0) (x5 := .int .u8 0) r0 r1 r2 r3 r4 r5
  have hb := put6_below (W := w1) (g := w.heap.size + 1 + 1) (.int .u8 0) (.bool false) (.int .u8 0) (.int .u8 0) (.int .u8 0) (.int .u8 0) (show Below w.heap.size w w1 from H1.out) (by omega)
  unfold put6 at q hb
  refine bodyPost_ret (v := .tuple #[.agg #[.int .u8 0, .bool false, .int .u8 0, .int .u8 0, .int .u8 0, .int .u8 0], .int .i64 10]) ?_ rfl ⟨rfl, hb⟩
  clear hb
  generalize World.setCell _ ⟨w.heap.size + 1 + 1, 5, none⟩ _ = W' at q ⊢
  obtain ⟨q0, q1, q2, q3, q4, q5⟩ := q
  simp [results, Tryd.results83, go_sem, q0, q1, q2, q3, q4, q5]
/-- What an attribute makes of a cell. -/
def appl (c : Cel) (p : Nat × Nat) : Cel :=
  if p.1 = 65 then { c with hi := p.2 } else if p.1 = 66 then { c with co := p.2 } else if p.1 = 67 then { c with se := p.2 } else if p.1 = 192 then (if c.at_ then { c with fa := six6 p.2 } else c) else { c with hi := 0, co := 0, se := 0 }
theorem apply_fun (p : Nat × Nat) (hv : p.2 < 256) (hk : knownB p.1 p.2 = true) (c : Cel) (w : World) : Calls Tryd.prog 83 #[pairV p.1 p.2, c.v] w fun e w' => e = .returned (.tuple #[(appl c p).v, .int .i64 0]) ∧ Below w.heap.size w w' := by
  obtain ⟨t, v⟩ := p
  obtain ⟨ch, a, fa, hi, co, se⟩ := c
  rcases known_type hk with h | h | h | h | h
  · have h' : t = 0 := h
    subst h'
    exact apply_0 0 v rfl hv hk ch fa hi co se a w
  · have h' : t = 65 := h
    subst h'
    exact apply_65 65 v rfl hv hk ch fa hi co se a w
  · have h' : t = 66 := h
    subst h'
    exact apply_66 66 v rfl hv hk ch fa hi co se a w
  · have h' : t = 67 := h
    subst h'
    exact apply_67 67 v rfl hv hk ch fa hi co se a w
  · have h' : t = 192 := h
    subst h'
    cases a
    · exact apply_192f 192 v rfl hv hk ch fa hi co se w
    · exact apply_192t 192 v rfl hv hk ch fa hi co se _ (and61 v hv) w
theorem six6_u8 {v : Nat} (h : v < 256) : U8 (six6 v) := by
  have := and61 v h
  have h2 := sixB_tab v h
  unfold six6
  rw [h2.2]
  exact ⟨h2.1.1, by have := h2.1.2; omega⟩
theorem appl_ok {c : Cel} (h : c.OK) {p : Nat × Nat} (hp : p.2 < 256) : (appl c p).OK := by
  unfold appl
  have hz : U8 ((p.2 : Nat) : Int) := ⟨by omega, by omega⟩
  split
  · exact ⟨h.ch, h.fa, hz, h.co, h.se⟩
  · split
    · exact ⟨h.ch, h.fa, h.hi, hz, h.se⟩
    · split
      · exact ⟨h.ch, h.fa, h.hi, h.co, hz⟩
      · split
        · split
          · exact ⟨h.ch, six6_u8 hp, h.hi, h.co, h.se⟩
          · exact h
        · exact ⟨h.ch, h.fa, u8_zero, u8_zero, u8_zero⟩
/-- All of them, one behind the other. -/
def apply_all (c : Cel) (ps : List (Nat × Nat)) : Cel := ps.foldl appl c
theorem applyAll_ok {ps : List (Nat × Nat)} (hp : ∀ p ∈ ps, p.2 < 256) : ∀ {c : Cel}, c.OK → (apply_all c ps).OK := by
  induction ps with
  | nil => exact fun h => h
  | cons p r ih => exact fun h => ih (fun q hq => hp q (List.mem_cons_of_mem _ hq)) (appl_ok h (hp p (List.mem_cons_self ..)))
end Go.Proofs.YtdampfngdnicoaaDoor
