/-
  The reference's Apply.
-/
import Derived.Test.YtpnfdmfmdacjmaaApb
namespace Go.Proofs.Ytpnfdmfmdacjmaa
open Go.RowKit Go.Lib

theorem ofD_bd (v : Nat) : 0 ≤ ofD v ∧ ofD v ≤ 3 := by unfold ofD; omega
set_option maxRecDepth 100000 in
set_option maxHeartbeats 1000000 in
theorem rsix5_any (v : Nat) (hv : v < 256) (w : World) : Calls Try.prog 70 #[.int .u8 v] w fun e w' => e = .returned (.int .u8 (six6 v)) ∧ Below w.heap.size w w' := by
  have HO := hid (rof_any v hv)
  have HB := hid (rbits_ok (ofP v) (ofN v) (ofM v) (ofD v) (ofD_bd v).1 (ofD_bd v).2)
  rw [show bitsZ (ofP v) (ofN v) (ofD v) (ofM v) = six6 v from rfl] at HB
  generalize six6 v = Z at HB ⊢
  go_enter Try.func70, Try.ntmps70
  go_wp2_with fail
  with_reducible refine (HO.out _).mono ?_
  rintro e w1 ⟨rfl, hb1⟩
  have H1 := hid hb1
  clear hb1
  go_wp2_with fail
  with_reducible refine (HB.out _).mono ?_
  rintro e w2 ⟨rfl, hb2⟩
  have H2 := hid hb2
  clear hb2
  go_wp2
  go_ret
  exact ⟨rfl, below_t H1.out H2.out⟩
set_option maxRecDepth 100000 in
set_option maxHeartbeats 2000000 in
theorem rapply_0 (t v : Nat) (ht : t = 0) (hv : v < 256) (hk : knownB t v = true) (ch fa hi co se : Int) (a : Bool) (w : World) : Calls Try.prog 56 #[pairV t v, .agg #[.int .u8 ch, .bool a, .int .u8 fa, .int .u8 hi, .int .u8 co, .int .u8 se]] w fun e w' => e = .returned (.tuple #[.agg #[.int .u8 ch, .bool a, .int .u8 fa, .int .u8 0, .int .u8 0, .int .u8 0], .int .i64 0]) ∧ Below w.heap.size w w' := by
  have H := hid (right_any t v hv)
  have HV0 : Hid ((v : Int) = 0) := by show _ = _; rw [ht] at hk; have := known_zero hk; omega
  rw [hk] at H
  have e0 : ((t : Int) == 0) = true := by simp; omega
  have e65 : ((t : Int) == 65) = false := by simp; omega
  have e66 : ((t : Int) == 66) = false := by simp; omega
  have e67 : ((t : Int) == 67) = false := by simp; omega
  have e192 : ((t : Int) == 192) = false := by simp; omega
  clear hk ht
  go_enter Try.func56, Try.ntmps56
  go_wp2_with fail
  with_reducible refine (H.out _).mono ?_
  rintro e w1 ⟨rfl, hb1⟩
  have p0 := keepc (a := ⟨w.heap.size, 0, none⟩) (v := .int .u8 t) hb1 (by simp [go_sem])
  have p1 := keepc (a := ⟨w.heap.size, 1, none⟩) (v := .int .u8 v) hb1 (by simp [go_sem])
  have c0 := keepc (a := ⟨w.heap.size + 1, 0, none⟩) (v := .int .u8 ch) hb1 (by simp [go_sem])
  have c1 := keepc (a := ⟨w.heap.size + 1, 1, none⟩) (v := .bool a) hb1 (by simp [go_sem])
  have c2 := keepc (a := ⟨w.heap.size + 1, 2, none⟩) (v := .int .u8 fa) hb1 (by simp [go_sem])
  have c3 := keepc (a := ⟨w.heap.size + 1, 3, none⟩) (v := .int .u8 hi) hb1 (by simp [go_sem])
  have c4 := keepc (a := ⟨w.heap.size + 1, 4, none⟩) (v := .int .u8 co) hb1 (by simp [go_sem])
  have c5 := keepc (a := ⟨w.heap.size + 1, 5, none⟩) (v := .int .u8 se) hb1 (by simp [go_sem])
  have r0 := keepc (a := ⟨w.heap.size + 1 + 1, 0, none⟩) (v := .int .u8 0) hb1 (by simp [go_sem])
  have r1 := keepc (a := ⟨w.heap.size + 1 + 1, 1, none⟩) (v := .bool false) hb1 (by simp [go_sem])
  have r2 := keepc (a := ⟨w.heap.size + 1 + 1, 2, none⟩) (v := .int .u8 0) hb1 (by simp [go_sem])
  have r3 := keepc (a := ⟨w.heap.size + 1 + 1, 3, none⟩) (v := .int .u8 0) hb1 (by simp [go_sem])
  have r4 := keepc (a := ⟨w.heap.size + 1 + 1, 4, none⟩) (v := .int .u8 0) hb1 (by simp [go_sem])
  have r5 := keepc (a := ⟨w.heap.size + 1 + 1, 5, none⟩) (v := .int .u8 0) hb1 (by simp [go_sem])
  have f0 := (hb1.frozen (p := ⟨w.heap.size + 1, 0, none⟩) (by simp; try omega)).trans (show _ = false by simp [go_sem])
  have f1 := (hb1.frozen (p := ⟨w.heap.size + 1, 1, none⟩) (by simp; try omega)).trans (show _ = false by simp [go_sem])
  have f2 := (hb1.frozen (p := ⟨w.heap.size + 1, 2, none⟩) (by simp; try omega)).trans (show _ = false by simp [go_sem])
  have f3 := (hb1.frozen (p := ⟨w.heap.size + 1, 3, none⟩) (by simp; try omega)).trans (show _ = false by simp [go_sem])
  have f4 := (hb1.frozen (p := ⟨w.heap.size + 1, 4, none⟩) (by simp; try omega)).trans (show _ = false by simp [go_sem])
  have f5 := (hb1.frozen (p := ⟨w.heap.size + 1, 5, none⟩) (by simp; try omega)).trans (show _ = false by simp [go_sem])
  have g0 := (hb1.frozen (p := ⟨w.heap.size + 1 + 1, 0, none⟩) (by simp; try omega)).trans (show _ = false by simp [go_sem])
  have g1 := (hb1.frozen (p := ⟨w.heap.size + 1 + 1, 1, none⟩) (by simp; try omega)).trans (show _ = false by simp [go_sem])
  have g2 := (hb1.frozen (p := ⟨w.heap.size + 1 + 1, 2, none⟩) (by simp; try omega)).trans (show _ = false by simp [go_sem])
  have g3 := (hb1.frozen (p := ⟨w.heap.size + 1 + 1, 3, none⟩) (by simp; try omega)).trans (show _ = false by simp [go_sem])
  have g4 := (hb1.frozen (p := ⟨w.heap.size + 1 + 1, 4, none⟩) (by simp; try omega)).trans (show _ = false by simp [go_sem])
  have g5 := (hb1.frozen (p := ⟨w.heap.size + 1 + 1, 5, none⟩) (by simp; try omega)).trans (show _ = false by simp [go_sem])
  have H1 : Hid (Below w.heap.size w w1) := ((((Below.refl _ _).alloc (Nat.le_refl _) _).alloc (by simp) _).alloc (by simp; omega) _).trans (hb1.mono (by simp; omega))
  have hz : w.heap.size + 1 + 1 < w1.heap.size := by have := hb1.size; simp at this; omega
  have hz1 : w.heap.size + 1 < w1.heap.size := by omega
  have hz0 : w.heap.size < w1.heap.size := by omega
  clear hb1
  go_wp2
  have q := put6_cells (W := w1) (g := w.heap.size + 1 + 1) (x0 := .int .u8 ch) (x1 := .bool a) (x2 := .int .u8 fa) (x3 := .int .u8 v) (x4 := .int .u8 v) (x5 := .int .u8 v) r0 r1 r2 r3 r4 r5
  have hb := put6_below (W := w1) (g := w.heap.size + 1 + 1) (.int .u8 ch) (.bool a) (.int .u8 fa) (.int .u8 v) (.int .u8 v) (.int .u8 v) (show Below w.heap.size w w1 from H1.out) (by omega)
  have hb3 := hb.alloc (Nat.le_trans H1.out.size (Nat.le_of_eq (by unfold put6; simp))) (.cells #[.int .u8 ch, .bool a, .int .u8 fa, .int .u8 v, .int .u8 v, .int .u8 v] 80)
  have KB : Below (put6 w1 (w.heap.size + 1 + 1) (.int .u8 ch) (.bool a) (.int .u8 fa) (.int .u8 v) (.int .u8 v) (.int .u8 v)).heap.size (put6 w1 (w.heap.size + 1 + 1) (.int .u8 ch) (.bool a) (.int .u8 fa) (.int .u8 v) (.int .u8 v) (.int .u8 v)) ((put6 w1 (w.heap.size + 1 + 1) (.int .u8 ch) (.bool a) (.int .u8 fa) (.int .u8 v) (.int .u8 v) (.int .u8 v)).alloc (.cells #[.int .u8 ch, .bool a, .int .u8 fa, .int .u8 v, .int .u8 v, .int .u8 v] 80)) := (Below.refl _ _).alloc (Nat.le_refl _) _
  have k := And.intro (keepc KB q.1) (And.intro (keepc KB q.2.1) (And.intro (keepc KB q.2.2.1) (And.intro (keepc KB q.2.2.2.1) (And.intro (keepc KB q.2.2.2.2.1) (keepc KB q.2.2.2.2.2)))))
  clear KB q hb
  unfold put6 at k hb3
  refine bodyPost_ret (v := .tuple #[.agg #[.int .u8 ch, .bool a, .int .u8 fa, .int .u8 v, .int .u8 v, .int .u8 v], .int .i64 0]) ?_ rfl ⟨by rw [HV0.out], hb3⟩
  clear hb3
  generalize World.alloc _ _ = W' at k ⊢
  obtain ⟨q0, q1, q2, q3, q4, q5⟩ := k
  simp [results, Try.results56, go_sem, q0, q1, q2, q3, q4, q5]
set_option maxRecDepth 100000 in
set_option maxHeartbeats 2000000 in
theorem rapply_65 (t v : Nat) (ht : t = 65) (hv : v < 256) (hk : knownB t v = true) (ch fa hi co se : Int) (a : Bool) (w : World) : Calls Try.prog 56 #[pairV t v, .agg #[.int .u8 ch, .bool a, .int .u8 fa, .int .u8 hi, .int .u8 co, .int .u8 se]] w fun e w' => e = .returned (.tuple #[.agg #[.int .u8 ch, .bool a, .int .u8 fa, .int .u8 v, .int .u8 co, .int .u8 se], .int .i64 0]) ∧ Below w.heap.size w w' := by
  have H := hid (right_any t v hv)
  rw [hk] at H
  have e0 : ((t : Int) == 0) = false := by simp; omega
  have e65 : ((t : Int) == 65) = true := by simp; omega
  have e66 : ((t : Int) == 66) = false := by simp; omega
  have e67 : ((t : Int) == 67) = false := by simp; omega
  have e192 : ((t : Int) == 192) = false := by simp; omega
  clear hk ht
  go_enter Try.func56, Try.ntmps56
  go_wp2_with fail
  with_reducible refine (H.out _).mono ?_
  rintro e w1 ⟨rfl, hb1⟩
  have p0 := keepc (a := ⟨w.heap.size, 0, none⟩) (v := .int .u8 t) hb1 (by simp [go_sem])
  have p1 := keepc (a := ⟨w.heap.size, 1, none⟩) (v := .int .u8 v) hb1 (by simp [go_sem])
  have c0 := keepc (a := ⟨w.heap.size + 1, 0, none⟩) (v := .int .u8 ch) hb1 (by simp [go_sem])
  have c1 := keepc (a := ⟨w.heap.size + 1, 1, none⟩) (v := .bool a) hb1 (by simp [go_sem])
  have c2 := keepc (a := ⟨w.heap.size + 1, 2, none⟩) (v := .int .u8 fa) hb1 (by simp [go_sem])
  have c3 := keepc (a := ⟨w.heap.size + 1, 3, none⟩) (v := .int .u8 hi) hb1 (by simp [go_sem])
  have c4 := keepc (a := ⟨w.heap.size + 1, 4, none⟩) (v := .int .u8 co) hb1 (by simp [go_sem])
  have c5 := keepc (a := ⟨w.heap.size + 1, 5, none⟩) (v := .int .u8 se) hb1 (by simp [go_sem])
  have r0 := keepc (a := ⟨w.heap.size + 1 + 1, 0, none⟩) (v := .int .u8 0) hb1 (by simp [go_sem])
  have r1 := keepc (a := ⟨w.heap.size + 1 + 1, 1, none⟩) (v := .bool false) hb1 (by simp [go_sem])
  have r2 := keepc (a := ⟨w.heap.size + 1 + 1, 2, none⟩) (v := .int .u8 0) hb1 (by simp [go_sem])
  have r3 := keepc (a := ⟨w.heap.size + 1 + 1, 3, none⟩) (v := .int .u8 0) hb1 (by simp [go_sem])
  have r4 := keepc (a := ⟨w.heap.size + 1 + 1, 4, none⟩) (v := .int .u8 0) hb1 (by simp [go_sem])
  have r5 := keepc (a := ⟨w.heap.size + 1 + 1, 5, none⟩) (v := .int .u8 0) hb1 (by simp [go_sem])
  have f0 := (hb1.frozen (p := ⟨w.heap.size + 1, 0, none⟩) (by simp; try omega)).trans (show _ = false by simp [go_sem])
  have f1 := (hb1.frozen (p := ⟨w.heap.size + 1, 1, none⟩) (by simp; try omega)).trans (show _ = false by simp [go_sem])
  have f2 := (hb1.frozen (p := ⟨w.heap.size + 1, 2, none⟩) (by simp; try omega)).trans (show _ = false by simp [go_sem])
  have f3 := (hb1.frozen (p := ⟨w.heap.size + 1, 3, none⟩) (by simp; try omega)).trans (show _ = false by simp [go_sem])
  have f4 := (hb1.frozen (p := ⟨w.heap.size + 1, 4, none⟩) (by simp; try omega)).trans (show _ = false by simp [go_sem])
  have f5 := (hb1.frozen (p := ⟨w.heap.size + 1, 5, none⟩) (by simp; try omega)).trans (show _ = false by simp [go_sem])
  have g0 := (hb1.frozen (p := ⟨w.heap.size + 1 + 1, 0, none⟩) (by simp; try omega)).trans (show _ = false by simp [go_sem])
  have g1 := (hb1.frozen (p := ⟨w.heap.size + 1 + 1, 1, none⟩) (by simp; try omega)).trans (show _ = false by simp [go_sem])
  have g2 := (hb1.frozen (p := ⟨w.heap.size + 1 + 1, 2, none⟩) (by simp; try omega)).trans (show _ = false by simp [go_sem])
  have g3 := (hb1.frozen (p := ⟨w.heap.size + 1 + 1, 3, none⟩) (by simp; try omega)).trans (show _ = false by simp [go_sem])
  have g4 := (hb1.frozen (p := ⟨w.heap.size + 1 + 1, 4, none⟩) (by simp; try omega)).trans (show _ = false by simp [go_sem])
  have g5 := (hb1.frozen (p := ⟨w.heap.size + 1 + 1, 5, none⟩) (by simp; try omega)).trans (show _ = false by simp [go_sem])
  have H1 : Hid (Below w.heap.size w w1) := ((((Below.refl _ _).alloc (Nat.le_refl _) _).alloc (by simp) _).alloc (by simp; omega) _).trans (hb1.mono (by simp; omega))
  have hz : w.heap.size + 1 + 1 < w1.heap.size := by have := hb1.size; simp at this; omega
  have hz1 : w.heap.size + 1 < w1.heap.size := by omega
  have hz0 : w.heap.size < w1.heap.size := by omega
  clear hb1
  go_wp2
  have q := put6_cells (W := w1) (g := w.heap.size + 1 + 1) (x0 := .int .u8 ch) (x1 := .bool a) (x2 := .int .u8 fa) (x3 := .int .u8 v) (x4 := .int .u8 co) (x5 := .int .u8 se) r0 r1 r2 r3 r4 r5
  have hb := put6_below (W := w1) (g := w.heap.size + 1 + 1) (.int .u8 ch) (.bool a) (.int .u8 fa) (.int .u8 v) (.int .u8 co) (.int .u8 se) (show Below w.heap.size w w1 from H1.out) (by omega)
  have hb3 := hb.alloc (Nat.le_trans H1.out.size (Nat.le_of_eq (by unfold put6; simp))) (.cells #[.int .u8 ch, .bool a, .int .u8 fa, .int .u8 v, .int .u8 co, .int .u8 se] 80)
  have KB : Below (put6 w1 (w.heap.size + 1 + 1) (.int .u8 ch) (.bool a) (.int .u8 fa) (.int .u8 v) (.int .u8 co) (.int .u8 se)).heap.size (put6 w1 (w.heap.size + 1 + 1) (.int .u8 ch) (.bool a) (.int .u8 fa) (.int .u8 v) (.int .u8 co) (.int .u8 se)) ((put6 w1 (w.heap.size + 1 + 1) (.int .u8 ch) (.bool a) (.int .u8 fa) (.int .u8 v) (.int .u8 co) (.int .u8 se)).alloc (.cells #[.int .u8 ch, .bool a, .int .u8 fa, .int .u8 v, .int .u8 co, .int .u8 se] 80)) := (Below.refl _ _).alloc (Nat.le_refl _) _
  have k := And.intro (keepc KB q.1) (And.intro (keepc KB q.2.1) (And.intro (keepc KB q.2.2.1) (And.intro (keepc KB q.2.2.2.1) (And.intro (keepc KB q.2.2.2.2.1) (keepc KB q.2.2.2.2.2)))))
  clear KB q hb
  unfold put6 at k hb3
  refine bodyPost_ret (v := .tuple #[.agg #[.int .u8 ch, .bool a, .int .u8 fa, .int .u8 v, .int .u8 co, .int .u8 se], .int .i64 0]) ?_ rfl ⟨rfl, hb3⟩
  clear hb3
  generalize World.alloc _ _ = W' at k ⊢
  obtain ⟨q0, q1, q2, q3, q4, q5⟩ := k
  simp [results, Try.results56, go_sem, q0, q1, q2, q3, q4, q5]
set_option maxRecDepth 100000 in
set_option maxHeartbeats 2000000 in
theorem rapply_66 (t v : Nat) (ht : t = 66) (hv : v < 256) (hk : knownB t v = true) (ch fa hi co se : Int) (a : Bool) (w : World) : Calls Try.prog 56 #[pairV t v, .agg #[.int .u8 ch, .bool a, .int .u8 fa, .int .u8 hi, .int .u8 co, .int .u8 se]] w fun e w' => e = .returned (.tuple #[.agg #[.int .u8 ch, .bool a, .int .u8 fa, .int .u8 hi, .int .u8 v, .int .u8 se], .int .i64 0]) ∧ Below w.heap.size w w' := by
  have H := hid (right_any t v hv)
  rw [hk] at H
  have e0 : ((t : Int) == 0) = false := by simp; omega
  have e65 : ((t : Int) == 65) = false := by simp; omega
  have e66 : ((t : Int) == 66) = true := by simp; omega
  have e67 : ((t : Int) == 67) = false := by simp; omega
  have e192 : ((t : Int) == 192) = false := by simp; omega
  clear hk ht
  go_enter Try.func56, Try.ntmps56
  go_wp2_with fail
  with_reducible refine (H.out _).mono ?_
  rintro e w1 ⟨rfl, hb1⟩
  have p0 := keepc (a := ⟨w.heap.size, 0, none⟩) (v := .int .u8 t) hb1 (by simp [go_sem])
  have p1 := keepc (a := ⟨w.heap.size, 1, none⟩) (v := .int .u8 v) hb1 (by simp [go_sem])
  have c0 := keepc (a := ⟨w.heap.size + 1, 0, none⟩) (v := .int .u8 ch) hb1 (by simp [go_sem])
  have c1 := keepc (a := ⟨w.heap.size + 1, 1, none⟩) (v := .bool a) hb1 (by simp [go_sem])
  have c2 := keepc (a := ⟨w.heap.size + 1, 2, none⟩) (v := .int .u8 fa) hb1 (by simp [go_sem])
  have c3 := keepc (a := ⟨w.heap.size + 1, 3, none⟩) (v := .int .u8 hi) hb1 (by simp [go_sem])
  have c4 := keepc (a := ⟨w.heap.size + 1, 4, none⟩) (v := .int .u8 co) hb1 (by simp [go_sem])
  have c5 := keepc (a := ⟨w.heap.size + 1, 5, none⟩) (v := .int .u8 se) hb1 (by simp [go_sem])
  have r0 := keepc (a := ⟨w.heap.size + 1 + 1, 0, none⟩) (v := .int .u8 0) hb1 (by simp [go_sem])
  have r1 := keepc (a := ⟨w.heap.size + 1 + 1, 1, none⟩) (v := .bool false) hb1 (by simp [go_sem])
  have r2 := keepc (a := ⟨w.heap.size + 1 + 1, 2, none⟩) (v := .int .u8 0) hb1 (by simp [go_sem])
  have r3 := keepc (a := ⟨w.heap.size + 1 + 1, 3, none⟩) (v := .int .u8 0) hb1 (by simp [go_sem])
  have r4 := keepc (a := ⟨w.heap.size + 1 + 1, 4, none⟩) (v := .int .u8 0) hb1 (by simp [go_sem])
  have r5 := keepc (a := ⟨w.heap.size + 1 + 1, 5, none⟩) (v := .int .u8 0) hb1 (by simp [go_sem])
  have f0 := (hb1.frozen (p := ⟨w.heap.size + 1, 0, none⟩) (by simp; try omega)).trans (show _ = false by simp [go_sem])
  have f1 := (hb1.frozen (p := ⟨w.heap.size + 1, 1, none⟩) (by simp; try omega)).trans (show _ = false by simp [go_sem])
  have f2 := (hb1.frozen (p := ⟨w.heap.size + 1, 2, none⟩) (by simp; try omega)).trans (show _ = false by simp [go_sem])
  have f3 := (hb1.frozen (p := ⟨w.heap.size + 1, 3, none⟩) (by simp; try omega)).trans (show _ = false by simp [go_sem])
  have f4 := (hb1.frozen (p := ⟨w.heap.size + 1, 4, none⟩) (by simp; try omega)).trans (show _ = false by simp [go_sem])
  have f5 := (hb1.frozen (p := ⟨w.heap.size + 1, 5, none⟩) (by simp; try omega)).trans (show _ = false by simp [go_sem])
  have g0 := (hb1.frozen (p := ⟨w.heap.size + 1 + 1, 0, none⟩) (by simp; try omega)).trans (show _ = false by simp [go_sem])
  have g1 := (hb1.frozen (p := ⟨w.heap.size + 1 + 1, 1, none⟩) (by simp; try omega)).trans (show _ = false by simp [go_sem])
  have g2 := (hb1.frozen (p := ⟨w.heap.size + 1 + 1, 2, none⟩) (by simp; try omega)).trans (show _ = false by simp [go_sem])
  have g3 := (hb1.frozen (p := ⟨w.heap.size + 1 + 1, 3, none⟩) (by simp; try omega)).trans (show _ = false by simp [go_sem])
  have g4 := (hb1.frozen (p := ⟨w.heap.size + 1 + 1, 4, none⟩) (by simp; try omega)).trans (show _ = false by simp [go_sem])
  have g5 := (hb1.frozen (p := ⟨w.heap.size + 1 + 1, 5, none⟩) (by simp; try omega)).trans (show _ = false by simp [go_sem])
  have H1 : Hid (Below w.heap.size w w1) := ((((Below.refl _ _).alloc (Nat.le_refl _) _).alloc (by simp) _).alloc (by simp; omega) _).trans (hb1.mono (by simp; omega))
  have hz : w.heap.size + 1 + 1 < w1.heap.size := by have := hb1.size; simp at this; omega
  have hz1 : w.heap.size + 1 < w1.heap.size := by omega
  have hz0 : w.heap.size < w1.heap.size := by omega
  clear hb1
  go_wp2
  have q := put6_cells (W := w1) (g := w.heap.size + 1 + 1) (x0 := .int .u8 ch) (x1 := .bool a) (x2 := .int .u8 fa) (x3 := .int .u8 hi) (x4 := .int .u8 v) (x5 := .int .u8 se) r0 r1 r2 r3 r4 r5
  have hb := put6_below (W := w1) (g := w.heap.size + 1 + 1) (.int .u8 ch) (.bool a) (.int .u8 fa) (.int .u8 hi) (.int .u8 v) (.int .u8 se) (show Below w.heap.size w w1 from H1.out) (by omega)
  have hb3 := hb.alloc (Nat.le_trans H1.out.size (Nat.le_of_eq (by unfold put6; simp))) (.cells #[.int .u8 ch, .bool a, .int .u8 fa, .int .u8 hi, .int .u8 v, .int .u8 se] 80)
  have KB : Below (put6 w1 (w.heap.size + 1 + 1) (.int .u8 ch) (.bool a) (.int .u8 fa) (.int .u8 hi) (.int .u8 v) (.int .u8 se)).heap.size (put6 w1 (w.heap.size + 1 + 1) (.int .u8 ch) (.bool a) (.int .u8 fa) (.int .u8 hi) (.int .u8 v) (.int .u8 se)) ((put6 w1 (w.heap.size + 1 + 1) (.int .u8 ch) (.bool a) (.int .u8 fa) (.int .u8 hi) (.int .u8 v) (.int .u8 se)).alloc (.cells #[.int .u8 ch, .bool a, .int .u8 fa, .int .u8 hi, .int .u8 v, .int .u8 se] 80)) := (Below.refl _ _).alloc (Nat.le_refl _) _
  have k := And.intro (keepc KB q.1) (And.intro (keepc KB q.2.1) (And.intro (keepc KB q.2.2.1) (And.intro (keepc KB q.2.2.2.1) (And.intro (keepc KB q.2.2.2.2.1) (keepc KB q.2.2.2.2.2)))))
  clear KB q hb
  unfold put6 at k hb3
  refine bodyPost_ret (v := .tuple #[.agg #[.int .u8 ch, .bool a, .int .u8 fa, .int .u8 hi, .int .u8 v, .int .u8 se], .int .i64 0]) ?_ rfl ⟨rfl, hb3⟩
  clear hb3
  generalize World.alloc _ _ = W' at k ⊢
  obtain ⟨q0, q1, q2, q3, q4, q5⟩ := k
  simp [results, Try.results56, go_sem, q0, q1, q2, q3, q4, q5]
set_option maxRecDepth 100000 in
set_option maxHeartbeats 2000000 in
theorem rapply_67 (t v : Nat) (ht : t = 67) (hv : v < 256) (hk : knownB t v = true) (ch fa hi co se : Int) (a : Bool) (w : World) : Calls Try.prog 56 #[pairV t v, .agg #[.int .u8 ch, .bool a, .int .u8 fa, .int .u8 hi, .int .u8 co, .int .u8 se]] w fun e w' => e = .returned (.tuple #[.agg #[.int .u8 ch, .bool a, .int .u8 fa, .int .u8 hi, .int .u8 co, .int .u8 v], .int .i64 0]) ∧ Below w.heap.size w w' := by
  have H := hid (right_any t v hv)
  rw [hk] at H
  have e0 : ((t : Int) == 0) = false := by simp; omega
  have e65 : ((t : Int) == 65) = false := by simp; omega
  have e66 : ((t : Int) == 66) = false := by simp; omega
  have e67 : ((t : Int) == 67) = true := by simp; omega
  have e192 : ((t : Int) == 192) = false := by simp; omega
  clear hk ht
  go_enter Try.func56, Try.ntmps56
  go_wp2_with fail
  with_reducible refine (H.out _).mono ?_
  rintro e w1 ⟨rfl, hb1⟩
  have p0 := keepc (a := ⟨w.heap.size, 0, none⟩) (v := .int .u8 t) hb1 (by simp [go_sem])
  have p1 := keepc (a := ⟨w.heap.size, 1, none⟩) (v := .int .u8 v) hb1 (by simp [go_sem])
  have c0 := keepc (a := ⟨w.heap.size + 1, 0, none⟩) (v := .int .u8 ch) hb1 (by simp [go_sem])
  have c1 := keepc (a := ⟨w.heap.size + 1, 1, none⟩) (v := .bool a) hb1 (by simp [go_sem])
  have c2 := keepc (a := ⟨w.heap.size + 1, 2, none⟩) (v := .int .u8 fa) hb1 (by simp [go_sem])
  have c3 := keepc (a := ⟨w.heap.size + 1, 3, none⟩) (v := .int .u8 hi) hb1 (by simp [go_sem])
  have c4 := keepc (a := ⟨w.heap.size + 1, 4, none⟩) (v := .int .u8 co) hb1 (by simp [go_sem])
  have c5 := keepc (a := ⟨w.heap.size + 1, 5, none⟩) (v := .int .u8 se) hb1 (by simp [go_sem])
  have r0 := keepc (a := ⟨w.heap.size + 1 + 1, 0, none⟩) (v := .int .u8 0) hb1 (by simp [go_sem])
  have r1 := keepc (a := ⟨w.heap.size + 1 + 1, 1, none⟩) (v := .bool false) hb1 (by simp [go_sem])
  have r2 := keepc (a := ⟨w.heap.size + 1 + 1, 2, none⟩) (v := .int .u8 0) hb1 (by simp [go_sem])
  have r3 := keepc (a := ⟨w.heap.size + 1 + 1, 3, none⟩) (v := .int .u8 0) hb1 (by simp [go_sem])
  have r4 := keepc (a := ⟨w.heap.size + 1 + 1, 4, none⟩) (v := .int .u8 0) hb1 (by simp [go_sem])
  have r5 := keepc (a := ⟨w.heap.size + 1 + 1, 5, none⟩) (v := .int .u8 0) hb1 (by simp [go_sem])
  have f0 := (hb1.frozen (p := ⟨w.heap.size + 1, 0, none⟩) (by simp; try omega)).trans (show _ = false by simp [go_sem])
  have f1 := (hb1.frozen (p := ⟨w.heap.size + 1, 1, none⟩) (by simp; try omega)).trans (show _ = false by simp [go_sem])
  have f2 := (hb1.frozen (p := ⟨w.heap.size + 1, 2, none⟩) (by simp; try omega)).trans (show _ = false by simp [go_sem])
  have f3 := (hb1.frozen (p := ⟨w.heap.size + 1, 3, none⟩) (by simp; try omega)).trans (show _ = false by simp [go_sem])
  have f4 := (hb1.frozen (p := ⟨w.heap.size + 1, 4, none⟩) (by simp; try omega)).trans (show _ = false by simp [go_sem])
  have f5 := (hb1.frozen (p := ⟨w.heap.size + 1, 5, none⟩) (by simp; try omega)).trans (show _ = false by simp [go_sem])
  have g0 := (hb1.frozen (p := ⟨w.heap.size + 1 + 1, 0, none⟩) (by simp; try omega)).trans (show _ = false by simp [go_sem])
  have g1 := (hb1.frozen (p := ⟨w.heap.size + 1 + 1, 1, none⟩) (by simp; try omega)).trans (show _ = false by simp [go_sem])
  have g2 := (hb1.frozen (p := ⟨w.heap.size + 1 + 1, 2, none⟩) (by simp; try omega)).trans (show _ = false by simp [go_sem])
  have g3 := (hb1.frozen (p := ⟨w.heap.size + 1 + 1, 3, none⟩) (by simp; try omega)).trans (show _ = false by simp [go_sem])
  have g4 := (hb1.frozen (p := ⟨w.heap.size + 1 + 1, 4, none⟩) (by simp; try omega)).trans (show _ = false by simp [go_sem])
  have g5 := (hb1.frozen (p := ⟨w.heap.size + 1 + 1, 5, none⟩) (by simp; try omega)).trans (show _ = false by simp [go_sem])
  have H1 : Hid (Below w.heap.size w w1) := ((((Below.refl _ _).alloc (Nat.le_refl _) _).alloc (by simp) _).alloc (by simp; omega) _).trans (hb1.mono (by simp; omega))
  have hz : w.heap.size + 1 + 1 < w1.heap.size := by have := hb1.size; simp at this; omega
  have hz1 : w.heap.size + 1 < w1.heap.size := by omega
  have hz0 : w.heap.size < w1.heap.size := by omega
  clear hb1
  go_wp2
  have q := put6_cells (W := w1) (g := w.heap.size + 1 + 1) (x0 := .int .u8 ch) (x1 := .bool a) (x2 := .int .u8 fa) (x3 := .int .u8 hi) (x4 := .int .u8 co) (x5 := .int .u8 v) r0 r1 r2 r3 r4 r5
  have hb := put6_below (W := w1) (g := w.heap.size + 1 + 1) (.int .u8 ch) (.bool a) (.int .u8 fa) (.int .u8 hi) (.int .u8 co) (.int .u8 v) (show Below w.heap.size w w1 from H1.out) (by omega)
  have hb3 := hb.alloc (Nat.le_trans H1.out.size (Nat.le_of_eq (by unfold put6; simp))) (.cells #[.int .u8 ch, .bool a, .int .u8 fa, .int .u8 hi, .int .u8 co, .int .u8 v] 80)
  have KB : Below (put6 w1 (w.heap.size + 1 + 1) (.int .u8 ch) (.bool a) (.int .u8 fa) (.int .u8 hi) (.int .u8 co) (.int .u8 v)).heap.size (put6 w1 (w.heap.size + 1 + 1) (.int .u8 ch) (.bool a) (.int .u8 fa) (.int .u8 hi) (.int .u8 co) (.int .u8 v)) ((put6 w1 (w.heap.size + 1 + 1) (.int .u8 ch) (.bool a) (.int .u8 fa) (.int .u8 hi) (.int .u8 co) (.int .u8 v)).alloc (.cells #[.int .u8 ch, .bool a, .int .u8 fa, .int .u8 hi, .int .u8 co, .int .u8 v] 80)) := (Below.refl _ _).alloc (Nat.le_refl _) _
  have k := And.intro (keepc KB q.1) (And.intro (keepc KB q.2.1) (And.intro (keepc KB q.2.2.1) (And.intro (keepc KB q.2.2.2.1) (And.intro (keepc KB q.2.2.2.2.1) (keepc KB q.2.2.2.2.2)))))
  clear KB q hb
  unfold put6 at k hb3
  refine bodyPost_ret (v := .tuple #[.agg #[.int .u8 ch, .bool a, .int .u8 fa, .int .u8 hi, .int .u8 co, .int .u8 v], .int .i64 0]) ?_ rfl ⟨rfl, hb3⟩
  clear hb3
  generalize World.alloc _ _ = W' at k ⊢
  obtain ⟨q0, q1, q2, q3, q4, q5⟩ := k
  simp [results, Try.results56, go_sem, q0, q1, q2, q3, q4, q5]
set_option maxRecDepth 100000 in
set_option maxHeartbeats 2000000 in
theorem rapply_192t (t v : Nat) (ht : t = 192) (hv : v < 256) (hk : knownB t v = true) (ch fa hi co se : Int) (Z : Int) (hZ : six6 v = Z) (w : World) : Calls Try.prog 56 #[pairV t v, .agg #[.int .u8 ch, .bool true, .int .u8 fa, .int .u8 hi, .int .u8 co, .int .u8 se]] w fun e w' => e = .returned (.tuple #[.agg #[.int .u8 ch, .bool true, .int .u8 Z, .int .u8 hi, .int .u8 co, .int .u8 se], .int .i64 0]) ∧ Below w.heap.size w w' := by
  have H := hid (right_any t v hv)
  have HSX := hid (rsix5_any v hv)
  rw [hZ] at HSX
  clear hZ
  rw [hk] at H
  have e0 : ((t : Int) == 0) = false := by simp; omega
  have e65 : ((t : Int) == 65) = false := by simp; omega
  have e66 : ((t : Int) == 66) = false := by simp; omega
  have e67 : ((t : Int) == 67) = false := by simp; omega
  have e192 : ((t : Int) == 192) = true := by simp; omega
  clear hk ht
  go_enter Try.func56, Try.ntmps56
  go_wp2_with fail
  with_reducible refine (H.out _).mono ?_
  rintro e w1 ⟨rfl, hb1⟩
  have p0 := keepc (a := ⟨w.heap.size, 0, none⟩) (v := .int .u8 t) hb1 (by simp [go_sem])
  have p1 := keepc (a := ⟨w.heap.size, 1, none⟩) (v := .int .u8 v) hb1 (by simp [go_sem])
  have c0 := keepc (a := ⟨w.heap.size + 1, 0, none⟩) (v := .int .u8 ch) hb1 (by simp [go_sem])
  have c1 := keepc (a := ⟨w.heap.size + 1, 1, none⟩) (v := .bool true) hb1 (by simp [go_sem])
  have c2 := keepc (a := ⟨w.heap.size + 1, 2, none⟩) (v := .int .u8 fa) hb1 (by simp [go_sem])
  have c3 := keepc (a := ⟨w.heap.size + 1, 3, none⟩) (v := .int .u8 hi) hb1 (by simp [go_sem])
  have c4 := keepc (a := ⟨w.heap.size + 1, 4, none⟩) (v := .int .u8 co) hb1 (by simp [go_sem])
  have c5 := keepc (a := ⟨w.heap.size + 1, 5, none⟩) (v := .int .u8 se) hb1 (by simp [go_sem])
  have r0 := keepc (a := ⟨w.heap.size + 1 + 1, 0, none⟩) (v := .int .u8 0) hb1 (by simp [go_sem])
  have r1 := keepc (a := ⟨w.heap.size + 1 + 1, 1, none⟩) (v := .bool false) hb1 (by simp [go_sem])
  have r2 := keepc (a := ⟨w.heap.size + 1 + 1, 2, none⟩) (v := .int .u8 0) hb1 (by simp [go_sem])
  have r3 := keepc (a := ⟨w.heap.size + 1 + 1, 3, none⟩) (v := .int .u8 0) hb1 (by simp [go_sem])
  have r4 := keepc (a := ⟨w.heap.size + 1 + 1, 4, none⟩) (v := .int .u8 0) hb1 (by simp [go_sem])
  have r5 := keepc (a := ⟨w.heap.size + 1 + 1, 5, none⟩) (v := .int .u8 0) hb1 (by simp [go_sem])
  have f0 := (hb1.frozen (p := ⟨w.heap.size + 1, 0, none⟩) (by simp; try omega)).trans (show _ = false by simp [go_sem])
  have f1 := (hb1.frozen (p := ⟨w.heap.size + 1, 1, none⟩) (by simp; try omega)).trans (show _ = false by simp [go_sem])
  have f2 := (hb1.frozen (p := ⟨w.heap.size + 1, 2, none⟩) (by simp; try omega)).trans (show _ = false by simp [go_sem])
  have f3 := (hb1.frozen (p := ⟨w.heap.size + 1, 3, none⟩) (by simp; try omega)).trans (show _ = false by simp [go_sem])
  have f4 := (hb1.frozen (p := ⟨w.heap.size + 1, 4, none⟩) (by simp; try omega)).trans (show _ = false by simp [go_sem])
  have f5 := (hb1.frozen (p := ⟨w.heap.size + 1, 5, none⟩) (by simp; try omega)).trans (show _ = false by simp [go_sem])
  have g0 := (hb1.frozen (p := ⟨w.heap.size + 1 + 1, 0, none⟩) (by simp; try omega)).trans (show _ = false by simp [go_sem])
  have g1 := (hb1.frozen (p := ⟨w.heap.size + 1 + 1, 1, none⟩) (by simp; try omega)).trans (show _ = false by simp [go_sem])
  have g2 := (hb1.frozen (p := ⟨w.heap.size + 1 + 1, 2, none⟩) (by simp; try omega)).trans (show _ = false by simp [go_sem])
  have g3 := (hb1.frozen (p := ⟨w.heap.size + 1 + 1, 3, none⟩) (by simp; try omega)).trans (show _ = false by simp [go_sem])
  have g4 := (hb1.frozen (p := ⟨w.heap.size + 1 + 1, 4, none⟩) (by simp; try omega)).trans (show _ = false by simp [go_sem])
  have g5 := (hb1.frozen (p := ⟨w.heap.size + 1 + 1, 5, none⟩) (by simp; try omega)).trans (show _ = false by simp [go_sem])
  have H1 : Hid (Below w.heap.size w w1) := ((((Below.refl _ _).alloc (Nat.le_refl _) _).alloc (by simp) _).alloc (by simp; omega) _).trans (hb1.mono (by simp; omega))
  have hz : w.heap.size + 1 + 1 < w1.heap.size := by have := hb1.size; simp at this; omega
  have hz1 : w.heap.size + 1 < w1.heap.size := by omega
  have hz0 : w.heap.size < w1.heap.size := by omega
  clear hb1
  go_wp2_with fail
  with_reducible refine (HSX.out _).mono ?_
  rintro e w2 ⟨rfl, hb2⟩
  have KB : Below w1.heap.size w1 (w1.alloc (.cells #[.int .u8 ch, .bool true, .int .u8 fa, .int .u8 hi, .int .u8 co, .int .u8 se] 80)) := (Below.refl _ _).alloc (Nat.le_refl _) _
  have KC : Below w1.heap.size w1 w2 := KB.trans (hb2.mono (by simp))
  have pp0 := keepc KC p0
  have pp1 := keepc KC p1
  have s0 := keepc KC r0
  have s1 := keepc KC r1
  have s2 := keepc KC r2
  have s3 := keepc KC r3
  have s4 := keepc KC r4
  have s5 := keepc KC r5
  have gg0 := (KC.frozen (p := ⟨w.heap.size + 1 + 1, 0, none⟩) hz).trans g0
  have gg1 := (KC.frozen (p := ⟨w.heap.size + 1 + 1, 1, none⟩) hz).trans g1
  have gg2 := (KC.frozen (p := ⟨w.heap.size + 1 + 1, 2, none⟩) hz).trans g2
  have gg3 := (KC.frozen (p := ⟨w.heap.size + 1 + 1, 3, none⟩) hz).trans g3
  have gg4 := (KC.frozen (p := ⟨w.heap.size + 1 + 1, 4, none⟩) hz).trans g4
  have gg5 := (KC.frozen (p := ⟨w.heap.size + 1 + 1, 5, none⟩) hz).trans g5
  have o0 := keepc (a := ⟨w1.heap.size, 0, none⟩) (v := .int .u8 ch) hb2 (by simp [go_sem])
  have o1 := keepc (a := ⟨w1.heap.size, 1, none⟩) (v := .bool true) hb2 (by simp [go_sem])
  have o2 := keepc (a := ⟨w1.heap.size, 2, none⟩) (v := .int .u8 fa) hb2 (by simp [go_sem])
  have o3 := keepc (a := ⟨w1.heap.size, 3, none⟩) (v := .int .u8 hi) hb2 (by simp [go_sem])
  have o4 := keepc (a := ⟨w1.heap.size, 4, none⟩) (v := .int .u8 co) hb2 (by simp [go_sem])
  have o5 := keepc (a := ⟨w1.heap.size, 5, none⟩) (v := .int .u8 se) hb2 (by simp [go_sem])
  have fo := (hb2.frozen (p := ⟨w1.heap.size, 2, none⟩) (by simp)).trans (show _ = false by simp [go_sem])
  have H2 := hid (below_t H1.out KC)
  clear hb2 KB KC
  go_wp2
  have q := put6_cells (W := (w2.setCell ⟨w1.heap.size, 2, none⟩ (.int .u8 Z))) (g := w.heap.size + 1 + 1) (x0 := .int .u8 ch) (x1 := .bool true) (x2 := .int .u8 Z) (x3 := .int .u8 hi) (x4 := .int .u8 co) (x5 := .int .u8 se) ((World.cell?_setCell_far _ _ _ _ (by simp; omega)).trans s0) ((World.cell?_setCell_far _ _ _ _ (by simp; omega)).trans s1) ((World.cell?_setCell_far _ _ _ _ (by simp; omega)).trans s2) ((World.cell?_setCell_far _ _ _ _ (by simp; omega)).trans s3) ((World.cell?_setCell_far _ _ _ _ (by simp; omega)).trans s4) ((World.cell?_setCell_far _ _ _ _ (by simp; omega)).trans s5)
  have hb := put6_below (W := (w2.setCell ⟨w1.heap.size, 2, none⟩ (.int .u8 Z))) (g := w.heap.size + 1 + 1) (.int .u8 ch) (.bool true) (.int .u8 Z) (.int .u8 hi) (.int .u8 co) (.int .u8 se) (show Below w.heap.size w (w2.setCell ⟨w1.heap.size, 2, none⟩ (.int .u8 Z)) from H2.out.setCell (by simp; omega) _) (by omega)
  unfold put6 at q hb
  refine bodyPost_ret (v := .tuple #[.agg #[.int .u8 ch, .bool true, .int .u8 Z, .int .u8 hi, .int .u8 co, .int .u8 se], .int .i64 0]) ?_ rfl ⟨rfl, hb⟩
  clear hb
  generalize World.setCell _ ⟨w.heap.size + 1 + 1, 5, none⟩ _ = W' at q ⊢
  obtain ⟨q0, q1, q2, q3, q4, q5⟩ := q
  simp [results, Try.results56, go_sem, q0, q1, q2, q3, q4, q5]
set_option maxRecDepth 100000 in
set_option maxHeartbeats 2000000 in
theorem rapply_192f (t v : Nat) (ht : t = 192) (hv : v < 256) (hk : knownB t v = true) (ch fa hi co se : Int) (w : World) : Calls Try.prog 56 #[pairV t v, .agg #[.int .u8 ch, .bool false, .int .u8 fa, .int .u8 hi, .int .u8 co, .int .u8 se]] w fun e w' => e = .returned (.tuple #[.agg #[.int .u8 ch, .bool false, .int .u8 fa, .int .u8 hi, .int .u8 co, .int .u8 se], .int .i64 0]) ∧ Below w.heap.size w w' := by
  have H := hid (right_any t v hv)
  rw [hk] at H
  have e0 : ((t : Int) == 0) = false := by simp; omega
  have e65 : ((t : Int) == 65) = false := by simp; omega
  have e66 : ((t : Int) == 66) = false := by simp; omega
  have e67 : ((t : Int) == 67) = false := by simp; omega
  have e192 : ((t : Int) == 192) = true := by simp; omega
  clear hk ht
  go_enter Try.func56, Try.ntmps56
  go_wp2_with fail
  with_reducible refine (H.out _).mono ?_
  rintro e w1 ⟨rfl, hb1⟩
  have p0 := keepc (a := ⟨w.heap.size, 0, none⟩) (v := .int .u8 t) hb1 (by simp [go_sem])
  have p1 := keepc (a := ⟨w.heap.size, 1, none⟩) (v := .int .u8 v) hb1 (by simp [go_sem])
  have c0 := keepc (a := ⟨w.heap.size + 1, 0, none⟩) (v := .int .u8 ch) hb1 (by simp [go_sem])
  have c1 := keepc (a := ⟨w.heap.size + 1, 1, none⟩) (v := .bool false) hb1 (by simp [go_sem])
  have c2 := keepc (a := ⟨w.heap.size + 1, 2, none⟩) (v := .int .u8 fa) hb1 (by simp [go_sem])
  have c3 := keepc (a := ⟨w.heap.size + 1, 3, none⟩) (v := .int .u8 hi) hb1 (by simp [go_sem])
  have c4 := keepc (a := ⟨w.heap.size + 1, 4, none⟩) (v := .int .u8 co) hb1 (by simp [go_sem])
  have c5 := keepc (a := ⟨w.heap.size + 1, 5, none⟩) (v := .int .u8 se) hb1 (by simp [go_sem])
  have r0 := keepc (a := ⟨w.heap.size + 1 + 1, 0, none⟩) (v := .int .u8 0) hb1 (by simp [go_sem])
  have r1 := keepc (a := ⟨w.heap.size + 1 + 1, 1, none⟩) (v := .bool false) hb1 (by simp [go_sem])
  have r2 := keepc (a := ⟨w.heap.size + 1 + 1, 2, none⟩) (v := .int .u8 0) hb1 (by simp [go_sem])
  have r3 := keepc (a := ⟨w.heap.size + 1 + 1, 3, none⟩) (v := .int .u8 0) hb1 (by simp [go_sem])
  have r4 := keepc (a := ⟨w.heap.size + 1 + 1, 4, none⟩) (v := .int .u8 0) hb1 (by simp [go_sem])
  have r5 := keepc (a := ⟨w.heap.size + 1 + 1, 5, none⟩) (v := .int .u8 0) hb1 (by simp [go_sem])
  have f0 := (hb1.frozen (p := ⟨w.heap.size + 1, 0, none⟩) (by simp; try omega)).trans (show _ = false by simp [go_sem])
  have f1 := (hb1.frozen (p := ⟨w.heap.size + 1, 1, none⟩) (by simp; try omega)).trans (show _ = false by simp [go_sem])
  have f2 := (hb1.frozen (p := ⟨w.heap.size + 1, 2, none⟩) (by simp; try omega)).trans (show _ = false by simp [go_sem])
  have f3 := (hb1.frozen (p := ⟨w.heap.size + 1, 3, none⟩) (by simp; try omega)).trans (show _ = false by simp [go_sem])
  have f4 := (hb1.frozen (p := ⟨w.heap.size + 1, 4, none⟩) (by simp; try omega)).trans (show _ = false by simp [go_sem])
  have f5 := (hb1.frozen (p := ⟨w.heap.size + 1, 5, none⟩) (by simp; try omega)).trans (show _ = false by simp [go_sem])
  have g0 := (hb1.frozen (p := ⟨w.heap.size + 1 + 1, 0, none⟩) (by simp; try omega)).trans (show _ = false by simp [go_sem])
  have g1 := (hb1.frozen (p := ⟨w.heap.size + 1 + 1, 1, none⟩) (by simp; try omega)).trans (show _ = false by simp [go_sem])
  have g2 := (hb1.frozen (p := ⟨w.heap.size + 1 + 1, 2, none⟩) (by simp; try omega)).trans (show _ = false by simp [go_sem])
  have g3 := (hb1.frozen (p := ⟨w.heap.size + 1 + 1, 3, none⟩) (by simp; try omega)).trans (show _ = false by simp [go_sem])
  have g4 := (hb1.frozen (p := ⟨w.heap.size + 1 + 1, 4, none⟩) (by simp; try omega)).trans (show _ = false by simp [go_sem])
  have g5 := (hb1.frozen (p := ⟨w.heap.size + 1 + 1, 5, none⟩) (by simp; try omega)).trans (show _ = false by simp [go_sem])
  have H1 : Hid (Below w.heap.size w w1) := ((((Below.refl _ _).alloc (Nat.le_refl _) _).alloc (by simp) _).alloc (by simp; omega) _).trans (hb1.mono (by simp; omega))
  have hz : w.heap.size + 1 + 1 < w1.heap.size := by have := hb1.size; simp at this; omega
  have hz1 : w.heap.size + 1 < w1.heap.size := by omega
  have hz0 : w.heap.size < w1.heap.size := by omega
  clear hb1
  go_wp2
  have q := put6_cells (W := w1) (g := w.heap.size + 1 + 1) (x0 := .int .u8 ch) (x1 := .bool false) (x2 := .int .u8 fa) (x3 := .int .u8 hi) (x4 := .int .u8 co) (x5 := .int .u8 se) r0 r1 r2 r3 r4 r5
  have hb := put6_below (W := w1) (g := w.heap.size + 1 + 1) (.int .u8 ch) (.bool false) (.int .u8 fa) (.int .u8 hi) (.int .u8 co) (.int .u8 se) (show Below w.heap.size w w1 from H1.out) (by omega)
  have hb3 := hb.alloc (Nat.le_trans H1.out.size (Nat.le_of_eq (by unfold put6; simp))) (.cells #[.int .u8 ch, .bool false, .int .u8 fa, .int .u8 hi, .int .u8 co, .int .u8 se] 80)
  have KB : Below (put6 w1 (w.heap.size + 1 + 1) (.int .u8 ch) (.bool false) (.int .u8 fa) (.int .u8 hi) (.int .u8 co) (.int .u8 se)).heap.size (put6 w1 (w.heap.size + 1 + 1) (.int .u8 ch) (.bool false) (.int .u8 fa) (.int .u8 hi) (.int .u8 co) (.int .u8 se)) ((put6 w1 (w.heap.size + 1 + 1) (.int .u8 ch) (.bool false) (.int .u8 fa) (.int .u8 hi) (.int .u8 co) (.int .u8 se)).alloc (.cells #[.int .u8 ch, .bool false, .int .u8 fa, .int .u8 hi, .int .u8 co, .int .u8 se] 80)) := (Below.refl _ _).alloc (Nat.le_refl _) _
  have k := And.intro (keepc KB q.1) (And.intro (keepc KB q.2.1) (And.intro (keepc KB q.2.2.1) (And.intro (keepc KB q.2.2.2.1) (And.intro (keepc KB q.2.2.2.2.1) (keepc KB q.2.2.2.2.2)))))
  clear KB q hb
  unfold put6 at k hb3
  refine bodyPost_ret (v := .tuple #[.agg #[.int .u8 ch, .bool false, .int .u8 fa, .int .u8 hi, .int .u8 co, .int .u8 se], .int .i64 0]) ?_ rfl ⟨rfl, hb3⟩
  clear hb3
  generalize World.alloc _ _ = W' at k ⊢
  obtain ⟨q0, q1, q2, q3, q4, q5⟩ := k
  simp [results, Try.results56, go_sem, q0, q1, q2, q3, q4, q5]
set_option maxRecDepth 100000 in
set_option maxHeartbeats 2000000 in
theorem rapply_no (t v : Nat) (hv : v < 256) (hk : knownB t v = false) (ch fa hi co se : Int) (a : Bool) (w : World) : Calls Try.prog 56 #[pairV t v, .agg #[.int .u8 ch, .bool a, .int .u8 fa, .int .u8 hi, .int .u8 co, .int .u8 se]] w fun e w' => e = .returned (.tuple #[.agg #[.int .u8 0, .bool false, .int .u8 0, .int .u8 0, .int .u8 0, .int .u8 0], .int .i64 10]) ∧ Below w.heap.size w w' := by
  have H := hid (right_any t v hv)
  rw [hk] at H
  clear hk
  go_enter Try.func56, Try.ntmps56
  go_wp2_with fail
  with_reducible refine (H.out _).mono ?_
  rintro e w1 ⟨rfl, hb1⟩
  have p0 := keepc (a := ⟨w.heap.size, 0, none⟩) (v := .int .u8 t) hb1 (by simp [go_sem])
  have p1 := keepc (a := ⟨w.heap.size, 1, none⟩) (v := .int .u8 v) hb1 (by simp [go_sem])
  have c0 := keepc (a := ⟨w.heap.size + 1, 0, none⟩) (v := .int .u8 ch) hb1 (by simp [go_sem])
  have c1 := keepc (a := ⟨w.heap.size + 1, 1, none⟩) (v := .bool a) hb1 (by simp [go_sem])
  have c2 := keepc (a := ⟨w.heap.size + 1, 2, none⟩) (v := .int .u8 fa) hb1 (by simp [go_sem])
  have c3 := keepc (a := ⟨w.heap.size + 1, 3, none⟩) (v := .int .u8 hi) hb1 (by simp [go_sem])
  have c4 := keepc (a := ⟨w.heap.size + 1, 4, none⟩) (v := .int .u8 co) hb1 (by simp [go_sem])
  have c5 := keepc (a := ⟨w.heap.size + 1, 5, none⟩) (v := .int .u8 se) hb1 (by simp [go_sem])
  have r0 := keepc (a := ⟨w.heap.size + 1 + 1, 0, none⟩) (v := .int .u8 0) hb1 (by simp [go_sem])
  have r1 := keepc (a := ⟨w.heap.size + 1 + 1, 1, none⟩) (v := .bool false) hb1 (by simp [go_sem])
  have r2 := keepc (a := ⟨w.heap.size + 1 + 1, 2, none⟩) (v := .int .u8 0) hb1 (by simp [go_sem])
  have r3 := keepc (a := ⟨w.heap.size + 1 + 1, 3, none⟩) (v := .int .u8 0) hb1 (by simp [go_sem])
  have r4 := keepc (a := ⟨w.heap.size + 1 + 1, 4, none⟩) (v := .int .u8 0) hb1 (by simp [go_sem])
  have r5 := keepc (a := ⟨w.heap.size + 1 + 1, 5, none⟩) (v := .int .u8 0) hb1 (by simp [go_sem])
  have f0 := (hb1.frozen (p := ⟨w.heap.size + 1, 0, none⟩) (by simp; try omega)).trans (show _ = false by simp [go_sem])
  have f1 := (hb1.frozen (p := ⟨w.heap.size + 1, 1, none⟩) (by simp; try omega)).trans (show _ = false by simp [go_sem])
  have f2 := (hb1.frozen (p := ⟨w.heap.size + 1, 2, none⟩) (by simp; try omega)).trans (show _ = false by simp [go_sem])
  have f3 := (hb1.frozen (p := ⟨w.heap.size + 1, 3, none⟩) (by simp; try omega)).trans (show _ = false by simp [go_sem])
  have f4 := (hb1.frozen (p := ⟨w.heap.size + 1, 4, none⟩) (by simp; try omega)).trans (show _ = false by simp [go_sem])
  have f5 := (hb1.frozen (p := ⟨w.heap.size + 1, 5, none⟩) (by simp; try omega)).trans (show _ = false by simp [go_sem])
  have g0 := (hb1.frozen (p := ⟨w.heap.size + 1 + 1, 0, none⟩) (by simp; try omega)).trans (show _ = false by simp [go_sem])
  have g1 := (hb1.frozen (p := ⟨w.heap.size + 1 + 1, 1, none⟩) (by simp; try omega)).trans (show _ = false by simp [go_sem])
  have g2 := (hb1.frozen (p := ⟨w.heap.size + 1 + 1, 2, none⟩) (by simp; try omega)).trans (show _ = false by simp [go_sem])
  have g3 := (hb1.frozen (p := ⟨w.heap.size + 1 + 1, 3, none⟩) (by simp; try omega)).trans (show _ = false by simp [go_sem])
  have g4 := (hb1.frozen (p := ⟨w.heap.size + 1 + 1, 4, none⟩) (by simp; try omega)).trans (show _ = false by simp [go_sem])
  have g5 := (hb1.frozen (p := ⟨w.heap.size + 1 + 1, 5, none⟩) (by simp; try omega)).trans (show _ = false by simp [go_sem])
  have H1 : Hid (Below w.heap.size w w1) := ((((Below.refl _ _).alloc (Nat.le_refl _) _).alloc (by simp) _).alloc (by simp; omega) _).trans (hb1.mono (by simp; omega))
  have hz : w.heap.size + 1 + 1 < w1.heap.size := by have := hb1.size; simp at this; omega
  have hz1 : w.heap.size + 1 < w1.heap.size := by omega
  have hz0 : w.heap.size < w1.heap.size := by omega
  clear hb1
  go_wp2
  have q := put6_cells (W := w1) (g := w.heap.size + 1 + 1) (x0 := .int .u8 0) (x1 := .bool false) (x2 := .int .u8 0) (x3 := .int .u8 0) (x4 := .int .u8 0) (x5 := .int .u8 0) r0 r1 r2 r3 r4 r5
  have hb := put6_below (W := w1) (g := w.heap.size + 1 + 1) (.int .u8 0) (.bool false) (.int .u8 0) (.int .u8 0) (.int .u8 0) (.int .u8 0) (show Below w.heap.size w w1 from H1.out) (by omega)
  unfold put6 at q hb
  refine bodyPost_ret (v := .tuple #[.agg #[.int .u8 0, .bool false, .int .u8 0, .int .u8 0, .int .u8 0, .int .u8 0], .int .i64 10]) ?_ rfl ⟨rfl, hb⟩
  clear hb
  generalize World.setCell _ ⟨w.heap.size + 1 + 1, 5, none⟩ _ = W' at q ⊢
  obtain ⟨q0, q1, q2, q3, q4, q5⟩ := q
  simp [results, Try.results56, go_sem, q0, q1, q2, q3, q4, q5]
end Go.Proofs.Ytpnfdmfmdacjmaa
