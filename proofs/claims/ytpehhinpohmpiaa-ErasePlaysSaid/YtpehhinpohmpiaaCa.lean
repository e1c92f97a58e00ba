/-
  Rows and columns and moves: the program's and the reference's, by contracts.
-/
import Derived.Test.YtpehhinpohmpiaaFl
import Derived.Deep.RegionHeld3
import Derived.IntWalk
namespace Go.Proofs.Ytpehhinpohmpiaa
open Go.RowKit Go.Lib
theorem box_kept {b : Nat} {w w1 w2 : World} {x y : Value} (hb : Below w1.heap.size w1 w2) (h : w1.cell? ⟨b, 0, none⟩ = some x ∧ w1.cell? ⟨b, 1, none⟩ = some y ∧ Below w.heap.size w w1) : w2.cell? ⟨b, 0, none⟩ = some x ∧ w2.cell? ⟨b, 1, none⟩ = some y ∧ Below w.heap.size w w2 := by
  have hl := World.block_lt_of_cell? w1 _ h.1
  exact ⟨(hb.cell (p := ⟨b, 0, none⟩) hl).trans h.1, (hb.cell (p := ⟨b, 1, none⟩) hl).trans h.2.1, h.2.2.trans (hb.mono h.2.2.size)⟩
/-- The box as it is made. -/
theorem box_new {w w1 : World} {x y : Value} {t : TypeId} (hb : Below (w.alloc (.cells #[x, y] t)).heap.size (w.alloc (.cells #[x, y] t)) w1) : w1.cell? ⟨w.heap.size, 0, none⟩ = some x ∧ w1.cell? ⟨w.heap.size, 1, none⟩ = some y ∧ Below w.heap.size w w1 :=
  box_kept hb ⟨by simp [go_sem], by simp [go_sem], (Below.refl _ _).alloc (Nat.le_refl _) _⟩
theorem box_drew {b : Nat} {w w1 : World} {x y : Value} (h : w1.cell? ⟨b, 0, none⟩ = some x ∧ w1.cell? ⟨b, 1, none⟩ = some y ∧ Below w.heap.size w w1) : w1.drew.cell? ⟨b, 0, none⟩ = some x ∧ w1.drew.cell? ⟨b, 1, none⟩ = some y ∧ Below w.heap.size w w1.drew := ⟨h.1, h.2.1, h.2.2.drew⟩

set_option maxRecDepth 100000 in
set_option maxHeartbeats 1000000 in
theorem at_ok (r c p q : Int) (h : Ok r c) (hp : I64 p) (hq : I64 q) (w : World) : Calls Try.prog 142 #[.agg #[.int .i64 r, .int .i64 c], .int .i64 p, .int .i64 q] w fun e w' => e = .returned (.int .i64 (p % r * c + q % c)) ∧ Below w.heap.size w w' := by
  have HV := hid (valid_ok r c h)
  have HP := hid (rem_any p r hp h.r1 (by have := h.r2; omega))
  have HQ := hid (rem_any q c hq h.c1 (by have := h.c2; omega))
  have a1 := Int.emod_nonneg p (by have := h.r1; omega : r ≠ 0)
  have a2 := Int.emod_lt_of_pos p (by have := h.r1; omega : 0 < r)
  have b1 := Int.emod_nonneg q (by have := h.c1; omega : c ≠ 0)
  have b2 := Int.emod_lt_of_pos q (by have := h.c1; omega : 0 < c)
  obtain ⟨r1, r2, c1, c2, hm⟩ := h
  generalize p % r = A at HP a1 a2 ⊢
  generalize q % c = B at HQ b1 b2 ⊢
  clear hp hq hm
  have m1 : 0 ≤ A * c := Int.mul_nonneg (by omega) (by omega)
  have m2 : A * c ≤ 43 * 132 := Int.mul_le_mul (by omega) (by omega) (by omega) (by omega)
  have m3 : 0 ≤ c * A := by rw [Int.mul_comm]; exact m1
  have m4 : c * A ≤ 43 * 132 := by rw [Int.mul_comm]; exact m2
  go_enter Try.func142, Try.ntmps142
  go_wp2_with fail
  with_reducible refine (HV.out _).mono ?_
  rintro e w1 ⟨rfl, hb⟩
  have HX := hid (box_new hb)
  clear hb
  go_wp2
  have e1 : IntKind.i64.wrap (A * c) = A * c := IntWalk.i64_in _ (by omega)
  have e2 : IntKind.i64.wrap (A * c + B) = A * c + B := IntWalk.i64_in _ (by omega)
  go_region_held3 (fun w' => w'.cell? ⟨w.heap.size, 0, none⟩ = some (.int .i64 r) ∧ w'.cell? ⟨w.heap.size, 1, none⟩ = some (.int .i64 c) ∧ Below w.heap.size w w') (first | exact box_kept (by assumption) (by assumption) | assumption | exact box_drew HX.out)
    (first
      | (go_at_call 127; (with_reducible refine (HP.out _).mono ?_); rintro e w2 ⟨rfl, rfl⟩)
      | (go_at_call 127; (with_reducible refine (HQ.out _).mono ?_); rintro e w2 ⟨rfl, rfl⟩))
  all_goals
    rename_i hH
    go_wp2
    go_ret
    exact ⟨ret_int (by simp [Int.mul_comm]), hH.2.2⟩
set_option maxRecDepth 100000 in
theorem at_no (r c p q : Int) (h : vB r c = false) (w : World) : Calls Try.prog 142 #[.agg #[.int .i64 r, .int .i64 c], .int .i64 p, .int .i64 q] w fun e w' => e = .returned (.int .i64 0) ∧ Below w.heap.size w w' := by
  have HV := hid (valid_no r c h)
  clear h
  go_enter Try.func142, Try.ntmps142
  go_wp2_with fail
  with_reducible refine (HV.out _).mono ?_
  rintro e w1 ⟨rfl, hb⟩
  have HX := hid (box_new hb)
  clear hb
  go_wp2
  go_ret
  exact ⟨rfl, HX.out.2.2⟩

set_option maxRecDepth 100000 in
set_option maxHeartbeats 1000000 in
theorem rat_ok (r c p q : Int) (h : Ok r c) (hp : I64 p) (hq : I64 q) (w : World) : Calls Try.prog 102 #[.agg #[.int .i64 r, .int .i64 c], .int .i64 p, .int .i64 q] w fun e w' => e = .returned (.int .i64 (p % r * c + q % c)) ∧ Below w.heap.size w w' := by
  have HV := hid (rvalid_ok r c h)
  have HP := hid (mod_any p r hp h.r1 (by have := h.r2; omega))
  have HQ := hid (mod_any q c hq h.c1 (by have := h.c2; omega))
  have a1 := Int.emod_nonneg p (by have := h.r1; omega : r ≠ 0)
  have a2 := Int.emod_lt_of_pos p (by have := h.r1; omega : 0 < r)
  have b1 := Int.emod_nonneg q (by have := h.c1; omega : c ≠ 0)
  have b2 := Int.emod_lt_of_pos q (by have := h.c1; omega : 0 < c)
  obtain ⟨r1, r2, c1, c2, hm⟩ := h
  generalize p % r = A at HP a1 a2 ⊢
  generalize q % c = B at HQ b1 b2 ⊢
  clear hp hq hm
  have m1 : 0 ≤ A * c := Int.mul_nonneg (by omega) (by omega)
  have m2 : A * c ≤ 43 * 132 := Int.mul_le_mul (by omega) (by omega) (by omega) (by omega)
  have m3 : 0 ≤ c * A := by rw [Int.mul_comm]; exact m1
  have m4 : c * A ≤ 43 * 132 := by rw [Int.mul_comm]; exact m2
  go_enter Try.func102, Try.ntmps102
  go_wp2_with fail
  with_reducible refine (HV.out _).mono ?_
  rintro e w1 ⟨rfl, hb⟩
  have HX := hid (box_new hb)
  clear hb
  go_wp2
  have e1 : IntKind.i64.wrap (c * A) = c * A := IntWalk.i64_in _ (by omega)
  have e2 : IntKind.i64.wrap (c * A + B) = c * A + B := IntWalk.i64_in _ (by omega)
  go_region_held3 (fun w' => w'.cell? ⟨w.heap.size, 0, none⟩ = some (.int .i64 r) ∧ w'.cell? ⟨w.heap.size, 1, none⟩ = some (.int .i64 c) ∧ Below w.heap.size w w') (first | exact box_kept (by assumption) (by assumption) | assumption | exact box_drew HX.out)
    (first
      | (go_at_call 88; (with_reducible refine (HP.out _).mono ?_); rintro e w2 ⟨rfl, rfl⟩)
      | (go_at_call 88; (with_reducible refine (HQ.out _).mono ?_); rintro e w2 ⟨rfl, rfl⟩))
  all_goals
    rename_i hH
    go_wp2
    go_ret
    exact ⟨ret_int (by simp [Int.mul_comm]), hH.2.2⟩
set_option maxRecDepth 100000 in
theorem rat_no (r c p q : Int) (h : vB r c = false) (w : World) : Calls Try.prog 102 #[.agg #[.int .i64 r, .int .i64 c], .int .i64 p, .int .i64 q] w fun e w' => e = .returned (.int .i64 0) ∧ Below w.heap.size w w' := by
  have HV := hid (rvalid_no r c h)
  clear h
  go_enter Try.func102, Try.ntmps102
  go_wp2_with fail
  with_reducible refine (HV.out _).mono ?_
  rintro e w1 ⟨rfl, hb⟩
  have HX := hid (box_new hb)
  clear hb
  go_wp2
  go_ret
  exact ⟨rfl, HX.out.2.2⟩

/-- Where a move comes to. -/
def moveZ (r c n p q : Int) : Int := ((n % (r * c) + q % (r * c)) % (r * c) / c + p % r) % r * c + (n % (r * c) + q % (r * c)) % (r * c) % c % c
/-- How many places there are between two. -/
def lenZ (r c p q : Int) : Int := if (q % (r * c) - p % (r * c)) % (r * c) = 0 then r * c else (q % (r * c) - p % (r * c)) % (r * c)
theorem mod_bd (n : Int) {m : Int} (h : 1 ≤ m) : 0 ≤ n % m ∧ n % m < m := ⟨Int.emod_nonneg n (by omega), Int.emod_lt_of_pos n (by omega)⟩
theorem div_bd {k r c : Int} (h0 : 0 ≤ k) (hc : 1 ≤ c) (h : k < r * c) : 0 ≤ k / c ∧ k / c < r := by
  refine ⟨Int.ediv_nonneg h0 (by omega), ?_⟩
  exact Int.ediv_lt_of_lt_mul (by omega) h

set_option maxRecDepth 100000 in
set_option maxHeartbeats 1000000 in
theorem row_ok (r c n : Int) (h : Ok r c) (hn : I64 n) (w : World) : Calls Try.prog 80 #[.agg #[.int .i64 r, .int .i64 c], .int .i64 n] w fun e w' => e = .returned (.int .i64 (n % (r * c) / c)) ∧ Below w.heap.size w w' := by
  have HV := hid (valid_ok r c h)
  have HW := hid (wrap_ok r c n h hn)
  have hp := ok_pos h
  obtain ⟨k1, k2⟩ := mod_bd n hp.1
  obtain ⟨r1, r2, c1, c2, hm⟩ := h
  generalize n % (r * c) = K at HW k1 k2 ⊢
  have k3 : K < 3564 := by omega
  clear hp k2 hm hn
  go_enter Try.func80, Try.ntmps80
  go_wp2_with fail
  with_reducible refine (HV.out _).mono ?_
  rintro e w1 ⟨rfl, hb⟩
  have HX := hid (box_new hb)
  clear hb
  go_wp2
  have z0 : ¬ c = 0 := by omega
  have z1 : K.tdiv c = K / c := Int.tdiv_eq_ediv_of_nonneg k1
  have z2 := div_bd (k := K) (r := 3564) (c := c) k1 c1 (by omega)
  have z3 : IntKind.i64.wrap (K / c) = K / c := IntWalk.i64_in _ (by omega)
  go_region_held3 (fun w' => w'.cell? ⟨w.heap.size, 0, none⟩ = some (.int .i64 r) ∧ w'.cell? ⟨w.heap.size, 1, none⟩ = some (.int .i64 c) ∧ Below w.heap.size w w') (first | exact box_kept (by assumption) (by assumption) | assumption | exact box_drew HX.out)
    (first
      | (go_at_call 81; (with_reducible refine (HW.out _).mono ?_); rintro e w2 ⟨rfl, hb2⟩))
  all_goals
    rename_i hH
    go_wp2
    go_ret
    exact ⟨rfl, hH.2.2⟩
set_option maxRecDepth 100000 in
theorem row_no (r c n : Int) (h : vB r c = false) (w : World) : Calls Try.prog 80 #[.agg #[.int .i64 r, .int .i64 c], .int .i64 n] w fun e w' => e = .returned (.int .i64 0) ∧ Below w.heap.size w w' := by
  have HV := hid (valid_no r c h)
  clear h
  go_enter Try.func80, Try.ntmps80
  go_wp2_with fail
  with_reducible refine (HV.out _).mono ?_
  rintro e w1 ⟨rfl, hb⟩
  have HX := hid (box_new hb)
  clear hb
  go_wp2
  go_ret
  exact ⟨rfl, HX.out.2.2⟩

set_option maxRecDepth 100000 in
set_option maxHeartbeats 1000000 in
theorem col_ok (r c n : Int) (h : Ok r c) (hn : I64 n) (w : World) : Calls Try.prog 143 #[.agg #[.int .i64 r, .int .i64 c], .int .i64 n] w fun e w' => e = .returned (.int .i64 (n % (r * c) % c)) ∧ Below w.heap.size w w' := by
  have HV := hid (valid_ok r c h)
  have HW := hid (wrap_ok r c n h hn)
  have hp := ok_pos h
  obtain ⟨k1, k2⟩ := mod_bd n hp.1
  obtain ⟨r1, r2, c1, c2, hm⟩ := h
  generalize n % (r * c) = K at HW k1 k2 ⊢
  have k3 : K < 3564 := by omega
  clear hp k2 hm hn
  go_enter Try.func143, Try.ntmps143
  go_wp2_with fail
  with_reducible refine (HV.out _).mono ?_
  rintro e w1 ⟨rfl, hb⟩
  have HX := hid (box_new hb)
  clear hb
  go_wp2
  have z0 : ¬ c = 0 := by omega
  have z1 : K.tmod c = K % c := Int.tmod_eq_emod_of_nonneg k1
  have z2 := mod_bd K c1
  have z3 : IntKind.i64.wrap (K % c) = K % c := IntWalk.i64_in _ (by omega)
  go_region_held3 (fun w' => w'.cell? ⟨w.heap.size, 0, none⟩ = some (.int .i64 r) ∧ w'.cell? ⟨w.heap.size, 1, none⟩ = some (.int .i64 c) ∧ Below w.heap.size w w') (first | exact box_kept (by assumption) (by assumption) | assumption | exact box_drew HX.out)
    (first
      | (go_at_call 81; (with_reducible refine (HW.out _).mono ?_); rintro e w2 ⟨rfl, hb2⟩))
  all_goals
    rename_i hH
    go_wp2
    go_ret
    exact ⟨rfl, hH.2.2⟩
set_option maxRecDepth 100000 in
theorem col_no (r c n : Int) (h : vB r c = false) (w : World) : Calls Try.prog 143 #[.agg #[.int .i64 r, .int .i64 c], .int .i64 n] w fun e w' => e = .returned (.int .i64 0) ∧ Below w.heap.size w w' := by
  have HV := hid (valid_no r c h)
  clear h
  go_enter Try.func143, Try.ntmps143
  go_wp2_with fail
  with_reducible refine (HV.out _).mono ?_
  rintro e w1 ⟨rfl, hb⟩
  have HX := hid (box_new hb)
  clear hb
  go_wp2
  go_ret
  exact ⟨rfl, HX.out.2.2⟩

set_option maxRecDepth 100000 in
set_option maxHeartbeats 2000000 in
theorem move_ok (r c n p q : Int) (h : Ok r c) (hn : I64 n) (hp : I64 p) (hq : I64 q) (w : World) : Calls Try.prog 111 #[.agg #[.int .i64 r, .int .i64 c], .int .i64 n, .int .i64 p, .int .i64 q] w fun e w' => e = .returned (.int .i64 (moveZ r c n p q)) ∧ Below w.heap.size w w' := by
  unfold moveZ
  have HV := hid (valid_ok r c h)
  have HN := hid (wrap_ok r c n h hn)
  have HQ := hid (wrap_ok r c q h hq)
  have HP := hid (rem_any p r hp h.r1 (by have := h.r2; omega))
  have hN := ok_pos h
  obtain ⟨n1, n2⟩ := mod_bd n hN.1
  obtain ⟨q1, q2⟩ := mod_bd q hN.1
  obtain ⟨p1, p2⟩ := mod_bd p h.r1
  generalize n % (r * c) = N at HN n1 n2 ⊢
  generalize q % (r * c) = Q at HQ q1 q2 ⊢
  generalize p % r = P at HP p1 p2 ⊢
  have HR := hid (row_ok r c (N + Q) h (i64_small (by omega) (by omega)))
  have HC := hid (col_ok r c (N + Q) h (i64_small (by omega) (by omega)))
  obtain ⟨k1, k2⟩ := mod_bd (N + Q) hN.1
  obtain ⟨d1, d2⟩ := div_bd (c := c) (r := r) k1 h.c1 k2
  obtain ⟨e1, e2⟩ := mod_bd ((N + Q) % (r * c)) h.c1
  generalize (N + Q) % (r * c) / c = D at HR d1 d2 ⊢
  generalize (N + Q) % (r * c) % c = E at HC e1 e2 ⊢
  have HA := hid (at_ok r c (D + P) E h (i64_small (by have := h.r2; omega) (by have := h.r2; omega)) (i64_small (by have := h.c2; omega) (by have := h.c2; omega)))
  generalize (D + P) % r * c + E % c = Z at HA ⊢
  obtain ⟨r1, r2, c1, c2, hm⟩ := h
  have n3 : N < 3564 := by omega
  have q3 : Q < 3564 := by omega
  clear hN k1 k2 hn hp hq hm n2 q2
  go_enter Try.func111, Try.ntmps111
  go_wp2_with fail
  with_reducible refine (HV.out _).mono ?_
  rintro e w1 ⟨rfl, hb⟩
  have HX := hid (box_new hb)
  clear hb
  go_wp2
  have s1 : IntKind.i64.wrap (N + Q) = N + Q := IntWalk.i64_in _ (by omega)
  have s2 : IntKind.i64.wrap (D + P) = D + P := IntWalk.i64_in _ (by omega)
  go_region_held3 (fun w' => w'.cell? ⟨w.heap.size, 0, none⟩ = some (.int .i64 r) ∧ w'.cell? ⟨w.heap.size, 1, none⟩ = some (.int .i64 c) ∧ Below w.heap.size w w') (first | exact box_kept (by assumption) (by assumption) | assumption | exact box_drew HX.out)
    (first
      | (go_at_call 81; (with_reducible refine (HN.out _).mono ?_); rintro e w2 ⟨rfl, hb2⟩)
      | (go_at_call 81; (with_reducible refine (HQ.out _).mono ?_); rintro e w2 ⟨rfl, hb2⟩))
  all_goals
    rename_i hH
    have HY := hid hH
    clear hH
    go_wp2
    go_region_held3 (fun w' => w'.cell? ⟨w.heap.size, 0, none⟩ = some (.int .i64 r) ∧ w'.cell? ⟨w.heap.size, 1, none⟩ = some (.int .i64 c) ∧ Below w.heap.size w w') (first | exact box_kept (by assumption) (by assumption) | assumption | exact box_drew HY.out)
      (first
        | (go_at_call 80; (with_reducible refine (HR.out _).mono ?_); rintro e w2 ⟨rfl, hb2⟩)
        | (go_at_call 143; (with_reducible refine (HC.out _).mono ?_); rintro e w2 ⟨rfl, hb2⟩)
        | (go_at_call 127; (with_reducible refine (HP.out _).mono ?_); rintro e w2 ⟨rfl, rfl⟩)
        | (go_at_call 142; (with_reducible refine (HA.out _).mono ?_); rintro e w2 ⟨rfl, hb2⟩))
    all_goals
      rename_i hH
      go_wp2
      go_ret
      exact ⟨rfl, hH.2.2⟩
set_option maxRecDepth 100000 in
theorem move_no (r c n p q : Int) (h : vB r c = false) (w : World) : Calls Try.prog 111 #[.agg #[.int .i64 r, .int .i64 c], .int .i64 n, .int .i64 p, .int .i64 q] w fun e w' => e = .returned (.int .i64 0) ∧ Below w.heap.size w w' := by
  have HV := hid (valid_no r c h)
  clear h
  go_enter Try.func111, Try.ntmps111
  go_wp2_with fail
  with_reducible refine (HV.out _).mono ?_
  rintro e w1 ⟨rfl, hb⟩
  have HX := hid (box_new hb)
  clear hb
  go_wp2
  go_ret
  exact ⟨rfl, HX.out.2.2⟩
end Go.Proofs.Ytpehhinpohmpiaa
