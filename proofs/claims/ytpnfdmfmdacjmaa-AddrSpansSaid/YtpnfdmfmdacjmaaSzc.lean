/-
  Rows, columns, moves, lines and lengths: the program's and the reference's, by contracts.
-/
import Derived.Test.YtpnfdmfmdacjmaaSzb
namespace Go.Proofs.Ytpnfdmfmdacjmaa
open Go.RowKit Go.Lib

/-- Where a move comes to. -/
def moveZ (r c n p q : Int) : Int := ((n % (r * c) + q % (r * c)) % (r * c) / c + p % r) % r * c + (n % (r * c) + q % (r * c)) % (r * c) % c % c
/-- How many places there are between two. -/
def lenZ (r c p q : Int) : Int := if (q % (r * c) - p % (r * c)) % (r * c) = 0 then r * c else (q % (r * c) - p % (r * c)) % (r * c)
theorem mod_bd (n : Int) {m : Int} (h : 1 ≤ m) : 0 ≤ n % m ∧ n % m < m := ⟨Int.emod_nonneg n (by omega), Int.emod_lt_of_pos n (by omega)⟩
theorem div_bd {k r c : Int} (h0 : 0 ≤ k) (hc : 1 ≤ c) (h : k < r * c) : 0 ≤ k / c ∧ k / c < r := by
  refine ⟨Int.ediv_nonneg h0 (by omega), ?_⟩
  exact Int.ediv_lt_of_lt_mul (by omega) h

set_option maxRecDepth 100000 in
set_option maxHeartbeats 1000000 in
theorem row_ok (r c n : Int) (h : Ok r c) (hn : I64 n) (w : World) : Calls Try.prog 25 #[.agg #[.int .i64 r, .int .i64 c], .int .i64 n] w fun e w' => e = .returned (.int .i64 (n % (r * c) / c)) ∧ Below w.heap.size w w' := by
  have HV := hid (valid_ok r c h)
  have HW := hid (wrap_ok r c n h hn)
  have hp := ok_pos h
  obtain ⟨k1, k2⟩ := mod_bd n hp.1
  obtain ⟨r1, r2, c1, c2, hm⟩ := h
  generalize n % (r * c) = K at HW k1 k2 ⊢
  have k3 : K < 3564 := by omega
  clear hp k2 hm hn
  go_enter Try.func25, Try.ntmps25
  go_wp2_with fail
  with_reducible refine (HV.out _).mono ?_
  rintro e w1 ⟨rfl, hb⟩
  have HX := hid (box_new hb)
  clear hb
  go_wp2
  have z0 : ¬ c = 0 := by omega
  have z1 : K.tdiv c = K / c := Int.tdiv_eq_ediv_of_nonneg k1
  have z2 := div_bd (k := K) (r := 3564) (c := c) k1 c1 (by omega)
  have z3 : IntKind.i64.wrap (K / c) = K / c := IntWalk.i64_in _ (by omega)
  go_region_held3 (fun w' => w'.cell? ⟨w.heap.size, 0, none⟩ = some (.int .i64 r) ∧ w'.cell? ⟨w.heap.size, 1, none⟩ = some (.int .i64 c) ∧ Below w.heap.size w w') (first | exact box_kept (by assumption) (by assumption) | assumption | exact box_drew HX.out)
    (first
      | (go_at_call 19; (with_reducible refine (HW.out _).mono ?_); rintro e w2 ⟨rfl, hb2⟩))
  all_goals
    rename_i hH
    go_wp2
    go_ret
    exact ⟨rfl, hH.2.2⟩
set_option maxRecDepth 100000 in
theorem row_no (r c n : Int) (h : vB r c = false) (w : World) : Calls Try.prog 25 #[.agg #[.int .i64 r, .int .i64 c], .int .i64 n] w fun e w' => e = .returned (.int .i64 0) ∧ Below w.heap.size w w' := by
  have HV := hid (valid_no r c h)
  clear h
  go_enter Try.func25, Try.ntmps25
  go_wp2_with fail
  with_reducible refine (HV.out _).mono ?_
  rintro e w1 ⟨rfl, hb⟩
  have HX := hid (box_new hb)
  clear hb
  go_wp2
  go_ret
  exact ⟨rfl, HX.out.2.2⟩

set_option maxRecDepth 100000 in
set_option maxHeartbeats 1000000 in
theorem col_ok (r c n : Int) (h : Ok r c) (hn : I64 n) (w : World) : Calls Try.prog 26 #[.agg #[.int .i64 r, .int .i64 c], .int .i64 n] w fun e w' => e = .returned (.int .i64 (n % (r * c) % c)) ∧ Below w.heap.size w w' := by
  have HV := hid (valid_ok r c h)
  have HW := hid (wrap_ok r c n h hn)
  have hp := ok_pos h
  obtain ⟨k1, k2⟩ := mod_bd n hp.1
  obtain ⟨r1, r2, c1, c2, hm⟩ := h
  generalize n % (r * c) = K at HW k1 k2 ⊢
  have k3 : K < 3564 := by omega
  clear hp k2 hm hn
  go_enter Try.func26, Try.ntmps26
  go_wp2_with fail
  with_reducible refine (HV.out _).mono ?_
  rintro e w1 ⟨rfl, hb⟩
  have HX := hid (box_new hb)
  clear hb
  go_wp2
  have z0 : ¬ c = 0 := by omega
  have z1 : K.tmod c = K % c := Int.tmod_eq_emod_of_nonneg k1
  have z2 := mod_bd K c1
  have z3 : IntKind.i64.wrap (K % c) = K % c := IntWalk.i64_in _ (by omega)
  go_region_held3 (fun w' => w'.cell? ⟨w.heap.size, 0, none⟩ = some (.int .i64 r) ∧ w'.cell? ⟨w.heap.size, 1, none⟩ = some (.int .i64 c) ∧ Below w.heap.size w w') (first | exact box_kept (by assumption) (by assumption) | assumption | exact box_drew HX.out)
    (first
      | (go_at_call 19; (with_reducible refine (HW.out _).mono ?_); rintro e w2 ⟨rfl, hb2⟩))
  all_goals
    rename_i hH
    go_wp2
    go_ret
    exact ⟨rfl, hH.2.2⟩
set_option maxRecDepth 100000 in
theorem col_no (r c n : Int) (h : vB r c = false) (w : World) : Calls Try.prog 26 #[.agg #[.int .i64 r, .int .i64 c], .int .i64 n] w fun e w' => e = .returned (.int .i64 0) ∧ Below w.heap.size w w' := by
  have HV := hid (valid_no r c h)
  clear h
  go_enter Try.func26, Try.ntmps26
  go_wp2_with fail
  with_reducible refine (HV.out _).mono ?_
  rintro e w1 ⟨rfl, hb⟩
  have HX := hid (box_new hb)
  clear hb
  go_wp2
  go_ret
  exact ⟨rfl, HX.out.2.2⟩

set_option maxRecDepth 100000 in
set_option maxHeartbeats 2000000 in
theorem move_ok (r c n p q : Int) (h : Ok r c) (hn : I64 n) (hp : I64 p) (hq : I64 q) (w : World) : Calls Try.prog 23 #[.agg #[.int .i64 r, .int .i64 c], .int .i64 n, .int .i64 p, .int .i64 q] w fun e w' => e = .returned (.int .i64 (moveZ r c n p q)) ∧ Below w.heap.size w w' := by
  unfold moveZ
  have HV := hid (valid_ok r c h)
  have HN := hid (wrap_ok r c n h hn)
  have HQ := hid (wrap_ok r c q h hq)
  have HP := hid (rem_any p r hp h.r1 (by have := h.r2; omega))
  have hN := ok_pos h
  obtain ⟨n1, n2⟩ := mod_bd n hN.1
  obtain ⟨q1, q2⟩ := mod_bd q hN.1
  obtain ⟨p1, p2⟩ := mod_bd p h.r1
  generalize n % (r * c) = N at HN n1 n2 ⊢
  generalize q % (r * c) = Q at HQ q1 q2 ⊢
  generalize p % r = P at HP p1 p2 ⊢
  have HR := hid (row_ok r c (N + Q) h (i64_small (by omega) (by omega)))
  have HC := hid (col_ok r c (N + Q) h (i64_small (by omega) (by omega)))
  obtain ⟨k1, k2⟩ := mod_bd (N + Q) hN.1
  obtain ⟨d1, d2⟩ := div_bd (c := c) (r := r) k1 h.c1 k2
  obtain ⟨e1, e2⟩ := mod_bd ((N + Q) % (r * c)) h.c1
  generalize (N + Q) % (r * c) / c = D at HR d1 d2 ⊢
  generalize (N + Q) % (r * c) % c = E at HC e1 e2 ⊢
  have HA := hid (at_ok r c (D + P) E h (i64_small (by have := h.r2; omega) (by have := h.r2; omega)) (i64_small (by have := h.c2; omega) (by have := h.c2; omega)))
  generalize (D + P) % r * c + E % c = Z at HA ⊢
  obtain ⟨r1, r2, c1, c2, hm⟩ := h
  have n3 : N < 3564 := by omega
  have q3 : Q < 3564 := by omega
  clear hN k1 k2 hn hp hq hm n2 q2
  go_enter Try.func23, Try.ntmps23
  go_wp2_with fail
  with_reducible refine (HV.out _).mono ?_
  rintro e w1 ⟨rfl, hb⟩
  have HX := hid (box_new hb)
  clear hb
  go_wp2
  have s1 : IntKind.i64.wrap (N + Q) = N + Q := IntWalk.i64_in _ (by omega)
  have s2 : IntKind.i64.wrap (D + P) = D + P := IntWalk.i64_in _ (by omega)
  go_region_held3 (fun w' => w'.cell? ⟨w.heap.size, 0, none⟩ = some (.int .i64 r) ∧ w'.cell? ⟨w.heap.size, 1, none⟩ = some (.int .i64 c) ∧ Below w.heap.size w w') (first | exact box_kept (by assumption) (by assumption) | assumption | exact box_drew HX.out)
    (first
      | (go_at_call 19; (with_reducible refine (HN.out _).mono ?_); rintro e w2 ⟨rfl, hb2⟩)
      | (go_at_call 19; (with_reducible refine (HQ.out _).mono ?_); rintro e w2 ⟨rfl, hb2⟩))
  all_goals
    rename_i hH
    have HY := hid hH
    clear hH
    go_wp2
    go_region_held3 (fun w' => w'.cell? ⟨w.heap.size, 0, none⟩ = some (.int .i64 r) ∧ w'.cell? ⟨w.heap.size, 1, none⟩ = some (.int .i64 c) ∧ Below w.heap.size w w') (first | exact box_kept (by assumption) (by assumption) | assumption | exact box_drew HY.out)
      (first
        | (go_at_call 25; (with_reducible refine (HR.out _).mono ?_); rintro e w2 ⟨rfl, hb2⟩)
        | (go_at_call 26; (with_reducible refine (HC.out _).mono ?_); rintro e w2 ⟨rfl, hb2⟩)
        | (go_at_call 71; (with_reducible refine (HP.out _).mono ?_); rintro e w2 ⟨rfl, rfl⟩)
        | (go_at_call 21; (with_reducible refine (HA.out _).mono ?_); rintro e w2 ⟨rfl, hb2⟩))
    all_goals
      rename_i hH
      go_wp2
      go_ret
      exact ⟨rfl, hH.2.2⟩
set_option maxRecDepth 100000 in
theorem move_no (r c n p q : Int) (h : vB r c = false) (w : World) : Calls Try.prog 23 #[.agg #[.int .i64 r, .int .i64 c], .int .i64 n, .int .i64 p, .int .i64 q] w fun e w' => e = .returned (.int .i64 0) ∧ Below w.heap.size w w' := by
  have HV := hid (valid_no r c h)
  clear h
  go_enter Try.func23, Try.ntmps23
  go_wp2_with fail
  with_reducible refine (HV.out _).mono ?_
  rintro e w1 ⟨rfl, hb⟩
  have HX := hid (box_new hb)
  clear hb
  go_wp2
  go_ret
  exact ⟨rfl, HX.out.2.2⟩
end Go.Proofs.Ytpnfdmfmdacjmaa
