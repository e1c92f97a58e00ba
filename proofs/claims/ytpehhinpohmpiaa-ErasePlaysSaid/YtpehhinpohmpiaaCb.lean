/-
  The reference's moves, lines, lengths; spans, purely.
-/
import Derived.Test.YtpehhinpohmpiaaCa
namespace Go.Proofs.Ytpehhinpohmpiaa
open Go.RowKit Go.Lib

set_option maxRecDepth 100000 in
set_option maxHeartbeats 2000000 in
theorem rmove_ok (r c n p q : Int) (h : Ok r c) (hn : I64 n) (hp : I64 p) (hq : I64 q) (w : World) : Calls Try.prog 103 #[.agg #[.int .i64 r, .int .i64 c], .int .i64 n, .int .i64 p, .int .i64 q] w fun e w' => e = .returned (.int .i64 (moveZ r c n p q)) ∧ Below w.heap.size w w' := by
  unfold moveZ
  have HV := hid (rvalid_ok r c h)
  have HCE := hid (rcells_ok r c h)
  have HN := hid (rwrap_ok r c n h hn)
  have HQ := hid (rwrap_ok r c q h hq)
  have HP := hid (mod_any p r hp h.r1 (by have := h.r2; omega))
  have hN := ok_pos h
  obtain ⟨n1, n2⟩ := mod_bd n hN.1
  obtain ⟨q1, q2⟩ := mod_bd q hN.1
  obtain ⟨p1, p2⟩ := mod_bd p h.r1
  generalize n % (r * c) = N at HN n1 n2 ⊢
  generalize q % (r * c) = Q at HQ q1 q2 ⊢
  generalize p % r = P at HP p1 p2 ⊢
  have HM := hid (mod_any (N + Q) (r * c) (i64_small (by omega) (by omega)) hN.1 (by omega))
  obtain ⟨k1, k2⟩ := mod_bd (N + Q) hN.1
  obtain ⟨d1, d2⟩ := div_bd (c := c) (r := r) k1 h.c1 k2
  generalize (N + Q) % (r * c) = K at HM k1 k2 d1 d2 ⊢
  obtain ⟨e1, e2⟩ := mod_bd K h.c1
  have HA := hid (rat_ok r c (K / c + P) (K % c) h (i64_small (by have := h.r2; omega) (by have := h.r2; omega)) (i64_small (by have := h.c2; omega) (by have := h.c2; omega)))
  generalize (K / c + P) % r * c + K % c % c = Z at HA ⊢
  obtain ⟨r1, r2, c1, c2, hm⟩ := h
  have n3 : N < 3564 := by omega
  have q3 : Q < 3564 := by omega
  have k3 : K < 3564 := by omega
  clear hN k2 hn hp hq hm n2 q2
  go_enter Try.func103, Try.ntmps103
  go_wp2_with fail
  with_reducible refine (HV.out _).mono ?_
  rintro e w1 ⟨rfl, hb⟩
  have HX := hid (box_new hb)
  clear hb
  go_wp2
  have s1 : IntKind.i64.wrap (N + Q) = N + Q := IntWalk.i64_in _ (by omega)
  have s2 : IntKind.i64.wrap (K / c + P) = K / c + P := IntWalk.i64_in _ (by omega)
  have z0 : ¬ c = 0 := by omega
  have z1 : K.tdiv c = K / c := Int.tdiv_eq_ediv_of_nonneg k1
  have z2 : K.tmod c = K % c := Int.tmod_eq_emod_of_nonneg k1
  have z3 : IntKind.i64.wrap (K / c) = K / c := IntWalk.i64_in _ (by omega)
  have z4 : IntKind.i64.wrap (K % c) = K % c := IntWalk.i64_in _ (by omega)
  go_region_held3 (fun w' => w'.cell? ⟨w.heap.size, 0, none⟩ = some (.int .i64 r) ∧ w'.cell? ⟨w.heap.size, 1, none⟩ = some (.int .i64 c) ∧ Below w.heap.size w w') (first | exact box_kept (by assumption) (by assumption) | assumption | exact box_drew HX.out)
    (first
      | (go_at_call 74; (with_reducible refine (HN.out _).mono ?_); rintro e w2 ⟨rfl, hb2⟩)
      | (go_at_call 74; (with_reducible refine (HQ.out _).mono ?_); rintro e w2 ⟨rfl, hb2⟩)
      | (go_at_call 125; (with_reducible refine (HCE.out _).mono ?_); rintro e w2 ⟨rfl, hb2⟩)
      | (go_at_call 88; (with_reducible refine (HM.out _).mono ?_); rintro e w2 ⟨rfl, rfl⟩))
  all_goals
    rename_i hH
    have HY := hid hH
    clear hH
    go_wp2
    go_region_held3 (fun w' => w'.cell? ⟨w.heap.size, 0, none⟩ = some (.int .i64 r) ∧ w'.cell? ⟨w.heap.size, 1, none⟩ = some (.int .i64 c) ∧ Below w.heap.size w w') (first | exact box_kept (by assumption) (by assumption) | assumption | exact box_drew HY.out)
      (first
        | (go_at_call 88; (with_reducible refine (HP.out _).mono ?_); rintro e w2 ⟨rfl, rfl⟩)
        | (go_at_call 102; (with_reducible refine (HA.out _).mono ?_); rintro e w2 ⟨rfl, hb2⟩))
    all_goals
      rename_i hH
      go_wp2
      go_ret
      exact ⟨rfl, hH.2.2⟩
set_option maxRecDepth 100000 in
theorem rmove_no (r c n p q : Int) (h : vB r c = false) (w : World) : Calls Try.prog 103 #[.agg #[.int .i64 r, .int .i64 c], .int .i64 n, .int .i64 p, .int .i64 q] w fun e w' => e = .returned (.int .i64 0) ∧ Below w.heap.size w w' := by
  have HV := hid (rvalid_no r c h)
  clear h
  go_enter Try.func103, Try.ntmps103
  go_wp2_with fail
  with_reducible refine (HV.out _).mono ?_
  rintro e w1 ⟨rfl, hb⟩
  have HX := hid (box_new hb)
  clear hb
  go_wp2
  go_ret
  exact ⟨rfl, HX.out.2.2⟩

theorem box_alloc {w : World} {x y : Value} {t : TypeId} : (w.alloc (.cells #[x, y] t)).cell? ⟨w.heap.size, 0, none⟩ = some x ∧ (w.alloc (.cells #[x, y] t)).cell? ⟨w.heap.size, 1, none⟩ = some y ∧ Below w.heap.size w (w.alloc (.cells #[x, y] t)) :=
  ⟨by simp [go_sem], by simp [go_sem], (Below.refl _ _).alloc (Nat.le_refl _) _⟩
set_option maxRecDepth 100000 in
set_option maxHeartbeats 2000000 in
theorem line_ok (r c n : Int) (h : Ok r c) (hn : I64 n) (w : World) : Calls Try.prog 110 #[.agg #[.int .i64 r, .int .i64 c], .int .i64 n] w fun e w' => e = .returned (.int .i64 ((n % (r * c) / c + 1) % r * c)) ∧ Below w.heap.size w w' := by
  have HR := hid (row_ok r c n h hn)
  have hN := ok_pos h
  obtain ⟨k1, k2⟩ := mod_bd n hN.1
  obtain ⟨d1, d2⟩ := div_bd (c := c) (r := r) k1 h.c1 k2
  generalize n % (r * c) / c = D at HR d1 d2 ⊢
  have HA := hid (at_ok r c (D + 1) 0 h (i64_small (by have := h.r2; omega) (by have := h.r2; omega)) (i64_small (by omega) (by omega)))
  rw [Int.zero_emod, Int.add_zero] at HA
  generalize (D + 1) % r * c = Z at HA ⊢
  obtain ⟨r1, r2, c1, c2, hm⟩ := h
  clear hN k1 k2 hn hm
  go_enter Try.func110, Try.ntmps110
  go_wp2
  have HX := hid (box_alloc (w := w) (x := .int .i64 r) (y := .int .i64 c) (t := 107))
  have s1 : IntKind.i64.wrap (D + 1) = D + 1 := IntWalk.i64_in _ (by omega)
  go_region_held3 (fun w' => w'.cell? ⟨w.heap.size, 0, none⟩ = some (.int .i64 r) ∧ w'.cell? ⟨w.heap.size, 1, none⟩ = some (.int .i64 c) ∧ Below w.heap.size w w') (first | exact box_kept (by assumption) (by assumption) | assumption | exact box_drew HX.out)
    (first
      | (go_at_call 80; (with_reducible refine (HR.out _).mono ?_); rintro e w2 ⟨rfl, hb2⟩)
      | (go_at_call 142; (with_reducible refine (HA.out _).mono ?_); rintro e w2 ⟨rfl, hb2⟩))
  all_goals
    rename_i hH
    go_wp2
    go_ret
    exact ⟨rfl, hH.2.2⟩
set_option maxRecDepth 100000 in
set_option maxHeartbeats 2000000 in
theorem line_no (r c n : Int) (h : vB r c = false) (w : World) : Calls Try.prog 110 #[.agg #[.int .i64 r, .int .i64 c], .int .i64 n] w fun e w' => e = .returned (.int .i64 0) ∧ Below w.heap.size w w' := by
  have HR := hid (row_no r c n h)
  have HA := hid (fun x => at_no r c x 0 h)
  clear h
  go_enter Try.func110, Try.ntmps110
  go_wp2
  have HX := hid (box_alloc (w := w) (x := .int .i64 r) (y := .int .i64 c) (t := 107))
  go_region_held3 (fun w' => w'.cell? ⟨w.heap.size, 0, none⟩ = some (.int .i64 r) ∧ w'.cell? ⟨w.heap.size, 1, none⟩ = some (.int .i64 c) ∧ Below w.heap.size w w') (first | exact box_kept (by assumption) (by assumption) | assumption | exact box_drew HX.out)
    (first
      | (go_at_call 80; (with_reducible refine (HR.out _).mono ?_); rintro e w2 ⟨rfl, hb2⟩)
      | (go_at_call 142; (with_reducible refine (HA.out _ _).mono ?_); rintro e w2 ⟨rfl, hb2⟩))
  all_goals
    rename_i hH
    go_wp2
    go_ret
    exact ⟨rfl, hH.2.2⟩
theorem lenZ_zero {r c p q : Int} (h : (q % (r * c) - p % (r * c)) % (r * c) = 0) : lenZ r c p q = r * c := if_pos h
theorem lenZ_not {r c p q : Int} (h : ¬ (q % (r * c) - p % (r * c)) % (r * c) = 0) : lenZ r c p q = (q % (r * c) - p % (r * c)) % (r * c) := if_neg h
set_option maxRecDepth 100000 in
set_option maxHeartbeats 2000000 in
theorem length_ok (r c p q : Int) (h : Ok r c) (hp : I64 p) (hq : I64 q) (w : World) : Calls Try.prog 98 #[.agg #[.int .i64 r, .int .i64 c], .int .i64 p, .int .i64 q] w fun e w' => e = .returned (.int .i64 (lenZ r c p q)) ∧ Below w.heap.size w w' := by
  have HP := hid (wrap_ok r c p h hp)
  have HQ := hid (wrap_ok r c q h hq)
  have HCE := hid (cells_ok r c h)
  have hN := ok_pos h
  have HZ0 := hid (@lenZ_zero r c p q)
  have HZ1 := hid (@lenZ_not r c p q)
  generalize lenZ r c p q = L at HZ0 HZ1 ⊢
  obtain ⟨p1, p2⟩ := mod_bd p hN.1
  obtain ⟨q1, q2⟩ := mod_bd q hN.1
  generalize p % (r * c) = P at HP HZ0 HZ1 p1 p2 ⊢
  generalize q % (r * c) = Q at HQ HZ0 HZ1 q1 q2 ⊢
  have HW := hid (wrap_ok r c (Q - P) h (i64_small (by omega) (by omega)))
  generalize (Q - P) % (r * c) = K at HW HZ0 HZ1
  have p3 : P < 3564 := by omega
  have q3 : Q < 3564 := by omega
  clear hN hp hq p2 q2 h
  by_cases hK : K = 0
  · have e := HZ0.out hK
    subst hK
    rw [e]
    clear HZ0 HZ1 e
    go_enter Try.func98, Try.ntmps98
    go_wp2
    have HX := hid (box_alloc (w := w) (x := .int .i64 r) (y := .int .i64 c) (t := 107))
    have s1 : IntKind.i64.wrap (Q - P) = Q - P := IntWalk.i64_in _ (by omega)
    go_region_held3 (fun w' => w'.cell? ⟨w.heap.size, 0, none⟩ = some (.int .i64 r) ∧ w'.cell? ⟨w.heap.size, 1, none⟩ = some (.int .i64 c) ∧ Below w.heap.size w w') (first | exact box_kept (by assumption) (by assumption) | assumption | exact box_drew HX.out)
      (first
        | (go_at_call 81; (with_reducible refine (HP.out _).mono ?_); rintro e w2 ⟨rfl, hb2⟩)
        | (go_at_call 81; (with_reducible refine (HQ.out _).mono ?_); rintro e w2 ⟨rfl, hb2⟩)
        | (go_at_call 81; (with_reducible refine (HW.out _).mono ?_); rintro e w2 ⟨rfl, hb2⟩))
    all_goals
      rename_i hH
      obtain ⟨g1, g2, g3⟩ := hH
      have G3 := hid g3
      clear g3
      go_wp2_with fail
      with_reducible refine (HCE.out _).mono ?_
      rintro e w9 ⟨rfl, hb9⟩
      have HB9 := hid hb9
      clear hb9
      go_wp2
      go_ret
      exact ⟨rfl, G3.out.trans (HB9.out.mono G3.out.size)⟩
  · have e := HZ1.out hK
    subst e
    clear HZ0 HZ1
    go_enter Try.func98, Try.ntmps98
    go_wp2
    have HX := hid (box_alloc (w := w) (x := .int .i64 r) (y := .int .i64 c) (t := 107))
    have s1 : IntKind.i64.wrap (Q - P) = Q - P := IntWalk.i64_in _ (by omega)
    go_region_held3 (fun w' => w'.cell? ⟨w.heap.size, 0, none⟩ = some (.int .i64 r) ∧ w'.cell? ⟨w.heap.size, 1, none⟩ = some (.int .i64 c) ∧ Below w.heap.size w w') (first | exact box_kept (by assumption) (by assumption) | assumption | exact box_drew HX.out)
      (first
        | (go_at_call 81; (with_reducible refine (HP.out _).mono ?_); rintro e w2 ⟨rfl, hb2⟩)
        | (go_at_call 81; (with_reducible refine (HQ.out _).mono ?_); rintro e w2 ⟨rfl, hb2⟩)
        | (go_at_call 81; (with_reducible refine (HW.out _).mono ?_); rintro e w2 ⟨rfl, hb2⟩))
    all_goals
      rename_i hH
      obtain ⟨g1, g2, g3⟩ := hH
      have G3 := hid g3
      clear g3
      go_wp2
      go_ret
      exact ⟨rfl, G3.out⟩
set_option maxRecDepth 100000 in
set_option maxHeartbeats 2000000 in
theorem length_no (r c p q : Int) (h : vB r c = false) (w : World) : Calls Try.prog 98 #[.agg #[.int .i64 r, .int .i64 c], .int .i64 p, .int .i64 q] w fun e w' => e = .returned (.int .i64 0) ∧ Below w.heap.size w w' := by
  have HW := hid (fun x => wrap_no r c x h)
  have HCE := hid (cells_no r c h)
  clear h
  go_enter Try.func98, Try.ntmps98
  go_wp2
  have HX := hid (box_alloc (w := w) (x := .int .i64 r) (y := .int .i64 c) (t := 107))
  go_region_held3 (fun w' => w'.cell? ⟨w.heap.size, 0, none⟩ = some (.int .i64 r) ∧ w'.cell? ⟨w.heap.size, 1, none⟩ = some (.int .i64 c) ∧ Below w.heap.size w w') (first | exact box_kept (by assumption) (by assumption) | assumption | exact box_drew HX.out)
    (first
      | (go_at_call 81; (with_reducible refine (HW.out _ _).mono ?_); rintro e w2 ⟨rfl, hb2⟩))
  all_goals
    rename_i hH
    obtain ⟨g1, g2, g3⟩ := hH
    have G3 := hid g3
    clear g3
    go_wp2_with fail
    with_reducible refine (HCE.out _).mono ?_
    rintro e w9 ⟨rfl, hb9⟩
    have HB9 := hid hb9
    clear hb9
    go_wp2
    go_ret
    exact ⟨rfl, G3.out.trans (HB9.out.mono G3.out.size)⟩

/-- The places from one on, so many of them. -/
def spanL (N a : Int) (k : Nat) : List Int := (List.range k).map fun (i : Nat) => (a + (i : Int)) % N
theorem spanL_len (N a : Int) (k : Nat) : (spanL N a k).length = k := by simp [spanL]
theorem spanL_succ (N a : Int) (k : Nat) : spanL N a (k + 1) = spanL N a k ++ [(a + (k : Int)) % N] := by simp [spanL, List.range_succ]
theorem spanL_one {N a : Int} (h0 : 0 ≤ a) (h1 : a < N) : spanL N a 1 = [a] := by
  simp [spanL, Int.emod_eq_of_lt h0 h1]
theorem spanL_take (N a : Int) (j k : Nat) (h : j ≤ k) : (spanL N a k).take j = spanL N a j := by
  simp [spanL, ← List.map_take, List.take_range, Nat.min_eq_left h]
theorem spanL_get (N a : Int) (k i : Nat) (h : i < k) : (spanL N a k)[i]? = some ((a + (i : Int)) % N) := by simp [spanL, h]
theorem spanL_bd {N a : Int} (hN : 1 ≤ N) {k : Nat} : ∀ x ∈ spanL N a k, 0 ≤ x ∧ x < N := by
  intro x hx
  simp only [spanL, List.mem_map, List.mem_range] at hx
  obtain ⟨i, _, rfl⟩ := hx
  exact mod_bd _ hN
/-- How many there are, of two places that are in. -/
def lenS (N a b : Int) : Int := if (b - a) % N = 0 then N else (b - a) % N
theorem lenS_eq (r c p q : Int) : lenZ r c p q = lenS (r * c) (p % (r * c)) (q % (r * c)) := rfl
theorem lenS_bd {N a b : Int} (hN : 1 ≤ N) : 1 ≤ lenS N a b ∧ lenS N a b ≤ N := by
  unfold lenS
  obtain ⟨h0, h1⟩ := mod_bd (b - a) hN
  split <;> omega
theorem sub_mod {N a b : Int} (a0 : 0 ≤ a) (a1 : a < N) (b0 : 0 ≤ b) (b1 : b < N) : (b - a) % N = if a ≤ b then b - a else b - a + N := by
  split
  · exact Int.emod_eq_of_lt (by omega) (by omega)
  · have : (b - a + N) % N = (b - a) % N := by rw [Int.add_emod_right]
    rw [← this]
    exact Int.emod_eq_of_lt (by omega) (by omega)
theorem add_mod {N a k : Int} (a0 : 0 ≤ a) (a1 : a < N) (k0 : 0 ≤ k) (k1 : k ≤ N) : (a + k) % N = if a + k < N then a + k else a + k - N := by
  split
  · exact Int.emod_eq_of_lt (by omega) (by omega)
  · have : (a + k - N) % N = (a + k) % N := by rw [Int.sub_emod_right]
    rw [← this]
    exact Int.emod_eq_of_lt (by omega) (by omega)
/-- The reference goes on where it isn't through. -/
theorem span_more {N a b k : Int} (a0 : 0 ≤ a) (a1 : a < N) (b0 : 0 ≤ b) (b1 : b < N) (k1 : 1 ≤ k) (hk : k < lenS N a b) : ¬ (a + k) % N = b ∧ ¬ (a + k) % N = a := by
  have hN : 1 ≤ N := by omega
  have hl := lenS_bd (a := a) (b := b) hN
  unfold lenS at hk hl
  rw [sub_mod a0 a1 b0 b1] at hk hl
  rw [add_mod a0 a1 (by omega) (by omega)]
  constructor <;> intro h <;> split at h <;> split at hk <;> split at hl <;> (try split at hk) <;> (try split at hl) <;> omega
theorem span_end {N a b k : Int} (a0 : 0 ≤ a) (a1 : a < N) (b0 : 0 ≤ b) (b1 : b < N) (hk : k = lenS N a b) : (a + k) % N = b := by
  have hN : 1 ≤ N := by omega
  have hl := lenS_bd (a := a) (b := b) hN
  subst hk
  rw [add_mod a0 a1 (by omega) (by omega)]
  unfold lenS at hl ⊢
  rw [sub_mod a0 a1 b0 b1] at hl ⊢
  repeat' split
  all_goals omega
theorem span_next (N a k : Int) : ((a + k) % N + 1) % N = (a + (k + 1)) % N := by
  rw [Int.emod_add_emod, Int.add_assoc]

end Go.Proofs.Ytpehhinpohmpiaa
