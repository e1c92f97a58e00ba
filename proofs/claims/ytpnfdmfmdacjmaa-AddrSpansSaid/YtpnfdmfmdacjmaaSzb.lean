/-
  Remainders and places: the program's and the reference's, by contracts.
-/
import Derived.Test.YtpnfdmfmdacjmaaSza
import Derived.Deep.RegionHeld3
import Derived.IntWalk
namespace Go.Proofs.Ytpnfdmfmdacjmaa
open Go.RowKit Go.Lib

theorem tmod_neg {n m : Int} (hm : 1 ≤ m) (h : ¬ 0 ≤ n) : -m < n.tmod m ∧ n.tmod m ≤ 0 := by
  have := Int.emod_nonneg n (by omega : m ≠ 0)
  have := Int.emod_lt_of_pos n (by omega : 0 < m)
  rw [Int.tmod_eq_emod]
  constructor <;> split <;> omega
theorem tmod_add {n m : Int} (hm : 1 ≤ m) (h : ¬ 0 ≤ n) : (n.tmod m + m) % m = n % m := by
  have hh := tmod_neg hm h
  by_cases h0 : n.tmod m < 0
  · rw [tmod_lo (by omega) h0, Int.emod_emod]
  · have e : n.tmod m = 0 := by omega
    have := tmod_hi (n := n) (m := m) (by omega) (by omega)
    rw [← this, e, Int.zero_add, Int.emod_self]
set_option maxRecDepth 100000 in
theorem rem_any (n m : Int) (hn : I64 n) (h1 : 1 ≤ m) (h2 : m ≤ 10000) (w : World) : Calls Try.prog 71 #[.int .i64 n, .int .i64 m] w fun e w' => e = .returned (.int .i64 (n % m)) ∧ w = w' := by
  obtain ⟨n1, n2⟩ := hn
  by_cases h0 : 0 ≤ n
  · have g1 := Int.emod_nonneg n (by omega : m ≠ 0)
    have g2 := Int.emod_lt_of_pos n (by omega : 0 < m)
    go_enter Try.func71, Try.ntmps71
    go_wp2
    go_ret
    exact ⟨rfl, rfl⟩
  · obtain ⟨g1, g2⟩ := tmod_neg h1 h0
    by_cases h3 : n.tmod m < 0
    · go_enter Try.func71, Try.ntmps71
      go_wp2
      go_ret
      exact ⟨ret_int (tmod_lo (by omega) h3), rfl⟩
    · go_enter Try.func71, Try.ntmps71
      go_wp2
      go_ret
      exact ⟨ret_int (tmod_hi (by omega) (by omega)), rfl⟩
set_option maxRecDepth 100000 in
theorem rem_zero (n : Int) (w : World) : Calls Try.prog 71 #[.int .i64 n, .int .i64 0] w fun e w' => e = .returned (.int .i64 0) ∧ w = w' := by
  go_enter Try.func71, Try.ntmps71
  go_wp2
  go_ret
  exact ⟨rfl, rfl⟩
set_option maxRecDepth 100000 in
theorem mod_zero (n : Int) (w : World) : Calls Try.prog 72 #[.int .i64 n, .int .i64 0] w fun e w' => e = .returned (.int .i64 0) ∧ w = w' := by
  go_enter Try.func72, Try.ntmps72
  go_wp2
  go_ret
  exact ⟨rfl, rfl⟩
set_option maxRecDepth 100000 in
theorem mod_any (n m : Int) (hn : I64 n) (h1 : 1 ≤ m) (h2 : m ≤ 10000) (w : World) : Calls Try.prog 72 #[.int .i64 n, .int .i64 m] w fun e w' => e = .returned (.int .i64 (n % m)) ∧ w = w' := by
  obtain ⟨n1, n2⟩ := hn
  by_cases h0 : 0 ≤ n
  · have g1 := Int.emod_nonneg n (by omega : m ≠ 0)
    have g2 := Int.emod_lt_of_pos n (by omega : 0 < m)
    go_enter Try.func72, Try.ntmps72
    go_wp2
    go_ret
    exact ⟨ret_int (by first | rfl | rw [Int.add_emod_right, Int.emod_emod]), rfl⟩
  · obtain ⟨g1, g2⟩ := tmod_neg h1 h0
    have G := hid (tmod_add h1 h0)
    go_enter Try.func72, Try.ntmps72
    go_wp2
    go_ret
    exact ⟨ret_int (by have := G.out; rw [Int.add_emod_right] at this; first | exact this | exact G.out), rfl⟩

theorem ok_pos {r c : Int} (h : Ok r c) : 1 ≤ r * c ∧ r * c ≤ 3564 := ⟨by have := Int.mul_le_mul h.r1 h.c1 (by omega) (by have := h.r1; omega); omega, h.m⟩
theorem i64_small {n : Int} (h1 : -1000000 ≤ n) (h2 : n ≤ 1000000) : I64 n := ⟨by omega, by omega⟩
theorem i64_mod (n : Int) {m : Int} (h1 : 1 ≤ m) (h2 : m ≤ 10000) : I64 (n % m) := by
  have := Int.emod_nonneg n (by omega : m ≠ 0)
  have := Int.emod_lt_of_pos n (by omega : 0 < m)
  exact ⟨by omega, by omega⟩

set_option maxRecDepth 100000 in
theorem wrap_ok (r c n : Int) (h : Ok r c) (hn : I64 n) (w : World) : Calls Try.prog 19 #[.agg #[.int .i64 r, .int .i64 c], .int .i64 n] w fun e w' => e = .returned (.int .i64 (n % (r * c))) ∧ Below w.heap.size w w' := by
  have HV := hid (cells_ok r c h)
  have hp := ok_pos h
  have HR := hid (rem_any n (r * c) hn hp.1 (by omega))
  clear hp h hn
  go_enter Try.func19, Try.ntmps19
  go_wp2_with fail
  with_reducible refine (HV.out _).mono ?_
  rintro e w1 ⟨rfl, hb⟩
  have HB := hid hb
  clear hb
  go_wp2_with fail
  with_reducible refine (HR.out _).mono ?_
  rintro e w2 ⟨rfl, rfl⟩
  go_wp2
  go_ret
  exact ⟨rfl, ((Below.refl _ _).alloc (Nat.le_refl _) _).trans (HB.out.mono (by simp))⟩
set_option maxRecDepth 100000 in
theorem wrap_no (r c n : Int) (h : vB r c = false) (w : World) : Calls Try.prog 19 #[.agg #[.int .i64 r, .int .i64 c], .int .i64 n] w fun e w' => e = .returned (.int .i64 0) ∧ Below w.heap.size w w' := by
  have HV := hid (cells_no r c h)
  clear h
  go_enter Try.func19, Try.ntmps19
  go_wp2_with fail
  with_reducible refine (HV.out _).mono ?_
  rintro e w1 ⟨rfl, hb⟩
  have HB := hid hb
  clear hb
  go_wp2_with fail
  with_reducible refine (rem_zero _ _).mono ?_
  rintro e w2 ⟨rfl, rfl⟩
  go_wp2
  go_ret
  exact ⟨rfl, ((Below.refl _ _).alloc (Nat.le_refl _) _).trans (HB.out.mono (by simp))⟩

set_option maxRecDepth 100000 in
theorem rwrap_ok (r c n : Int) (h : Ok r c) (hn : I64 n) (w : World) : Calls Try.prog 20 #[.agg #[.int .i64 r, .int .i64 c], .int .i64 n] w fun e w' => e = .returned (.int .i64 (n % (r * c))) ∧ Below w.heap.size w w' := by
  have HV := hid (rcells_ok r c h)
  have hp := ok_pos h
  have HR := hid (mod_any n (r * c) hn hp.1 (by omega))
  clear hp h hn
  go_enter Try.func20, Try.ntmps20
  go_wp2_with fail
  with_reducible refine (HV.out _).mono ?_
  rintro e w1 ⟨rfl, hb⟩
  have HB := hid hb
  clear hb
  go_wp2_with fail
  with_reducible refine (HR.out _).mono ?_
  rintro e w2 ⟨rfl, rfl⟩
  go_wp2
  go_ret
  exact ⟨rfl, ((Below.refl _ _).alloc (Nat.le_refl _) _).trans (HB.out.mono (by simp))⟩
set_option maxRecDepth 100000 in
theorem rwrap_no (r c n : Int) (h : vB r c = false) (w : World) : Calls Try.prog 20 #[.agg #[.int .i64 r, .int .i64 c], .int .i64 n] w fun e w' => e = .returned (.int .i64 0) ∧ Below w.heap.size w w' := by
  have HV := hid (rcells_no r c h)
  clear h
  go_enter Try.func20, Try.ntmps20
  go_wp2_with fail
  with_reducible refine (HV.out _).mono ?_
  rintro e w1 ⟨rfl, hb⟩
  have HB := hid hb
  clear hb
  go_wp2_with fail
  with_reducible refine (mod_zero _ _).mono ?_
  rintro e w2 ⟨rfl, rfl⟩
  go_wp2
  go_ret
  exact ⟨rfl, ((Below.refl _ _).alloc (Nat.le_refl _) _).trans (HB.out.mono (by simp))⟩

/-- Behind a call that only makes memory the box reads as it did. -/
theorem box_kept {b : Nat} {w w1 w2 : World} {x y : Value} (hb : Below w1.heap.size w1 w2) (h : w1.cell? ⟨b, 0, none⟩ = some x ∧ w1.cell? ⟨b, 1, none⟩ = some y ∧ Below w.heap.size w w1) : w2.cell? ⟨b, 0, none⟩ = some x ∧ w2.cell? ⟨b, 1, none⟩ = some y ∧ Below w.heap.size w w2 := by
  have hl := World.block_lt_of_cell? w1 _ h.1
  exact ⟨(hb.cell (p := ⟨b, 0, none⟩) hl).trans h.1, (hb.cell (p := ⟨b, 1, none⟩) hl).trans h.2.1, h.2.2.trans (hb.mono h.2.2.size)⟩
/-- The box as it is made. -/
theorem box_new {w w1 : World} {x y : Value} {t : TypeId} (hb : Below (w.alloc (.cells #[x, y] t)).heap.size (w.alloc (.cells #[x, y] t)) w1) : w1.cell? ⟨w.heap.size, 0, none⟩ = some x ∧ w1.cell? ⟨w.heap.size, 1, none⟩ = some y ∧ Below w.heap.size w w1 :=
  box_kept hb ⟨by simp [go_sem], by simp [go_sem], (Below.refl _ _).alloc (Nat.le_refl _) _⟩
theorem box_drew {b : Nat} {w w1 : World} {x y : Value} (h : w1.cell? ⟨b, 0, none⟩ = some x ∧ w1.cell? ⟨b, 1, none⟩ = some y ∧ Below w.heap.size w w1) : w1.drew.cell? ⟨b, 0, none⟩ = some x ∧ w1.drew.cell? ⟨b, 1, none⟩ = some y ∧ Below w.heap.size w w1.drew := ⟨h.1, h.2.1, h.2.2.drew⟩

set_option maxRecDepth 100000 in
set_option maxHeartbeats 1000000 in
theorem at_ok (r c p q : Int) (h : Ok r c) (hp : I64 p) (hq : I64 q) (w : World) : Calls Try.prog 21 #[.agg #[.int .i64 r, .int .i64 c], .int .i64 p, .int .i64 q] w fun e w' => e = .returned (.int .i64 (p % r * c + q % c)) ∧ Below w.heap.size w w' := by
  have HV := hid (valid_ok r c h)
  have HP := hid (rem_any p r hp h.r1 (by have := h.r2; omega))
  have HQ := hid (rem_any q c hq h.c1 (by have := h.c2; omega))
  have a1 := Int.emod_nonneg p (by have := h.r1; omega : r ≠ 0)
  have a2 := Int.emod_lt_of_pos p (by have := h.r1; omega : 0 < r)
  have b1 := Int.emod_nonneg q (by have := h.c1; omega : c ≠ 0)
  have b2 := Int.emod_lt_of_pos q (by have := h.c1; omega : 0 < c)
  obtain ⟨r1, r2, c1, c2, hm⟩ := h
  generalize p % r = A at HP a1 a2 ⊢
  generalize q % c = B at HQ b1 b2 ⊢
  clear hp hq hm
  have m1 : 0 ≤ A * c := Int.mul_nonneg (by omega) (by omega)
  have m2 : A * c ≤ 43 * 132 := Int.mul_le_mul (by omega) (by omega) (by omega) (by omega)
  have m3 : 0 ≤ c * A := by rw [Int.mul_comm]; exact m1
  have m4 : c * A ≤ 43 * 132 := by rw [Int.mul_comm]; exact m2
  go_enter Try.func21, Try.ntmps21
  go_wp2_with fail
  with_reducible refine (HV.out _).mono ?_
  rintro e w1 ⟨rfl, hb⟩
  have HX := hid (box_new hb)
  clear hb
  go_wp2
  have e1 : IntKind.i64.wrap (A * c) = A * c := IntWalk.i64_in _ (by omega)
  have e2 : IntKind.i64.wrap (A * c + B) = A * c + B := IntWalk.i64_in _ (by omega)
  go_region_held3 (fun w' => w'.cell? ⟨w.heap.size, 0, none⟩ = some (.int .i64 r) ∧ w'.cell? ⟨w.heap.size, 1, none⟩ = some (.int .i64 c) ∧ Below w.heap.size w w') (first | exact box_kept (by assumption) (by assumption) | assumption | exact box_drew HX.out)
    (first
      | (go_at_call 71; (with_reducible refine (HP.out _).mono ?_); rintro e w2 ⟨rfl, rfl⟩)
      | (go_at_call 71; (with_reducible refine (HQ.out _).mono ?_); rintro e w2 ⟨rfl, rfl⟩))
  all_goals
    rename_i hH
    go_wp2
    go_ret
    exact ⟨ret_int (by simp [Int.mul_comm]), hH.2.2⟩
set_option maxRecDepth 100000 in
theorem at_no (r c p q : Int) (h : vB r c = false) (w : World) : Calls Try.prog 21 #[.agg #[.int .i64 r, .int .i64 c], .int .i64 p, .int .i64 q] w fun e w' => e = .returned (.int .i64 0) ∧ Below w.heap.size w w' := by
  have HV := hid (valid_no r c h)
  clear h
  go_enter Try.func21, Try.ntmps21
  go_wp2_with fail
  with_reducible refine (HV.out _).mono ?_
  rintro e w1 ⟨rfl, hb⟩
  have HX := hid (box_new hb)
  clear hb
  go_wp2
  go_ret
  exact ⟨rfl, HX.out.2.2⟩

set_option maxRecDepth 100000 in
set_option maxHeartbeats 1000000 in
theorem rat_ok (r c p q : Int) (h : Ok r c) (hp : I64 p) (hq : I64 q) (w : World) : Calls Try.prog 22 #[.agg #[.int .i64 r, .int .i64 c], .int .i64 p, .int .i64 q] w fun e w' => e = .returned (.int .i64 (p % r * c + q % c)) ∧ Below w.heap.size w w' := by
  have HV := hid (rvalid_ok r c h)
  have HP := hid (mod_any p r hp h.r1 (by have := h.r2; omega))
  have HQ := hid (mod_any q c hq h.c1 (by have := h.c2; omega))
  have a1 := Int.emod_nonneg p (by have := h.r1; omega : r ≠ 0)
  have a2 := Int.emod_lt_of_pos p (by have := h.r1; omega : 0 < r)
  have b1 := Int.emod_nonneg q (by have := h.c1; omega : c ≠ 0)
  have b2 := Int.emod_lt_of_pos q (by have := h.c1; omega : 0 < c)
  obtain ⟨r1, r2, c1, c2, hm⟩ := h
  generalize p % r = A at HP a1 a2 ⊢
  generalize q % c = B at HQ b1 b2 ⊢
  clear hp hq hm
  have m1 : 0 ≤ A * c := Int.mul_nonneg (by omega) (by omega)
  have m2 : A * c ≤ 43 * 132 := Int.mul_le_mul (by omega) (by omega) (by omega) (by omega)
  have m3 : 0 ≤ c * A := by rw [Int.mul_comm]; exact m1
  have m4 : c * A ≤ 43 * 132 := by rw [Int.mul_comm]; exact m2
  go_enter Try.func22, Try.ntmps22
  go_wp2_with fail
  with_reducible refine (HV.out _).mono ?_
  rintro e w1 ⟨rfl, hb⟩
  have HX := hid (box_new hb)
  clear hb
  go_wp2
  have e1 : IntKind.i64.wrap (c * A) = c * A := IntWalk.i64_in _ (by omega)
  have e2 : IntKind.i64.wrap (c * A + B) = c * A + B := IntWalk.i64_in _ (by omega)
  go_region_held3 (fun w' => w'.cell? ⟨w.heap.size, 0, none⟩ = some (.int .i64 r) ∧ w'.cell? ⟨w.heap.size, 1, none⟩ = some (.int .i64 c) ∧ Below w.heap.size w w') (first | exact box_kept (by assumption) (by assumption) | assumption | exact box_drew HX.out)
    (first
      | (go_at_call 72; (with_reducible refine (HP.out _).mono ?_); rintro e w2 ⟨rfl, rfl⟩)
      | (go_at_call 72; (with_reducible refine (HQ.out _).mono ?_); rintro e w2 ⟨rfl, rfl⟩))
  all_goals
    rename_i hH
    go_wp2
    go_ret
    exact ⟨ret_int (by simp [Int.mul_comm]), hH.2.2⟩
set_option maxRecDepth 100000 in
theorem rat_no (r c p q : Int) (h : vB r c = false) (w : World) : Calls Try.prog 22 #[.agg #[.int .i64 r, .int .i64 c], .int .i64 p, .int .i64 q] w fun e w' => e = .returned (.int .i64 0) ∧ Below w.heap.size w w' := by
  have HV := hid (rvalid_no r c h)
  clear h
  go_enter Try.func22, Try.ntmps22
  go_wp2_with fail
  with_reducible refine (HV.out _).mono ?_
  rintro e w1 ⟨rfl, hb⟩
  have HX := hid (box_new hb)
  clear hb
  go_wp2
  go_ret
  exact ⟨rfl, HX.out.2.2⟩
end Go.Proofs.Ytpnfdmfmdacjmaa
