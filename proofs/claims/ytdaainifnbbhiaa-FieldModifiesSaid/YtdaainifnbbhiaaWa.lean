/-
  Sizes: what is valid, how many cells there are, remainders: the program's and the reference's, by contracts.
-/
import Derived.Test.YtdaainifnbbhiaaProg
import Derived.WalkKit
import Derived.Lib.Hide
import Derived.Deep.RegionHeld3
import Derived.IntWalk
namespace Go.Proofs.Ytdaainifnbbhiaa
open Go.RowKit Go.Lib

/-- Is it a size? -/
def vB (r c : Int) : Bool := decide (1 ≤ r ∧ r ≤ 43 ∧ 1 ≤ c ∧ c ≤ 132 ∧ r * c ≤ 3564)
/-- It is one. -/
structure Ok (r c : Int) : Prop where
  r1 : 1 ≤ r
  r2 : r ≤ 43
  c1 : 1 ≤ c
  c2 : c ≤ 132
  m : r * c ≤ 3564
theorem vB_ok {r c : Int} (h : Ok r c) : vB r c = true := decide_eq_true ⟨h.1, h.2, h.3, h.4, h.5⟩
theorem ok_or (r c : Int) : Ok r c ∨ vB r c = false := by
  by_cases h : 1 ≤ r ∧ r ≤ 43 ∧ 1 ≤ c ∧ c ≤ 132 ∧ r * c ≤ 3564
  · exact .inl ⟨h.1, h.2.1, h.2.2.1, h.2.2.2.1, h.2.2.2.2⟩
  · exact .inr (decide_eq_false h)

set_option maxRecDepth 100000 in
theorem valid_ok (r c : Int) (h : Ok r c) (w : World) : Calls Try.prog 76 #[.agg #[.int .i64 r, .int .i64 c]] w fun e w' => e = .returned (.bool true) ∧ Below w.heap.size w w' := by
  obtain ⟨r1, r2, c1, c2, hm⟩ := h
  have hp : 0 ≤ r * c := Int.mul_nonneg (by omega) (by omega)
  go_enter Try.func76, Try.ntmps76
  go_wp2
  go_ret
  exact ⟨rfl, (Below.refl _ _).alloc (Nat.le_refl _) _⟩
set_option maxRecDepth 100000 in
theorem valid_no (r c : Int) (h : vB r c = false) (w : World) : Calls Try.prog 76 #[.agg #[.int .i64 r, .int .i64 c]] w fun e w' => e = .returned (.bool false) ∧ Below w.heap.size w w' := by
  have h' : ¬ (1 ≤ r ∧ r ≤ 43 ∧ 1 ≤ c ∧ c ≤ 132 ∧ r * c ≤ 3564) := of_decide_eq_false h
  clear h
  by_cases h1 : 1 ≤ r
  · by_cases h2 : r ≤ 43
    · by_cases h3 : 1 ≤ c
      · by_cases h4 : c ≤ 132
        · have h5 : ¬ r * c ≤ 3564 := fun h5 => h' ⟨h1, h2, h3, h4, h5⟩
          have h6 : r * c ≤ 43 * 132 := Int.mul_le_mul h2 h4 (by omega) (by omega)
          clear h'
          go_enter Try.func76, Try.ntmps76
          go_wp2
          go_ret
          exact ⟨rfl, (Below.refl _ _).alloc (Nat.le_refl _) _⟩
        · clear h'
          go_enter Try.func76, Try.ntmps76
          go_wp2
          go_ret
          exact ⟨rfl, (Below.refl _ _).alloc (Nat.le_refl _) _⟩
      · clear h'
        go_enter Try.func76, Try.ntmps76
        go_wp2
        go_ret
        exact ⟨rfl, (Below.refl _ _).alloc (Nat.le_refl _) _⟩
    · clear h'
      by_cases h3 : 1 ≤ c
      · by_cases h4 : c ≤ 132 <;> (
          go_enter Try.func76, Try.ntmps76
          go_wp2
          go_ret
          exact ⟨rfl, (Below.refl _ _).alloc (Nat.le_refl _) _⟩)
      · go_enter Try.func76, Try.ntmps76
        go_wp2
        go_ret
        exact ⟨rfl, (Below.refl _ _).alloc (Nat.le_refl _) _⟩
  · clear h'
    by_cases h3 : 1 ≤ c
    · by_cases h4 : c ≤ 132 <;> (
        go_enter Try.func76, Try.ntmps76
        go_wp2
        go_ret
        exact ⟨rfl, (Below.refl _ _).alloc (Nat.le_refl _) _⟩)
    · go_enter Try.func76, Try.ntmps76
      go_wp2
      go_ret
      exact ⟨rfl, (Below.refl _ _).alloc (Nat.le_refl _) _⟩

set_option maxRecDepth 100000 in
theorem rvalid_ok (r c : Int) (h : Ok r c) (w : World) : Calls Try.prog 99 #[.agg #[.int .i64 r, .int .i64 c]] w fun e w' => e = .returned (.bool true) ∧ Below w.heap.size w w' := by
  obtain ⟨r1, r2, c1, c2, hm⟩ := h
  have hp : 0 ≤ r * c := Int.mul_nonneg (by omega) (by omega)
  go_enter Try.func99, Try.ntmps99
  go_wp2
  go_ret
  exact ⟨rfl, (Below.refl _ _).alloc (Nat.le_refl _) _⟩
set_option maxRecDepth 100000 in
theorem rvalid_no (r c : Int) (h : vB r c = false) (w : World) : Calls Try.prog 99 #[.agg #[.int .i64 r, .int .i64 c]] w fun e w' => e = .returned (.bool false) ∧ Below w.heap.size w w' := by
  have h' : ¬ (1 ≤ r ∧ r ≤ 43 ∧ 1 ≤ c ∧ c ≤ 132 ∧ r * c ≤ 3564) := of_decide_eq_false h
  clear h
  by_cases h1 : 1 ≤ r
  · by_cases h2 : r ≤ 43
    · by_cases h3 : 1 ≤ c
      · by_cases h4 : c ≤ 132
        · have h5 : ¬ r * c ≤ 3564 := fun h5 => h' ⟨h1, h2, h3, h4, h5⟩
          have h6 : r * c ≤ 43 * 132 := Int.mul_le_mul h2 h4 (by omega) (by omega)
          clear h'
          go_enter Try.func99, Try.ntmps99
          go_wp2
          go_ret
          exact ⟨rfl, (Below.refl _ _).alloc (Nat.le_refl _) _⟩
        · clear h'
          go_enter Try.func99, Try.ntmps99
          go_wp2
          go_ret
          exact ⟨rfl, (Below.refl _ _).alloc (Nat.le_refl _) _⟩
      · clear h'
        go_enter Try.func99, Try.ntmps99
        go_wp2
        go_ret
        exact ⟨rfl, (Below.refl _ _).alloc (Nat.le_refl _) _⟩
    · clear h'
      go_enter Try.func99, Try.ntmps99
      go_wp2
      go_ret
      exact ⟨rfl, (Below.refl _ _).alloc (Nat.le_refl _) _⟩
  · clear h'
    go_enter Try.func99, Try.ntmps99
    go_wp2
    go_ret
    exact ⟨rfl, (Below.refl _ _).alloc (Nat.le_refl _) _⟩

/-- All old cells and marks read as before. -/
theorem bcell {W w1 : World} (hb : Below W.heap.size W w1) : (∀ b o, b < W.heap.size → w1.cell? ⟨b, o, none⟩ = W.cell? ⟨b, o, none⟩) ∧ (∀ b o, b < W.heap.size → w1.frozen? ⟨b, o, none⟩ = W.frozen? ⟨b, o, none⟩) :=
  ⟨fun b o h => hb.cell (p := ⟨b, o, none⟩) h, fun b o h => hb.frozen (p := ⟨b, o, none⟩) h⟩

set_option maxRecDepth 100000 in
theorem cells_ok (r c : Int) (h : Ok r c) (w : World) : Calls Try.prog 35 #[.agg #[.int .i64 r, .int .i64 c]] w fun e w' => e = .returned (.int .i64 (r * c)) ∧ Below w.heap.size w w' := by
  have HV := hid (valid_ok r c h)
  obtain ⟨r1, r2, c1, c2, hm⟩ := h
  have hp : 0 ≤ r * c := Int.mul_nonneg (by omega) (by omega)
  go_enter Try.func35, Try.ntmps35
  go_wp2_with fail
  with_reducible refine (HV.out _).mono ?_
  rintro e w1 ⟨rfl, hb⟩
  obtain ⟨hc, hf⟩ := bcell hb
  have HB := hid hb
  clear hb
  go_wp2
  go_ret
  exact ⟨rfl, ((Below.refl _ _).alloc (Nat.le_refl _) _).trans (HB.out.mono (by simp))⟩
set_option maxRecDepth 100000 in
theorem cells_no (r c : Int) (h : vB r c = false) (w : World) : Calls Try.prog 35 #[.agg #[.int .i64 r, .int .i64 c]] w fun e w' => e = .returned (.int .i64 0) ∧ Below w.heap.size w w' := by
  have HV := hid (valid_no r c h)
  clear h
  go_enter Try.func35, Try.ntmps35
  go_wp2_with fail
  with_reducible refine (HV.out _).mono ?_
  rintro e w1 ⟨rfl, hb⟩
  have HB := hid hb
  clear hb
  go_wp2
  go_ret
  exact ⟨rfl, ((Below.refl _ _).alloc (Nat.le_refl _) _).trans (HB.out.mono (by simp))⟩
set_option maxRecDepth 100000 in
theorem rcells_ok (r c : Int) (h : Ok r c) (w : World) : Calls Try.prog 90 #[.agg #[.int .i64 r, .int .i64 c]] w fun e w' => e = .returned (.int .i64 (r * c)) ∧ Below w.heap.size w w' := by
  have HV := hid (rvalid_ok r c h)
  obtain ⟨r1, r2, c1, c2, hm⟩ := h
  have hp : 0 ≤ r * c := Int.mul_nonneg (by omega) (by omega)
  go_enter Try.func90, Try.ntmps90
  go_wp2_with fail
  with_reducible refine (HV.out _).mono ?_
  rintro e w1 ⟨rfl, hb⟩
  obtain ⟨hc, hf⟩ := bcell hb
  have HB := hid hb
  clear hb
  go_wp2
  go_ret
  exact ⟨rfl, ((Below.refl _ _).alloc (Nat.le_refl _) _).trans (HB.out.mono (by simp))⟩
set_option maxRecDepth 100000 in
theorem rcells_no (r c : Int) (h : vB r c = false) (w : World) : Calls Try.prog 90 #[.agg #[.int .i64 r, .int .i64 c]] w fun e w' => e = .returned (.int .i64 0) ∧ Below w.heap.size w w' := by
  have HV := hid (rvalid_no r c h)
  clear h
  go_enter Try.func90, Try.ntmps90
  go_wp2_with fail
  with_reducible refine (HV.out _).mono ?_
  rintro e w1 ⟨rfl, hb⟩
  have HB := hid hb
  clear hb
  go_wp2
  go_ret
  exact ⟨rfl, ((Below.refl _ _).alloc (Nat.le_refl _) _).trans (HB.out.mono (by simp))⟩

/-- An int. -/
def I64 (n : Int) : Prop := -9223372036854775808 ≤ n ∧ n ≤ 9223372036854775807
theorem ret_int {k : IntKind} {a b : Int} (h : a = b) : Ending.returned (.int k a) = .returned (.int k b) := by rw [h]
theorem tmod_lo {n m : Int} (hm : 0 < m) (h : n.tmod m < 0) : n.tmod m + m = n % m := by
  have h1 := Int.emod_nonneg n (by omega : m ≠ 0)
  have h2 := Int.emod_lt_of_pos n hm
  rw [Int.tmod_eq_emod] at h ⊢
  split at h
  · omega
  · split <;> omega
theorem tmod_hi {n m : Int} (hm : 0 < m) (h : 0 ≤ n.tmod m) : n.tmod m = n % m := by
  have h1 := Int.emod_nonneg n (by omega : m ≠ 0)
  have h2 := Int.emod_lt_of_pos n hm
  rw [Int.tmod_eq_emod] at h ⊢
  split at h
  · split <;> omega
  · split <;> omega
theorem tmod_neg {n m : Int} (hm : 1 ≤ m) (h : ¬ 0 ≤ n) : -m < n.tmod m ∧ n.tmod m ≤ 0 := by
  have := Int.emod_nonneg n (by omega : m ≠ 0)
  have := Int.emod_lt_of_pos n (by omega : 0 < m)
  rw [Int.tmod_eq_emod]
  constructor <;> split <;> omega
theorem tmod_add {n m : Int} (hm : 1 ≤ m) (h : ¬ 0 ≤ n) : (n.tmod m + m) % m = n % m := by
  have hh := tmod_neg hm h
  by_cases h0 : n.tmod m < 0
  · rw [tmod_lo (by omega) h0, Int.emod_emod]
  · have e : n.tmod m = 0 := by omega
    have := tmod_hi (n := n) (m := m) (by omega) (by omega)
    rw [← this, e, Int.zero_add, Int.emod_self]
set_option maxRecDepth 100000 in
theorem rem_any (n m : Int) (hn : I64 n) (h1 : 1 ≤ m) (h2 : m ≤ 10000) (w : World) : Calls Try.prog 91 #[.int .i64 n, .int .i64 m] w fun e w' => e = .returned (.int .i64 (n % m)) ∧ w = w' := by
  obtain ⟨n1, n2⟩ := hn
  by_cases h0 : 0 ≤ n
  · have g1 := Int.emod_nonneg n (by omega : m ≠ 0)
    have g2 := Int.emod_lt_of_pos n (by omega : 0 < m)
    go_enter Try.func91, Try.ntmps91
    go_wp2
    go_ret
    exact ⟨rfl, rfl⟩
  · obtain ⟨g1, g2⟩ := tmod_neg h1 h0
    by_cases h3 : n.tmod m < 0
    · go_enter Try.func91, Try.ntmps91
      go_wp2
      go_ret
      exact ⟨ret_int (tmod_lo (by omega) h3), rfl⟩
    · go_enter Try.func91, Try.ntmps91
      go_wp2
      go_ret
      exact ⟨ret_int (tmod_hi (by omega) (by omega)), rfl⟩
set_option maxRecDepth 100000 in
theorem rem_zero (n : Int) (w : World) : Calls Try.prog 91 #[.int .i64 n, .int .i64 0] w fun e w' => e = .returned (.int .i64 0) ∧ w = w' := by
  go_enter Try.func91, Try.ntmps91
  go_wp2
  go_ret
  exact ⟨rfl, rfl⟩
set_option maxRecDepth 100000 in
theorem mod_zero (n : Int) (w : World) : Calls Try.prog 84 #[.int .i64 n, .int .i64 0] w fun e w' => e = .returned (.int .i64 0) ∧ w = w' := by
  go_enter Try.func84, Try.ntmps84
  go_wp2
  go_ret
  exact ⟨rfl, rfl⟩
set_option maxRecDepth 100000 in
theorem mod_any (n m : Int) (hn : I64 n) (h1 : 1 ≤ m) (h2 : m ≤ 10000) (w : World) : Calls Try.prog 84 #[.int .i64 n, .int .i64 m] w fun e w' => e = .returned (.int .i64 (n % m)) ∧ w = w' := by
  obtain ⟨n1, n2⟩ := hn
  by_cases h0 : 0 ≤ n
  · have g1 := Int.emod_nonneg n (by omega : m ≠ 0)
    have g2 := Int.emod_lt_of_pos n (by omega : 0 < m)
    go_enter Try.func84, Try.ntmps84
    go_wp2
    go_ret
    exact ⟨ret_int (by first | rfl | rw [Int.add_emod_right, Int.emod_emod]), rfl⟩
  · obtain ⟨g1, g2⟩ := tmod_neg h1 h0
    have G := hid (tmod_add h1 h0)
    go_enter Try.func84, Try.ntmps84
    go_wp2
    go_ret
    exact ⟨ret_int (by have := G.out; rw [Int.add_emod_right] at this; first | exact this | exact G.out), rfl⟩

theorem ok_pos {r c : Int} (h : Ok r c) : 1 ≤ r * c ∧ r * c ≤ 3564 := ⟨by have := Int.mul_le_mul h.r1 h.c1 (by omega) (by have := h.r1; omega); omega, h.m⟩
theorem i64_small {n : Int} (h1 : -1000000 ≤ n) (h2 : n ≤ 1000000) : I64 n := ⟨by omega, by omega⟩
theorem i64_mod (n : Int) {m : Int} (h1 : 1 ≤ m) (h2 : m ≤ 10000) : I64 (n % m) := by
  have := Int.emod_nonneg n (by omega : m ≠ 0)
  have := Int.emod_lt_of_pos n (by omega : 0 < m)
  exact ⟨by omega, by omega⟩

set_option maxRecDepth 100000 in
theorem wrap_ok (r c n : Int) (h : Ok r c) (hn : I64 n) (w : World) : Calls Try.prog 70 #[.agg #[.int .i64 r, .int .i64 c], .int .i64 n] w fun e w' => e = .returned (.int .i64 (n % (r * c))) ∧ Below w.heap.size w w' := by
  have HV := hid (cells_ok r c h)
  have hp := ok_pos h
  have HR := hid (rem_any n (r * c) hn hp.1 (by omega))
  clear hp h hn
  go_enter Try.func70, Try.ntmps70
  go_wp2_with fail
  with_reducible refine (HV.out _).mono ?_
  rintro e w1 ⟨rfl, hb⟩
  have HB := hid hb
  clear hb
  go_wp2_with fail
  with_reducible refine (HR.out _).mono ?_
  rintro e w2 ⟨rfl, rfl⟩
  go_wp2
  go_ret
  exact ⟨rfl, ((Below.refl _ _).alloc (Nat.le_refl _) _).trans (HB.out.mono (by simp))⟩
set_option maxRecDepth 100000 in
theorem wrap_no (r c n : Int) (h : vB r c = false) (w : World) : Calls Try.prog 70 #[.agg #[.int .i64 r, .int .i64 c], .int .i64 n] w fun e w' => e = .returned (.int .i64 0) ∧ Below w.heap.size w w' := by
  have HV := hid (cells_no r c h)
  clear h
  go_enter Try.func70, Try.ntmps70
  go_wp2_with fail
  with_reducible refine (HV.out _).mono ?_
  rintro e w1 ⟨rfl, hb⟩
  have HB := hid hb
  clear hb
  go_wp2_with fail
  with_reducible refine (rem_zero _ _).mono ?_
  rintro e w2 ⟨rfl, rfl⟩
  go_wp2
  go_ret
  exact ⟨rfl, ((Below.refl _ _).alloc (Nat.le_refl _) _).trans (HB.out.mono (by simp))⟩

set_option maxRecDepth 100000 in
theorem rwrap_ok (r c n : Int) (h : Ok r c) (hn : I64 n) (w : World) : Calls Try.prog 78 #[.agg #[.int .i64 r, .int .i64 c], .int .i64 n] w fun e w' => e = .returned (.int .i64 (n % (r * c))) ∧ Below w.heap.size w w' := by
  have HV := hid (rcells_ok r c h)
  have hp := ok_pos h
  have HR := hid (mod_any n (r * c) hn hp.1 (by omega))
  clear hp h hn
  go_enter Try.func78, Try.ntmps78
  go_wp2_with fail
  with_reducible refine (HV.out _).mono ?_
  rintro e w1 ⟨rfl, hb⟩
  have HB := hid hb
  clear hb
  go_wp2_with fail
  with_reducible refine (HR.out _).mono ?_
  rintro e w2 ⟨rfl, rfl⟩
  go_wp2
  go_ret
  exact ⟨rfl, ((Below.refl _ _).alloc (Nat.le_refl _) _).trans (HB.out.mono (by simp))⟩
set_option maxRecDepth 100000 in
theorem rwrap_no (r c n : Int) (h : vB r c = false) (w : World) : Calls Try.prog 78 #[.agg #[.int .i64 r, .int .i64 c], .int .i64 n] w fun e w' => e = .returned (.int .i64 0) ∧ Below w.heap.size w w' := by
  have HV := hid (rcells_no r c h)
  clear h
  go_enter Try.func78, Try.ntmps78
  go_wp2_with fail
  with_reducible refine (HV.out _).mono ?_
  rintro e w1 ⟨rfl, hb⟩
  have HB := hid hb
  clear hb
  go_wp2_with fail
  with_reducible refine (mod_zero _ _).mono ?_
  rintro e w2 ⟨rfl, rfl⟩
  go_wp2
  go_ret
  exact ⟨rfl, ((Below.refl _ _).alloc (Nat.le_refl _) _).trans (HB.out.mono (by simp))⟩


end Go.Proofs.Ytdaainifnbbhiaa
