/-
  Field attributes: their bits, their byte, and back; the program's and the reference's.
-/
import Derived.Test.YtpnfdmfmdacjmaaSix
namespace Go.Proofs.Ytpnfdmfmdacjmaa
open Go.RowKit Go.Lib

/-- A bool's number. -/
def b2i (b : Bool) : Int := if b then 1 else 0
/-- A field's bits. -/
def bitsZ (p n : Bool) (d : Int) (m : Bool) : Int := 32 * b2i p + 16 * b2i n + 4 * d + b2i m
/-- A field as a value. -/
abbrev fieldV (p n : Bool) (d : Int) (m : Bool) : Value := .agg #[.bool p, .bool n, .int .i64 d, .bool m]
theorem bitsZ_bd (p n m : Bool) (d : Int) (h0 : 0 ≤ d) (h3 : d ≤ 3) : 0 ≤ bitsZ p n d m ∧ bitsZ p n d m < 64 := by
  cases p <;> cases n <;> cases m <;> simp [bitsZ, b2i] <;> omega
set_option maxRecDepth 100000 in
set_option maxHeartbeats 1000000 in
theorem bits_ok (p n m : Bool) (d : Int) (h0 : 0 ≤ d) (h3 : d ≤ 3) (w : World) : Calls Try.prog 47 #[fieldV p n d m] w fun e w' => e = .returned (.tuple #[.int .u8 (bitsZ p n d m), .int .i64 0]) ∧ Below w.heap.size w w' := by
  have h : d = 0 ∨ d = 1 ∨ d = 2 ∨ d = 3 := by omega
  clear h0 h3
  rcases h with rfl | rfl | rfl | rfl <;> cases p <;> cases n <;> cases m <;> (
    go_enter Try.func47, Try.ntmps47
    go_wp2
    go_ret2
    exact ⟨rfl, (Below.refl _ _).alloc (Nat.le_refl _) _⟩)
set_option maxRecDepth 100000 in
set_option maxHeartbeats 1000000 in
theorem bits_no (p n m : Bool) (d : Int) (h : d < 0 ∨ 3 < d) (w : World) : Calls Try.prog 47 #[fieldV p n d m] w fun e w' => e = .returned (.tuple #[.int .u8 0, .int .i64 1]) ∧ Below w.heap.size w w' := by
  by_cases h0 : d < 0
  · clear h
    go_enter Try.func47, Try.ntmps47
    go_wp2
    go_ret2
    exact ⟨rfl, (Below.refl _ _).alloc (Nat.le_refl _) _⟩
  · have h3 : 3 < d := h.resolve_left h0
    clear h
    go_enter Try.func47, Try.ntmps47
    go_wp2
    go_ret2
    exact ⟨rfl, (Below.refl _ _).alloc (Nat.le_refl _) _⟩
set_option maxRecDepth 100000 in
set_option maxHeartbeats 1000000 in
theorem rbits_ok (p n m : Bool) (d : Int) (h0 : 0 ≤ d) (h3 : d ≤ 3) (w : World) : Calls Try.prog 48 #[fieldV p n d m] w fun e w' => e = .returned (.tuple #[.int .u8 (bitsZ p n d m), .int .i64 0]) ∧ Below w.heap.size w w' := by
  have h : d = 0 ∨ d = 1 ∨ d = 2 ∨ d = 3 := by omega
  clear h0 h3
  rcases h with rfl | rfl | rfl | rfl <;> cases p <;> cases n <;> cases m <;> (
    go_enter Try.func48, Try.ntmps48
    go_wp2
    go_ret2
    exact ⟨rfl, (Below.refl _ _).alloc (Nat.le_refl _) _⟩)
set_option maxRecDepth 100000 in
set_option maxHeartbeats 1000000 in
theorem rbits_no (p n m : Bool) (d : Int) (h : d < 0 ∨ 3 < d) (w : World) : Calls Try.prog 48 #[fieldV p n d m] w fun e w' => e = .returned (.tuple #[.int .u8 0, .int .i64 1]) ∧ Below w.heap.size w w' := by
  by_cases h0 : d < 0
  · clear h
    go_enter Try.func48, Try.ntmps48
    go_wp2
    go_ret2
    exact ⟨rfl, (Below.refl _ _).alloc (Nat.le_refl _) _⟩
  · have h3 : 3 < d := h.resolve_left h0
    clear h
    go_enter Try.func48, Try.ntmps48
    go_wp2
    go_ret2
    exact ⟨rfl, (Below.refl _ _).alloc (Nat.le_refl _) _⟩
set_option maxRecDepth 100000 in
set_option maxHeartbeats 1000000 in
theorem byte_ok (p n m : Bool) (d : Int) (h0 : 0 ≤ d) (h3 : d ≤ 3) (w : World) : Calls Try.prog 49 #[fieldV p n d m] w fun e w' => e = .returned (.tuple #[.int .u8 (sixZ (bitsZ p n d m).toNat), .int .i64 0]) ∧ Below w.heap.size w w' := by
  have HB := hid (bits_ok p n m d h0 h3)
  obtain ⟨b0, b1⟩ := bitsZ_bd p n m d h0 h3
  generalize bitsZ p n d m = B at HB b0 b1 ⊢
  have HS := hid (six_any B)
  rw [show (B % 64).toNat = B.toNat by rw [Int.emod_eq_of_lt b0 b1]] at HS
  clear h0 h3
  go_enter Try.func49, Try.ntmps49
  go_wp2_with fail
  with_reducible refine (HB.out _).mono ?_
  rintro e w1 ⟨rfl, hb1⟩
  have H1 := hid hb1
  clear hb1
  go_wp2_with fail
  with_reducible refine (HS.out _).mono ?_
  rintro e w2 ⟨rfl, rfl⟩
  go_wp2
  go_ret2
  exact ⟨rfl, ((Below.refl _ _).alloc (Nat.le_refl _) _).trans (H1.out.mono (by simp))⟩
set_option maxRecDepth 100000 in
set_option maxHeartbeats 1000000 in
theorem byte_no (p n m : Bool) (d : Int) (h : d < 0 ∨ 3 < d) (w : World) : Calls Try.prog 49 #[fieldV p n d m] w fun e w' => e = .returned (.tuple #[.int .u8 0, .int .i64 1]) ∧ Below w.heap.size w w' := by
  have HB := hid (bits_no p n m d h)
  clear h
  go_enter Try.func49, Try.ntmps49
  go_wp2_with fail
  with_reducible refine (HB.out _).mono ?_
  rintro e w1 ⟨rfl, hb1⟩
  have H1 := hid hb1
  clear hb1
  go_wp2
  go_ret2
  exact ⟨rfl, ((Below.refl _ _).alloc (Nat.le_refl _) _).trans (H1.out.mono (by simp))⟩
end Go.Proofs.Ytpnfdmfmdacjmaa
