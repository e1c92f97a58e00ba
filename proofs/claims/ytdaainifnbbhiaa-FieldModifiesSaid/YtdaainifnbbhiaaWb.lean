/-
  Field attributes: their bits, their byte, and back; the program's and the reference's.
-/
import Derived.Test.YtdaainifnbbhiaaWa
namespace Go.Proofs.Ytdaainifnbbhiaa
open Go.RowKit Go.Lib

/-- A bool's number. -/
def b2i (b : Bool) : Int := if b then 1 else 0
/-- A field's bits. -/
def bitsZ (p n : Bool) (d : Int) (m : Bool) : Int := 32 * b2i p + 16 * b2i n + 4 * d + b2i m
/-- A field as a value. -/
abbrev fieldV (p n : Bool) (d : Int) (m : Bool) : Value := .agg #[.bool p, .bool n, .int .i64 d, .bool m]
theorem bitsZ_bd (p n m : Bool) (d : Int) (h0 : 0 ≤ d) (h3 : d ≤ 3) : 0 ≤ bitsZ p n d m ∧ bitsZ p n d m < 64 := by
  cases p <;> cases n <;> cases m <;> simp [bitsZ, b2i] <;> omega
set_option maxRecDepth 100000 in
set_option maxHeartbeats 1000000 in
theorem bits_ok (p n m : Bool) (d : Int) (h0 : 0 ≤ d) (h3 : d ≤ 3) (w : World) : Calls Try.prog 98 #[fieldV p n d m] w fun e w' => e = .returned (.tuple #[.int .u8 (bitsZ p n d m), .int .i64 0]) ∧ Below w.heap.size w w' := by
  have h : d = 0 ∨ d = 1 ∨ d = 2 ∨ d = 3 := by omega
  clear h0 h3
  rcases h with rfl | rfl | rfl | rfl <;> cases p <;> cases n <;> cases m <;> (
    go_enter Try.func98, Try.ntmps98
    go_wp2
    go_ret2
    exact ⟨rfl, (Below.refl _ _).alloc (Nat.le_refl _) _⟩)
set_option maxRecDepth 100000 in
set_option maxHeartbeats 1000000 in
theorem bits_no (p n m : Bool) (d : Int) (h : d < 0 ∨ 3 < d) (w : World) : Calls Try.prog 98 #[fieldV p n d m] w fun e w' => e = .returned (.tuple #[.int .u8 0, .int .i64 1]) ∧ Below w.heap.size w w' := by
  by_cases h0 : d < 0
  · clear h
    go_enter Try.func98, Try.ntmps98
    go_wp2
    go_ret2
    exact ⟨rfl, (Below.refl _ _).alloc (Nat.le_refl _) _⟩
  · have h3 : 3 < d := h.resolve_left h0
    clear h
    go_enter Try.func98, Try.ntmps98
    go_wp2
    go_ret2
    exact ⟨rfl, (Below.refl _ _).alloc (Nat.le_refl _) _⟩
set_option maxRecDepth 100000 in
set_option maxHeartbeats 1000000 in
theorem rbits_ok (p n m : Bool) (d : Int) (h0 : 0 ≤ d) (h3 : d ≤ 3) (w : World) : Calls Try.prog 95 #[fieldV p n d m] w fun e w' => e = .returned (.tuple #[.int .u8 (bitsZ p n d m), .int .i64 0]) ∧ Below w.heap.size w w' := by
  have h : d = 0 ∨ d = 1 ∨ d = 2 ∨ d = 3 := by omega
  clear h0 h3
  rcases h with rfl | rfl | rfl | rfl <;> cases p <;> cases n <;> cases m <;> (
    go_enter Try.func95, Try.ntmps95
    go_wp2
    go_ret2
    exact ⟨rfl, (Below.refl _ _).alloc (Nat.le_refl _) _⟩)
set_option maxRecDepth 100000 in
set_option maxHeartbeats 1000000 in
theorem rbits_no (p n m : Bool) (d : Int) (h : d < 0 ∨ 3 < d) (w : World) : Calls Try.prog 95 #[fieldV p n d m] w fun e w' => e = .returned (.tuple #[.int .u8 0, .int .i64 1]) ∧ Below w.heap.size w w' := by
  by_cases h0 : d < 0
  · clear h
    go_enter Try.func95, Try.ntmps95
    go_wp2
    go_ret2
    exact ⟨rfl, (Below.refl _ _).alloc (Nat.le_refl _) _⟩
  · have h3 : 3 < d := h.resolve_left h0
    clear h
    go_enter Try.func95, Try.ntmps95
    go_wp2
    go_ret2
    exact ⟨rfl, (Below.refl _ _).alloc (Nat.le_refl _) _⟩

/-- What a byte's six bits say. -/
def ofP (b : Nat) : Bool := decide (32 ≤ b % 64)
def ofN (b : Nat) : Bool := b % 64 / 16 % 2 == 1
def ofD (b : Nat) : Int := ((b % 64 / 4 % 4 : Nat) : Int)
def ofM (b : Nat) : Bool := b % 64 % 2 == 1
theorem of_bits : ∀ b : Nat, b < 256 → (bits .and .u8 (b : Int) 32 != 0) = ofP b ∧ (bits .and .u8 (b : Int) 16 != 0) = ofN b ∧ bits .and .u8 (b : Int) 12 / 4 = ofD b ∧ (bits .and .u8 (b : Int) 1 != 0) = ofM b ∧ 0 ≤ bits .and .u8 (b : Int) 12 ∧ bits .and .u8 (b : Int) 12 < 256 := by decide +kernel
theorem of_ints : ∀ b : Nat, b < 256 → decide (32 ≤ (b : Int) % 64) = ofP b ∧ ((b : Int) % 64 / 16 % 2 == 1) = ofN b ∧ (b : Int) % 64 / 4 % 4 = ofD b ∧ ((b : Int) % 2 == 1) = ofM b := by decide +kernel
theorem ret_field {p n m p' n' m' : Bool} {d d' : Int} (h1 : p = p') (h2 : n = n') (h3 : d = d') (h4 : m = m') : Ending.returned (fieldV p n d m) = .returned (fieldV p' n' d' m') := by rw [h1, h2, h3, h4]
set_option maxRecDepth 100000 in
set_option maxHeartbeats 1000000 in
theorem of_any (b : Nat) (hb : b < 256) (w : World) : Calls Try.prog 96 #[.int .u8 b] w fun e w' => e = .returned (fieldV (ofP b) (ofN b) (ofD b) (ofM b)) ∧ Below w.heap.size w w' := by
  obtain ⟨e1, e2, e3, e4, e5, e6⟩ := of_bits b hb
  generalize ofP b = P at e1 ⊢
  generalize ofN b = N at e2 ⊢
  generalize ofD b = D at e3 ⊢
  generalize ofM b = M at e4 ⊢
  go_enter Try.func96, Try.ntmps96
  go_wp2
  exact bodyPost_ret (v := fieldV P N D M) (by simp [results, Try.results96, go_sem]) rfl ⟨rfl, (Below.refl _ _).alloc (Nat.le_refl _) _⟩
set_option maxRecDepth 100000 in
set_option maxHeartbeats 1000000 in
theorem rof_any (b : Nat) (hb : b < 256) (w : World) : Calls Try.prog 80 #[.int .u8 b] w fun e w' => e = .returned (fieldV (ofP b) (ofN b) (ofD b) (ofM b)) ∧ Below w.heap.size w w' := by
  have H := hid (of_ints b hb)
  go_enter Try.func80, Try.ntmps80
  go_wp2
  obtain ⟨e1, e2, e3, e4⟩ := H.out
  exact bodyPost_ret (v := fieldV (decide (32 ≤ (b : Int) % 64)) ((b : Int) % 64 / 16 % 2 == 1) ((b : Int) % 64 / 4 % 4) ((b : Int) % 2 == 1)) (by simp [results, Try.results80, go_sem]) rfl ⟨ret_field e1 e2 e3 e4, (Below.refl _ _).alloc (Nat.le_refl _) _⟩
theorem below_t {a b c : World} (h : Below a.heap.size a b) (k : Below b.heap.size b c) : Below a.heap.size a c := h.trans (k.mono h.size)
theorem keepc {w1 w2 : World} {a : Addr} {v : Value} (hb : Below w1.heap.size w1 w2) (h : w1.cell? a = some v) : w2.cell? a = some v := (hb.cell (World.block_lt_of_cell? w1 _ h)).trans h
end Go.Proofs.Ytdaainifnbbhiaa
