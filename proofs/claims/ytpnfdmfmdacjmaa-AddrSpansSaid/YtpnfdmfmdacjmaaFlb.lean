/-
  A byte's field; awake; and back again.
-/
import Derived.Test.YtpnfdmfmdacjmaaFla
namespace Go.Proofs.Ytpnfdmfmdacjmaa
open Go.RowKit Go.Lib

/-- What a byte's six bits say. -/
def ofP (b : Nat) : Bool := decide (32 ≤ b % 64)
def ofN (b : Nat) : Bool := b % 64 / 16 % 2 == 1
def ofD (b : Nat) : Int := ((b % 64 / 4 % 4 : Nat) : Int)
def ofM (b : Nat) : Bool := b % 64 % 2 == 1
theorem of_bits : ∀ b : Nat, b < 256 → (bits .and .u8 (b : Int) 32 != 0) = ofP b ∧ (bits .and .u8 (b : Int) 16 != 0) = ofN b ∧ bits .and .u8 (b : Int) 12 / 4 = ofD b ∧ (bits .and .u8 (b : Int) 1 != 0) = ofM b ∧ 0 ≤ bits .and .u8 (b : Int) 12 ∧ bits .and .u8 (b : Int) 12 < 256 := by decide +kernel
theorem of_ints : ∀ b : Nat, b < 256 → decide (32 ≤ (b : Int) % 64) = ofP b ∧ ((b : Int) % 64 / 16 % 2 == 1) = ofN b ∧ (b : Int) % 64 / 4 % 4 = ofD b ∧ ((b : Int) % 2 == 1) = ofM b := by decide +kernel
theorem ret_field {p n m p' n' m' : Bool} {d d' : Int} (h1 : p = p') (h2 : n = n') (h3 : d = d') (h4 : m = m') : Ending.returned (fieldV p n d m) = .returned (fieldV p' n' d' m') := by rw [h1, h2, h3, h4]
set_option maxRecDepth 100000 in
set_option maxHeartbeats 1000000 in
theorem of_any (b : Nat) (hb : b < 256) (w : World) : Calls Try.prog 50 #[.int .u8 b] w fun e w' => e = .returned (fieldV (ofP b) (ofN b) (ofD b) (ofM b)) ∧ Below w.heap.size w w' := by
  obtain ⟨e1, e2, e3, e4, e5, e6⟩ := of_bits b hb
  generalize ofP b = P at e1 ⊢
  generalize ofN b = N at e2 ⊢
  generalize ofD b = D at e3 ⊢
  generalize ofM b = M at e4 ⊢
  go_enter Try.func50, Try.ntmps50
  go_wp2
  exact bodyPost_ret (v := fieldV P N D M) (by simp [results, Try.results50, go_sem]) rfl ⟨rfl, (Below.refl _ _).alloc (Nat.le_refl _) _⟩
set_option maxRecDepth 100000 in
set_option maxHeartbeats 1000000 in
theorem rof_any (b : Nat) (hb : b < 256) (w : World) : Calls Try.prog 51 #[.int .u8 b] w fun e w' => e = .returned (fieldV (ofP b) (ofN b) (ofD b) (ofM b)) ∧ Below w.heap.size w w' := by
  have H := hid (of_ints b hb)
  go_enter Try.func51, Try.ntmps51
  go_wp2
  obtain ⟨e1, e2, e3, e4⟩ := H.out
  exact bodyPost_ret (v := fieldV (decide (32 ≤ (b : Int) % 64)) ((b : Int) % 64 / 16 % 2 == 1) ((b : Int) % 64 / 4 % 4) ((b : Int) % 2 == 1)) (by simp [results, Try.results51, go_sem]) rfl ⟨ret_field e1 e2 e3 e4, (Below.refl _ _).alloc (Nat.le_refl _) _⟩
/-- A field's byte says the field. -/
theorem of_six (p n m : Bool) (d : Int) (h0 : 0 ≤ d) (h3 : d ≤ 3) : ofP (sixZ (bitsZ p n d m).toNat).toNat = p ∧ ofN (sixZ (bitsZ p n d m).toNat).toNat = n ∧ ofD (sixZ (bitsZ p n d m).toNat).toNat = d ∧ ofM (sixZ (bitsZ p n d m).toNat).toNat = m := by
  have h : d = 0 ∨ d = 1 ∨ d = 2 ∨ d = 3 := by omega
  rcases h with rfl | rfl | rfl | rfl <;> cases p <;> cases n <;> cases m <;> decide +kernel
set_option maxRecDepth 100000 in
set_option maxHeartbeats 1000000 in
theorem skipped_any (p n m : Bool) (d : Int) (w : World) : Calls Try.prog 52 #[fieldV p n d m] w fun e w' => e = .returned (.bool (p && n)) ∧ Below w.heap.size w w' := by
  cases p <;> cases n <;> (
    go_enter Try.func52, Try.ntmps52
    go_wp2
    go_ret
    exact ⟨rfl, (Below.refl _ _).alloc (Nat.le_refl _) _⟩)
set_option maxRecDepth 100000 in
set_option maxHeartbeats 1000000 in
theorem hidden_any (p n m : Bool) (d : Int) (w : World) : Calls Try.prog 53 #[fieldV p n d m] w fun e w' => e = .returned (.bool (d == 3)) ∧ Below w.heap.size w w' := by
  go_enter Try.func53, Try.ntmps53
  go_wp2
  go_ret
  exact ⟨rfl, (Below.refl _ _).alloc (Nat.le_refl _) _⟩
set_option maxRecDepth 100000 in
set_option maxHeartbeats 1000000 in
theorem detectable_any (p n m : Bool) (d : Int) (w : World) : Calls Try.prog 54 #[fieldV p n d m] w fun e w' => e = .returned (.bool (d == 1 || d == 2)) ∧ Below w.heap.size w w' := by
  by_cases h1 : d = 1
  · subst h1
    go_enter Try.func54, Try.ntmps54
    go_wp2
    go_ret
    exact ⟨rfl, (Below.refl _ _).alloc (Nat.le_refl _) _⟩
  · have e1 : (d == 1) = false := by simpa using h1
    by_cases h2 : d = 2
    · subst h2
      clear h1 e1
      go_enter Try.func54, Try.ntmps54
      go_wp2
      go_ret
      exact ⟨rfl, (Below.refl _ _).alloc (Nat.le_refl _) _⟩
    · have e2 : (d == 2) = false := by simpa using h2
      rw [e1, e2]
      go_enter Try.func54, Try.ntmps54
      go_wp2
      go_ret
      exact ⟨rfl, (Below.refl _ _).alloc (Nat.le_refl _) _⟩
theorem below_t {a b c : World} (h : Below a.heap.size a b) (k : Below b.heap.size b c) : Below a.heap.size a c := h.trans (k.mono h.size)
theorem keepc {w1 w2 : World} {a : Addr} {v : Value} (hb : Below w1.heap.size w1 w2) (h : w1.cell? a = some v) : w2.cell? a = some v := (hb.cell (World.block_lt_of_cell? w1 _ h)).trans h
set_option maxRecDepth 100000 in
set_option maxHeartbeats 1000000 in
/-- awake, of layer 5. -/
theorem awake5_true (w : World) : Calls Try.prog 46 #[] w fun e w' => e = .returned (.bool true) ∧ Below w.heap.size w w' := by
  have HO := hid (show ∀ w, Calls Try.prog 50 #[.int .u8 228] w fun e w' => e = .returned (fieldV true false 1 false) ∧ Below w.heap.size w w' from of_any 228 (by decide))
  have HB := hid (byte_ok true false false 1 (by decide) (by decide))
  rw [show sixZ (bitsZ true false 1 false).toNat = 228 by decide +kernel] at HB
  go_enter Try.func46, Try.ntmps46
  go_wp2_with fail
  with_reducible refine (HO.out _).mono ?_
  rintro e w1 ⟨rfl, hb1⟩
  have H1 := hid hb1
  clear hb1
  go_wp2_with fail
  with_reducible refine (HB.out _).mono ?_
  rintro e w2 ⟨rfl, hb2⟩
  have c0 := keepc (a := ⟨w1.heap.size, 0, none⟩) (v := .bool true) hb2 (by simp [go_sem])
  have c2 := keepc (a := ⟨w1.heap.size, 2, none⟩) (v := .int .i64 1) hb2 (by simp [go_sem])
  have H2 := hid hb2
  clear hb2
  go_wp2
  go_ret
  refine ⟨rfl, ?_⟩
  have h1 := H1.out
  exact (h1.alloc h1.size _).trans (H2.out.mono (by have := h1.size; simp; omega))
end Go.Proofs.Ytpnfdmfmdacjmaa
