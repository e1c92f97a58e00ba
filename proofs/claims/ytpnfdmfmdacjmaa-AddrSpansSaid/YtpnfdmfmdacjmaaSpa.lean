/-
  The places of a span, as a plain list.
-/
import Derived.Test.YtpnfdmfmdacjmaaSzd
namespace Go.Proofs.Ytpnfdmfmdacjmaa
open Go.RowKit Go.Lib

/-- The places from one on, so many of them. -/
def spanL (N a : Int) (k : Nat) : List Int := (List.range k).map fun (i : Nat) => (a + (i : Int)) % N
theorem spanL_len (N a : Int) (k : Nat) : (spanL N a k).length = k := by simp [spanL]
theorem spanL_succ (N a : Int) (k : Nat) : spanL N a (k + 1) = spanL N a k ++ [(a + (k : Int)) % N] := by simp [spanL, List.range_succ]
theorem spanL_one {N a : Int} (h0 : 0 ≤ a) (h1 : a < N) : spanL N a 1 = [a] := by
  simp [spanL, Int.emod_eq_of_lt h0 h1]
theorem spanL_take (N a : Int) (j k : Nat) (h : j ≤ k) : (spanL N a k).take j = spanL N a j := by
  simp [spanL, ← List.map_take, List.take_range, Nat.min_eq_left h]
theorem spanL_get (N a : Int) (k i : Nat) (h : i < k) : (spanL N a k)[i]? = some ((a + (i : Int)) % N) := by simp [spanL, h]
theorem spanL_bd {N a : Int} (hN : 1 ≤ N) {k : Nat} : ∀ x ∈ spanL N a k, 0 ≤ x ∧ x < N := by
  intro x hx
  simp only [spanL, List.mem_map, List.mem_range] at hx
  obtain ⟨i, _, rfl⟩ := hx
  exact mod_bd _ hN
/-- How many there are, of two places that are in. -/
def lenS (N a b : Int) : Int := if (b - a) % N = 0 then N else (b - a) % N
theorem lenS_eq (r c p q : Int) : lenZ r c p q = lenS (r * c) (p % (r * c)) (q % (r * c)) := rfl
theorem lenS_bd {N a b : Int} (hN : 1 ≤ N) : 1 ≤ lenS N a b ∧ lenS N a b ≤ N := by
  unfold lenS
  obtain ⟨h0, h1⟩ := mod_bd (b - a) hN
  split <;> omega
theorem sub_mod {N a b : Int} (a0 : 0 ≤ a) (a1 : a < N) (b0 : 0 ≤ b) (b1 : b < N) : (b - a) % N = if a ≤ b then b - a else b - a + N := by
  split
  · exact Int.emod_eq_of_lt (by omega) (by omega)
  · have : (b - a + N) % N = (b - a) % N := by rw [Int.add_emod_right]
    rw [← this]
    exact Int.emod_eq_of_lt (by omega) (by omega)
theorem add_mod {N a k : Int} (a0 : 0 ≤ a) (a1 : a < N) (k0 : 0 ≤ k) (k1 : k ≤ N) : (a + k) % N = if a + k < N then a + k else a + k - N := by
  split
  · exact Int.emod_eq_of_lt (by omega) (by omega)
  · have : (a + k - N) % N = (a + k) % N := by rw [Int.sub_emod_right]
    rw [← this]
    exact Int.emod_eq_of_lt (by omega) (by omega)
/-- The reference goes on where it isn't through. -/
theorem span_more {N a b k : Int} (a0 : 0 ≤ a) (a1 : a < N) (b0 : 0 ≤ b) (b1 : b < N) (k1 : 1 ≤ k) (hk : k < lenS N a b) : ¬ (a + k) % N = b ∧ ¬ (a + k) % N = a := by
  have hN : 1 ≤ N := by omega
  have hl := lenS_bd (a := a) (b := b) hN
  unfold lenS at hk hl
  rw [sub_mod a0 a1 b0 b1] at hk hl
  rw [add_mod a0 a1 (by omega) (by omega)]
  constructor <;> intro h <;> split at h <;> split at hk <;> split at hl <;> (try split at hk) <;> (try split at hl) <;> omega
theorem span_end {N a b k : Int} (a0 : 0 ≤ a) (a1 : a < N) (b0 : 0 ≤ b) (b1 : b < N) (hk : k = lenS N a b) : (a + k) % N = b := by
  have hN : 1 ≤ N := by omega
  have hl := lenS_bd (a := a) (b := b) hN
  subst hk
  rw [add_mod a0 a1 (by omega) (by omega)]
  unfold lenS at hl ⊢
  rw [sub_mod a0 a1 b0 b1] at hl ⊢
  repeat' split
  all_goals omega
theorem span_next (N a k : Int) : ((a + k) % N + 1) % N = (a + (k + 1)) % N := by
  rw [Int.emod_add_emod, Int.add_assoc]

end Go.Proofs.Ytpnfdmfmdacjmaa
