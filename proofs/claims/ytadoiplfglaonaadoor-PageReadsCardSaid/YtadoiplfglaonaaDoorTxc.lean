/-
  A rune's bytes, said by the program and by Go's own conversion, and read again.
-/
import Derived.Test.YtadoiplfglaonaaDoorTxb
import Derived.Lib.TrimUEq
import Derived.Lib.MapLaws
import Derived.Lib.TrimAscii
import Derived.Laws.Runes
namespace Go.Proofs.YtadoiplfglaonaaDoor
open Go.RowKit Go.Lib Go.Shelf

/-- A sign that is a rune of its own. -/
def Plain (r : Nat) : Prop := r < 55296 ∨ (57343 < r ∧ r ≤ 65535)
instance (r : Nat) : Decidable (Plain r) := inferInstanceAs (Decidable (_ ∨ _))
theorem signs_plain : ∀ n ∈ pagesL, ∀ s ∈ signsL n, Plain s.toNat ∧ s ≠ 65533 ∧ s = (s.toNat : Int) := by decide +kernel
theorem u8_nat {n : Nat} (h : n < 256) : (n.toUInt8).toNat = n := by simp [Nat.toUInt8, UInt8.toNat_ofNat']; omega
theorem enc_cases {r : Nat} (h : Plain r) : (r < 128 ∧ encodeRune r = [r.toUInt8]) ∨ (128 ≤ r ∧ r ≤ 2047 ∧ encodeRune r = [(192 + r / 64).toUInt8, (128 + r % 64).toUInt8]) ∨ (2048 ≤ r ∧ r ≤ 65535 ∧ (r < 55296 ∨ 57343 < r) ∧ encodeRune r = [(224 + r / 4096).toUInt8, (128 + r / 64 % 64).toUInt8, (128 + r % 64).toUInt8]) := by
  unfold Plain at h
  by_cases h1 : r < 128
  · refine .inl ⟨h1, ?_⟩
    rw [encodeRune, encodeRuneZ_one (by omega) (by omega)]
    rfl
  · by_cases h2 : r ≤ 2047
    · refine .inr (.inl ⟨by omega, h2, ?_⟩)
      rw [encodeRune, encodeRuneZ_two (by omega) (by omega)]
      simp only [List.map_cons, List.map_nil]
      rw [show ((192 : Int) + (r : Int) / 64).toNat = 192 + r / 64 by omega, show ((128 : Int) + (r : Int) % 64).toNat = 128 + r % 64 by omega]
    · refine .inr (.inr ⟨by omega, by omega, by omega, ?_⟩)
      rw [encodeRune, encodeRuneZ_three (by omega)]
      simp only [List.map_cons, List.map_nil]
      rw [show ((224 : Int) + (r : Int) / 4096).toNat = 224 + r / 4096 by omega, show ((128 : Int) + (r : Int) / 64 % 64).toNat = 128 + r / 64 % 64 by omega, show ((128 : Int) + (r : Int) % 64).toNat = 128 + r % 64 by omega]
theorem utf_enc {r : Nat} (h : Plain r) : Utf8.encode (r : Int) = ⟨(encodeRune r).toArray⟩ := by
  have hv : Utf8.valid (r : Int) = true := by
    unfold Plain at h
    simp [Utf8.valid]
    omega
  rcases enc_cases h with ⟨h1, e⟩ | ⟨h1, h2, e⟩ | ⟨h1, h2, h3, e⟩
  · rw [e]
    simp only [Utf8.encode, hv, if_true, Int.toNat_natCast]
    rw [if_pos (by omega)]
  · rw [e]
    simp only [Utf8.encode, hv, if_true, Int.toNat_natCast]
    rw [if_neg (by omega), if_pos (by omega)]
  · rw [e]
    simp only [Utf8.encode, hv, if_true, Int.toNat_natCast]
    rw [if_neg (by omega), if_neg (by omega), if_pos (by omega)]
theorem dec_enc {r : Nat} (h : Plain r) (t : List UInt8) : decodeL (encodeRune r ++ t) = (r, (encodeRune r).length) := by
  rcases enc_cases h with ⟨h1, e⟩ | ⟨h1, h2, e⟩ | ⟨h1, h2, h3, e⟩
  · rw [e]
    show decodeL (r.toUInt8 :: t) = _
    rw [decodeL_ascii _ _ (by rw [u8_nat (by omega)]; exact h1), u8_nat (by omega)]
    rfl
  · rw [e, decodeL_N]
    have b0 : (192 + r / 64).toUInt8.toNat = 192 + r / 64 := u8_nat (by omega)
    have b1 : (128 + r % 64).toUInt8.toNat = 128 + r % 64 := u8_nat (by omega)
    have e2 : (192 + r / 64) % 32 * 64 + (128 + r % 64) % 64 = r := by omega
    simp only [List.cons_append, List.nil_append, List.getD_cons_zero, List.getD_cons_succ, List.length_cons, b0, b1, decodeN]
    rw [if_neg (by omega), if_pos ⟨by omega, by omega, by omega⟩, if_pos (by omega), e2]
    rfl
  · rw [e, decodeL_N]
    have b0 : (224 + r / 4096).toUInt8.toNat = 224 + r / 4096 := u8_nat (by omega)
    have b1 : (128 + r / 64 % 64).toUInt8.toNat = 128 + r / 64 % 64 := u8_nat (by omega)
    have b2 : (128 + r % 64).toUInt8.toNat = 128 + r % 64 := u8_nat (by omega)
    have e2 : (224 + r / 4096) % 16 * 4096 + (128 + r / 64 % 64) % 64 * 64 + (128 + r % 64) % 64 = r := by omega
    simp only [List.cons_append, List.nil_append, List.getD_cons_zero, List.getD_cons_succ, List.length_cons, b0, b1, b2, decodeN]
    rw [if_neg (by omega), if_neg (by omega), if_pos ⟨by omega, ⟨by omega, by omega⟩, by omega, by omega⟩, e2, if_pos (by omega)]
    rfl
/-- Reading on at a place. -/
theorem dec_at {r : Nat} (h : Plain r) (a t : List UInt8) : Utf8.decode ⟨(a ++ (encodeRune r ++ t)).toArray⟩ a.length = (r, (encodeRune r).length) := by
  rw [← decodeL_drop]
  show decodeL ((a ++ (encodeRune r ++ t)).drop a.length) = _
  rw [List.drop_left]
  exact dec_enc h t
theorem enc_pos {r : Nat} (h : Plain r) : 1 ≤ (encodeRune r).length := by
  rcases enc_cases h with ⟨h1, e⟩ | ⟨h1, h2, e⟩ | ⟨h1, h2, h3, e⟩ <;> rw [e] <;> simp
end Go.Proofs.YtadoiplfglaonaaDoor
