/-
  The AIDs of a short read.
-/
import Derived.Test.YtlhaefgchmakfaaQc
import Derived.Lib.Bytealg
namespace Go.Proofs.Ytlhaefgchmakfaa
open Go.RowKit Go.Lib Go.Deep

def idS : List UInt8 := [108, 110, 107]
set_option maxRecDepth 100000 in
theorem lib_idx (c : Int) (w : World) : Calls Try.prog 95 #[.string ⟨#[108, 110, 107]⟩, .int .u8 c] w fun e w' => e = .returned (.int .i64 (Go.Lib.indexByte idS c.toNat.toUInt8)) ∧ w = w' := by
  go_enter Try.func95, Try.ntmps95
  go_wp2
  rw [run_callFunc_extern Try.func114 (by kernel_rfl) (by kernel_rfl) (by kernel_rfl) (e := Extern.BytealgIndexByte.indexByte) (by kernel_rfl), Go.Lib.run_indexByteString]
  simp only [Result.andThen]
  rw [Oper.upon_value]
  go_wp2
  go_ret
  exact ⟨rfl, rfl⟩
set_option maxRecDepth 100000 in
theorem str_idx (c : Int) (w : World) : Calls Try.prog 69 #[.string ⟨#[108, 110, 107]⟩, .int .u8 c] w fun e w' => e = .returned (.int .i64 (Go.Lib.indexByte idS c.toNat.toUInt8)) ∧ w = w' := by
  have HC := hid (lib_idx c)
  go_enter Try.func69, Try.ntmps69
  go_wp2_with fail
  with_reducible refine (HC.out _).mono ?_
  rintro e w1 ⟨rfl, rfl⟩
  go_wp2_with fail
  go_ret
  exact ⟨rfl, rfl⟩
theorem idS_fin : ∀ n : Fin 256, decide (0 ≤ Go.Lib.indexByte idS n.val.toUInt8) = (n.val == 108 || n.val == 110 || n.val == 107) := by decide +kernel
theorem idS_ge (a : Int) (h : U8 a) : decide (0 ≤ Go.Lib.indexByte idS a.toNat.toUInt8) = (a == 108 || a == 110 || a == 107) := by
  obtain ⟨n, rfl⟩ : ∃ n : Nat, a = n := ⟨a.toNat, (Int.toNat_of_nonneg h.1).symm⟩
  have h2 : n < 256 := by have := h.2; omega
  have := idS_fin ⟨n, h2⟩
  rw [Int.toNat_natCast, this]
  rw [Bool.eq_iff_iff]
  simp
  omega
set_option maxRecDepth 100000 in
theorem short_any (a : Int) (w : World) (ha : U8 a) : Calls Try.prog 39 #[.int .u8 a] w fun e w' => e = .returned (.bool (shZ a)) ∧ w = w' := by
  have HC := hid (str_idx a)
  by_cases h1 : a = 109
  · subst h1
    go_enter Try.func39, Try.ntmps39
    go_wp2_with fail
    go_ret
    exact ⟨rfl, rfl⟩
  · have e1 : (a == 109) = false := by simpa using h1
    have hE : shZ a = decide (0 ≤ Go.Lib.indexByte idS a.toNat.toUInt8) := by rw [idS_ge a ha]; unfold shZ; rw [e1]; rfl
    rw [hE]
    clear hE h1
    generalize Go.Lib.indexByte idS a.toNat.toUInt8 = z at HC ⊢
    go_enter Try.func39, Try.ntmps39
    go_wp2_with fail
    with_reducible refine (HC.out _).mono ?_
    rintro e w1 ⟨rfl, rfl⟩
    go_wp2_with fail
    go_ret
    exact ⟨rfl, rfl⟩
end Go.Proofs.Ytlhaefgchmakfaa
