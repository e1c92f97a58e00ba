/-
  A nil page, whatever it is asked; is there such a page; two rows of numbers, alike.
-/
import Derived.Test.YtadoiplfglaonaaDoorUppersw
import Derived.Test.YtadoiplfglaonaaDoorCommonw
namespace Go.Proofs.YtadoiplfglaonaaDoor
open Go.RowKit Go.Lib Go.Shelf

theorem nil_number (w : World) : Calls Tryd.prog 20 #[.pointer none] w fun e w' => e = .returned (.int .i64 0) ∧ w = w' := by
  go_enter Tryd.func20, Tryd.ntmps20
  go_wp2
  go_ret
  exact ⟨rfl, rfl⟩
theorem nil_sign (c : Int) (w : World) : Calls Tryd.prog 17 #[.pointer none, .int .u8 c] w fun e w' => e = .returned (.int .i32 0) ∧ w = w' := by
  go_enter Tryd.func17, Tryd.ntmps17
  go_wp2
  go_ret
  exact ⟨rfl, rfl⟩
theorem nil_code (s : Int) (w : World) : Calls Tryd.prog 18 #[.pointer none, .int .i32 s] w fun e w' => e = .returned (.tuple #[.int .u8 0, .bool false]) ∧ w = w' := by
  go_enter Tryd.func18, Tryd.ntmps18
  go_wp2
  go_ret2
  exact ⟨rfl, rfl⟩
theorem nil_codes (s : ByteArray) (w : World) : Calls Tryd.prog 25 #[.pointer none, .string s] w fun e w' => e = .returned (.tuple #[.slice none 0 0, .int .i64 0, .int .i64 5]) ∧ w = w' := by
  go_enter Tryd.func25, Tryd.ntmps25
  go_wp2
  go_ret3
  exact ⟨rfl, rfl⟩
theorem nil_text (a : Option Addr) (l c : Nat) (w : World) : Calls Tryd.prog 24 #[.pointer none, .slice a l c] w fun e w' => e = .returned (.string ByteArray.empty) ∧ w = w' := by
  go_enter Tryd.func24, Tryd.ntmps24
  go_wp2
  go_ret
  exact ⟨rfl, rfl⟩
theorem nil_upper (c : Int) (w : World) : Calls Tryd.prog 29 #[.pointer none, .int .u8 c] w fun e w' => e = .returned (.int .u8 c) ∧ w = w' := by
  go_enter Tryd.func29, Tryd.ntmps29
  go_wp2_with fail
  refine (nil_sign c _).mono ?_
  rintro e w' ⟨rfl, rfl⟩
  go_wp2_with fail
  refine (lower_any 0 _).mono ?_
  rintro e w' ⟨rfl, rfl⟩
  have h : lowerB 0 = false := by decide
  go_wp2
  go_ret
  exact ⟨rfl, rfl⟩

theorem others_none (n : Int) (hn : n ∉ pagesL) (w : World) : Calls Tryd.prog 57 #[.int .i64 n] w fun e w' => e = .returned (.tuple #[.string ByteArray.empty, .bool false]) ∧ w = w' := by
  simp only [pagesL, List.mem_cons, List.not_mem_nil, or_false, not_or] at hn
  obtain ⟨n0, n1, n2, n3, n4, n5⟩ := hn
  have q0 : (n == 37) = false := by simpa using n0
  have q1 : (n == 273) = false := by simpa using n1
  have q2 : (n == 297) = false := by simpa using n2
  have q3 : (n == 500) = false := by simpa using n3
  have q4 : (n == 1047) = false := by simpa using n4
  have q5 : (n == 1140) = false := by simpa using n5
  clear n0 n1 n2 n3 n4 n5
  go_enter Tryd.func57, Tryd.ntmps57
  go_wp2
  go_ret2
  exact ⟨rfl, rfl⟩
theorem is_any (n : Int) (w : World) : Calls Tryd.prog 37 #[.int .i64 n] w fun e w' => e = .returned (.bool (decide (n ∈ pagesL))) ∧ w = w' := by
  by_cases hn : n ∈ pagesL
  · have e : decide (n ∈ pagesL) = true := decide_eq_true hn
    have HO := hid (others_any n hn w)
    rw [e]
    clear e hn
    go_enter Tryd.func37, Tryd.ntmps37
    go_wp2_with fail
    with_reducible refine HO.out.mono ?_
    rintro e w' ⟨rfl, rfl⟩
    go_wp2
    go_ret
    exact ⟨rfl, rfl⟩
  · have e : decide (n ∈ pagesL) = false := decide_eq_false hn
    have HO := hid (others_none n hn w)
    rw [e]
    clear e hn
    go_enter Tryd.func37, Tryd.ntmps37
    go_wp2_with fail
    with_reducible refine HO.out.mono ?_
    rintro e w' ⟨rfl, rfl⟩
    go_wp2
    go_ret
    exact ⟨rfl, rfl⟩

set_option maxRecDepth 100000 in
theorem equal_same (g1 g2 n c1 c2 : Nat) (L : List Int) (hn : n ≤ L.length) (h62 : n ≤ 4611686018427387904) (w : World) (h1 : ∀ i, i < n → w.cell? ⟨g1, i, none⟩ = some (.int .i64 (L.getD i 0))) (h2 : ∀ i, i < n → w.cell? ⟨g2, i, none⟩ = some (.int .i64 (L.getD i 0))) :
    Calls Tryd.prog 38 #[.slice (some ⟨g1, 0, none⟩) n c1, .slice (some ⟨g2, 0, none⟩) n c2] w fun e w' => e = .returned (.bool true) ∧ Below w.heap.size w w' := by
  have H1 := hid h1
  have H2 := hid h2
  clear h1 h2
  go_enter Tryd.func38, Tryd.ntmps38
  go_wp2
  go_loopw [13] (fun i wr => ∃ k : Nat, k ≤ n ∧ i = .int .i64 k ∧ Hid (∀ a, wr.cell? a = w.cell? a) ∧ Hid (Below w.heap.size w wr)) (fun i _ => n - (intOf i).toNat)
  case atStart => exact ⟨0, by omega, rfl, fun _ => rfl, Below.refl _ _⟩
  case round =>
    obtain ⟨k, hk, rfl, HC, HB⟩ := hrel
    by_cases hlt : k < n
    · have e1 := (HC.out _).trans (H1.out k hlt)
      have e2 := (HC.out _).trans (H2.out k hlt)
      obtain ⟨x, hx⟩ : ∃ x, x = L.getD k 0 := ⟨_, rfl⟩
      rw [← hx] at e1 e2
      clear hx
      go_wp2_with fail
      go_quiet (fail)
      go_wp2
      go_roundw
      case rel => exact ⟨k + 1, by omega, by go_num, HC, ⟨HB.out.os, HB.out.tape, HB.out.output, HB.out.size, HB.out.block⟩⟩
      case measure => simp [intOf]; omega
    · obtain rfl : k = n := by omega
      go_wp2
      go_ret
      exact ⟨rfl, HB.out⟩
end Go.Proofs.YtadoiplfglaonaaDoor
