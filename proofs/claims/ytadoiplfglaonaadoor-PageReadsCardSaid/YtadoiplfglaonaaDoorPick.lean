/-
  'pick' hands out a page, one of the six, and its number.
-/
import Derived.Test.YtadoiplfglaonaaDoorAwake
namespace Go.Proofs.YtadoiplfglaonaaDoor
open Go.RowKit Go.Lib Go.Shelf

/-- The number that is picked. -/
def picked (n : Nat) : Int := pagesL.getD (n % 6) 0
theorem picked_mem (n : Nat) : picked n ∈ pagesL := by
  unfold picked
  have h : n % 6 < pagesL.length := Nat.mod_lt _ (by decide)
  rw [List.getD, List.getElem?_eq_getElem h]
  simp
/-- A page is picked. -/
def Picked (num : Int) (w : World) (e : Ending) (w' : World) : Prop := ∃ b, e = .returned (.tuple #[.pointer (some ⟨b, 0, none⟩), .int .i64 num]) ∧ w.heap.size ≤ b ∧ Page w' b num ∧ Below w.heap.size w w'

theorem numbers39 (w : World) : Calls Tryd.prog 39 #[] w fun e w' => e = .returned (.slice (some ⟨w.heap.size, 0, none⟩) 6 6) ∧ w' = w.alloc (.cells #[.int .i64 37, .int .i64 273, .int .i64 297, .int .i64 500, .int .i64 1047, .int .i64 1140] 3) := by
  go_enter Tryd.func39, Tryd.ntmps39
  go_wp2
  go_ret
  exact ⟨rfl, rfl⟩

set_option maxRecDepth 100000 in
set_option maxHeartbeats 2000000 in
theorem pick_any (n : Nat) (hn : n < 256) (w : World) (hN : Numbers w) : Calls Tryd.prog 16 #[.int .u8 n] w (Picked (picked n) w) := by
  have HN := hid hN
  clear hN
  have h6 : n % 6 < 6 := Nat.mod_lt _ (by decide)
  have hc : (w.alloc (.cells #[.int .i64 37, .int .i64 273, .int .i64 297, .int .i64 500, .int .i64 1047, .int .i64 1140] 3)).cell? ⟨w.heap.size, n % 6, none⟩ = some (.int .i64 (picked n)) := by
    have h : n % 6 = 0 ∨ n % 6 = 1 ∨ n % 6 = 2 ∨ n % 6 = 3 ∨ n % 6 = 4 ∨ n % 6 = 5 := by omega
    unfold picked
    rcases h with h | h | h | h | h | h <;> rw [h] <;> simp [go_sem, pagesL]
  have HK := hid (picked_mem n)
  obtain ⟨k, hk⟩ : ∃ k, k = picked n := ⟨_, rfl⟩
  rw [← hk] at hc HK ⊢
  clear hk
  go_enter Tryd.func16, Tryd.ntmps16
  go_wp2_with fail
  refine (numbers39 _).mono ?_
  rintro e w1 ⟨rfl, rfl⟩
  go_wp2_with fail
  have hB0 : Below w.heap.size w (w.alloc (.cells #[.int .i64 37, .int .i64 273, .int .i64 297, .int .i64 500, .int .i64 1047, .int .i64 1140] 3)) := (Below.refl _ _).alloc (Nat.le_refl _) _
  refine (new_page k HK.out _ (HN.out.below HN.out.1 hB0)).mono ?_
  rintro e w1 ⟨b, rfl, hb, hP, hB⟩
  have fin : Picked k w (.returned (.tuple #[.pointer (some ⟨b, 0, none⟩), .int .i64 k])) w1 := ⟨b, rfl, by simp at hb; omega, hP, hB0.trans (hB.mono (by simp))⟩
  have FIN := hid fin
  clear fin hP hB hB0 hb
  go_wp2
  go_ret2
  exact FIN.out

/-- The code of a sign, and whether there is one. -/
def codeOf (num s : Int) : Nat × Bool := match (signsL num).findIdx? (· == s) with | some i => (i, true) | none => (0, false)
theorem code_any (b : Nat) (num s : Int) (w : World) (hP : Page w b num) (hw : (Lit.int .i32 s).wf = true) :
    Calls Tryd.prog 18 #[.pointer (some ⟨b, 0, none⟩), .int .i32 s] w (PageDone (.tuple #[.int .u8 ((codeOf num s).1 : Nat), .bool (codeOf num s).2]) b num w) := by
  unfold codeOf
  cases h : (signsL num).findIdx? (· == s) with
  | none =>
    have hs : s ∉ signsL num := fun hm => by
      have := List.findIdx?_eq_none_iff.1 h s hm
      simp at this
    exact code_none b num s w hP hw hs
  | some i =>
    obtain ⟨hi, he, _⟩ := List.findIdx?_eq_some_iff_getElem.1 h
    have hl : (signsL num).length = 256 := signsAt_length _ _
    exact code_found b num s i (by omega) w hP (by rw [List.getD, List.getElem?_eq_getElem hi]; simpa using he)

/-- Is a sign common to all pages? -/
def common (s : Nat) : Bool := s == 32 || (decide (48 ≤ s) && decide (s ≤ 57)) || (decide (65 ≤ s) && decide (s ≤ 90)) || (decide (97 ≤ s) && decide (s ≤ 122))
theorem common_codes : ∀ num ∈ pagesL, ∀ s, s < 123 → common s = true → codeOf num s = ((codeOf 37 s).1, true) := by decide +kernel
end Go.Proofs.YtadoiplfglaonaaDoor
