/-
  The small tests of package class: a digit, a letter, what is not seen; and the page that a nil one stands for.
-/
import Derived.Test.YtadoiplfglaonaaDoorSignsw
namespace Go.Proofs.YtadoiplfglaonaaDoor
open Go.RowKit Go.Lib Go.Shelf

def digitB (x : Int) : Bool := decide (48 ≤ x ∧ x ≤ 57)
def invisB (x : Int) : Bool := decide (x < 32 ∨ 127 ≤ x ∧ x ≤ 159 ∨ x = 173)
def letterB (x : Int) : Bool := decide (97 ≤ x ∧ x ≤ 122 ∨ 65 ≤ x ∧ x ≤ 90 ∨ 192 ≤ x ∧ x ≤ 255 ∧ x ≠ 215 ∧ x ≠ 247)

theorem digit_any (x : Int) (w : World) : Calls Tryd.prog 67 #[.int .i32 x] w fun e w' => e = .returned (.bool (digitB x)) ∧ w = w' := by
  by_cases h1 : 48 ≤ x
  · by_cases h2 : x ≤ 57
    · have e : digitB x = true := by simp [digitB]; omega
      rw [e]; clear e
      go_enter Tryd.func67, Tryd.ntmps67
      go_wp2
      go_ret
      exact ⟨by first | rfl | (simp; done) | (simp; omega), rfl⟩
    · have e : digitB x = false := by simp [digitB]; omega
      rw [e]; clear e
      go_enter Tryd.func67, Tryd.ntmps67
      go_wp2
      go_ret
      exact ⟨by first | rfl | (simp; done) | (simp; omega), rfl⟩
  · have e : digitB x = false := by simp [digitB]; omega
    rw [e]; clear e
    go_enter Tryd.func67, Tryd.ntmps67
    go_wp2
    go_ret
    exact ⟨by first | rfl | (simp; done) | (simp; omega), rfl⟩

theorem invis_any (x : Int) (w : World) : Calls Tryd.prog 68 #[.int .i32 x] w fun e w' => e = .returned (.bool (invisB x)) ∧ w = w' := by
  have hc : x < 32 ∨ (32 ≤ x ∧ x < 127) ∨ (127 ≤ x ∧ x ≤ 159) ∨ (160 ≤ x ∧ (x == 173) = true) ∨ (160 ≤ x ∧ (x == 173) = false) := by
    by_cases h : x = 173
    · simp [h]
    · simp [h]; omega
  rcases hc with h | ⟨h1, h2⟩ | ⟨h1, h2⟩ | ⟨h1, h2⟩ | ⟨h1, h2⟩
  · have e : invisB x = true := by simp [invisB]; omega
    rw [e]; clear e
    go_enter Tryd.func68, Tryd.ntmps68
    go_wp2
    go_ret
    exact ⟨by first | rfl | (simp; done) | (simp; omega), rfl⟩
  · have e : invisB x = false := by simp [invisB]; omega
    have h3 : (x == 173) = false := by simp; omega
    rw [e]; clear e
    go_enter Tryd.func68, Tryd.ntmps68
    go_wp2
    go_ret
    exact ⟨by first | rfl | (simp; done) | (simp; omega), rfl⟩
  · have e : invisB x = true := by simp [invisB]; omega
    have h3 : decide (x ≤ 159) = true := by simpa using h2
    rw [e]; clear e
    go_enter Tryd.func68, Tryd.ntmps68
    go_wp2
    go_ret
    exact ⟨by first | rfl | (simp; done) | (simp; omega), rfl⟩
  · have e : invisB x = true := by simp at h2; simp [invisB]; omega
    have h3 : decide (x ≤ 159) = false := by simp; omega
    rw [e]; clear e
    go_enter Tryd.func68, Tryd.ntmps68
    go_wp2
    go_ret
    exact ⟨by first | rfl | (simp; done) | (simp; omega), rfl⟩
  · have e : invisB x = false := by simp at h2; simp [invisB]; omega
    have h3 : decide (x ≤ 159) = false := by simp; omega
    rw [e]; clear e
    go_enter Tryd.func68, Tryd.ntmps68
    go_wp2
    go_ret
    exact ⟨by first | rfl | (simp; done) | (simp; omega), rfl⟩

/-- A page, or none: then page 37. -/
def PArg (B0 : Nat) (p : Option Addr) (num : Int) (w : World) : Prop := Numbers w ∧ 1 < B0 ∧ B0 ≤ w.heap.size ∧ ((p = none ∧ num = 37) ∨ ∃ b, p = some ⟨b, 0, none⟩ ∧ B0 ≤ b ∧ Page w b num)
/-- The page that stands for it. -/
def Known (B0 : Nat) (p : Option Addr) (num : Int) (b : Nat) (w : World) : Prop := PArg B0 p num w ∧ B0 ≤ b ∧ Page w b num ∧ (p = none ∨ p = some ⟨b, 0, none⟩)
theorem PArg.mem {B0 : Nat} {p : Option Addr} {num : Int} {w : World} (h : PArg B0 p num w) : num ∈ pagesL := by
  rcases h.2.2.2 with ⟨_, rfl⟩ | ⟨b, _, _, hP⟩
  · decide
  · exact hP.1
theorem Known.next {B0 : Nat} {p : Option Addr} {num : Int} {b : Nat} {w w' : World} (h : Known B0 p num b w) (hR : ∃ m, Ready w' b num m) (hB : But b w w') : Known B0 p num b w' ∧ Below B0 w w' := by
  obtain ⟨⟨hN, h1, hz, hp⟩, hb, hP, hpp⟩ := h
  have hB0 : Below B0 w w' := hB.to hb hz
  have hP' : Page w' b num := ⟨hP.1, .inr hR⟩
  refine ⟨⟨⟨hN.below h1 hB0, h1, Nat.le_trans hz hB0.size, ?_⟩, hb, hP', hpp⟩, hB0⟩
  rcases hpp with rfl | rfl
  · rcases hp with h | ⟨b', h, _⟩
    · exact .inl h
    · cases h
  · exact .inr ⟨b, rfl, hb, hP'⟩
/-- A call has answered, and all that is asked of the page still holds. -/
def PDone (v : Value) (B0 : Nat) (p : Option Addr) (num : Int) (w : World) (e : Ending) (w' : World) : Prop := e = .returned v ∧ PArg B0 p num w' ∧ Below B0 w w'
/-- The page is known. -/
def KDone (B0 : Nat) (p : Option Addr) (num : Int) (w : World) (e : Ending) (w' : World) : Prop := ∃ b, e = .returned (.pointer (some ⟨b, 0, none⟩)) ∧ Known B0 p num b w' ∧ Below B0 w w'

set_option maxRecDepth 100000 in
theorem known_any (B0 : Nat) (p : Option Addr) (num : Int) (w : World) (hA : PArg B0 p num w) : Calls Tryd.prog 66 #[.pointer p] w (KDone B0 p num w) := by
  have hA' := hA
  obtain ⟨hN, h1, hz, ⟨rfl, rfl⟩ | ⟨b, rfl, hb, hP⟩⟩ := hA
  · have HC := hid (new_page 37 (by decide) w hN)
    have HA := hid hA'
    clear hN hA'
    go_enter Tryd.func66, Tryd.ntmps66
    go_wp2_with fail
    with_reducible refine HC.out.mono ?_
    rintro e w1 ⟨b, rfl, hb, hP, hB⟩
    have hB0 : Below B0 w w1 := hB.mono hz
    have fin : KDone B0 none 37 w (.returned (.pointer (some ⟨b, 0, none⟩))) w1 := ⟨b, rfl, ⟨⟨HA.out.1.below h1 hB0, h1, Nat.le_trans hz hB0.size, .inl ⟨rfl, rfl⟩⟩, by omega, hP, .inl rfl⟩, hB0⟩
    have FIN := hid fin
    clear fin hB0 hP hB
    go_wp2
    go_ret
    exact FIN.out
  · have fin : KDone B0 (some ⟨b, 0, none⟩) num w (.returned (.pointer (some ⟨b, 0, none⟩))) w := ⟨b, rfl, ⟨hA', hb, hP, .inr rfl⟩, Below.refl _ _⟩
    have FIN := hid fin
    clear fin hA' hP hN
    go_enter Tryd.func66, Tryd.ntmps66
    go_wp2
    go_ret
    exact FIN.out
end Go.Proofs.YtadoiplfglaonaaDoor
