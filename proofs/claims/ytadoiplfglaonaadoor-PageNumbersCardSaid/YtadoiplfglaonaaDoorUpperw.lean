/-
  The upper-case letter of a code, by the page and by the reference; and the whole road of PageUppers.
-/
import Derived.Test.YtadoiplfglaonaaDoorSignsw
namespace Go.Proofs.YtadoiplfglaonaaDoor
open Go.RowKit Go.Lib Go.Shelf

/-- Is a sign a lower-case letter? -/
def lowerB (x : Int) : Bool := decide (97 ≤ x ∧ x ≤ 122 ∨ 224 ≤ x ∧ x ≤ 254 ∧ x ≠ 247)
theorem lower_cases (x : Int) : x < 97 ∨ (97 ≤ x ∧ x ≤ 122) ∨ (123 ≤ x ∧ x < 224) ∨ (224 ≤ x ∧ x ≤ 254 ∧ (x == 247) = false) ∨ (224 ≤ x ∧ x ≤ 254 ∧ (x == 247) = true) ∨ 255 ≤ x := by
  by_cases h : x = 247
  · simp [h]
  · simp [h]; omega

set_option maxRecDepth 100000 in
theorem lower_any (x : Int) (w : World) : Calls Tryd.prog 63 #[.int .i32 x] w fun e w' => e = .returned (.bool (lowerB x)) ∧ w = w' := by
  rcases lower_cases x with h | ⟨h1, h2⟩ | ⟨h1, h2⟩ | ⟨h1, h2, h3⟩ | ⟨h1, h2, h3⟩ | h
  · have e : lowerB x = false := by simp [lowerB]; omega
    rw [e]
    clear e
    go_enter Tryd.func63, Tryd.ntmps63
    go_wp2
    go_ret
    exact ⟨by first | rfl | (simp; done) | (simp; omega), rfl⟩
  · have e : lowerB x = true := by simp [lowerB]; omega
    rw [e]
    clear e
    go_enter Tryd.func63, Tryd.ntmps63
    go_wp2
    go_ret
    exact ⟨by first | rfl | (simp; done) | (simp; omega), rfl⟩
  · have e : lowerB x = false := by simp [lowerB]; omega
    rw [e]
    clear e
    go_enter Tryd.func63, Tryd.ntmps63
    go_wp2
    go_ret
    exact ⟨by first | rfl | (simp; done) | (simp; omega), rfl⟩
  · have e : lowerB x = true := by simp at h3; simp [lowerB]; omega
    have h4 : (x != 247) = true := by simpa using h3
    rw [e]
    clear e
    go_enter Tryd.func63, Tryd.ntmps63
    go_wp2
    go_ret
    exact ⟨by first | rfl | (simp; done) | (simp; omega), rfl⟩
  · have e : lowerB x = false := by simp at h3; simp [lowerB]; omega
    have h4 : (x != 247) = false := by simpa using h3
    rw [e]
    clear e h3
    go_enter Tryd.func63, Tryd.ntmps63
    go_wp2
    go_ret
    exact ⟨by first | rfl | (simp; done) | (simp; omega), rfl⟩
  · have e : lowerB x = false := by simp [lowerB]; omega
    rw [e]
    clear e
    go_enter Tryd.func63, Tryd.ntmps63
    go_wp2
    go_ret
    exact ⟨by first | rfl | (simp; done) | (simp; omega), rfl⟩

/-- The upper-case letter's code. -/
def upperN (num : Int) (c : Nat) : Nat := if lowerB ((signsL num).getD c 0) then (if (codeOf num ((signsL num).getD c 0 - 32)).2 then (codeOf num ((signsL num).getD c 0 - 32)).1 else c) else c
theorem upperN_lt : ∀ num ∈ pagesL, ∀ c, c < 256 → upperN num c < 256 ∧ upperN num (upperN num c) = upperN num c := by decide +kernel
theorem signs_bd (num : Int) (hn : num ∈ pagesL) (c : Nat) (hc : c < 256) : 0 ≤ (signsL num).getD c 0 ∧ (signsL num).getD c 0 ≤ 65535 := by
  have := List.all_eq_true.1 (signs_ok num hn) ((signsL num).getD c 0) (by rw [List.getD, List.getElem?_eq_getElem (show c < (signsL num).length by rw [signsL, signsAt_length]; exact hc)]; simp)
  simpa using this

set_option maxRecDepth 100000 in
set_option maxHeartbeats 1000000 in
theorem upper_any (b : Nat) (num : Int) (c : Nat) (hc : c < 256) (w : World) (hP : Page w b num) :
    Calls Tryd.prog 29 #[.pointer (some ⟨b, 0, none⟩), .int .u8 c] w (PageDone (.int .u8 (upperN num c : Nat)) b num w) := by
  have HS := hid (sign_any b num c hc w hP)
  have hbd := signs_bd num hP.1 c hc
  have hup : upperN num c = if lowerB ((signsL num).getD c 0) then (if (codeOf num ((signsL num).getD c 0 - 32)).2 then (codeOf num ((signsL num).getD c 0 - 32)).1 else c) else c := rfl
  have HCD := hid (fun w' (h : Page w' b num) (h2 : (Lit.int .i32 ((signsL num).getD c 0 - 32)).wf = true) => code_any b num ((signsL num).getD c 0 - 32) w' h h2)
  have HNM := hid hP.1
  obtain ⟨x, hx⟩ : ∃ x, x = (signsL num).getD c 0 := ⟨_, rfl⟩
  rw [← hx] at HS hbd hup HCD
  clear hx hP
  have HL := hid (fun w' => lower_any x w')
  cases hl : lowerB x with
  | false =>
    rw [hl] at HL hup
    simp only [Bool.false_eq_true, if_false] at hup
    rw [hup]
    clear hup hl
    go_enter Tryd.func29, Tryd.ntmps29
    go_wp2_with fail
    with_reducible refine HS.out.mono ?_
    rintro e w1 ⟨rfl, hR, hB⟩
    have H1 := hid (And.intro hR hB)
    clear hR hB
    go_wp2_with fail
    refine (HL.out _).mono ?_
    rintro e w' ⟨rfl, rfl⟩
    go_wp2
    go_ret
    exact ⟨rfl, H1.out.1, H1.out.2⟩
  | true =>
    have hxl : 97 ≤ x := by simp [lowerB] at hl; omega
    rw [hl] at HL hup
    simp only [if_true] at hup
    have hw : (Lit.int .i32 (x - 32)).wf = true := wf_rune (by omega) (by omega)
    have HW := hid hw
    obtain ⟨⟨d, ok⟩, hd⟩ : ∃ q, q = codeOf num (x - 32) := ⟨_, rfl⟩
    rw [← hd] at hup HCD
    simp only at hup HCD
    obtain ⟨u, hu⟩ : ∃ u, u = upperN num c := ⟨_, rfl⟩
    rw [← hu] at hup ⊢
    clear hu hl hw hd
    obtain ⟨hb0, hb1⟩ := hbd
    cases ok with
    | true =>
      simp only [if_true] at hup
      subst hup
      go_enter Tryd.func29, Tryd.ntmps29
      go_wp2_with fail
      with_reducible refine HS.out.mono ?_
      rintro e w1 ⟨rfl, hR, hB⟩
      have H1 := hid (And.intro hR hB)
      clear hR hB
      go_wp2_with fail
      refine (HL.out _).mono ?_
      rintro e w' ⟨rfl, rfl⟩
      go_wp2_with fail
      refine (HCD.out _ ⟨HNM.out, .inr H1.out.1⟩ HW.out).mono ?_
      rintro e w2 ⟨rfl, hR, hB⟩
      have H2 := hid (And.intro hR (H1.out.2.trans hB))
      clear hR hB
      go_wp2
      go_ret
      exact ⟨rfl, H2.out.1, H2.out.2⟩
    | false =>
      simp only [Bool.false_eq_true, if_false] at hup
      subst hup
      go_enter Tryd.func29, Tryd.ntmps29
      go_wp2_with fail
      with_reducible refine HS.out.mono ?_
      rintro e w1 ⟨rfl, hR, hB⟩
      have H1 := hid (And.intro hR hB)
      clear hR hB
      go_wp2_with fail
      refine (HL.out _).mono ?_
      rintro e w' ⟨rfl, rfl⟩
      go_wp2_with fail
      refine (HCD.out _ ⟨HNM.out, .inr H1.out.1⟩ HW.out).mono ?_
      rintro e w2 ⟨rfl, hR, hB⟩
      have H2 := hid (And.intro hR (H1.out.2.trans hB))
      clear hR hB
      go_wp2
      go_ret
      exact ⟨rfl, H2.out.1, H2.out.2⟩
end Go.Proofs.YtadoiplfglaonaaDoor
