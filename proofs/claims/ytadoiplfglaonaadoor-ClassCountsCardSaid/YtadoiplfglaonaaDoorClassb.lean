/-
  A letter; the class of a code on a page.
-/
import Derived.Test.YtadoiplfglaonaaDoorClassa
namespace Go.Proofs.YtadoiplfglaonaaDoor
open Go.RowKit Go.Lib Go.Shelf

theorem letter_cases (x : Int) : x < 65 ∨ (65 ≤ x ∧ x ≤ 90) ∨ (91 ≤ x ∧ x ≤ 96) ∨ (97 ≤ x ∧ x ≤ 122) ∨ (123 ≤ x ∧ x ≤ 191) ∨ (192 ≤ x ∧ x ≤ 255 ∧ (x == 215) = false ∧ (x == 247) = false) ∨ (192 ≤ x ∧ x ≤ 255 ∧ (x == 215) = true) ∨ (192 ≤ x ∧ x ≤ 255 ∧ (x == 215) = false ∧ (x == 247) = true) ∨ 256 ≤ x := by
  by_cases h : x = 215
  · simp [h]
  · by_cases h' : x = 247
    · simp [h']
    · simp [h, h']; omega

set_option maxRecDepth 100000 in
set_option maxHeartbeats 1000000 in
theorem letter_any (x : Int) (w : World) : Calls Tryd.prog 74 #[.int .i32 x] w fun e w' => e = .returned (.bool (letterB x)) ∧ w = w' := by
  rcases letter_cases x with h | ⟨h1, h2⟩ | ⟨h1, h2⟩ | ⟨h1, h2⟩ | ⟨h1, h2⟩ | ⟨h1, h2, h3, h4⟩ | ⟨h1, h2, h3⟩ | ⟨h1, h2, h3, h4⟩ | h
  · have e : letterB x = false := by simp [letterB]; omega
    rw [e]; clear e
    go_enter Tryd.func74, Tryd.ntmps74
    go_wp2
    go_ret
    exact ⟨by first | rfl | (simp; done) | (simp; omega), rfl⟩
  · have e : letterB x = true := by simp [letterB]; omega
    have f0 : decide (x ≤ 90) = true := by simp; omega
    rw [e]; clear e
    go_enter Tryd.func74, Tryd.ntmps74
    go_wp2
    go_ret
    exact ⟨by first | rfl | (simp; done) | (simp; omega), rfl⟩
  · have e : letterB x = false := by simp [letterB]; omega
    have f0 : decide (x ≤ 90) = false := by simp; omega
    rw [e]; clear e
    go_enter Tryd.func74, Tryd.ntmps74
    go_wp2
    go_ret
    exact ⟨by first | rfl | (simp; done) | (simp; omega), rfl⟩
  · have e : letterB x = true := by simp [letterB]; omega
    have f0 : decide (x ≤ 122) = true := by simp; omega
    rw [e]; clear e
    go_enter Tryd.func74, Tryd.ntmps74
    go_wp2
    go_ret
    exact ⟨by first | rfl | (simp; done) | (simp; omega), rfl⟩
  · have e : letterB x = false := by simp [letterB]; omega
    have f0 : decide (x ≤ 122) = false := by simp; omega
    have f1 : decide (x ≤ 90) = false := by simp; omega
    rw [e]; clear e
    go_enter Tryd.func74, Tryd.ntmps74
    go_wp2
    go_ret
    exact ⟨by first | rfl | (simp; done) | (simp; omega), rfl⟩
  · have e : letterB x = true := by simp at h3 h4; simp [letterB]; omega
    have f0 : decide (x ≤ 122) = false := by simp; omega
    have f1 : decide (x ≤ 90) = false := by simp; omega
    have f2 : decide (x ≤ 255) = true := by simp; omega
    have f3 : (x != 215) = true := by simpa using h3
    have f4 : (x != 247) = true := by simpa using h4
    rw [e]; clear e
    go_enter Tryd.func74, Tryd.ntmps74
    go_wp2
    go_ret
    exact ⟨by first | rfl | (simp; done) | (simp; omega), rfl⟩
  · have e : letterB x = false := by simp at h3; simp [letterB]; omega
    have f0 : decide (x ≤ 122) = false := by simp; omega
    have f1 : decide (x ≤ 90) = false := by simp; omega
    have f2 : decide (x ≤ 255) = true := by simp; omega
    have f3 : (x != 215) = false := by simpa using h3
    clear h3
    rw [e]; clear e
    go_enter Tryd.func74, Tryd.ntmps74
    go_wp2
    go_ret
    exact ⟨by first | rfl | (simp; done) | (simp; omega), rfl⟩
  · have e : letterB x = false := by simp at h3 h4; simp [letterB]; omega
    have f0 : decide (x ≤ 122) = false := by simp; omega
    have f1 : decide (x ≤ 90) = false := by simp; omega
    have f2 : decide (x ≤ 255) = true := by simp; omega
    have f3 : (x != 215) = true := by simpa using h3
    have f4 : (x != 247) = false := by simpa using h4
    clear h4
    rw [e]; clear e
    go_enter Tryd.func74, Tryd.ntmps74
    go_wp2
    go_ret
    exact ⟨by first | rfl | (simp; done) | (simp; omega), rfl⟩
  · have e : letterB x = false := by simp [letterB]; omega
    have f0 : decide (x ≤ 122) = false := by simp; omega
    have f1 : decide (x ≤ 90) = false := by simp; omega
    have f2 : decide (x ≤ 255) = false := by simp; omega
    rw [e]; clear e
    go_enter Tryd.func74, Tryd.ntmps74
    go_wp2
    go_ret
    exact ⟨by first | rfl | (simp; done) | (simp; omega), rfl⟩

/-- The class of a sign. -/
def ofSignI (x : Int) : Int := if digitB x then 5 else if letterB x then 6 else 7
set_option maxRecDepth 100000 in
theorem ofSign_any (x : Int) (w : World) : Calls Tryd.prog 65 #[.int .i32 x] w fun e w' => e = .returned (.int .i64 (ofSignI x)) ∧ w = w' := by
  have HD := hid (digit_any x w)
  have HL := hid (letter_any x w)
  cases hd : digitB x with
  | true =>
    have e : ofSignI x = 5 := by simp [ofSignI, hd]
    rw [e]
    rw [hd] at HD
    clear e hd
    go_enter Tryd.func65, Tryd.ntmps65
    go_wp2_with fail
    with_reducible refine HD.out.mono ?_
    rintro e w' ⟨rfl, rfl⟩
    go_wp2
    go_ret
    exact ⟨rfl, rfl⟩
  | false =>
    rw [hd] at HD
    cases hl : letterB x with
    | true =>
      have e : ofSignI x = 6 := by simp [ofSignI, hd, hl]
      rw [e]
      rw [hl] at HL
      clear e hd hl
      go_enter Tryd.func65, Tryd.ntmps65
      go_wp2_with fail
      with_reducible refine HD.out.mono ?_
      rintro e w' ⟨rfl, rfl⟩
      go_wp2_with fail
      with_reducible refine HL.out.mono ?_
      rintro e w' ⟨rfl, rfl⟩
      go_wp2
      go_ret
      exact ⟨rfl, rfl⟩
    | false =>
      have e : ofSignI x = 7 := by simp [ofSignI, hd, hl]
      rw [e]
      rw [hl] at HL
      clear e hd hl
      go_enter Tryd.func65, Tryd.ntmps65
      go_wp2_with fail
      with_reducible refine HD.out.mono ?_
      rintro e w' ⟨rfl, rfl⟩
      go_wp2_with fail
      with_reducible refine HL.out.mono ?_
      rintro e w' ⟨rfl, rfl⟩
      go_wp2
      go_ret
      exact ⟨rfl, rfl⟩

/-- The class of a code on a page. -/
def ofI (num : Int) (c : Nat) : Int :=
  if c = 0 then 0 else if c = 12 ∨ c = 13 ∨ c = 21 ∨ c = 25 ∨ c = 28 ∨ c = 30 ∨ c = 63 then 1 else if c = 255 then 2 else if c = 64 then 4 else if c < 64 then 3 else ofSignI ((signsL num).getD c 0)

set_option maxRecDepth 100000 in
set_option maxHeartbeats 2000000 in
theorem of_any (B0 : Nat) (p : Option Addr) (num : Int) (c : Nat) (hc : c < 256) (w : World) (hA : PArg B0 p num w) : Calls Tryd.prog 42 #[.pointer p, .int .u8 c] w (PDone (.int .i64 (ofI num c)) B0 p num w) := by
  have HA := hid hA
  clear hA
  have hcase : c = 0 ∨ c = 12 ∨ c = 13 ∨ c = 21 ∨ c = 25 ∨ c = 28 ∨ c = 30 ∨ c = 63 ∨ c = 255 ∨ c = 64 ∨ (c < 64 ∧ c ≠ 0 ∧ c ≠ 12 ∧ c ≠ 13 ∧ c ≠ 21 ∧ c ≠ 25 ∧ c ≠ 28 ∧ c ≠ 30 ∧ c ≠ 63) ∨ (65 ≤ c ∧ c ≤ 254) := by omega
  rcases hcase with rfl | rfl | rfl | rfl | rfl | rfl | rfl | rfl | rfl | rfl | ⟨k0, k1, k2, k3, k4, k5, k6, k7, k8⟩ | ⟨k0, k1⟩
  · have FIN : Hid (PDone (.int .i64 (ofI num 0)) B0 p num w (.returned (.int .i64 0)) w) := ⟨rfl, HA.out, Below.refl _ _⟩
    go_enter Tryd.func42, Tryd.ntmps42
    go_wp2
    go_ret
    exact FIN.out
  · have FIN : Hid (PDone (.int .i64 (ofI num 12)) B0 p num w (.returned (.int .i64 1)) w) := ⟨rfl, HA.out, Below.refl _ _⟩
    go_enter Tryd.func42, Tryd.ntmps42
    go_wp2
    go_ret
    exact FIN.out
  · have FIN : Hid (PDone (.int .i64 (ofI num 13)) B0 p num w (.returned (.int .i64 1)) w) := ⟨rfl, HA.out, Below.refl _ _⟩
    go_enter Tryd.func42, Tryd.ntmps42
    go_wp2
    go_ret
    exact FIN.out
  · have FIN : Hid (PDone (.int .i64 (ofI num 21)) B0 p num w (.returned (.int .i64 1)) w) := ⟨rfl, HA.out, Below.refl _ _⟩
    go_enter Tryd.func42, Tryd.ntmps42
    go_wp2
    go_ret
    exact FIN.out
  · have FIN : Hid (PDone (.int .i64 (ofI num 25)) B0 p num w (.returned (.int .i64 1)) w) := ⟨rfl, HA.out, Below.refl _ _⟩
    go_enter Tryd.func42, Tryd.ntmps42
    go_wp2
    go_ret
    exact FIN.out
  · have FIN : Hid (PDone (.int .i64 (ofI num 28)) B0 p num w (.returned (.int .i64 1)) w) := ⟨rfl, HA.out, Below.refl _ _⟩
    go_enter Tryd.func42, Tryd.ntmps42
    go_wp2
    go_ret
    exact FIN.out
  · have FIN : Hid (PDone (.int .i64 (ofI num 30)) B0 p num w (.returned (.int .i64 1)) w) := ⟨rfl, HA.out, Below.refl _ _⟩
    go_enter Tryd.func42, Tryd.ntmps42
    go_wp2
    go_ret
    exact FIN.out
  · have FIN : Hid (PDone (.int .i64 (ofI num 63)) B0 p num w (.returned (.int .i64 1)) w) := ⟨rfl, HA.out, Below.refl _ _⟩
    go_enter Tryd.func42, Tryd.ntmps42
    go_wp2
    go_ret
    exact FIN.out
  · have FIN : Hid (PDone (.int .i64 (ofI num 255)) B0 p num w (.returned (.int .i64 2)) w) := ⟨rfl, HA.out, Below.refl _ _⟩
    go_enter Tryd.func42, Tryd.ntmps42
    go_wp2
    go_ret
    exact FIN.out
  · have FIN : Hid (PDone (.int .i64 (ofI num 64)) B0 p num w (.returned (.int .i64 4)) w) := ⟨rfl, HA.out, Below.refl _ _⟩
    go_enter Tryd.func42, Tryd.ntmps42
    go_wp2
    go_ret
    exact FIN.out
  · have e : ofI num c = 3 := by simp [ofI]; omega
    have FIN : Hid (PDone (.int .i64 (ofI num c)) B0 p num w (.returned (.int .i64 3)) w) := ⟨by rw [e], HA.out, Below.refl _ _⟩
    have q0 : ((c : Int) == 0) = false := by simp; omega
    have q1 : ((c : Int) == 12) = false := by simp; omega
    have q2 : ((c : Int) == 13) = false := by simp; omega
    have q3 : ((c : Int) == 21) = false := by simp; omega
    have q4 : ((c : Int) == 25) = false := by simp; omega
    have q5 : ((c : Int) == 28) = false := by simp; omega
    have q6 : ((c : Int) == 30) = false := by simp; omega
    have q7 : ((c : Int) == 63) = false := by simp; omega
    have q8 : ((c : Int) == 255) = false := by simp; omega
    have q9 : ((c : Int) == 64) = false := by simp; omega
    clear e k1 k2 k3 k4 k5 k6 k7 k8
    go_enter Tryd.func42, Tryd.ntmps42
    go_wp2
    go_ret
    exact FIN.out
  · have e : ofI num c = ofSignI ((signsL num).getD c 0) := by
      unfold ofI
      rw [if_neg (by omega), if_neg (by omega), if_neg (by omega), if_neg (by omega), if_neg (by omega)]
    have HE := hid e
    have HK := hid (known_any B0 p num w HA.out)
    have q0 : ((c : Int) == 0) = false := by simp; omega
    have q1 : ((c : Int) == 12) = false := by simp; omega
    have q2 : ((c : Int) == 13) = false := by simp; omega
    have q3 : ((c : Int) == 21) = false := by simp; omega
    have q4 : ((c : Int) == 25) = false := by simp; omega
    have q5 : ((c : Int) == 28) = false := by simp; omega
    have q6 : ((c : Int) == 30) = false := by simp; omega
    have q7 : ((c : Int) == 63) = false := by simp; omega
    have q8 : ((c : Int) == 255) = false := by simp; omega
    have q9 : ((c : Int) == 64) = false := by simp; omega
    clear e
    go_enter Tryd.func42, Tryd.ntmps42
    go_wp2_with fail
    with_reducible refine HK.out.mono ?_
    rintro e w1 ⟨b, rfl, hK, hB⟩
    have HK1 := hid hK
    have HB1 := hid hB
    have HS := hid (sign_any b num c hc w1 hK.2.2.1)
    clear hK hB
    go_wp2_with fail
    with_reducible refine HS.out.mono ?_
    rintro e w2 ⟨rfl, hR, hB⟩
    have HK2 := hid (HK1.out.next hR hB)
    clear hR hB
    go_wp2_with fail
    refine (ofSign_any _ _).mono ?_
    rintro e w' ⟨rfl, rfl⟩
    go_wp2
    go_ret
    exact ⟨by rw [HE.out]; rfl, HK2.out.1.1, HB1.out.trans HK2.out.2⟩
end Go.Proofs.YtadoiplfglaonaaDoor
