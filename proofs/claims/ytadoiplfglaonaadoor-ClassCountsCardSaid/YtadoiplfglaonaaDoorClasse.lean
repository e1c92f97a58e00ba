/-
  The reference's answers for package class: what may be entered, what is numeric, what is shown, what designates; and the whole road of ClassUses.
-/
import Derived.Test.YtadoiplfglaonaaDoorClassd
import Derived.Test.YtadoiplfglaonaaDoorUpperw
namespace Go.Proofs.YtadoiplfglaonaaDoor
open Go.RowKit Go.Lib Go.Shelf

set_option maxRecDepth 100000 in
theorem data_ref (c : Nat) (w : World) : Calls Tryd.prog 47 #[.int .u8 c] w fun e w' => e = .returned (.bool (dataB c)) ∧ w = w' := by
  by_cases h1 : 64 ≤ c
  · by_cases h2 : c ≤ 254
    · have e : dataB c = true := by simp [dataB]; omega
      rw [e]; clear e
      go_enter Tryd.func47, Tryd.ntmps47
      go_wp2
      go_ret
      exact ⟨by first | (simp; done) | (simp; omega) | rfl, rfl⟩
    · have e : dataB c = false := by simp [dataB]; omega
      rw [e]; clear e
      go_enter Tryd.func47, Tryd.ntmps47
      go_wp2
      go_ret
      exact ⟨by first | (simp; done) | (simp; omega) | rfl, rfl⟩
  · have e : dataB c = false := by simp [dataB]; omega
    rw [e]; clear e
    go_enter Tryd.func47, Tryd.ntmps47
    go_wp2
    go_ret
    exact ⟨by first | (simp; done) | (simp; omega) | rfl, rfl⟩

def refNum (num : Int) (c : Nat) : Bool := if c = 28 then true else dataB c && numX ((signsL num).getD c 0)
theorem refNum_eq : ∀ num ∈ pagesL, ∀ c, c < 256 → refNum num c = numericB num c := by decide +kernel

set_option maxRecDepth 100000 in
set_option maxHeartbeats 1000000 in
theorem numeric_ref (num : Int) (hn : num ∈ pagesL) (c : Nat) (hc : c < 256) (w : World) : Calls Tryd.prog 49 #[.int .i64 num, .int .u8 c] w fun e w' => e = .returned (.bool (numericB num c)) ∧ w = w' := by
  rw [← refNum_eq num hn c hc]
  have HS := hid (sign_ref num hn c hc w)
  have HD := hid (data_ref c w)
  unfold refNum
  obtain ⟨x, hx⟩ : ∃ x, x = (signsL num).getD c 0 := ⟨_, rfl⟩
  rw [← hx] at HS ⊢
  clear hx
  by_cases h28 : c = 28
  · rw [if_pos h28]
    have q : ((c : Int) == 28) = true := by simp; omega
    clear h28
    go_enter Tryd.func49, Tryd.ntmps49
    go_wp2_with fail
    with_reducible refine HS.out.mono ?_
    rintro e w' ⟨rfl, rfl⟩
    go_wp2
    go_ret
    exact ⟨by first | (simp; done) | rfl, rfl⟩
  · rw [if_neg h28]
    have q : ((c : Int) == 28) = false := by simp; omega
    clear h28
    obtain ⟨db, hdb⟩ : ∃ db, db = dataB c := ⟨_, rfl⟩
    rw [← hdb] at HD ⊢
    clear hdb
    cases db with
    | false =>
      simp only [Bool.false_and]
      go_enter Tryd.func49, Tryd.ntmps49
      go_wp2_with fail
      with_reducible refine HS.out.mono ?_
      rintro e w' ⟨rfl, rfl⟩
      go_wp2_with fail
      with_reducible refine HD.out.mono ?_
      rintro e w' ⟨rfl, rfl⟩
      go_wp2
      go_ret
      exact ⟨by first | (simp; done) | rfl, rfl⟩
    | true =>
      simp only [Bool.true_and]
      have hcase : (48 ≤ x ∧ x ≤ 57) ∨ (x < 48 ∧ (x == 46) = true) ∨ (x < 48 ∧ (x == 46) = false ∧ (x == 45) = true) ∨ (x < 48 ∧ (x == 46) = false ∧ (x == 45) = false) ∨ (58 ≤ x) := by
        by_cases h : x = 46
        · simp [h]
        · by_cases h' : x = 45
          · simp [h']
          · simp [h, h']; omega
      rcases hcase with ⟨h1, h2⟩ | ⟨h1, h2⟩ | ⟨h1, h2, h3⟩ | ⟨h1, h2, h3⟩ | h1
      · have e : numX x = true := by simp [numX, digitB]; omega
        have f : decide (x ≤ 57) = true := by simpa using h2
        rw [e]; clear e
        go_enter Tryd.func49, Tryd.ntmps49
        go_wp2_with fail
        with_reducible refine HS.out.mono ?_
        rintro e w' ⟨rfl, rfl⟩
        go_wp2_with fail
        with_reducible refine HD.out.mono ?_
        rintro e w' ⟨rfl, rfl⟩
        go_wp2
        go_ret
        exact ⟨by first | (simp; done) | (simp; omega) | rfl, rfl⟩
      · have e : numX x = true := by simp [numX, h2]
        rw [e]; clear e
        go_enter Tryd.func49, Tryd.ntmps49
        go_wp2_with fail
        with_reducible refine HS.out.mono ?_
        rintro e w' ⟨rfl, rfl⟩
        go_wp2_with fail
        with_reducible refine HD.out.mono ?_
        rintro e w' ⟨rfl, rfl⟩
        go_wp2
        go_ret
        exact ⟨by first | (simp; done) | (simp; omega) | rfl, rfl⟩
      · have e : numX x = true := by simp [numX, h2, h3]
        rw [e]; clear e
        go_enter Tryd.func49, Tryd.ntmps49
        go_wp2_with fail
        with_reducible refine HS.out.mono ?_
        rintro e w' ⟨rfl, rfl⟩
        go_wp2_with fail
        with_reducible refine HD.out.mono ?_
        rintro e w' ⟨rfl, rfl⟩
        go_wp2
        go_ret
        exact ⟨by first | (simp; done) | (simp; omega) | rfl, rfl⟩
      · have e : numX x = false := by simp [numX, digitB, h2, h3]; omega
        rw [e]; clear e
        go_enter Tryd.func49, Tryd.ntmps49
        go_wp2_with fail
        with_reducible refine HS.out.mono ?_
        rintro e w' ⟨rfl, rfl⟩
        go_wp2_with fail
        with_reducible refine HD.out.mono ?_
        rintro e w' ⟨rfl, rfl⟩
        go_wp2
        go_ret
        exact ⟨by first | (simp; done) | (simp; omega) | rfl, rfl⟩
      · have e : numX x = false := by simp [numX, digitB]; omega
        have f : decide (x ≤ 57) = false := by simp; omega
        have f2 : (x == 46) = false := by simp; omega
        have f3 : (x == 45) = false := by simp; omega
        rw [e]; clear e
        go_enter Tryd.func49, Tryd.ntmps49
        go_wp2_with fail
        with_reducible refine HS.out.mono ?_
        rintro e w' ⟨rfl, rfl⟩
        go_wp2_with fail
        with_reducible refine HD.out.mono ?_
        rintro e w' ⟨rfl, rfl⟩
        go_wp2
        go_ret
        exact ⟨by first | (simp; done) | (simp; omega) | rfl, rfl⟩

def refShown (num : Int) (c : Nat) : Int := if c = 28 then 42 else if c = 30 then 59 else if c = 63 then 191 else if c < 64 ∨ c = 255 then 32 else if invisB ((signsL num).getD c 0) then 32 else (signsL num).getD c 0
theorem refShown_eq : ∀ num ∈ pagesL, ∀ c, c < 256 → refShown num c = shownI num c := by decide +kernel

set_option maxRecDepth 100000 in
set_option maxHeartbeats 2000000 in
theorem shown_ref (num : Int) (hn : num ∈ pagesL) (c : Nat) (hc : c < 256) (w : World) : Calls Tryd.prog 51 #[.int .i64 num, .int .u8 c] w fun e w' => e = .returned (.int .i32 (shownI num c)) ∧ w = w' := by
  rw [← refShown_eq num hn c hc]
  have HS := hid (sign_ref num hn c hc w)
  unfold refShown
  obtain ⟨x, hx⟩ : ∃ x, x = (signsL num).getD c 0 := ⟨_, rfl⟩
  rw [← hx] at HS ⊢
  clear hx
  have hcase : c = 28 ∨ c = 30 ∨ c = 63 ∨ (c < 64 ∧ c ≠ 28 ∧ c ≠ 30 ∧ c ≠ 63) ∨ c = 255 ∨ (64 ≤ c ∧ c ≤ 254 ∧ (x < 32 ∨ (32 ≤ x ∧ x < 127) ∨ (127 ≤ x ∧ x ≤ 159) ∨ (160 ≤ x ∧ (x == 173) = true) ∨ (160 ≤ x ∧ (x == 173) = false))) := by
    by_cases h : x = 173
    · simp [h]; omega
    · simp [h]; omega
  rcases hcase with rfl | rfl | rfl | ⟨k0, k1, k2, k3⟩ | rfl | ⟨k0, k1, hx⟩
  · simp only [if_true, Nat.reduceEqDiff, if_false]
    go_enter Tryd.func51, Tryd.ntmps51
    go_wp2_with fail
    refine HS.out.mono ?_
    rintro e w' ⟨rfl, rfl⟩
    go_wp2
    go_ret
    exact ⟨by first | rfl | (simp; done), rfl⟩
  · simp only [if_true, Nat.reduceEqDiff, if_false]
    go_enter Tryd.func51, Tryd.ntmps51
    go_wp2_with fail
    refine HS.out.mono ?_
    rintro e w' ⟨rfl, rfl⟩
    go_wp2
    go_ret
    exact ⟨by first | rfl | (simp; done), rfl⟩
  · simp only [if_true, Nat.reduceEqDiff, if_false]
    go_enter Tryd.func51, Tryd.ntmps51
    go_wp2_with fail
    refine HS.out.mono ?_
    rintro e w' ⟨rfl, rfl⟩
    go_wp2
    go_ret
    exact ⟨by first | rfl | (simp; done), rfl⟩
  · rw [if_neg k1, if_neg k2, if_neg k3, if_pos (.inl k0)]
    have q1 : ((c : Int) == 28) = false := by simp; omega
    have q2 : ((c : Int) == 30) = false := by simp; omega
    have q3 : ((c : Int) == 63) = false := by simp; omega
    clear k1 k2 k3
    go_enter Tryd.func51, Tryd.ntmps51
    go_wp2_with fail
    with_reducible refine HS.out.mono ?_
    rintro e w' ⟨rfl, rfl⟩
    go_wp2
    go_ret
    exact ⟨by first | rfl | (simp; done), rfl⟩
  · rw [if_neg (by decide), if_neg (by decide), if_neg (by decide), if_pos (.inr rfl)]
    go_enter Tryd.func51, Tryd.ntmps51
    go_wp2_with fail
    refine HS.out.mono ?_
    rintro e w' ⟨rfl, rfl⟩
    go_wp2
    go_ret
    exact ⟨by first | rfl | (simp; done), rfl⟩
  · rw [if_neg (by omega), if_neg (by omega), if_neg (by omega), if_neg (by omega)]
    have q1 : ((c : Int) == 28) = false := by simp; omega
    have q2 : ((c : Int) == 30) = false := by simp; omega
    have q3 : ((c : Int) == 63) = false := by simp; omega
    have q4 : ((c : Int) == 255) = false := by simp; omega
    rcases hx with h | ⟨h1, h2⟩ | ⟨h1, h2⟩ | ⟨h1, h2⟩ | ⟨h1, h2⟩
    · have e : invisB x = true := by simp [invisB]; omega
      rw [e]; clear e
      simp only [if_true]
      go_enter Tryd.func51, Tryd.ntmps51
      go_wp2_with fail
      with_reducible refine HS.out.mono ?_
      rintro e w' ⟨rfl, rfl⟩
      go_wp2
      go_ret
      exact ⟨by first | rfl | (simp; done), rfl⟩
    · have e : invisB x = false := by simp [invisB]; omega
      have f : (x == 173) = false := by simp; omega
      rw [e]; clear e
      simp only [Bool.false_eq_true, if_false]
      go_enter Tryd.func51, Tryd.ntmps51
      go_wp2_with fail
      with_reducible refine HS.out.mono ?_
      rintro e w' ⟨rfl, rfl⟩
      go_wp2
      go_ret
      exact ⟨by first | rfl | (simp; done), rfl⟩
    · have e : invisB x = true := by simp [invisB]; omega
      have f : decide (x ≤ 159) = true := by simpa using h2
      rw [e]; clear e
      simp only [if_true]
      go_enter Tryd.func51, Tryd.ntmps51
      go_wp2_with fail
      with_reducible refine HS.out.mono ?_
      rintro e w' ⟨rfl, rfl⟩
      go_wp2
      go_ret
      exact ⟨by first | rfl | (simp; done), rfl⟩
    · have e : invisB x = true := by simp at h2; simp [invisB]; omega
      have f : decide (x ≤ 159) = false := by simp; omega
      rw [e]; clear e
      simp only [if_true]
      go_enter Tryd.func51, Tryd.ntmps51
      go_wp2_with fail
      with_reducible refine HS.out.mono ?_
      rintro e w' ⟨rfl, rfl⟩
      go_wp2
      go_ret
      exact ⟨by first | rfl | (simp; done), rfl⟩
    · have e : invisB x = false := by simp at h2; simp [invisB]; omega
      have f : decide (x ≤ 159) = false := by simp; omega
      rw [e]; clear e
      simp only [Bool.false_eq_true, if_false]
      go_enter Tryd.func51, Tryd.ntmps51
      go_wp2_with fail
      with_reducible refine HS.out.mono ?_
      rintro e w' ⟨rfl, rfl⟩
      go_wp2
      go_ret
      exact ⟨by first | rfl | (simp; done), rfl⟩

def desI (num : Int) (c : Nat) : Int := if (signsL num).getD c 0 = 63 then 1 else if (signsL num).getD c 0 = 62 then 2 else if (signsL num).getD c 0 = 0 ∨ (signsL num).getD c 0 = 32 then 3 else if (signsL num).getD c 0 = 38 then 4 else 0
theorem zero_sign : ∀ num ∈ pagesL, ∀ c, c < 256 → (c = 0 ↔ (signsL num).getD c 0 = 0) := by decide +kernel
theorem des_cases (x : Int) : ((x == 63) = true) ∨ ((x == 63) = false ∧ (x == 62) = true) ∨ ((x == 63) = false ∧ (x == 62) = false ∧ (x == 0) = true) ∨ ((x == 63) = false ∧ (x == 62) = false ∧ (x == 0) = false ∧ (x == 32) = true) ∨ ((x == 63) = false ∧ (x == 62) = false ∧ (x == 0) = false ∧ (x == 32) = false ∧ (x == 38) = true) ∨ ((x == 63) = false ∧ (x == 62) = false ∧ (x == 0) = false ∧ (x == 32) = false ∧ (x == 38) = false) := by
  cases (x == 63) <;> cases (x == 62) <;> cases (x == 0) <;> cases (x == 32) <;> cases (x == 38) <;> simp
def desX (x : Int) : Int := if x = 63 then 1 else if x = 62 then 2 else if x = 0 ∨ x = 32 then 3 else if x = 38 then 4 else 0

set_option maxRecDepth 100000 in
set_option maxHeartbeats 2000000 in
theorem des_any (B0 : Nat) (p : Option Addr) (num : Int) (c : Nat) (hc : c < 256) (w : World) (hA : PArg B0 p num w) : Calls Tryd.prog 52 #[.pointer p, .int .u8 c] w (PDone (.int .i64 (desI num c)) B0 p num w) := by
  have e : desI num c = desX ((signsL num).getD c 0) := rfl
  rw [e]
  have HK := hid (known_any B0 p num w hA)
  have HS := hid (fun b w' (h : Known B0 p num b w') => sign_any b num c hc w' h.2.2.1)
  obtain ⟨x, hx⟩ : ∃ x, x = (signsL num).getD c 0 := ⟨_, rfl⟩
  rw [← hx] at HS ⊢
  clear e hx hA
  obtain ⟨v, hv⟩ : ∃ v, v = desX x := ⟨_, rfl⟩
  rw [← hv]
  rcases des_cases x with h1 | ⟨h1, h2⟩ | ⟨h1, h2, h3⟩ | ⟨h1, h2, h3, h4⟩ | ⟨h1, h2, h3, h4, h5⟩ | ⟨h1, h2, h3, h4, h5⟩
  · obtain rfl : v = 1 := by rw [hv]; simp at h1; simp [desX, h1]
    clear hv
    go_enter Tryd.func52, Tryd.ntmps52
    go_wp2_with fail
    with_reducible refine HK.out.mono ?_
    rintro e w1 ⟨b, rfl, hK, hB⟩
    have HK1 := hid hK
    have HB1 := hid hB
    clear hK hB
    go_wp2_with fail
    with_reducible refine (HS.out _ _ HK1.out).mono ?_
    rintro e w2 ⟨rfl, hR, hB⟩
    have HK2 := hid (HK1.out.next hR hB)
    clear hR hB
    go_wp2
    go_ret
    exact ⟨rfl, HK2.out.1.1, HB1.out.trans HK2.out.2⟩
  · obtain rfl : v = 2 := by rw [hv]; simp at h1 h2; simp [desX, h2]
    clear hv
    go_enter Tryd.func52, Tryd.ntmps52
    go_wp2_with fail
    with_reducible refine HK.out.mono ?_
    rintro e w1 ⟨b, rfl, hK, hB⟩
    have HK1 := hid hK
    have HB1 := hid hB
    clear hK hB
    go_wp2_with fail
    with_reducible refine (HS.out _ _ HK1.out).mono ?_
    rintro e w2 ⟨rfl, hR, hB⟩
    have HK2 := hid (HK1.out.next hR hB)
    clear hR hB
    go_wp2
    go_ret
    exact ⟨rfl, HK2.out.1.1, HB1.out.trans HK2.out.2⟩
  · obtain rfl : v = 3 := by rw [hv]; simp at h1 h2 h3; simp [desX, h3]
    clear hv
    go_enter Tryd.func52, Tryd.ntmps52
    go_wp2_with fail
    with_reducible refine HK.out.mono ?_
    rintro e w1 ⟨b, rfl, hK, hB⟩
    have HK1 := hid hK
    have HB1 := hid hB
    clear hK hB
    go_wp2_with fail
    with_reducible refine (HS.out _ _ HK1.out).mono ?_
    rintro e w2 ⟨rfl, hR, hB⟩
    have HK2 := hid (HK1.out.next hR hB)
    clear hR hB
    go_wp2
    go_ret
    exact ⟨rfl, HK2.out.1.1, HB1.out.trans HK2.out.2⟩
  · obtain rfl : v = 3 := by rw [hv]; simp at h1 h2 h3 h4; simp [desX, h4]
    clear hv
    go_enter Tryd.func52, Tryd.ntmps52
    go_wp2_with fail
    with_reducible refine HK.out.mono ?_
    rintro e w1 ⟨b, rfl, hK, hB⟩
    have HK1 := hid hK
    have HB1 := hid hB
    clear hK hB
    go_wp2_with fail
    with_reducible refine (HS.out _ _ HK1.out).mono ?_
    rintro e w2 ⟨rfl, hR, hB⟩
    have HK2 := hid (HK1.out.next hR hB)
    clear hR hB
    go_wp2
    go_ret
    exact ⟨rfl, HK2.out.1.1, HB1.out.trans HK2.out.2⟩
  · obtain rfl : v = 4 := by rw [hv]; simp at h1 h2 h3 h4 h5; simp [desX, h5]
    clear hv
    go_enter Tryd.func52, Tryd.ntmps52
    go_wp2_with fail
    with_reducible refine HK.out.mono ?_
    rintro e w1 ⟨b, rfl, hK, hB⟩
    have HK1 := hid hK
    have HB1 := hid hB
    clear hK hB
    go_wp2_with fail
    with_reducible refine (HS.out _ _ HK1.out).mono ?_
    rintro e w2 ⟨rfl, hR, hB⟩
    have HK2 := hid (HK1.out.next hR hB)
    clear hR hB
    go_wp2
    go_ret
    exact ⟨rfl, HK2.out.1.1, HB1.out.trans HK2.out.2⟩
  · obtain rfl : v = 0 := by rw [hv]; simp at h1 h2 h3 h4 h5; simp [desX, h1, h2, h3, h4, h5]
    clear hv
    go_enter Tryd.func52, Tryd.ntmps52
    go_wp2_with fail
    with_reducible refine HK.out.mono ?_
    rintro e w1 ⟨b, rfl, hK, hB⟩
    have HK1 := hid hK
    have HB1 := hid hB
    clear hK hB
    go_wp2_with fail
    with_reducible refine (HS.out _ _ HK1.out).mono ?_
    rintro e w2 ⟨rfl, hR, hB⟩
    have HK2 := hid (HK1.out.next hR hB)
    clear hR hB
    go_wp2
    go_ret
    exact ⟨rfl, HK2.out.1.1, HB1.out.trans HK2.out.2⟩

set_option maxRecDepth 100000 in
set_option maxHeartbeats 2000000 in
theorem des_ref (num : Int) (hn : num ∈ pagesL) (c : Nat) (hc : c < 256) (w : World) : Calls Tryd.prog 53 #[.int .i64 num, .int .u8 c] w fun e w' => e = .returned (.int .i64 (desI num c)) ∧ w = w' := by
  have e : desI num c = desX ((signsL num).getD c 0) := rfl
  have hz := zero_sign num hn c hc
  rw [e]
  have HS := hid (sign_ref num hn c hc w)
  obtain ⟨x, hx⟩ : ∃ x, x = (signsL num).getD c 0 := ⟨_, rfl⟩
  rw [← hx] at HS hz ⊢
  clear e hx
  have hc0 : ((c : Int) == 0) = (x == 0) := by
    by_cases h : c = 0
    · rw [hz.1 h, h]; rfl
    · have h' : ¬ x = 0 := fun e => h (hz.2 e)
      rw [beq_eq_false_iff_ne.2 (by omega), beq_eq_false_iff_ne.2 h']
  obtain ⟨v, hv⟩ : ∃ v, v = desX x := ⟨_, rfl⟩
  rw [← hv]
  clear hz
  rcases des_cases x with h1 | ⟨h1, h2⟩ | ⟨h1, h2, h3⟩ | ⟨h1, h2, h3, h4⟩ | ⟨h1, h2, h3, h4, h5⟩ | ⟨h1, h2, h3, h4, h5⟩
  · obtain rfl : v = 1 := by rw [hv]; simp at h1; simp [desX, h1]
    clear hv hc0
    go_enter Tryd.func53, Tryd.ntmps53
    go_wp2_with fail
    with_reducible refine HS.out.mono ?_
    rintro e w' ⟨rfl, rfl⟩
    go_wp2
    go_ret
    exact ⟨rfl, rfl⟩
  · obtain rfl : v = 2 := by rw [hv]; simp at h1 h2; simp [desX, h2]
    clear hv hc0
    go_enter Tryd.func53, Tryd.ntmps53
    go_wp2_with fail
    with_reducible refine HS.out.mono ?_
    rintro e w' ⟨rfl, rfl⟩
    go_wp2
    go_ret
    exact ⟨rfl, rfl⟩
  · obtain rfl : v = 3 := by rw [hv]; simp at h1 h2 h3; simp [desX, h3]
    rw [h3] at hc0
    clear hv
    go_enter Tryd.func53, Tryd.ntmps53
    go_wp2_with fail
    with_reducible refine HS.out.mono ?_
    rintro e w' ⟨rfl, rfl⟩
    go_wp2
    go_ret
    exact ⟨rfl, rfl⟩
  · obtain rfl : v = 3 := by rw [hv]; simp at h1 h2 h3 h4; simp [desX, h4]
    rw [h3] at hc0
    clear hv
    go_enter Tryd.func53, Tryd.ntmps53
    go_wp2_with fail
    with_reducible refine HS.out.mono ?_
    rintro e w' ⟨rfl, rfl⟩
    go_wp2
    go_ret
    exact ⟨rfl, rfl⟩
  · obtain rfl : v = 4 := by rw [hv]; simp at h1 h2 h3 h4 h5; simp [desX, h5]
    rw [h3] at hc0
    clear hv
    go_enter Tryd.func53, Tryd.ntmps53
    go_wp2_with fail
    with_reducible refine HS.out.mono ?_
    rintro e w' ⟨rfl, rfl⟩
    go_wp2
    go_ret
    exact ⟨rfl, rfl⟩
  · obtain rfl : v = 0 := by rw [hv]; simp at h1 h2 h3 h4 h5; simp [desX, h1, h2, h3, h4, h5]
    rw [h3] at hc0
    clear hv
    go_enter Tryd.func53, Tryd.ntmps53
    go_wp2_with fail
    with_reducible refine HS.out.mono ?_
    rintro e w' ⟨rfl, rfl⟩
    go_wp2
    go_ret
    exact ⟨rfl, rfl⟩
end Go.Proofs.YtadoiplfglaonaaDoor
