/-
  The reference's class of a code; the names of the classes.
-/
import Derived.Test.YtadoiplfglaonaaDoorUsesw
namespace Go.Proofs.YtadoiplfglaonaaDoor
open Go.RowKit Go.Lib Go.Shelf

def fmtL : List Int := [12, 13, 21, 25, 28, 30, 63]
theorem ofI_fmt (num : Int) (c k : Nat) (hk : k < 7) (h : fmtL.getD k 0 = c) : ofI num c = 1 := by
  have hc : c = 12 ∨ c = 13 ∨ c = 21 ∨ c = 25 ∨ c = 28 ∨ c = 30 ∨ c = 63 := by
    have h7 : k = 0 ∨ k = 1 ∨ k = 2 ∨ k = 3 ∨ k = 4 ∨ k = 5 ∨ k = 6 := by omega
    rcases h7 with rfl | rfl | rfl | rfl | rfl | rfl | rfl <;> simp [fmtL] at h <;> omega
  unfold ofI
  rw [if_neg (by omega), if_pos hc]
theorem not_fmt (c : Nat) (h : ∀ i, i < 7 → fmtL.getD i 0 ≠ c) : c ≠ 12 ∧ c ≠ 13 ∧ c ≠ 21 ∧ c ≠ 25 ∧ c ≠ 28 ∧ c ≠ 30 ∧ c ≠ 63 := by
  have h0 := h 0 (by omega)
  have h1 := h 1 (by omega)
  have h2 := h 2 (by omega)
  have h3 := h 3 (by omega)
  have h4 := h 4 (by omega)
  have h5 := h 5 (by omega)
  have h6 := h 6 (by omega)
  simp [fmtL] at h0 h1 h2 h3 h4 h5 h6
  omega
theorem fmt_cell (w : World) (k : Nat) (hk : k < 7) : (w.alloc (.cells #[.int .u8 12, .int .u8 13, .int .u8 21, .int .u8 25, .int .u8 28, .int .u8 30, .int .u8 63] 5)).cell? ⟨w.heap.size, k, none⟩ = some (.int .u8 (fmtL.getD k 0)) := by
  have h7 : k = 0 ∨ k = 1 ∨ k = 2 ∨ k = 3 ∨ k = 4 ∨ k = 5 ∨ k = 6 := by omega
  rcases h7 with rfl | rfl | rfl | rfl | rfl | rfl | rfl <;> simp [go_sem, fmtL]

set_option maxRecDepth 100000 in
set_option maxHeartbeats 4000000 in
theorem of_ref (num : Int) (hn : num ∈ pagesL) (c : Nat) (hc : c < 256) (w : World) : Calls Tryd.prog 43 #[.int .i64 num, .int .u8 c] w fun e w' => e = .returned (.int .i64 (ofI num c)) ∧ Below w.heap.size w w' := by
  have HS := hid (fun w' => sign_ref num hn c hc w')
  have HB : Hid (Below w.heap.size w (w.alloc (.cells #[.int .u8 12, .int .u8 13, .int .u8 21, .int .u8 25, .int .u8 28, .int .u8 30, .int .u8 63] 5))) := (Below.refl _ _).alloc (Nat.le_refl _) _
  have HC := hid (fmt_cell w)
  have HO : Hid (65 ≤ c → c ≤ 254 → ofI num c = ofSignI ((signsL num).getD c 0)) := fun h1 h2 => by
    unfold ofI
    rw [if_neg (by omega), if_neg (by omega), if_neg (by omega), if_neg (by omega), if_neg (by omega)]
  obtain ⟨x, hx⟩ : ∃ x, x = (signsL num).getD c 0 := ⟨_, rfl⟩
  rw [← hx] at HS HO
  clear hx
  go_enter Tryd.func43, Tryd.ntmps43
  go_wp2
  go_loop [10] (fun i => ∃ k : Nat, k ≤ 7 ∧ i = .int .i64 k ∧ Hid (∀ i, i < k → fmtL.getD i 0 ≠ c)) (fun i => 7 - (intOf i).toNat)
  case atStart => exact ⟨0, by omega, rfl, fun i h => absurd h (Nat.not_lt_zero _)⟩
  case round =>
    obtain ⟨k, hk, rfl, HNO⟩ := hrel
    by_cases hlt : k < 7
    · have hcell := HC.out k hlt
      have HF := hid (ofI_fmt num c k hlt)
      obtain ⟨f, hf⟩ : ∃ f, f = fmtL.getD k 0 := ⟨_, rfl⟩
      rw [← hf] at hcell HF
      have HFK := hid hf
      clear hf
      by_cases hq : f = c
      · have hqb : (f == (c : Int)) = true := by simpa using hq
        have HQ := hid hq
        clear hq
        go_wp2
        go_ret
        exact ⟨by rw [HF.out HQ.out]; rfl, HB.out⟩
      · have hqb : (f == (c : Int)) = false := by simpa using hq
        have HQ := hid hq
        clear hq
        go_wp2
        go_round
        case rel => exact ⟨k + 1, by omega, by go_num, fun i hi => by
          by_cases hij : i = k
          · rw [hij, ← HFK.out]; exact HQ.out
          · exact HNO.out i (by omega)⟩
        case measure => simp [intOf]; omega
    · obtain rfl : k = 7 := by omega
      have hnf := not_fmt c HNO.out
      have hcase : c = 0 ∨ c = 255 ∨ (c < 64 ∧ c ≠ 0) ∨ c = 64 ∨ (65 ≤ c ∧ c ≤ 254) := by omega
      obtain ⟨o, ho⟩ : ∃ o, o = ofI num c := ⟨_, rfl⟩
      have HOO := hid ho
      rcases hcase with h | h | ⟨h, h'⟩ | h | ⟨h, h'⟩
      · have e : o = 0 := by rw [ho]; unfold ofI; rw [if_pos h]
        have q0 : ((c : Int) == 0) = true := by simp; omega
        have HH := hid h
        clear h
        have HE := hid e
        clear e ho hnf HC hlt
        go_wp2
        go_ret
        exact ⟨by rw [← HOO.out, HE.out]; rfl, HB.out⟩
      · have e : o = 2 := by rw [ho]; unfold ofI; rw [if_neg (by omega), if_neg (by omega), if_pos h]
        have q0 : ((c : Int) == 0) = false := by simp; omega
        have q1 : ((c : Int) == 255) = true := by simp; omega
        have HH := hid h
        clear h
        have HE := hid e
        clear e ho hnf HC hlt
        go_wp2
        go_ret
        exact ⟨by rw [← HOO.out, HE.out]; rfl, HB.out⟩
      · have e : o = 3 := by rw [ho]; unfold ofI; rw [if_neg (by omega), if_neg (by omega), if_neg (by omega), if_neg (by omega), if_pos h]
        have q0 : ((c : Int) == 0) = false := by simp; omega
        have q1 : ((c : Int) == 255) = false := by simp; omega
        clear h'
        have HE := hid e
        clear e ho hnf HC hlt
        go_wp2
        go_ret
        exact ⟨by rw [← HOO.out, HE.out]; rfl, HB.out⟩
      · have e : o = 4 := by rw [ho]; unfold ofI; rw [if_neg (by omega), if_neg (by omega), if_neg (by omega), if_pos h]
        have q0 : ((c : Int) == 0) = false := by simp; omega
        have q1 : ((c : Int) == 255) = false := by simp; omega
        have q2 : ((c : Int) == 64) = true := by simp; omega
        have q3 : 64 ≤ c := by omega
        have HH := hid h
        clear h
        have HE := hid e
        clear e ho hnf HC hlt
        go_wp2
        go_ret
        exact ⟨by rw [← HOO.out, HE.out]; rfl, HB.out⟩
      · have e : o = ofSignI x := by rw [ho]; exact HO.out h h'
        have HE := hid e
        have q0 : ((c : Int) == 0) = false := by simp; omega
        have q1 : ((c : Int) == 255) = false := by simp; omega
        have q2 : ((c : Int) == 64) = false := by simp; omega
        clear e ho hnf HC hlt HO
        have hd : (48 ≤ x ∧ x ≤ 57) ∨ (x < 48 ∨ 58 ≤ x) := by omega
        rcases hd with ⟨d1, d2⟩ | d1
        · have e : ofSignI x = 5 := by
            have : digitB x = true := by simp [digitB]; omega
            simp [ofSignI, this]
          have HX := hid e
          have f : decide (x ≤ 57) = true := by simpa using d2
          clear e
          go_wp2_with fail
          with_reducible refine (HS.out _).mono ?_
          rintro e w' ⟨rfl, rfl⟩
          go_wp2
          go_ret
          exact ⟨by rw [← HOO.out, HE.out, HX.out]; rfl, HB.out⟩
        · have hdf : digitB x = false := by simp [digitB]; omega
          have HDF := hid hdf
          clear hdf
          rcases letter_cases x with h1 | ⟨h1, h2⟩ | ⟨h1, h2⟩ | ⟨h1, h2⟩ | ⟨h1, h2⟩ | ⟨h1, h2, h3, h4⟩ | ⟨h1, h2, h3⟩ | ⟨h1, h2, h3, h4⟩ | h1
          · have e : ofSignI x = 7 := by
              have hl : letterB x = false := by simp [letterB]; omega
              simp [ofSignI, HDF.out, hl]
            have HX := hid e
            clear e
            rcases d1 with d1 | d1
            all_goals
              try (have f57 : decide (x ≤ 57) = false := by simp; omega)
              go_wp2_with fail
              with_reducible refine (HS.out _).mono ?_
              rintro e w' ⟨rfl, rfl⟩
              go_wp2
              go_ret
              exact ⟨by rw [← HOO.out, HE.out, HX.out]; rfl, HB.out⟩
          · have e : ofSignI x = 6 := by
              have hl : letterB x = true := by simp [letterB]; omega
              simp [ofSignI, HDF.out, hl]
            have HX := hid e
            clear e
            have d2 : 58 ≤ x := by omega
            have f57 : decide (x ≤ 57) = false := by simp; omega
            clear d1
            have f0 : decide (x ≤ 90) = true := by simp; omega
            go_wp2_with fail
            with_reducible refine (HS.out _).mono ?_
            rintro e w' ⟨rfl, rfl⟩
            go_wp2
            go_ret
            exact ⟨by rw [← HOO.out, HE.out, HX.out]; rfl, HB.out⟩
          · have e : ofSignI x = 7 := by
              have hl : letterB x = false := by simp [letterB]; omega
              simp [ofSignI, HDF.out, hl]
            have HX := hid e
            clear e
            have d2 : 58 ≤ x := by omega
            have f57 : decide (x ≤ 57) = false := by simp; omega
            clear d1
            have f0 : decide (x ≤ 90) = false := by simp; omega
            go_wp2_with fail
            with_reducible refine (HS.out _).mono ?_
            rintro e w' ⟨rfl, rfl⟩
            go_wp2
            go_ret
            exact ⟨by rw [← HOO.out, HE.out, HX.out]; rfl, HB.out⟩
          · have e : ofSignI x = 6 := by
              have hl : letterB x = true := by simp [letterB]; omega
              simp [ofSignI, HDF.out, hl]
            have HX := hid e
            clear e
            have d2 : 58 ≤ x := by omega
            have f57 : decide (x ≤ 57) = false := by simp; omega
            clear d1
            have f0 : decide (x ≤ 122) = true := by simp; omega
            go_wp2_with fail
            with_reducible refine (HS.out _).mono ?_
            rintro e w' ⟨rfl, rfl⟩
            go_wp2
            go_ret
            exact ⟨by rw [← HOO.out, HE.out, HX.out]; rfl, HB.out⟩
          · have e : ofSignI x = 7 := by
              have hl : letterB x = false := by simp [letterB]; omega
              simp [ofSignI, HDF.out, hl]
            have HX := hid e
            clear e
            have d2 : 58 ≤ x := by omega
            have f57 : decide (x ≤ 57) = false := by simp; omega
            clear d1
            have f0 : decide (x ≤ 122) = false := by simp; omega
            have f1 : decide (x ≤ 90) = false := by simp; omega
            go_wp2_with fail
            with_reducible refine (HS.out _).mono ?_
            rintro e w' ⟨rfl, rfl⟩
            go_wp2
            go_ret
            exact ⟨by rw [← HOO.out, HE.out, HX.out]; rfl, HB.out⟩
          · have e : ofSignI x = 6 := by
              have hl : letterB x = true := by simp at h3 h4; simp [letterB]; omega
              simp [ofSignI, HDF.out, hl]
            have HX := hid e
            clear e
            have d2 : 58 ≤ x := by omega
            have f57 : decide (x ≤ 57) = false := by simp; omega
            clear d1
            have f0 : decide (x ≤ 122) = false := by simp; omega
            have f1 : decide (x ≤ 90) = false := by simp; omega
            have f2 : decide (x ≤ 255) = true := by simp; omega
            have f3 : (x != 215) = true := by simpa using h3
            have f4 : (x != 247) = true := by simpa using h4
            go_wp2_with fail
            with_reducible refine (HS.out _).mono ?_
            rintro e w' ⟨rfl, rfl⟩
            go_wp2
            go_ret
            exact ⟨by rw [← HOO.out, HE.out, HX.out]; rfl, HB.out⟩
          · have e : ofSignI x = 7 := by
              have hl : letterB x = false := by simp at h3; simp [letterB]; omega
              simp [ofSignI, HDF.out, hl]
            have HX := hid e
            clear e
            have d2 : 58 ≤ x := by omega
            have f57 : decide (x ≤ 57) = false := by simp; omega
            clear d1
            have f0 : decide (x ≤ 122) = false := by simp; omega
            have f1 : decide (x ≤ 90) = false := by simp; omega
            have f2 : decide (x ≤ 255) = true := by simp; omega
            have f3 : (x != 215) = false := by simpa using h3
            clear h3
            go_wp2_with fail
            with_reducible refine (HS.out _).mono ?_
            rintro e w' ⟨rfl, rfl⟩
            go_wp2
            go_ret
            exact ⟨by rw [← HOO.out, HE.out, HX.out]; rfl, HB.out⟩
          · have e : ofSignI x = 7 := by
              have hl : letterB x = false := by simp at h3 h4; simp [letterB]; omega
              simp [ofSignI, HDF.out, hl]
            have HX := hid e
            clear e
            have d2 : 58 ≤ x := by omega
            have f57 : decide (x ≤ 57) = false := by simp; omega
            clear d1
            have f0 : decide (x ≤ 122) = false := by simp; omega
            have f1 : decide (x ≤ 90) = false := by simp; omega
            have f2 : decide (x ≤ 255) = true := by simp; omega
            have f3 : (x != 215) = true := by simpa using h3
            have f4 : (x != 247) = false := by simpa using h4
            clear h4
            go_wp2_with fail
            with_reducible refine (HS.out _).mono ?_
            rintro e w' ⟨rfl, rfl⟩
            go_wp2
            go_ret
            exact ⟨by rw [← HOO.out, HE.out, HX.out]; rfl, HB.out⟩
          · have e : ofSignI x = 7 := by
              have hl : letterB x = false := by simp [letterB]; omega
              simp [ofSignI, HDF.out, hl]
            have HX := hid e
            clear e
            have d2 : 58 ≤ x := by omega
            have f57 : decide (x ≤ 57) = false := by simp; omega
            clear d1
            have f0 : decide (x ≤ 122) = false := by simp; omega
            have f1 : decide (x ≤ 90) = false := by simp; omega
            have f2 : decide (x ≤ 255) = false := by simp; omega
            go_wp2_with fail
            with_reducible refine (HS.out _).mono ?_
            rintro e w' ⟨rfl, rfl⟩
            go_wp2
            go_ret
            exact ⟨by rw [← HOO.out, HE.out, HX.out]; rfl, HB.out⟩
end Go.Proofs.YtadoiplfglaonaaDoor
