/-
  The whole road of PageCommon: it answers true whatever the two numbers, and what lay in memory lies as it lay.
-/
import Derived.Test.YtadoiplfglaonaaDoorPick
namespace Go.Proofs.YtadoiplfglaonaaDoor
open Go.RowKit Go.Lib Go.Shelf

/-- What holds at each round's head. -/
def CommonAt (w : World) (b1 b2 : Nat) (n1 n2 : Int) (wr : World) : Prop := Page wr b1 n1 ∧ Page wr b2 n2 ∧ b1 ≠ b2 ∧ w.heap.size ≤ b1 ∧ w.heap.size ≤ b2 ∧ Below w.heap.size w wr
theorem CommonAt.first {w : World} {b1 b2 : Nat} {n1 n2 : Int} {wr w' : World} (h : CommonAt w b1 b2 n1 n2 wr) (hR : ∃ m, Ready w' b1 n1 m) (hB : But b1 wr w') : CommonAt w b1 b2 n1 n2 w' := by
  obtain ⟨h1, h2, hne, hb1, hb2, hb⟩ := h
  exact ⟨⟨h1.1, .inr hR⟩, h2.but h1 (Ne.symm hne) hB, hne, hb1, hb2, hb.trans (hB.to hb1 hb.size)⟩
theorem CommonAt.second {w : World} {b1 b2 : Nat} {n1 n2 : Int} {wr w' : World} (h : CommonAt w b1 b2 n1 n2 wr) (hR : ∃ m, Ready w' b2 n2 m) (hB : But b2 wr w') : CommonAt w b1 b2 n1 n2 w' := by
  obtain ⟨h1, h2, hne, hb1, hb2, hb⟩ := h
  exact ⟨h1.but h2 hne hB, ⟨h2.1, .inr hR⟩, hne, hb1, hb2, hb.trans (hB.to hb2 hb.size)⟩

set_option maxRecDepth 100000 in
set_option maxHeartbeats 4000000 in
theorem pageCommon_true (n m : Nat) (hn : n < 256) (hm : m < 256) (w : World) (hN : Numbers w) : Calls Tryd.prog 10 #[.int .u8 n, .int .u8 m] w fun e w' => e = .returned (.bool true) ∧ Below w.heap.size w w' := by
  have HN := hid hN
  have HK1 := hid (picked_mem n)
  have HK2 := hid (picked_mem m)
  clear hN
  go_enter Tryd.func10, Tryd.ntmps10
  go_wp2_with fail
  refine (awake_true _ HN.out).mono ?_
  rintro e w1 ⟨rfl, hB1⟩
  have HN1 := hid (HN.out.below HN.out.1 hB1)
  have HB1 := hid hB1
  clear hB1
  go_wp2_with fail
  refine (pick_any n hn _ HN1.out).mono ?_
  rintro e w2 ⟨b1, rfl, hb1, hP1, hB2⟩
  have HN2 := hid (HN1.out.below HN1.out.1 hB2)
  have HB2 := hid (HB1.out.trans (hB2.mono HB1.out.size))
  have HP1 := hid hP1
  have hz1 := HB1.out.size
  have hz2 := hP1.lt
  clear hB2 hP1
  go_wp2_with fail
  refine (pick_any m hm _ HN2.out).mono ?_
  rintro e w3 ⟨b2, rfl, hb2, hP2, hB3⟩
  have HC : Hid (CommonAt w b1 b2 (picked n) (picked m) w3) := ⟨HP1.out.below hB3, hP2, by omega, by omega, by have := HB2.out.size; omega, HB2.out.trans (hB3.mono HB2.out.size)⟩
  clear hB3 hP2 HP1 HB2 HB1 HN HN1 HN2 hb1 hb2 hz1 hz2
  obtain ⟨n1, hn1⟩ : ∃ n1, n1 = picked n := ⟨_, rfl⟩
  obtain ⟨n2, hn2⟩ : ∃ n2, n2 = picked m := ⟨_, rfl⟩
  rw [← hn1] at HC HK1 ⊢
  rw [← hn2] at HC HK2 ⊢
  clear hn1 hn2
  go_wp2_with fail
  go_loopw [9] (fun i wr => ∃ k : Nat, 32 ≤ k ∧ k ≤ 123 ∧ i = .int .i32 k ∧ Hid (CommonAt w b1 b2 n1 n2 wr)) (fun i _ => 123 - (intOf i).toNat)
  case atStart => exact ⟨32, by omega, by omega, rfl, HC⟩
  case round =>
    obtain ⟨k, hk0, hk1, rfl, H1⟩ := hrel
    clear HC
    by_cases hlt : k ≤ 122
    · have hwf : (Lit.int .i32 (k : Int)).wf = true := wf_rune (by omega) (by omega)
      have HW := hid hwf
      clear hwf
      have hcase : k = 32 ∨ (33 ≤ k ∧ k ≤ 47) ∨ (48 ≤ k ∧ k ≤ 57) ∨ (58 ≤ k ∧ k ≤ 64) ∨ (65 ≤ k ∧ k ≤ 90) ∨ (91 ≤ k ∧ k ≤ 96) ∨ (97 ≤ k ∧ k ≤ 122) := by omega
      have hcom : common k = true → codeOf n1 k = ((codeOf 37 k).1, true) ∧ codeOf n2 k = ((codeOf 37 k).1, true) := fun h => ⟨common_codes n1 HK1.out k (by omega) h, common_codes n2 HK2.out k (by omega) h⟩
      have HCO := hid hcom
      clear hcom
      rcases hcase with hc | hc | hc | hc | hc | hc | hc
      · have h32 : ((k : Int) == 32) = true := by simp; omega
        have HK0 := hid hc
        clear hc
        obtain ⟨q1, q2⟩ := HCO.out (by first | (simp [common]; omega) | (rw [HK0.out]; rfl))
        have C1 := code_any b1 n1 k wr H1.out.1 HW.out
        rw [q1] at C1
        have HC1 := hid C1
        clear C1 q1
        go_wp2_with fail
        with_reducible refine HC1.out.mono ?_
        rintro e w4 ⟨rfl, hR, hB⟩
        have H2 := hid (H1.out.first hR hB)
        clear hR hB
        have C2 := code_any b2 n2 k w4 H2.out.2.1 HW.out
        rw [q2] at C2
        have HC2 := hid C2
        clear C2 q2
        go_wp2_with fail
        with_reducible refine HC2.out.mono ?_
        rintro e w5 ⟨rfl, hR, hB⟩
        have H3 := hid (H2.out.second hR hB)
        clear hR hB
        go_wp2
        go_roundw
        case rel => exact ⟨k + 1, by omega, by omega, by go_num, H3⟩
        case measure => simp [intOf]; omega
      · obtain ⟨hc1, hc2⟩ := hc
        have h32 : ((k : Int) == 32) = false := by simp; omega
        have C1 := code_any b1 n1 k wr H1.out.1 HW.out
        have HC1 := hid C1
        clear C1
        go_wp2_with fail
        with_reducible refine HC1.out.mono ?_
        rintro e w4 ⟨rfl, hR, hB⟩
        have H2 := hid (H1.out.first hR hB)
        clear hR hB
        have HC2 := hid (code_any b2 n2 k w4 H2.out.2.1 HW.out)
        go_wp2_with fail
        with_reducible refine HC2.out.mono ?_
        rintro e w5 ⟨rfl, hR, hB⟩
        have H3 := hid (H2.out.second hR hB)
        clear hR hB
        go_wp2
        go_roundw
        case rel => exact ⟨k + 1, by omega, by omega, by go_num, H3⟩
        case measure => simp [intOf]; omega
      · obtain ⟨hc1, hc2⟩ := hc
        have h32 : ((k : Int) == 32) = false := by simp; omega
        obtain ⟨q1, q2⟩ := HCO.out (by first | (simp [common]; omega) | (rw [HK0.out]; rfl))
        have C1 := code_any b1 n1 k wr H1.out.1 HW.out
        rw [q1] at C1
        have HC1 := hid C1
        clear C1 q1
        go_wp2_with fail
        with_reducible refine HC1.out.mono ?_
        rintro e w4 ⟨rfl, hR, hB⟩
        have H2 := hid (H1.out.first hR hB)
        clear hR hB
        have C2 := code_any b2 n2 k w4 H2.out.2.1 HW.out
        rw [q2] at C2
        have HC2 := hid C2
        clear C2 q2
        go_wp2_with fail
        with_reducible refine HC2.out.mono ?_
        rintro e w5 ⟨rfl, hR, hB⟩
        have H3 := hid (H2.out.second hR hB)
        clear hR hB
        go_wp2
        go_roundw
        case rel => exact ⟨k + 1, by omega, by omega, by go_num, H3⟩
        case measure => simp [intOf]; omega
      · obtain ⟨hc1, hc2⟩ := hc
        have h32 : ((k : Int) == 32) = false := by simp; omega
        have C1 := code_any b1 n1 k wr H1.out.1 HW.out
        have HC1 := hid C1
        clear C1
        go_wp2_with fail
        with_reducible refine HC1.out.mono ?_
        rintro e w4 ⟨rfl, hR, hB⟩
        have H2 := hid (H1.out.first hR hB)
        clear hR hB
        have HC2 := hid (code_any b2 n2 k w4 H2.out.2.1 HW.out)
        go_wp2_with fail
        with_reducible refine HC2.out.mono ?_
        rintro e w5 ⟨rfl, hR, hB⟩
        have H3 := hid (H2.out.second hR hB)
        clear hR hB
        go_wp2
        go_roundw
        case rel => exact ⟨k + 1, by omega, by omega, by go_num, H3⟩
        case measure => simp [intOf]; omega
      · obtain ⟨hc1, hc2⟩ := hc
        have h32 : ((k : Int) == 32) = false := by simp; omega
        obtain ⟨q1, q2⟩ := HCO.out (by first | (simp [common]; omega) | (rw [HK0.out]; rfl))
        have C1 := code_any b1 n1 k wr H1.out.1 HW.out
        rw [q1] at C1
        have HC1 := hid C1
        clear C1 q1
        go_wp2_with fail
        with_reducible refine HC1.out.mono ?_
        rintro e w4 ⟨rfl, hR, hB⟩
        have H2 := hid (H1.out.first hR hB)
        clear hR hB
        have C2 := code_any b2 n2 k w4 H2.out.2.1 HW.out
        rw [q2] at C2
        have HC2 := hid C2
        clear C2 q2
        go_wp2_with fail
        with_reducible refine HC2.out.mono ?_
        rintro e w5 ⟨rfl, hR, hB⟩
        have H3 := hid (H2.out.second hR hB)
        clear hR hB
        go_wp2
        go_roundw
        case rel => exact ⟨k + 1, by omega, by omega, by go_num, H3⟩
        case measure => simp [intOf]; omega
      · obtain ⟨hc1, hc2⟩ := hc
        have h32 : ((k : Int) == 32) = false := by simp; omega
        have C1 := code_any b1 n1 k wr H1.out.1 HW.out
        have HC1 := hid C1
        clear C1
        go_wp2_with fail
        with_reducible refine HC1.out.mono ?_
        rintro e w4 ⟨rfl, hR, hB⟩
        have H2 := hid (H1.out.first hR hB)
        clear hR hB
        have HC2 := hid (code_any b2 n2 k w4 H2.out.2.1 HW.out)
        go_wp2_with fail
        with_reducible refine HC2.out.mono ?_
        rintro e w5 ⟨rfl, hR, hB⟩
        have H3 := hid (H2.out.second hR hB)
        clear hR hB
        go_wp2
        go_roundw
        case rel => exact ⟨k + 1, by omega, by omega, by go_num, H3⟩
        case measure => simp [intOf]; omega
      · obtain ⟨hc1, hc2⟩ := hc
        have h32 : ((k : Int) == 32) = false := by simp; omega
        obtain ⟨q1, q2⟩ := HCO.out (by first | (simp [common]; omega) | (rw [HK0.out]; rfl))
        have C1 := code_any b1 n1 k wr H1.out.1 HW.out
        rw [q1] at C1
        have HC1 := hid C1
        clear C1 q1
        go_wp2_with fail
        with_reducible refine HC1.out.mono ?_
        rintro e w4 ⟨rfl, hR, hB⟩
        have H2 := hid (H1.out.first hR hB)
        clear hR hB
        have C2 := code_any b2 n2 k w4 H2.out.2.1 HW.out
        rw [q2] at C2
        have HC2 := hid C2
        clear C2 q2
        go_wp2_with fail
        with_reducible refine HC2.out.mono ?_
        rintro e w5 ⟨rfl, hR, hB⟩
        have H3 := hid (H2.out.second hR hB)
        clear hR hB
        go_wp2
        go_roundw
        case rel => exact ⟨k + 1, by omega, by omega, by go_num, H3⟩
        case measure => simp [intOf]; omega
    · obtain rfl : k = 123 := by omega
      go_wp2
      go_ret
      exact ⟨rfl, H1.out.2.2.2.2.2⟩
end Go.Proofs.YtadoiplfglaonaaDoor
