/-
  The whole road of PageUppers: it answers true, and what lay in memory lies as it lay.
-/
import Derived.Test.YtadoiplfglaonaaDoorUpperw
namespace Go.Proofs.YtadoiplfglaonaaDoor
open Go.RowKit Go.Lib Go.Shelf

theorem upper_ref_core (num : Int) (hn : num ∈ pagesL) (c : Nat) (hc : c < 256) (w : World) (x : Int) (hx : x = (signsL num).getD c 0) (d : Nat) (ok : Bool) (hd : (d, ok) = codeOf num (x - 32)) : upperN num c = (if lowerB x then (if ok then d else c) else c) ∧ (Calls Tryd.prog 19 #[.int .i64 num, .int .u8 c] w fun e w' => e = .returned (.int .i32 x) ∧ w = w') ∧ (0 ≤ x ∧ x ≤ 65535) ∧ (Calls Tryd.prog 21 #[.int .i64 num, .int .i32 (x - 32)] w fun e w' => e = .returned (.int .i64 (if ok then (d : Int) else -1)) ∧ w = w') ∧ d < 256 := by
  have h1 := sign_ref num hn c hc w
  have h2 := signs_bd num hn c hc
  have h3 := code_ref num hn (x - 32) w
  have h5 : (codeOf num (x - 32)).1 < 256 := by
    unfold codeOf
    split
    · rename_i i h
      have hl : (signsL num).length = 256 := signsAt_length _ _
      have := (List.findIdx?_eq_some_iff_getElem.1 h).1
      omega
    · decide
  rw [← hx] at h1 h2
  unfold refCode at h3
  rw [← hd] at h3 h5
  refine ⟨?_, h1, h2, ?_, h5⟩
  · unfold upperN
    rw [← hx, ← hd]
  · exact h3

set_option maxRecDepth 100000 in
set_option maxHeartbeats 1000000 in
theorem upper_ref (num : Int) (hn : num ∈ pagesL) (c : Nat) (hc : c < 256) (w : World) : Calls Tryd.prog 30 #[.int .i64 num, .int .u8 c] w fun e w' => e = .returned (.int .u8 (upperN num c : Nat)) ∧ w = w' := by
  obtain ⟨x, hx⟩ : ∃ x, x = (signsL num).getD c 0 := ⟨_, rfl⟩
  obtain ⟨⟨d, ok⟩, hd⟩ : ∃ q, q = codeOf num (x - 32) := ⟨_, rfl⟩
  obtain ⟨hU, S, ⟨hb0, hb1⟩, C, hdl⟩ := upper_ref_core num hn c hc w x hx d ok hd
  have HS := hid S
  have HC := hid C
  clear S C hx hd
  rcases lower_cases x with h | ⟨h1, h2⟩ | ⟨h1, h2⟩ | ⟨h1, h2, h3⟩ | ⟨h1, h2, h3⟩ | h
  · have hl : lowerB x = false := by simp [lowerB]; omega
    have e : upperN num c = c := by rw [hU]; simp [hl]
    rw [e]
    clear e hU hl
    go_enter Tryd.func30, Tryd.ntmps30
    go_wp2_with fail
    with_reducible refine HS.out.mono ?_
    rintro e w' ⟨rfl, rfl⟩
    go_wp2
    go_ret
    exact ⟨rfl, rfl⟩
  · have hl : lowerB x = true := by simp [lowerB]; omega
    cases ok with
    | true =>
      have e : upperN num c = d := by rw [hU]; simp [hl]
      rw [e]
      clear e hU hl
      simp only [if_true] at HC
      go_enter Tryd.func30, Tryd.ntmps30
      go_wp2_with fail
      with_reducible refine HS.out.mono ?_
      rintro e w' ⟨rfl, rfl⟩
      go_wp2_with fail
      refine HC.out.mono ?_
      rintro e w' ⟨rfl, rfl⟩
      go_wp2
      go_ret
      exact ⟨rfl, rfl⟩
    | false =>
      have e : upperN num c = c := by rw [hU]; simp
      rw [e]
      clear e hU hl
      simp only [Bool.false_eq_true, if_false] at HC
      go_enter Tryd.func30, Tryd.ntmps30
      go_wp2_with fail
      with_reducible refine HS.out.mono ?_
      rintro e w' ⟨rfl, rfl⟩
      go_wp2_with fail
      refine HC.out.mono ?_
      rintro e w' ⟨rfl, rfl⟩
      go_wp2
      go_ret
      exact ⟨rfl, rfl⟩
  · have hl : lowerB x = false := by simp [lowerB]; omega
    have h122 : decide (x ≤ 122) = false := by simp; omega
    have e : upperN num c = c := by rw [hU]; simp [hl]
    rw [e]
    clear e hU hl
    go_enter Tryd.func30, Tryd.ntmps30
    go_wp2_with fail
    with_reducible refine HS.out.mono ?_
    rintro e w' ⟨rfl, rfl⟩
    go_wp2
    go_ret
    exact ⟨rfl, rfl⟩
  · have hl : lowerB x = true := by simp at h3; simp [lowerB]; omega
    have h122 : decide (x ≤ 122) = false := by simp; omega
    have h4 : (x != 247) = true := by simpa using h3
    cases ok with
    | true =>
      have e : upperN num c = d := by rw [hU]; simp [hl]
      rw [e]
      clear e hU hl
      simp only [if_true] at HC
      go_enter Tryd.func30, Tryd.ntmps30
      go_wp2_with fail
      with_reducible refine HS.out.mono ?_
      rintro e w' ⟨rfl, rfl⟩
      go_wp2_with fail
      refine HC.out.mono ?_
      rintro e w' ⟨rfl, rfl⟩
      go_wp2
      go_ret
      exact ⟨rfl, rfl⟩
    | false =>
      have e : upperN num c = c := by rw [hU]; simp
      rw [e]
      clear e hU hl
      simp only [Bool.false_eq_true, if_false] at HC
      go_enter Tryd.func30, Tryd.ntmps30
      go_wp2_with fail
      with_reducible refine HS.out.mono ?_
      rintro e w' ⟨rfl, rfl⟩
      go_wp2_with fail
      refine HC.out.mono ?_
      rintro e w' ⟨rfl, rfl⟩
      go_wp2
      go_ret
      exact ⟨rfl, rfl⟩
  · have hl : lowerB x = false := by simp at h3; simp [lowerB]; omega
    have h122 : decide (x ≤ 122) = false := by simp; omega
    have h4 : (x != 247) = false := by simpa using h3
    clear h3
    have e : upperN num c = c := by rw [hU]; simp [hl]
    rw [e]
    clear e hU hl
    go_enter Tryd.func30, Tryd.ntmps30
    go_wp2_with fail
    with_reducible refine HS.out.mono ?_
    rintro e w' ⟨rfl, rfl⟩
    go_wp2
    go_ret
    exact ⟨rfl, rfl⟩
  · have hl : lowerB x = false := by simp [lowerB]; omega
    have h122 : decide (x ≤ 122) = false := by simp; omega
    have h254 : decide (x ≤ 254) = false := by simp; omega
    have e : upperN num c = c := by rw [hU]; simp [hl]
    rw [e]
    clear e hU hl
    go_enter Tryd.func30, Tryd.ntmps30
    go_wp2_with fail
    with_reducible refine HS.out.mono ?_
    rintro e w' ⟨rfl, rfl⟩
    go_wp2
    go_ret
    exact ⟨rfl, rfl⟩

set_option maxRecDepth 100000 in
set_option maxHeartbeats 2000000 in
theorem pageUppers_true (n : Nat) (hn : n < 256) (w : World) (hN : Numbers w) : Calls Tryd.prog 7 #[.int .u8 n] w fun e w' => e = .returned (.bool true) ∧ Below w.heap.size w w' := by
  have HN := hid hN
  have HK1 := hid (picked_mem n)
  clear hN
  go_enter Tryd.func7, Tryd.ntmps7
  go_wp2_with fail
  refine (awake_true _ HN.out).mono ?_
  rintro e w1 ⟨rfl, hB1⟩
  have HN1 := hid (HN.out.below HN.out.1 hB1)
  have HB1 := hid hB1
  clear hB1
  go_wp2_with fail
  refine (pick_any n hn _ HN1.out).mono ?_
  rintro e w2 ⟨b, rfl, hb1, hP1, hB2⟩
  have HC : Hid (OneAt w b (picked n) w2) := ⟨hP1, by have := HB1.out.size; omega, HB1.out.trans (hB2.mono HB1.out.size)⟩
  clear hB2 hP1 HB1 HN HN1 hb1
  obtain ⟨num, hn1⟩ : ∃ num, num = picked n := ⟨_, rfl⟩
  rw [← hn1] at HC HK1 ⊢
  clear hn1
  go_wp2_with fail
  go_loopw [14] (fun i wr => ∃ k : Nat, k ≤ 256 ∧ i = .int .i64 k ∧ Hid (OneAt w b num wr)) (fun i _ => 256 - (intOf i).toNat)
  case atStart => exact ⟨0, by omega, rfl, HC⟩
  case round =>
    obtain ⟨k, hk, rfl, H1⟩ := hrel
    clear HC
    by_cases hlt : k < 256
    · obtain ⟨hu1, hu2⟩ := upperN_lt num HK1.out k hlt
      have HU := hid (upper_any b num k hlt wr H1.out.1)
      have HR := hid (fun w' => upper_ref num HK1.out k hlt w')
      have HV := hid (fun w' (h : OneAt w b num w') => upper_any b num (upperN num k) hu1 w' h.1)
      rw [hu2] at HV
      obtain ⟨u, hu⟩ : ∃ u, u = upperN num k := ⟨_, rfl⟩
      rw [← hu] at HU HR HV hu1
      clear hu hu2
      go_wp2_with fail
      with_reducible refine HU.out.mono ?_
      rintro e w4 ⟨rfl, hR, hB⟩
      have H2 := hid (H1.out.next hR hB)
      clear hR hB
      go_wp2_with fail
      with_reducible refine (HR.out _).mono ?_
      rintro e w' ⟨rfl, rfl⟩
      go_wp2_with fail
      with_reducible refine (HV.out _ H2.out).mono ?_
      rintro e w5 ⟨rfl, hR, hB⟩
      have H3 := hid (H2.out.next hR hB)
      clear hR hB
      go_wp2
      go_roundw
      case rel => exact ⟨k + 1, by omega, by go_num, H3⟩
      case measure => simp [intOf]; omega
    · obtain rfl : k = 256 := by omega
      go_wp2
      go_ret
      exact ⟨rfl, H1.out.2.2⟩
end Go.Proofs.YtadoiplfglaonaaDoor
