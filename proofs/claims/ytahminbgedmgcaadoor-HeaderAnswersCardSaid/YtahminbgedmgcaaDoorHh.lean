/-
  The law's own walk: HeaderAnswers.
-/
import Derived.Test.YtahminbgedmgcaaDoorHg
namespace Go.Proofs.YtahminbgedmgcaaDoor
open Go.RowKit Go.Lib

theorem own_len {w : World} {v : Value} {xs : List Int} (h : OwnB w v xs) (n : Nat) (hn : xs.length = n) : ∃ x c, v = .slice x n c := by
  rcases h.2.2 with ⟨rfl, e⟩ | ⟨g, cap, cur, rfl, _⟩
  · exact ⟨none, 0, by rw [← hn, e]⟩
  · exact ⟨_, _, by rw [← hn]⟩
theorem ans_cases (t s q x : Int) : (ansL t s q x = [] ∧ ansB t s x = false) ∨ ∃ k c : Int, 0 ≤ k ∧ k ≤ 1 ∧ 0 ≤ c ∧ c < 256 ∧ ansL t s q x = rspL k q c ∧ ansB t s x = true ∧ (k == 0) = (x == 0) := by
  have hc := codeN_le x
  by_cases ht : t = 2 ∨ t = 6
  · exact .inl (ans_type ht)
  · by_cases hx : x = 0
    · by_cases hs : s = 2
      · obtain ⟨e1, e2⟩ := ans_pos (q := q) ht hs hx
        exact .inr ⟨0, 0, by omega, by omega, by omega, by omega, e1, e2, by simp [hx]⟩
      · exact .inl (ans_none ht (fun h => hs h.1) (fun h => h.2 hx))
    · by_cases hs : s = 1 ∨ s = 2
      · obtain ⟨e1, e2⟩ := ans_neg (q := q) ht hs hx
        exact .inr ⟨1, codeN x, by omega, by omega, by omega, by omega, e1, e2, by simp [hx]⟩
      · exact .inl (ans_none ht (fun h => hs (.inr h.1)) (fun h => hs h.1))
set_option maxRecDepth 100000 in
set_option maxHeartbeats 4000000 in
theorem headerAnswers_true (t r s q x : Int) (F : HFit t r s q) (w : World) (hN : Names w) : Calls Tryd.prog 4 #[hdrV t r s q, .int .i64 x] w fun e w' => e = .returned (.bool true) ∧ Below w.heap.size w w' := by
  have hbx := box_lit w (.int .u8 t) (.int .u8 r) (.int .u8 s) (.int .u16 q) 24
  have HW := hid (hawake_true _ (hN.step hbx))
  have HBX := hid hbx
  have HA := hid (fun W => answer_any t r s q x W F)
  have HR := hid (fun W => ranswer_any t r s q x W F)
  have HC := hid (fun W => code_any x W)
  have HD := hid (fun W => rcode_any x W)
  have hs0 := F.q0
  have hs1 := F.q1
  clear hN hbx F
  rcases ans_cases t s q x with ⟨e1, e2⟩ | ⟨k, c, k0, k1, c0, c1, e1, e2, e3⟩
  · rw [e1, e2] at HA
    rw [e1] at HR
    clear e1 e2
    go_enter Tryd.func4, Tryd.ntmps4
    go_wp2_with fail
    with_reducible refine HW.out.mono ?_
    rintro e w1 ⟨rfl, hb1⟩
    have p0 := keepc (a := ⟨w.heap.size, 0, none⟩) (v := .int .u8 t) hb1 (by simp [go_sem])
    have p1 := keepc (a := ⟨w.heap.size, 1, none⟩) (v := .int .u8 r) hb1 (by simp [go_sem])
    have p2 := keepc (a := ⟨w.heap.size, 2, none⟩) (v := .int .u8 s) hb1 (by simp [go_sem])
    have p3 := keepc (a := ⟨w.heap.size, 3, none⟩) (v := .int .u16 q) hb1 (by simp [go_sem])
    have HB1 := hid (below_t HBX.out hb1)
    clear hb1
    go_wp2_with fail
    with_reducible refine (HA.out _).mono ?_
    rintro e w2 ⟨v2, rfl, ho2, hb2, hk2⟩
    obtain ⟨x2, c2, rfl⟩ := own_empty ho2
    have p0 := keepc hb2 p0
    have p1 := keepc hb2 p1
    have p2 := keepc hb2 p2
    have p3 := keepc hb2 p3
    have HO2 := hid ho2
    have HB2 := hid (below_t HB1.out hb2)
    clear ho2 hb2 hk2
    go_wp2_with fail
    with_reducible refine (HR.out _).mono ?_
    rintro e w3 ⟨v3, rfl, ho3, hb3, hk3⟩
    obtain ⟨x3, c3, rfl⟩ := own_empty ho3
    have HO3 := hid ho3
    have HO2b := hid (HO2.out.step hb3)
    have HB3 := hid (below_t HB2.out hb3)
    clear ho3 hb3 hk3
    go_wp2_with fail
    with_reducible refine (same_true _ _ _ _ HO2b.out.reads HO3.out.reads).mono ?_
    rintro e w4 ⟨rfl, rfl⟩
    go_wp2_with fail
    with_reducible refine (HC.out _).mono ?_
    rintro e w4 ⟨rfl, rfl⟩
    go_wp2_with fail
    with_reducible refine (HD.out _).mono ?_
    rintro e w4 ⟨rfl, rfl⟩
    go_wp2
    go_ret
    exact ⟨rfl, HB3.out⟩
  · rw [e1, e2] at HA
    rw [e1] at HR
    have HPA := hid (fun W v (h : OwnB W v (rspL k q c)) => parse_own (t := 2) (r := 0) (s := k) (a := q / 256) (b := q % 256) (rest := [c]) h (by simp) (by simp [okH]; omega))
    rw [show 256 * (q / 256) + q % 256 = q by omega] at HPA
    clear e1 e2
    obtain ⟨hk, hx⟩ | ⟨hk, hx⟩ : (k = 0 ∧ x = 0) ∨ (k = 1 ∧ (x == 0) = false) := by
      by_cases hx : x = 0
      · exact .inl ⟨by simpa [hx] using e3, hx⟩
      · exact .inr ⟨by have : ¬ k = 0 := (fun h => by simp [h] at e3; exact hx e3); omega, by simpa using hx⟩
    · subst hk hx
      clear e3
      have HL : Hid ((rspL 0 q c).length = 6) := rfl
      go_enter Tryd.func4, Tryd.ntmps4
      go_wp2_with fail
      with_reducible refine HW.out.mono ?_
      rintro e w1 ⟨rfl, hb1⟩
      have p0 := keepc (a := ⟨w.heap.size, 0, none⟩) (v := .int .u8 t) hb1 (by simp [go_sem])
      have p1 := keepc (a := ⟨w.heap.size, 1, none⟩) (v := .int .u8 r) hb1 (by simp [go_sem])
      have p2 := keepc (a := ⟨w.heap.size, 2, none⟩) (v := .int .u8 s) hb1 (by simp [go_sem])
      have p3 := keepc (a := ⟨w.heap.size, 3, none⟩) (v := .int .u16 q) hb1 (by simp [go_sem])
      have HB1 := hid (below_t HBX.out hb1)
      clear hb1
      go_wp2_with fail
      with_reducible refine (HA.out _).mono ?_
      rintro e w2 ⟨v2, rfl, ho2, hb2, hk2⟩
      obtain ⟨x2, c2, rfl⟩ := own_len ho2 6 HL.out
      have p0 := keepc hb2 p0
      have p1 := keepc hb2 p1
      have p2 := keepc hb2 p2
      have p3 := keepc hb2 p3
      have HO2 := hid ho2
      have HB2 := hid (below_t HB1.out hb2)
      clear ho2 hb2 hk2
      go_wp2_with fail
      with_reducible refine (HR.out _).mono ?_
      rintro e w3 ⟨v3, rfl, ho3, hb3, hk3⟩
      obtain ⟨x3, c3, rfl⟩ := own_len ho3 6 HL.out
      have p3 := keepc hb3 p3
      have HO3 := hid ho3
      have HO2b := hid (HO2.out.step hb3)
      have HB3 := hid (below_t HB2.out hb3)
      clear ho3 hb3 hk3 p0 p1 p2
      go_wp2_with fail
      with_reducible refine (same_true _ _ _ _ HO2b.out.reads HO3.out.reads).mono ?_
      rintro e w4 ⟨rfl, rfl⟩
      go_wp2_with fail
      with_reducible refine (HC.out _).mono ?_
      rintro e w4 ⟨rfl, rfl⟩
      go_wp2_with fail
      with_reducible refine (HD.out _).mono ?_
      rintro e w4 ⟨rfl, rfl⟩
      go_wp2_with fail
      with_reducible refine (HPA.out _ _ HO2b.out).mono ?_
      rintro e w5 ⟨v5, rfl, ho5, hb5, hk5⟩
      obtain ⟨x5, c5, rfl⟩ := own_len ho5 1 rfl
      have p3 := keepc hb5 p3
      have HB5 := hid (below_t HB3.out hb5)
      have hlt : w.heap.size < w5.heap.size := World.block_lt_of_cell? w5 _ p3
      clear ho5 hb5 hk5
      go_wp2
      go_ret
      exact ⟨rfl, bal HB5.out _⟩
    · subst hk
      clear e3
      have HL : Hid ((rspL 1 q c).length = 6) := rfl
      go_enter Tryd.func4, Tryd.ntmps4
      go_wp2_with fail
      with_reducible refine HW.out.mono ?_
      rintro e w1 ⟨rfl, hb1⟩
      have p0 := keepc (a := ⟨w.heap.size, 0, none⟩) (v := .int .u8 t) hb1 (by simp [go_sem])
      have p1 := keepc (a := ⟨w.heap.size, 1, none⟩) (v := .int .u8 r) hb1 (by simp [go_sem])
      have p2 := keepc (a := ⟨w.heap.size, 2, none⟩) (v := .int .u8 s) hb1 (by simp [go_sem])
      have p3 := keepc (a := ⟨w.heap.size, 3, none⟩) (v := .int .u16 q) hb1 (by simp [go_sem])
      have HB1 := hid (below_t HBX.out hb1)
      clear hb1
      go_wp2_with fail
      with_reducible refine (HA.out _).mono ?_
      rintro e w2 ⟨v2, rfl, ho2, hb2, hk2⟩
      obtain ⟨x2, c2, rfl⟩ := own_len ho2 6 HL.out
      have p0 := keepc hb2 p0
      have p1 := keepc hb2 p1
      have p2 := keepc hb2 p2
      have p3 := keepc hb2 p3
      have HO2 := hid ho2
      have HB2 := hid (below_t HB1.out hb2)
      clear ho2 hb2 hk2
      go_wp2_with fail
      with_reducible refine (HR.out _).mono ?_
      rintro e w3 ⟨v3, rfl, ho3, hb3, hk3⟩
      obtain ⟨x3, c3, rfl⟩ := own_len ho3 6 HL.out
      have p3 := keepc hb3 p3
      have HO3 := hid ho3
      have HO2b := hid (HO2.out.step hb3)
      have HB3 := hid (below_t HB2.out hb3)
      clear ho3 hb3 hk3 p0 p1 p2
      go_wp2_with fail
      with_reducible refine (same_true _ _ _ _ HO2b.out.reads HO3.out.reads).mono ?_
      rintro e w4 ⟨rfl, rfl⟩
      go_wp2_with fail
      with_reducible refine (HC.out _).mono ?_
      rintro e w4 ⟨rfl, rfl⟩
      go_wp2_with fail
      with_reducible refine (HD.out _).mono ?_
      rintro e w4 ⟨rfl, rfl⟩
      go_wp2_with fail
      with_reducible refine (HPA.out _ _ HO2b.out).mono ?_
      rintro e w5 ⟨v5, rfl, ho5, hb5, hk5⟩
      obtain ⟨x5, c5, rfl⟩ := own_len ho5 1 rfl
      have p3 := keepc hb5 p3
      have HB5 := hid (below_t HB3.out hb5)
      have hlt : w.heap.size < w5.heap.size := World.block_lt_of_cell? w5 _ p3
      clear ho5 hb5 hk5
      go_wp2
      go_ret
      exact ⟨rfl, bal HB5.out _⟩
end Go.Proofs.YtahminbgedmgcaaDoor
