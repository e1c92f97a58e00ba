/-
  The reference's graphic escape of a sign; and the whole road of PageEscapes.
-/
import Derived.Test.YtadoiplfglaonaaDoorEscb
namespace Go.Proofs.YtadoiplfglaonaaDoor
open Go.RowKit Go.Lib Go.Shelf

/-- The code of an escape's sign; -1: there is none. -/
def refBack (s : Int) : Int := if (escBack s).2 then (escBack s).1 else -1
theorem escOf_back : ∀ c : Nat, c < 256 → (escOf c).1 ≠ 0 → escBack (escOf c).1 = ((c : Int), true) := by decide +kernel
theorem escOf_ok (c : Nat) : (escOf c).2 = decide ((escOf c).1 ≠ 0) := by
  unfold escOf
  cases h : escL.find? (fun p => p.1 == (c : Int)) with
  | none => simp
  | some p =>
    have := (esc_ok p (List.mem_of_find?_eq_some h)).2.2.1
    simp
    omega
theorem escBack_none (s : Int) (h : (escBack s).2 = false) : (escBack s).1 = 0 := by
  unfold escBack at h ⊢
  split at h
  · cases h
  · rfl
theorem escBack_bd (s : Int) : 0 ≤ (escBack s).1 ∧ (escBack s).1 ≤ 255 := by
  unfold escBack
  cases h : escL.find? (fun p => p.2 == s) with
  | none => simp
  | some p =>
    have := esc_ok p (List.mem_of_find?_eq_some h)
    simp only
    omega
theorem escBack_miss (s : Int) (hno : ∀ i : Nat, i < 256 → ¬ ((escOf i).1 ≠ 0 ∧ (escOf i).1 = s)) : (escBack s).2 = false := by
  unfold escBack
  cases h : escL.find? (fun p => p.2 == s) with
  | none => rfl
  | some p =>
    obtain ⟨h1, h2, h3, h4, h5, h6⟩ := esc_ok p (List.mem_of_find?_eq_some h)
    have hs : p.2 = s := by have := List.find?_some h; simpa using this
    have := hno p.1.toNat (by omega)
    rw [show ((p.1.toNat : Nat) : Int) = p.1 by omega, h5] at this
    exact absurd ⟨by omega, hs⟩ this

set_option maxRecDepth 100000 in
set_option maxHeartbeats 1000000 in
theorem escaped_ref (s : Int) (w : World) : Calls Tryd.prog 33 #[.int .i32 s] w fun e w' => e = .returned (.int .i64 (refBack s)) ∧ w = w' := by
  go_enter Tryd.func33, Tryd.ntmps33
  go_wp2
  go_loop [3] (fun i => ∃ k : Nat, k ≤ 256 ∧ i = .int .i64 k ∧ Hid (∀ i : Nat, i < k → ¬ ((escOf i).1 ≠ 0 ∧ (escOf i).1 = s))) (fun i => 256 - (intOf i).toNat)
  case atStart => exact ⟨0, by omega, rfl, fun i h => absurd h (Nat.not_lt_zero _)⟩
  case round =>
    obtain ⟨k, hk, rfl, HNO⟩ := hrel
    by_cases hlt : k < 256
    · have HS := hid (escape_ref k hlt w)
      have HBK := hid (escOf_back k hlt)
      obtain ⟨x, hx⟩ : ∃ x, x = (escOf k).1 := ⟨_, rfl⟩
      rw [← hx] at HS HBK
      have HX := hid hx
      clear hx
      by_cases h0 : x = 0
      · have h0b : (x != 0) = false := by simpa using h0
        have HN := hid h0
        clear h0
        go_wp2_with fail
        with_reducible refine HS.out.mono ?_
        rintro e w' ⟨rfl, rfl⟩
        go_wp2
        go_round
        case rel => exact ⟨k + 1, by omega, by go_num, fun i hi => by
          by_cases hij : i = k
          · rw [hij, ← HX.out]; exact fun h => h.1 HN.out
          · exact HNO.out i (by omega)⟩
        case measure => simp [intOf]; omega
      · have h0b : (x != 0) = true := by simpa using h0
        have HN := hid h0
        clear h0
        by_cases hq : x = s
        · have hqb : (x == s) = true := by simpa using hq
          have HQ := hid hq
          clear hq
          go_wp2_with fail
          with_reducible refine HS.out.mono ?_
          rintro e w' ⟨rfl, rfl⟩
          go_wp2
          go_ret
          exact ⟨by have := HBK.out HN.out; rw [HQ.out] at this; rw [refBack, this]; rfl, rfl⟩
        · have hqb : (x == s) = false := by simpa using hq
          have HQ := hid hq
          clear hq
          go_wp2_with fail
          with_reducible refine HS.out.mono ?_
          rintro e w' ⟨rfl, rfl⟩
          go_wp2
          go_round
          case rel => exact ⟨k + 1, by omega, by go_num, fun i hi => by
            by_cases hij : i = k
            · rw [hij, ← HX.out]; exact fun h => HQ.out h.2
            · exact HNO.out i (by omega)⟩
          case measure => simp [intOf]; omega
    · obtain rfl : k = 256 := by omega
      go_wp2
      go_ret
      exact ⟨by rw [refBack, escBack_miss s HNO.out]; rfl, rfl⟩

set_option maxRecDepth 100000 in
set_option maxHeartbeats 2000000 in
theorem pageEscapes_true (c : Nat) (s : Int) (hc : c < 256) (w : World) (hN : Numbers w) (hE : Escapes w) : Calls Tryd.prog 8 #[.int .u8 c, .int .i32 s] w fun e w' => e = .returned (.bool true) ∧ Below w.heap.size w w' := by
  have HN := hid hN
  have HE := hid hE
  have hok := escOf_ok c
  have hz := escBack_none s
  obtain ⟨hb0, hb1⟩ := escBack_bd s
  have HA := hid (fun w' (h : Escapes w') => escape_any c w' h)
  have HB := hid (fun w' (h : Escapes w') => escaped_any s w' h)
  have HR := hid (fun w' => escape_ref c hc w')
  have HQ : Hid (∀ w', Calls Tryd.prog 33 #[.int .i32 s] w' fun e w'' => e = .returned (.int .i64 (if (escBack s).2 then (escBack s).1 else -1)) ∧ w' = w'') := fun w' => escaped_ref s w'
  obtain ⟨⟨x, ok⟩, hx⟩ : ∃ q, q = escOf c := ⟨_, rfl⟩
  obtain ⟨⟨d, is⟩, hd⟩ : ∃ q, q = escBack s := ⟨_, rfl⟩
  rw [← hx] at hok HA HR
  rw [← hd] at hz hb0 hb1 HB HQ
  simp only at hok HA HR hz hb0 hb1 HB HQ
  clear hx hd hN hE
  have hx0 : (x = 0 ∧ ok = false) ∨ ((x != 0) = true ∧ ok = true) := by
    by_cases h : x = 0
    · left; exact ⟨h, by rw [hok]; simp [h]⟩
    · right; exact ⟨by simpa using h, by rw [hok]; simp [h]⟩
  clear hok
  have hi0 : (is = false ∧ d = 0) ∨ is = true := by
    cases is
    · left; exact ⟨rfl, hz rfl⟩
    · right; rfl
  clear hz
  rcases hx0 with ⟨rfl, rfl⟩ | ⟨hxn, rfl⟩ <;> rcases hi0 with ⟨rfl, rfl⟩ | rfl
  all_goals
    go_enter Tryd.func8, Tryd.ntmps8
    go_wp2_with fail
    refine (awake_true _ HN.out).mono ?_
    rintro e w1 ⟨rfl, hB1⟩
    have HE1 := hid (HE.out.below HE.out.1 hB1)
    have HB1 := hid hB1
    clear hB1
    go_wp2_with fail
    with_reducible refine (HA.out _ HE1.out).mono ?_
    rintro e w2 ⟨rfl, hB2⟩
    have HE2 := hid (HE1.out.below HE1.out.1 hB2)
    have HB2 := hid (HB1.out.trans (hB2.mono HB1.out.size))
    clear hB2
    go_wp2_with fail
    with_reducible refine (HB.out _ HE2.out).mono ?_
    rintro e w3 ⟨rfl, hB3⟩
    have HB3 := hid (HB2.out.trans (hB3.mono HB2.out.size))
    clear hB3
    go_wp2_with fail
    refine (HQ.out _).mono ?_
    rintro e w' ⟨rfl, rfl⟩
    go_wp2_with fail
    with_reducible refine (HR.out _).mono ?_
    rintro e w' ⟨rfl, rfl⟩
    go_wp2
    go_ret
    exact ⟨by first | rfl | simp, HB3.out⟩
end Go.Proofs.YtadoiplfglaonaaDoor
