/-
  The reference's code of a sign on a page is the page's own, or there is none.
-/
import Derived.Test.YtadoiplfglaonaaDoorRefs
import Derived.Test.YtadoiplfglaonaaDoorPick
namespace Go.Proofs.YtadoiplfglaonaaDoor
open Go.RowKit Go.Lib

/-- The code of a sign; -1: there is none. -/
def refCode (n s : Int) : Int := if (codeOf n s).2 then ((codeOf n s).1 : Nat) else -1
theorem codeOf_hit (n s : Int) (c : Nat) (hc : c < 256) (h : (signsL n).getD c 0 = s) (hno : ∀ i, i < c → (signsL n).getD i 0 ≠ s) : codeOf n s = (c, true) := by
  have hl : (signsL n).length = 256 := signsAt_length _ _
  unfold codeOf
  have : (signsL n).findIdx? (· == s) = some c := by
    rw [List.findIdx?_eq_some_iff_getElem]
    refine ⟨by omega, by rw [List.getD, List.getElem?_eq_getElem (by omega)] at h; simpa using h, fun j hj => ?_⟩
    have := hno j hj
    rw [List.getD, List.getElem?_eq_getElem (by omega)] at this
    simpa using this
  rw [this]
theorem codeOf_miss (n s : Int) (hno : ∀ i, i < 256 → (signsL n).getD i 0 ≠ s) : codeOf n s = (0, false) := by
  have hl : (signsL n).length = 256 := signsAt_length _ _
  unfold codeOf
  have : (signsL n).findIdx? (· == s) = none := by
    rw [List.findIdx?_eq_none_iff]
    intro x hx
    obtain ⟨i, hi, e⟩ := List.getElem_of_mem hx
    have := hno i (by omega)
    rw [List.getD, List.getElem?_eq_getElem hi, e] at this
    simpa using this
  rw [this]

set_option maxRecDepth 100000 in
set_option maxHeartbeats 1000000 in
theorem code_ref (n : Int) (hn : n ∈ pagesL) (s : Int) (w : World) : Calls Tryd.prog 21 #[.int .i64 n, .int .i32 s] w fun e w' => e = .returned (.int .i64 (refCode n s)) ∧ w = w' := by
  have HN := hid hn
  clear hn
  go_enter Tryd.func21, Tryd.ntmps21
  go_wp2
  go_loop [5] (fun i => ∃ k : Nat, k ≤ 256 ∧ i = .int .i64 k ∧ Hid (∀ i, i < k → (signsL n).getD i 0 ≠ s)) (fun i => 256 - (intOf i).toNat)
  case atStart => exact ⟨0, by omega, rfl, fun i h => absurd h (Nat.not_lt_zero _)⟩
  case round =>
    obtain ⟨k, hk, rfl, HNO⟩ := hrel
    by_cases hlt : k < 256
    · have HS := hid (sign_ref n HN.out k hlt w)
      obtain ⟨x, hx⟩ : ∃ x, x = (signsL n).getD k 0 := ⟨_, rfl⟩
      rw [← hx] at HS
      have HX := hid hx
      clear hx
      by_cases hq : x = s
      · have hqb : (x == s) = true := by simpa using hq
        have HQ := hid hq
        clear hq
        go_wp2_with fail
        with_reducible refine HS.out.mono ?_
        rintro e w' ⟨rfl, rfl⟩
        go_wp2
        go_ret
        exact ⟨by rw [refCode, codeOf_hit n s k hlt (by rw [← HX.out]; exact HQ.out) HNO.out]; rfl, rfl⟩
      · have hqb : (x == s) = false := by simpa using hq
        have HQ := hid hq
        clear hq
        go_wp2_with fail
        with_reducible refine HS.out.mono ?_
        rintro e w' ⟨rfl, rfl⟩
        go_wp2
        go_round
        case rel => exact ⟨k + 1, by omega, by go_num, fun i hi => by
          by_cases hij : i = k
          · rw [hij, ← HX.out]; exact HQ.out
          · exact HNO.out i (by omega)⟩
        case measure => simp [intOf]; omega
    · obtain rfl : k = 256 := by omega
      go_wp2
      go_ret
      exact ⟨by rw [refCode, codeOf_miss n s HNO.out]; rfl, rfl⟩
end Go.Proofs.YtadoiplfglaonaaDoor
