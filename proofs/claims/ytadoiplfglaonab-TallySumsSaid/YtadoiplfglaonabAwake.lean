/-
  The document's example of a tally holds: 'awake' answers true, and what lay in memory lies as it lay.
-/
import Derived.Test.YtadoiplfglaonabAdda
namespace Go.Proofs.Ytadoiplfglaonab
open Go.RowKit Go.Shelf Go.Deep Go.Lib

theorem sorted_ba : sorted [⟨#[98]⟩, ⟨#[97]⟩] = [[97], [98]] := by
  have h : decide (([98] : List UInt8) ≤ [97]) = false := by decide
  simp [sorted, List.mergeSort, List.MergeSort.Internal.splitInTwo, h]
theorem err_ba : newErr [⟨#[98]⟩, ⟨#[97]⟩] = 0 := by
  unfold newErr
  rw [sorted_ba]
  decide +kernel

set_option maxRecDepth 100000 in
set_option maxHeartbeats 1000000 in
theorem new_ba (w : World) : Calls Try.prog 8 #[.slice (some ⟨w.heap.size, 0, none⟩) 2 2] (w.alloc (.cells #[.string ⟨#[98]⟩, .string ⟨#[97]⟩] 9)) fun e w' =>
    ∃ t vn g, e = .returned (.tuple #[.pointer (some ⟨t, 0, none⟩), .int .i64 0]) ∧ TallyIn w' (w.heap.size + 1) t vn g [[97], [98]] [0, 0] ∧ Below (w.heap.size + 1) (w.alloc (.cells #[.string ⟨#[98]⟩, .string ⟨#[97]⟩] 9)) w' := by
  refine (new_any w.heap.size 0 2 2 [⟨#[98]⟩, ⟨#[97]⟩] _ (by omega) rfl (by intro s hs; simp at hs; rcases hs with rfl | rfl <;> decide) (by intro j hj; match j, hj with | 0, _ => simp [go_sem] | 1, _ => simp [go_sem])).mono ?_
  rintro e w' ⟨hB, ⟨h, _⟩ | ⟨_, t, rfl, vn, g, hT⟩⟩
  · exact absurd err_ba h
  · rw [sorted_ba, World.size_alloc] at hT
    rw [World.size_alloc] at hB
    exact ⟨t, vn, g, rfl, hT, hB⟩

set_option maxRecDepth 100000 in
set_option maxHeartbeats 1000000 in
theorem awake_true (w : World) : Calls Try.prog 6 #[] w fun e w' => e = .returned (.bool true) ∧ Below w.heap.size w w' := by
  go_enter Try.func6, Try.ntmps6
  go_wp2_with (first
    | (go_at_call 8; refine (new_ba _).mono ?_; rintro e w1 ⟨t, vn, g, rfl, hT1, hB1⟩)
    | (go_at_call 17; refine (add_found _ _ _ hT1 0 (by decide) rfl).mono ?_; rintro e w2 ⟨rfl, hT2, hB2⟩)
    | (go_at_call 18; refine (most_found _ _ _ hT2 0 (by decide) rfl).mono ?_; rintro e w3 ⟨rfl, hT3, hB3⟩)
    | (go_at_call 20; refine (get_found _ _ hT3 0 (by decide) rfl).mono ?_; rintro e w4 ⟨rfl, hT4, hB4⟩)
    | (go_at_call 20; refine (get_found _ _ hT4 1 (by decide) rfl).mono ?_; rintro e w5 ⟨rfl, hT5, hB5⟩))
  go_ret
  exact ⟨rfl, ((Below.refl _ _).alloc (Nat.le_refl _) _).trans ((((hB1.trans hB2).trans (hB3.trans hB4)).trans hB5).mono (by omega))⟩

/-- New at one name: a pointer and a number. -/
theorem new_one (w : World) (s : ByteArray) (hs : s.size ≤ maxLen) : Calls Try.prog 8 #[.slice (some ⟨w.heap.size, 0, none⟩) 1 1] (w.alloc (.cells #[.string s] 9)) fun e w' =>
    ∃ p k, e = .returned (.tuple #[.pointer p, .int .i64 k]) ∧ Below (w.heap.size + 1) (w.alloc (.cells #[.string s] 9)) w' := by
  refine (new_any w.heap.size 0 1 1 [s] _ (by omega) rfl (by intro x hx; simp at hx; subst hx; exact hs) (by intro j hj; match j, hj with | 0, _ => simp [go_sem])).mono ?_
  rintro e w' ⟨hB, ⟨_, rfl⟩ | ⟨_, t, rfl, _⟩⟩
  all_goals
    rw [World.size_alloc] at hB
    exact ⟨_, _, rfl, hB⟩
end Go.Proofs.Ytadoiplfglaonab
