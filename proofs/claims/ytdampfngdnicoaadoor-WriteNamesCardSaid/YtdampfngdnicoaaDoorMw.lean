/-
  WriteNames: the law's own walk.
-/
import Derived.Test.YtdampfngdnicoaaDoorMv
import Derived.Test.YtdampfngdnicoaaDoorMm
namespace Go.Proofs.YtdampfngdnicoaaDoor
open Go.RowKit Go.Lib Go.Deep

set_option maxRecDepth 100000 in
set_option maxHeartbeats 4000000 in
theorem run_null (v : Value) (W : World) : Calls Tryd.prog 9 #[.pointer none, v] W fun e w' => e = .returned (.tuple #[.agg #[.int .i64 0, .bool false, .bool false, .bool false, .int .i64 0, .slice none 0 0], .int .i64 5]) ∧ Below W.heap.size W w' := by
  go_enter Tryd.func9, Tryd.ntmps9
  go_wp2
  refine bodyPost_ret (v := .tuple #[.agg #[.int .i64 0, .bool false, .bool false, .bool false, .int .i64 0, .slice none 0 0], .int .i64 5]) ?_ rfl ⟨rfl, ?_⟩
  · simp [results, Tryd.results9, go_sem]
  · exact bal (Below.refl _ _) _
set_option maxRecDepth 100000 in
set_option maxHeartbeats 4000000 in
theorem orders_null (v : Value) (n : Int) (W : World) : Calls Tryd.prog 18 #[.pointer none, v, .int .i64 n] W fun e w' => e = .returned (.tuple #[.int .i64 0, .int .i64 0, .int .i64 5]) ∧ Below W.heap.size W w' := by
  go_enter Tryd.func18, Tryd.ntmps18
  go_wp2
  refine wp_scope_straight ?_
  go_wp2
  (try rw [Exit.noGoto_ret])
  refine bodyPost_ret (v := .tuple #[.int .i64 0, .int .i64 0, .int .i64 5]) ?_ rfl ⟨rfl, ?_⟩
  · simp [results, Tryd.results18, go_sem]
  · exact bal (Below.refl _ _) _
set_option maxRecDepth 100000 in
set_option maxHeartbeats 4000000 in
theorem reads_w (c : Int) (W : World) : Calls Tryd.prog 23 #[.int .i64 c] W fun e w' => e = .returned (.bool (decide (5 ≤ c) && decide (c ≤ 7))) ∧ w' = W := by
  by_cases h : 5 ≤ c
  · by_cases h2 : c ≤ 7
    · rw [decide_eq_true h, decide_eq_true h2]
      go_enter Tryd.func23, Tryd.ntmps23
      go_wp2
      go_ret
      exact ⟨rfl, rfl⟩
    · rw [decide_eq_true h, decide_eq_false h2]
      go_enter Tryd.func23, Tryd.ntmps23
      go_wp2
      go_ret
      exact ⟨rfl, rfl⟩
  · rw [decide_eq_false h, Bool.false_and]
    go_enter Tryd.func23, Tryd.ntmps23
    go_wp2
    go_ret
    exact ⟨rfl, rfl⟩
set_option maxRecDepth 100000 in
set_option maxHeartbeats 4000000 in
theorem erases_w (c : Int) (W : World) : Calls Tryd.prog 24 #[.int .i64 c] W fun e w' => e = .returned (.bool (decide (2 ≤ c) && decide (c ≤ 4))) ∧ w' = W := by
  by_cases h : 2 ≤ c
  · by_cases h2 : c ≤ 4
    · rw [decide_eq_true h, decide_eq_true h2]
      go_enter Tryd.func24, Tryd.ntmps24
      go_wp2
      go_ret
      exact ⟨rfl, rfl⟩
    · rw [decide_eq_true h, decide_eq_false h2]
      go_enter Tryd.func24, Tryd.ntmps24
      go_wp2
      go_ret
      exact ⟨rfl, rfl⟩
  · rw [decide_eq_false h, Bool.false_and]
    go_enter Tryd.func24, Tryd.ntmps24
    go_wp2
    go_ret
    exact ⟨rfl, rfl⟩
end Go.Proofs.YtdampfngdnicoaaDoor
