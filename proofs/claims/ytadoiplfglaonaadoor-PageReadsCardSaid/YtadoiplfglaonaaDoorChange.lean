/-
  What a page changes of page 37, as the program hands it out: a slice of pairs in new memory, or nil.
-/
import Derived.Test.YtadoiplfglaonaaDoorProg
import Derived.Test.YtadoiplfglaonaaDoorData
import Derived.WalkKit
import Derived.Lib.Hide
namespace Go.Proofs.YtadoiplfglaonaaDoor
open Go.RowKit Go.Lib

/-- The cells of a list of pairs. -/
def flat (l : List (Int × Int)) : List Value := l.flatMap fun p => [.int .u8 p.1, .int .i32 p.2]
theorem flat_length (l : List (Int × Int)) : (flat l).length = 2 * l.length := by
  induction l with
  | nil => rfl
  | cons p l ih => simp only [flat, List.flatMap_cons, List.length_append, List.length_cons, List.length_nil] at ih ⊢; omega
theorem flat_at : ∀ (l : List (Int × Int)) (k : Nat) (c s : Int), l[k]? = some (c, s) → (flat l)[k * 2]? = some (.int .u8 c) ∧ (flat l)[k * 2 + 1]? = some (.int .i32 s)
  | [], k, c, s, h => by simp at h
  | p :: l, 0, c, s, h => by
    simp at h
    subst h
    simp [flat]
  | p :: l, k + 1, c, s, h => by
    have ih := flat_at l k c s (by simpa using h)
    simp only [flat, List.flatMap_cons, List.cons_append, List.nil_append] at ih ⊢
    exact ⟨by rw [show (k + 1) * 2 = k * 2 + 1 + 1 by omega]; simpa using ih.1, by rw [show (k + 1) * 2 + 1 = k * 2 + 1 + 1 + 1 by omega]; simpa using ih.2⟩

/-- What 'changes' leaves. -/
def Changed (n : Int) (w : World) (e : Ending) (w' : World) : Prop :=
  (changesL n = [] ∧ e = .returned (.slice none 0 0) ∧ w' = w) ∨
  (e = .returned (.slice (some ⟨w.heap.size, 0, none⟩) (changesL n).length (changesL n).length) ∧ w' = w.alloc (.cells (flat (changesL n)).toArray 104))

set_option maxRecDepth 100000 in
set_option maxHeartbeats 2000000 in
theorem changes_273 (w : World) : Calls Tryd.prog 71 #[.int .i64 273] w (Changed 273 w) := by
  go_enter Tryd.func71, Tryd.ntmps71
  go_wp2
  go_ret
  exact .inr ⟨rfl, rfl⟩
set_option maxRecDepth 100000 in
set_option maxHeartbeats 2000000 in
theorem changes_297 (w : World) : Calls Tryd.prog 71 #[.int .i64 297] w (Changed 297 w) := by
  go_enter Tryd.func71, Tryd.ntmps71
  go_wp2
  go_ret
  exact .inr ⟨rfl, rfl⟩
set_option maxRecDepth 100000 in
set_option maxHeartbeats 2000000 in
theorem changes_500 (w : World) : Calls Tryd.prog 71 #[.int .i64 500] w (Changed 500 w) := by
  go_enter Tryd.func71, Tryd.ntmps71
  go_wp2
  go_ret
  exact .inr ⟨rfl, rfl⟩
set_option maxRecDepth 100000 in
set_option maxHeartbeats 2000000 in
theorem changes_1047 (w : World) : Calls Tryd.prog 71 #[.int .i64 1047] w (Changed 1047 w) := by
  go_enter Tryd.func71, Tryd.ntmps71
  go_wp2
  go_ret
  exact .inr ⟨rfl, rfl⟩
set_option maxRecDepth 100000 in
set_option maxHeartbeats 2000000 in
theorem changes_1140 (w : World) : Calls Tryd.prog 71 #[.int .i64 1140] w (Changed 1140 w) := by
  go_enter Tryd.func71, Tryd.ntmps71
  go_wp2
  go_ret
  exact .inr ⟨rfl, rfl⟩
set_option maxRecDepth 100000 in
set_option maxHeartbeats 2000000 in
theorem changes_37 (w : World) : Calls Tryd.prog 71 #[.int .i64 37] w (Changed 37 w) := by
  go_enter Tryd.func71, Tryd.ntmps71
  go_wp2
  go_ret
  exact .inl ⟨rfl, rfl, rfl⟩
theorem changes_any (n : Int) (hn : n ∈ pagesL) (w : World) : Calls Tryd.prog 71 #[.int .i64 n] w (Changed n w) := by
  simp only [pagesL, List.mem_cons, List.not_mem_nil, or_false] at hn
  rcases hn with rfl | rfl | rfl | rfl | rfl | rfl
  · exact changes_37 w
  · exact changes_273 w
  · exact changes_297 w
  · exact changes_500 w
  · exact changes_1047 w
  · exact changes_1140 w
end Go.Proofs.YtadoiplfglaonaaDoor
