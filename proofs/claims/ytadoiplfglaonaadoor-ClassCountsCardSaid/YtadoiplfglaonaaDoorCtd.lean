/-
  Two arrays of eight alike counters are equal.
-/
import Derived.Test.YtadoiplfglaonaaDoorCtc
import Derived.ChangeKeysEq
namespace Go.Proofs.YtadoiplfglaonaaDoor
open Go.RowKit Go.Lib Go.Shelf

theorem cells3 : Tryd.prog.cellsOf 3 = 1 := by kernel_rfl
theorem eq8 (q0 q1 q2 q3 q4 q5 q6 q7 : Int) (w : World) : (Op.equalIn 10000 72 (.agg #[.int .i64 q0, .int .i64 q1, .int .i64 q2, .int .i64 q3, .int .i64 q4, .int .i64 q5, .int .i64 q6, .int .i64 q7]) (.agg #[.int .i64 q0, .int .i64 q1, .int .i64 q2, .int .i64 q3, .int .i64 q4, .int .i64 q5, .int .i64 q6, .int .i64 q7])).run Tryd.prog w = .ok true w := by
  obtain ⟨i, hi⟩ := info_of_underlying Tryd.underlying3
  have hp : ∀ (xs : Array Value) (k : Nat) (q : Int) (w : World), xs[k]? = some (.int .i64 q) → (part 3 xs k).run Tryd.prog w = .ok (.int .i64 q) w := fun xs k q w h => by
    simp [part, h, go_sem]
  rw [run_equalIn_array w 9999 _ _ Tryd.underlying72 hi, cells3]
  simp [Op.eqItems, List.range, List.range.loop, hp, run_equalIn_int, Tryd.underlying3]
end Go.Proofs.YtadoiplfglaonaaDoor
