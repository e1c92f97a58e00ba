/-
  What isn't the same between two cells: the program's display and Diff.
-/
import Derived.Test.YtpnfdmfmdacjmaaDia
import Derived.ChangeKeysEq
import Derived.Deep.RegionHeld3
import Derived.Deep.DeepCutAuto
namespace Go.Proofs.Ytpnfdmfmdacjmaa
open Go.RowKit Go.Lib

set_option maxRecDepth 100000 in
set_option maxHeartbeats 2000000 in
theorem display_any (ch fa : Int) (a : Bool) (h c s : Nat) (w : World) : Calls Try.prog 78 #[.agg #[.int .u8 ch, .bool a, .int .u8 fa, .int .u8 h, .int .u8 c, .int .u8 s]] w fun e w' => e = .returned (.agg #[.int .u8 h, .int .u8 c, .int .u8 s]) ∧ w' = (w.alloc (.cells #[.int .u8 ch, .bool a, .int .u8 fa, .int .u8 h, .int .u8 c, .int .u8 s] 80)).alloc (.cells #[.int .u8 h, .int .u8 c, .int .u8 s] 112) := by
  go_enter Try.func78, Try.ntmps78
  go_wp2
  exact bodyPost_ret (v := .agg #[.int .u8 h, .int .u8 c, .int .u8 s]) (by simp [results, Try.results78, go_sem]) rfl ⟨rfl, rfl⟩
/-- What isn't the same among the first. -/
def diffN (x y : Nat → Nat) : Nat → List (Nat × Nat)
  | 0 => []
  | k + 1 => diffN x y k ++ if x k = y k then [] else [(65 + k, y k)]
def pick3 (a b c : Nat) : Nat → Nat
  | 0 => a
  | 1 => b
  | _ => c
theorem diffN_three (h c s h' c' s' : Nat) : diffN (pick3 h c s) (pick3 h' c' s') 3 = diffL h c s h' c' s' := by
  show (([] ++ if h = h' then [] else [(65, h')]) ++ if c = c' then [] else [(66, c')]) ++ (if s = s' then [] else [(67, s')]) = _
  unfold diffL
  rw [List.nil_append, List.append_assoc]
theorem cells5 : Try.prog.cellsOf 5 = 1 := by kernel_rfl
/-- Two arrays of three bytes. -/
theorem eq3 (x0 x1 x2 y0 y1 y2 : Int) (w : World) : (Op.equalIn 10000 112 (.agg #[.int .u8 x0, .int .u8 x1, .int .u8 x2]) (.agg #[.int .u8 y0, .int .u8 y1, .int .u8 y2])).run Try.prog w = .ok (x0 == y0 && (x1 == y1 && x2 == y2)) w := by
  obtain ⟨i, hi⟩ := info_of_underlying Try.underlying5
  have hp : ∀ (xs : Array Value) (k : Nat) (q : Int) (w : World), xs[k]? = some (.int .u8 q) → (part 5 xs k).run Try.prog w = .ok (.int .u8 q) w := fun xs k q w h => by
    simp [part, h, go_sem]
  rw [run_equalIn_array w 9999 _ _ Try.underlying112 hi, cells5]
  by_cases h0 : x0 = y0 <;> by_cases h1 : x1 = y1 <;> by_cases h2 : x2 = y2 <;> simp [Op.eqItems, List.range, List.range.loop, hp, run_equalIn_int, Try.underlying5, h0, h1, h2]
end Go.Proofs.Ytpnfdmfmdacjmaa
