/-
  An option's states: what follows of what is heard, and of what is asked.
-/
import Derived.Test.YtdpfjbpfafekfaaBd
import Derived.IntWalk
namespace Go.Proofs.Ytdpfjbpfafekfaa
open Go.RowKit Go.Lib

/-- On is heard: the state behind it, and what is said (0 nothing, 1 on, 2 off). -/
def hOn (s : Int) (ag : Bool) : Int × Int :=
  if s = 0 then (if ag then (1, 1) else (0, 2)) else if s = 2 then (0, 0) else if s = 3 then (1, 0) else if s = 4 then (1, 0) else if s = 5 then (2, 2) else (s, 0)
/-- Off is heard. -/
def hOff (s : Int) : Int × Int := if s = 1 then (0, 2) else if s = 2 then (0, 0) else if s = 3 then (4, 1) else if s = 4 then (0, 0) else if s = 5 then (0, 0) else (s, 0)
/-- We ask: the state, what is said, whether there is anything to ask for. -/
def askN (s : Int) (on : Bool) : Int × Int × Bool :=
  if on then (if s = 0 then (4, 1, true) else if s = 2 then (3, 0, true) else if s = 5 then (4, 0, true) else (0, 0, false))
  else (if s = 1 then (2, 2, true) else if s = 3 then (2, 0, true) else if s = 4 then (5, 0, true) else (0, 0, false))
/-- The verb that says it. -/
def verbN (side say : Int) : Int := if say = 1 then (if side = 0 then 251 else 253) else (if side = 0 then 252 else 254)
theorem six {s : Int} (h0 : 0 ≤ s) (h5 : s ≤ 5) : s = 0 ∨ s = 1 ∨ s = 2 ∨ s = 3 ∨ s = 4 ∨ s = 5 := by omega
theorem hOn_fit {s : Int} (h0 : 0 ≤ s) (h5 : s ≤ 5) (ag : Bool) : 0 ≤ (hOn s ag).1 ∧ (hOn s ag).1 ≤ 5 ∧ 0 ≤ (hOn s ag).2 ∧ (hOn s ag).2 ≤ 2 := by
  rcases six h0 h5 with rfl | rfl | rfl | rfl | rfl | rfl <;> cases ag <;> decide
theorem hOff_fit {s : Int} (h0 : 0 ≤ s) (h5 : s ≤ 5) : 0 ≤ (hOff s).1 ∧ (hOff s).1 ≤ 5 ∧ 0 ≤ (hOff s).2 ∧ (hOff s).2 ≤ 2 := by
  rcases six h0 h5 with rfl | rfl | rfl | rfl | rfl | rfl <;> decide
theorem askN_fit {s : Int} (h0 : 0 ≤ s) (h5 : s ≤ 5) (on : Bool) : 0 ≤ (askN s on).1 ∧ (askN s on).1 ≤ 5 ∧ 0 ≤ (askN s on).2.1 ∧ (askN s on).2.1 ≤ 2 := by
  rcases six h0 h5 with rfl | rfl | rfl | rfl | rfl | rfl <;> cases on <;> decide
/-- Two cells of a block of one's own. -/
theorem open2 {w w' : World} {c d : Value} {t : TypeId} (hb : Below (w.alloc (.cells #[c, d] t)).heap.size (w.alloc (.cells #[c, d] t)) w') : (w'.cell? ⟨w.heap.size, 0, none⟩ = some c ∧ w'.cell? ⟨w.heap.size, 1, none⟩ = some d) ∧ (w'.frozen? ⟨w.heap.size, 0, none⟩ = false ∧ w'.frozen? ⟨w.heap.size, 1, none⟩ = false) :=
  ⟨⟨keepc hb (by simp [go_sem]), keepc hb (by simp [go_sem])⟩, ⟨(hb.frozen (by simp)).trans (by simp [go_sem]), (hb.frozen (by simp)).trans (by simp [go_sem])⟩⟩
set_option maxRecDepth 100000 in
set_option maxHeartbeats 1000000 in
theorem shearOn_any (s : Int) (ag : Bool) (h0 : 0 ≤ s) (h5 : s ≤ 5) (w : World) : Calls Try.prog 69 #[.int .u8 s, .bool ag] w fun e w' => e = .returned (.agg #[.int .u8 (hOn s ag).1, .int .u8 (hOn s ag).2]) ∧ Below w.heap.size w w' := by
  rcases six h0 h5 with rfl | rfl | rfl | rfl | rfl | rfl <;> cases ag
  all_goals
    clear h0 h5
    go_enter Try.func69, Try.ntmps69
    go_wp2
    refine bodyPost_ret (by simp [results, Try.results69, go_sem]; decide) rfl ⟨rfl, (Below.refl _ _).alloc (Nat.le_refl _) _⟩
set_option maxRecDepth 100000 in
set_option maxHeartbeats 1000000 in
theorem shearOff_any (s : Int) (h0 : 0 ≤ s) (h5 : s ≤ 5) (w : World) : Calls Try.prog 70 #[.int .u8 s] w fun e w' => e = .returned (.agg #[.int .u8 (hOff s).1, .int .u8 (hOff s).2]) ∧ Below w.heap.size w w' := by
  rcases six h0 h5 with rfl | rfl | rfl | rfl | rfl | rfl
  all_goals
    clear h0 h5
    go_enter Try.func70, Try.ntmps70
    go_wp2
    refine bodyPost_ret (by simp [results, Try.results70, go_sem]; decide) rfl ⟨rfl, (Below.refl _ _).alloc (Nat.le_refl _) _⟩
set_option maxRecDepth 100000 in
set_option maxHeartbeats 1000000 in
theorem askOn_any (s : Int) (h0 : 0 ≤ s) (h5 : s ≤ 5) (w : World) : Calls Try.prog 71 #[.int .u8 s] w fun e w' => e = .returned (.tuple #[.agg #[.int .u8 (askN s true).1, .int .u8 (askN s true).2.1], .bool (askN s true).2.2]) ∧ Below w.heap.size w w' := by
  rcases six h0 h5 with rfl | rfl | rfl | rfl | rfl | rfl
  all_goals
    clear h0 h5
    go_enter Try.func71, Try.ntmps71
    go_wp2
    refine bodyPost_ret (by simp [results, Try.results71, go_sem]; decide) rfl ⟨rfl, (Below.refl _ _).alloc (Nat.le_refl _) _⟩
set_option maxRecDepth 100000 in
set_option maxHeartbeats 1000000 in
theorem askOff_any (s : Int) (h0 : 0 ≤ s) (h5 : s ≤ 5) (w : World) : Calls Try.prog 72 #[.int .u8 s] w fun e w' => e = .returned (.tuple #[.agg #[.int .u8 (askN s false).1, .int .u8 (askN s false).2.1], .bool (askN s false).2.2]) ∧ Below w.heap.size w w' := by
  rcases six h0 h5 with rfl | rfl | rfl | rfl | rfl | rfl
  all_goals
    clear h0 h5
    go_enter Try.func72, Try.ntmps72
    go_wp2
    refine bodyPost_ret (by simp [results, Try.results72, go_sem]; decide) rfl ⟨rfl, (Below.refl _ _).alloc (Nat.le_refl _) _⟩
end Go.Proofs.Ytdpfjbpfafekfaa
