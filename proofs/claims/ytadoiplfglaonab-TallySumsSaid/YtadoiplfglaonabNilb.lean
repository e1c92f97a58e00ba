/-
  The counters of a nil tally, ranged over: there are none, and what lay in memory lies as it lay.
-/
import Derived.RangeFuncNested
import Derived.RangeFuncBound
import Derived.RangeFuncCalls
import Derived.RangeFuncLeaves
import Derived.Shelf.Abstract
import Derived.Shelf.RegionOpen
import Derived.WalkKit
import Derived.OwnWalkIn
import Derived.TacticsInMore
import Derived.LoopNIn
import Derived.LoopIn
import Derived.Deep.OwnRows
import Derived.Test.YtadoiplfglaonabNila
namespace Go.Proofs.Ytadoiplfglaonab
open Go.RowKit Go.Shelf Go.Deep
attribute [local go_sem] Oper.semAt_some

theorem cell_new_l (w : World) (v : Value) (t : TypeId) : (w.alloc (.cells #[v] t)).cell? ⟨w.heap.size, 0, none⟩ = some v ∧ (w.alloc (.cells #[v] t)).frozen? ⟨w.heap.size, 0, none⟩ = false := ⟨by simp [go_sem], by simp [go_sem]⟩
/-- A function over two new variables, the first of which holds no names. -/
def AllNil (w : World) (e : Ending) (w' : World) : Prop := ∃ b1 b2 : Nat, e = .returned (.func (.func 33) #[] #[.pointer (some ⟨b1, 0, none⟩), .pointer (some ⟨b2, 0, none⟩)]) ∧ w.heap.size ≤ b1 ∧ w'.cell? ⟨b1, 0, none⟩ = some (.slice none 0 0) ∧ Below w.heap.size w w'
theorem info33 : (Try.prog.info? 33).map (fun i => (i.zero, i.size, i.bytes)) = some (some (.int .u64 0), 1, 8) := by kernel_rfl
set_option maxRecDepth 100000 in
/-- All of a nil tally. -/
theorem all_of_nil (w : World) : Calls Try.prog 24 #[.pointer none] w (AllNil w) := by
  have hmf : ∀ (fn : Fn) (first cap : Array Value) (w : World), (Instr.makeFunc fn first cap).run Try.prog w = .ok (.func fn first cap) w := fun _ _ _ _ => rfl
  obtain ⟨i0, hi, hz0, hz1, hz2⟩ := info_parts info33
  go_enter Try.func24, Try.ntmps24
  go_wp2_with (first | (go_at_call 21; refine (names_nil _).mono ?_; rintro e w' ⟨rfl, rfl⟩) | (at_make; refine wpList_make_row _ rfl _ _ 70 rfl 33 i0 (.int .u64 0) Try.underlying70 hi hz0 hz1 rfl .i64 .i64 0 rfl rfl (by omega) (by omega) ?_))
  go_loop [13] (fun i => i = .int .i64 0) (fun _ => 0)
  case atStart => rfl
  case round =>
    subst hrel
    go_wp2
    go_ret
    exact ⟨w.heap.size, w.heap.size + 1 + 1, rfl, Nat.le_refl _, by simp [go_sem], (((Below.refl _ _).alloc (Nat.le_refl _) _).alloc (by simp) _).alloc (by simp; omega) _⟩

/-- The iterator over no names: no round. -/
theorem none_stops (F : Fence) (n : Nat) (h33 : F.fn 33) (hro : F.round = none) (b1 b2 n0 : Nat) (w : World) (hb : b1 < w.heap.size) (h1 : w.cell? ⟨b1, 0, none⟩ = some (.slice none 0 0)) :
    SeqStopsK (α := Unit) F n Try.prog 33 #[.pointer (some ⟨b1, 0, none⟩), .pointer (some ⟨b2, 0, none⟩)] (fun _ => #[.string .empty, .int .u64 0]) (Below n0) (fun xs => xs = []) (fun _ => False) 0 w := fun l J Jx W hW _ _ _ h0 => by
  have h1' : W.cell? ⟨b1, 0, none⟩ = some (.slice none 0 0) := (hW.cell (p := ⟨b1, 0, none⟩) hb).trans h1
  refine callsIn_of_wp Try.func33 rfl h33 ?_ hro
  simp only [Try.ntmps33, List.size_toArray, List.length_cons, List.length_nil, Nat.reduceAdd, Nat.reduceSub, Array.replicate_succ, Array.replicate_zero, List.push_toArray, List.append_toArray, List.nil_append, List.cons_append]
  gi_wp2
  gi_loop [8] (fun i => i = .int .i64 0) (fun _ => 0)
  case atStart => rfl
  case round =>
    subst hrel
    gi_wp2
    go_end0
    exact ⟨⟨_, rfl⟩, h0⟩

set_option maxRecDepth 100000 in
set_option maxHeartbeats 2000000 in
/-- 'all' of a nil tally: none. -/
theorem all_nil_in (n : Nat) (hn : 3 ≤ n) (w : World) :
    CallsIn Fence.wide n Try.prog 12 #[.pointer none, .int .i64 9] w fun e W' => e = .returned (.slice none 0 0) ∧ Below w.heap.size w W' := by
  have h1 : 1 ≤ n := by omega
  refine callsIn_of_wp_marks Try.func12 rfl trivial ?_ rfl
  simp only [Try.ntmps12, List.size_toArray, List.length_cons, List.length_nil, Nat.reduceAdd, Nat.reduceSub, Array.replicate_succ, Array.replicate_zero, List.push_toArray, List.append_toArray, List.nil_append, List.cons_append]
  gi_wp2_with (refine ⟨trivial, ?_⟩; gi_at_call 24; refine (callsIn_wide.2 (all_of_nil _)).mono ?_; rintro e w' ⟨b1, b2, rfl, hb1, hc1, hB1⟩)
  have hs := cell_new_l w (.int .i64 9) 3
  have ho := cell_new_l (w.alloc (.cells #[.int .i64 9] 3)) (.slice none 0 0) 30
  rw [World.size_alloc] at ho
  have hB0 : Below w.heap.size w ((w.alloc (.cells #[.int .i64 9] 3)).alloc (.cells #[.slice none 0 0] 30)) := ((Below.refl _ w).alloc (Nat.le_refl _) _).alloc (by simp) _
  have hB2 := hB0.trans (hB1.mono (by simp; omega))
  have hz := hB1.size
  simp only [World.size_alloc] at hb1 hz hB1
  have hoc : w'.cell? ⟨w.heap.size + 1, 0, none⟩ = some (.slice none 0 0) := (hB1.cell (p := ⟨w.heap.size + 1, 0, none⟩) (by simp)).trans ho.1
  have hb1' : b1 < w'.heap.size := World.block_lt_of_cell? w' _ hc1
  refine wpIn_rangeFunc_ownF rfl h1 (gf := 33) (lb := #[.pointer (some ⟨b1, 0, none⟩), .pointer (some ⟨b2, 0, none⟩)]) rfl trivial (enters_of Try.func33 (by kernel_rfl) rfl)
    (none_stops Fence.wide (n - 1) trivial rfl b1 b2 w.heap.size w' hb1' hc1) belowK_t (belowK_b (by omega)) (Below.refl _ _) (fun _ => rfl)
    (fun _ W => W.cell? ⟨w.heap.size + 1, 0, none⟩ = some (.slice none 0 0) ∧ Below w.heap.size w W)
    (fun _ _ _ => False)
    (OwnFrom.and (Own.from (fun s A B row hs hg hr => cell_kept hs hg hr) _) (ownFrom_below (Nat.le_refl _) (by omega)))
    (fun _ _ _ _ _ hs _ _ => hs)
    ⟨hoc, hB2⟩
    (fun _ => { tmps := #[.pointer none, .int .i64 9, undef, .pointer (some ⟨w.heap.size, 0, none⟩), .slice none 0 0, .pointer (some ⟨w.heap.size + 1, 0, none⟩), .string .empty, .int .u64 0, .pointer none, .func (.func 33) #[] #[.pointer (some ⟨b1, 0, none⟩), .pointer (some ⟨b2, 0, none⟩)], .string .empty, .int .u64 0, undef, undef, undef, undef, undef, undef, undef, undef, undef, undef, undef], defers := [] }) ?assign ?body ?done ?stop
  case assign =>
    intro l x W K hK
    gi_wp2
    exact hK
  case body =>
    rintro l pre x W _ hlt
    exact absurd hlt (by omega)
  case done =>
    rintro D ys W hD rfl ⟨hc, hB⟩ hK
    gi_wp2
    refine ⟨by simp, .inl ⟨_, _, rfl, run_takeDeferred hK, ?_⟩⟩
    exact ⟨_, results_tmp rfl _ _ _, rfl, hB.trans (belowK_b (w := w) (Nat.le_refl _) W D _ _ (by omega) hK rfl rfl)⟩
  case stop =>
    rintro D c pre W _ _ h _
    exact h.elim
theorem all_nil (w : World) : Calls Try.prog 12 #[.pointer none, .int .i64 9] w fun e W' => e = .returned (.slice none 0 0) ∧ Below w.heap.size w W' := callsIn_wide.1 (all_nil_in 3 (Nat.le_refl _) w)
end Go.Proofs.Ytadoiplfglaonab
