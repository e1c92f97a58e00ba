/-
  endSub.
-/
import Derived.Test.YtdbjjieoohfckaaDoorFc
namespace Go.Proofs.YtdbjjieoohfckaaDoor
open Go.RowKit Go.Lib

/-- What endSub leaves. -/
def EndPost (R : Nat) (vb k o : Int) (d : Value) (lg br : Bool) (w : World) (e : Ending) (w' : World) : Prop :=
  e = .returned (.agg #[.int .i64 k, .int .u8 0, .int .u8 o, d, .bool lg, .bool br]) ∧ Rdr w' R 0 vb 0 0 (.slice none 0 0) false false ∧ Moved w w' [R] [R]
set_option maxRecDepth 100000 in
set_option maxHeartbeats 2000000 in
theorem endSub_any (R : Nat) (pl vb k o : Int) (x : Option Addr) (n c : Nat) (lg br : Bool) (w : World) (h : Rdr w R pl vb k o (.slice x n c) lg br) :
    Calls Tryd.prog 34 #[.pointer (some ⟨R, 0, none⟩)] w (EndPost R vb k o (.slice x n c) lg br w) := by
  have HR := hid h
  have hl := h.lt
  have c0 := h.c0
  have c2 := h.c2
  have c3 := h.c3
  have c4 := h.c4
  have c5 := h.c5
  have c6 := h.c6
  have c7 := h.c7
  have f0 := h.free 0
  have f2 := h.free 2
  have f3 := h.free 3
  have f4 := h.free 4
  have f5 := h.free 5
  have f6 := h.free 6
  have f7 := h.free 7
  clear h
  go_enter Tryd.func34, Tryd.ntmps34
  go_wp2
  have q1 := ((((HR.out.put 0 0 (.slice none 0 0) false false).s0 0).alloc (.cells #[.int .i64 k, .int .u8 0, .int .u8 o, .slice x n c, .bool lg, .bool br] 34)).alloc (.cells #[.int .i64 k, .int .u8 0, .int .u8 o, .slice x n c, .bool lg, .bool br] 34))
  have q2 := ((((putS_moved w R 0 0 (.slice none 0 0) false false (S := [R]) (by simp)).trans (Moved.set (g := R) (S := [R]) (by simp) 0 (.int .i64 0))).trans (Moved.alloc _ (.cells #[.int .i64 k, .int .u8 0, .int .u8 o, .slice x n c, .bool lg, .bool br] 34) _)).trans (Moved.alloc _ (.cells #[.int .i64 k, .int .u8 0, .int .u8 o, .slice x n c, .bool lg, .bool br] 34) _))
  have hsz : ((putS w R 0 0 (.slice none 0 0) false false).setCell ⟨R, 0, none⟩ (.int .i64 0)).heap.size = w.heap.size := by simp [putS, World.setCell]
  unfold putS at q1 q2 hsz
  refine bodyPost_ret (v := .agg #[.int .i64 k, .int .u8 0, .int .u8 o, .slice x n c, .bool lg, .bool br]) ?_ rfl ⟨rfl, q1, q2⟩
  clear q1 q2 c0 c2 c3 c4 c5 c6 c7 f0 f2 f3 f4 f5 f6 f7 HR
  generalize World.setCell _ ⟨R, 0, none⟩ _ = W' at hsz ⊢
  rw [← hsz]
  simp [results, Tryd.results34, go_sem]
end Go.Proofs.YtdbjjieoohfckaaDoor
