/-
  The reference's Few; the law's awake.
-/
import Derived.Test.YtdpfjbpfafekfaaDoorNs
namespace Go.Proofs.YtdpfjbpfafekfaaDoor
open Go.RowKit Go.Lib

/-- At most so many bytes of a text. -/
def cutS (s : ByteArray) (m : Nat) : ByteArray := if m < s.size then s.extract 0 m else s
theorem cutS_size (s : ByteArray) (m : Nat) : (cutS s m).size ≤ m := by
  unfold cutS
  split
  · simp
    omega
  · omega
set_option maxRecDepth 100000 in
theorem cutText_any (s : ByteArray) (m : Nat) (hm : m ≤ 1000) (w : World) (hs : s.size ≤ maxLen) : Calls Tryd.prog 5 #[.string s, .int .i64 m] w fun e w' => e = .returned (.string (cutS s m)) ∧ w = w' := by
  unfold maxLen at hs
  by_cases h : m < s.size
  · rw [show cutS s m = s.extract 0 m from if_pos h]
    have h' : (m : Int) < s.size := by omega
    go_enter Tryd.func5, Tryd.ntmps5
    go_wp2
    go_ret
    exact ⟨rfl, rfl⟩
  · rw [show cutS s m = s from if_neg h]
    have h' : ¬ (m : Int) < s.size := by omega
    go_enter Tryd.func5, Tryd.ntmps5
    go_wp2
    go_ret
    exact ⟨rfl, rfl⟩
/-- A small config of one's own. -/
def FewD (T D : ByteArray) (fs : List Int) (w : World) (e : Ending) (w' : World) : Prop :=
  ∃ v, e = .returned (.agg #[.string (cutS T 45), .string (cutS D 45), v]) ∧ OwnB w' v (fs.take 8) ∧ Below w.heap.size w w' ∧ ∀ k ∈ blkV v, w.heap.size ≤ k
/-- What the region holds: a box's cells, a result's block that may be written. -/
def Fw (w0 w : World) (b r : Nat) (u0 u1 u2 : Value) : Prop := w.cell? ⟨b, 0, none⟩ = some u0 ∧ w.cell? ⟨b, 1, none⟩ = some u1 ∧ w.cell? ⟨b, 2, none⟩ = some u2 ∧ Below w0.heap.size w0 w ∧ (∀ j, j < 3 → (w.cell? ⟨r, j, none⟩).isSome = true ∧ w.frozen? ⟨r, j, none⟩ = false)
theorem fw_kept {w0 w w' : World} {b r : Nat} {u0 u1 u2 : Value} (h : w.cell? ⟨b, 0, none⟩ = some u0 ∧ w.cell? ⟨b, 1, none⟩ = some u1 ∧ w.cell? ⟨b, 2, none⟩ = some u2 ∧ Below w0.heap.size w0 w ∧ (∀ j, j < 3 → (w.cell? ⟨r, j, none⟩).isSome = true ∧ w.frozen? ⟨r, j, none⟩ = false)) (hb : Below w.heap.size w w') : w'.cell? ⟨b, 0, none⟩ = some u0 ∧ w'.cell? ⟨b, 1, none⟩ = some u1 ∧ w'.cell? ⟨b, 2, none⟩ = some u2 ∧ Below w0.heap.size w0 w' ∧ (∀ j, j < 3 → (w'.cell? ⟨r, j, none⟩).isSome = true ∧ w'.frozen? ⟨r, j, none⟩ = false) :=
  ⟨keepc hb h.1, keepc hb h.2.1, keepc hb h.2.2.1, below_t h.2.2.2.1 hb, fun j hj => by
    obtain ⟨h1, h2⟩ := h.2.2.2.2 j hj
    obtain ⟨v, hv⟩ := Option.isSome_iff_exists.1 h1
    exact ⟨by rw [keepc hb hv]; rfl, (hb.frozen (World.block_lt_of_cell? w _ hv)).trans h2⟩⟩
theorem fw_below {w0 w : World} {b r : Nat} {u0 u1 u2 : Value} (h : w.cell? ⟨b, 0, none⟩ = some u0 ∧ w.cell? ⟨b, 1, none⟩ = some u1 ∧ w.cell? ⟨b, 2, none⟩ = some u2 ∧ Below w0.heap.size w0 w ∧ (∀ j, j < 3 → (w.cell? ⟨r, j, none⟩).isSome = true ∧ w.frozen? ⟨r, j, none⟩ = false)) : Below w0.heap.size w0 w := h.2.2.2.1
theorem fw_ex {w0 w : World} {b r : Nat} {u0 u1 u2 : Value} (h : w.cell? ⟨b, 0, none⟩ = some u0 ∧ w.cell? ⟨b, 1, none⟩ = some u1 ∧ w.cell? ⟨b, 2, none⟩ = some u2 ∧ Below w0.heap.size w0 w ∧ (∀ j, j < 3 → (w.cell? ⟨r, j, none⟩).isSome = true ∧ w.frozen? ⟨r, j, none⟩ = false)) : ∃ z0 z1 z2, w.cell? ⟨r, 0, none⟩ = some z0 ∧ w.cell? ⟨r, 1, none⟩ = some z1 ∧ w.cell? ⟨r, 2, none⟩ = some z2 ∧ w.frozen? ⟨r, 0, none⟩ = false ∧ w.frozen? ⟨r, 1, none⟩ = false ∧ w.frozen? ⟨r, 2, none⟩ = false ∧ Below w0.heap.size w0 w := by
  obtain ⟨z0, h0⟩ := Option.isSome_iff_exists.1 (h.2.2.2.2 0 (by omega)).1
  obtain ⟨z1, h1⟩ := Option.isSome_iff_exists.1 (h.2.2.2.2 1 (by omega)).1
  obtain ⟨z2, h2⟩ := Option.isSome_iff_exists.1 (h.2.2.2.2 2 (by omega)).1
  exact ⟨z0, z1, z2, h0, h1, h2, (h.2.2.2.2 0 (by omega)).2, (h.2.2.2.2 1 (by omega)).2, (h.2.2.2.2 2 (by omega)).2, h.2.2.2.1⟩
theorem fw_set {w0 w : World} {b r : Nat} {u0 u1 u2 : Value} (h : w.cell? ⟨b, 0, none⟩ = some u0 ∧ w.cell? ⟨b, 1, none⟩ = some u1 ∧ w.cell? ⟨b, 2, none⟩ = some u2 ∧ Below w0.heap.size w0 w ∧ (∀ j, j < 3 → (w.cell? ⟨r, j, none⟩).isSome = true ∧ w.frozen? ⟨r, j, none⟩ = false)) (hbr : b ≠ r) (hr : w0.heap.size ≤ r) (i : Nat) (u : Value) : Fw w0 (w.setCell ⟨r, i, none⟩ u) b r u0 u1 u2 := by
  have n (j : Nat) : (⟨r, i, none⟩ : Addr) ≠ ⟨b, j, none⟩ := fun q => hbr (by injection q with q1; exact q1.symm)
  refine ⟨by rw [World.cell?_setCell_other (h := n 0)]; exact h.1, by rw [World.cell?_setCell_other (h := n 1)]; exact h.2.1, by rw [World.cell?_setCell_other (h := n 2)]; exact h.2.2.1, h.2.2.2.1.setCell (by exact hr) _, fun j hj => ?_⟩
  obtain ⟨h1, h2⟩ := h.2.2.2.2 j hj
  obtain ⟨v, hv⟩ := Option.isSome_iff_exists.1 h1
  refine ⟨?_, by rw [World.frozen?_setCell]; exact h2⟩
  by_cases e : i = j
  · subst e
    rw [World.cell?_setCell_same (h := hv)]
    rfl
  · rw [World.cell?_setCell_other (h := fun q => e (by injection q with q1 q2)), hv]
    rfl
end Go.Proofs.YtdpfjbpfafekfaaDoor
