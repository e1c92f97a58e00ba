/-
  Orders: the reference's names; the document's example; OrderNames' walk.
  Orders told back to the reference's form.
  OrderBegins: its pure part, and the two orders of a round told back.
-/
import Derived.Test.YtlhaefgchmakfaaOe
import Derived.Deep.DeepCutAuto
namespace Go.Proofs.Ytlhaefgchmakfaa
open Go.RowKit Go.Lib

theorem OpsM.at {w : World} {v : Value} {xs : List OpV} (h : OpsM w v xs) : ∃ x cap, v = .slice x xs.length cap ∧ ∀ i (hi : i < xs.length), ∃ g, x = some ⟨g, 0, none⟩ ∧ g < w.heap.size ∧ ∀ j, j < 7 → w.cell? ⟨g, i * 7 + j, none⟩ = (opC xs[i])[j]? := by
  rcases h.row.2 with ⟨rfl, e⟩ | ⟨g, cap, cur, rfl, hg, hh, h1, h2, h3, h4⟩
  · have hx : xs = [] := List.length_eq_zero_iff.1 e
    subst hx
    exact ⟨none, 0, rfl, fun i hi => absurd hi (Nat.not_lt_zero i)⟩
  · refine ⟨some ⟨g, 0, none⟩, cap, rfl, fun i hi => ⟨g, rfl, own_lt h.row g (by simp [blkV, Value.ownBlock]), fun j hj => ?_⟩⟩
    rw [World.ownsRow.cellAt h.row _ (by omega), cellsO_at xs i hi j hj]
end Go.Proofs.Ytlhaefgchmakfaa
namespace Go.Proofs.Ytlhaefgchmakfaa
open Go.RowKit Go.Lib

theorem Box7.set5 {w : World} {b : Nat} {v0 v1 v2 v3 v4 v5 v6 : Value} (h : Box7 w b v0 v1 v2 v3 v4 v5 v6) (u : Value) : Box7 (w.setCell ⟨b, 5, none⟩ u) b v0 v1 v2 v3 v4 u v6 :=
  ⟨set_o (by omega) h.c0, set_o (by omega) h.c1, set_o (by omega) h.c2, set_o (by omega) h.c3, set_o (by omega) h.c4, set_s h.c5, set_o (by omega) h.c6, fun i hi => by simp [h.fr i hi]⟩
theorem own_strong {w : World} {B B' : Nat} {t : TypeId} {m n : Nat} {v : Value} {xs : List Value} (h : w.ownsRow B t m v n xs) (hB : ∀ k ∈ blkV v, B' ≤ k) : w.ownsRow B' t m v n xs := by
  refine ⟨h.1, ?_⟩
  rcases h.2 with h' | ⟨g, cap, cur, rfl, hg, r⟩
  · exact .inl h'
  · exact .inr ⟨g, cap, cur, rfl, hB g (by simp [blkV, Value.ownBlock]), r⟩
end Go.Proofs.Ytlhaefgchmakfaa
namespace Go.Proofs.Ytlhaefgchmakfaa
open Go.RowKit Go.Lib

theorem Box7.set6 {w : World} {b : Nat} {v0 v1 v2 v3 v4 v5 v6 : Value} (h : Box7 w b v0 v1 v2 v3 v4 v5 v6) (u : Value) : Box7 (w.setCell ⟨b, 6, none⟩ u) b v0 v1 v2 v3 v4 v5 u :=
  ⟨set_o (by omega) h.c0, set_o (by omega) h.c1, set_o (by omega) h.c2, set_o (by omega) h.c3, set_o (by omega) h.c4, set_o (by omega) h.c5, set_s h.c6, fun i hi => by simp [h.fr i hi]⟩
end Go.Proofs.Ytlhaefgchmakfaa
