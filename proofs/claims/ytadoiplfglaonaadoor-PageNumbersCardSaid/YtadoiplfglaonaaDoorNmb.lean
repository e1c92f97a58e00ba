/-
  What PageNumbers' road wants: New, whatever the number; the list of what has been told.
-/
import Derived.Test.YtadoiplfglaonaaDoorNma
import Derived.Deep.RegionHeld3
import Derived.OwnWalk
import Derived.Maps.AppendAt
namespace Go.Proofs.YtadoiplfglaonaaDoor
open Go.RowKit Go.Lib Go.Shelf
attribute [local go_sem] Oper.semAt_some

/-- New, whatever the number. -/
def NewDone (num : Int) (w : World) (e : Ending) (W' : World) : Prop := ∃ p er, e = .returned (.tuple #[.pointer p, .int .i64 er]) ∧ (num ∈ pagesL ∧ er = 0 ∧ (∃ b, p = some ⟨b, 0, none⟩) ∨ num ∉ pagesL ∧ er = 5 ∧ p = none) ∧ Below w.heap.size w W'
theorem new_any (num : Int) (w : World) (hN : Numbers w) : Calls Tryd.prog 35 #[.int .i64 num] w (NewDone num w) := by
  by_cases h : num ∈ pagesL
  · exact (new_page num h w hN).mono fun e W' ⟨b, he, _, _, hB⟩ => ⟨_, _, he, .inl ⟨h, rfl, b, rfl⟩, hB⟩
  · exact (new_none num h w hN).mono fun e W' ⟨he, hB⟩ => ⟨_, _, he, .inr ⟨h, rfl, rfl⟩, hB⟩

theorem info3b : (Tryd.prog.info? 3).map (fun i => (i.zero, i.size, i.bytes)) = some (some (.int .i64 0), 1, 8) := by kernel_rfl
theorem row_kept_l {A B : World} {base : Nat} {e : TypeId} {size n : Nat} {v : Value} {xs : List Value} {row : Option Nat} (h : A.ownsRow base e size v n xs) (hg : A.grownBy B row) (hr : ∀ r, row = some r → ∃ o : Obj, A.heap[r]? = some o ∧ o.isCells = false) : B.ownsRow base e size v n xs := by
  rcases h.2 with ⟨rfl, _⟩ | ⟨g, cap, cur, rfl, _, hh, _⟩
  · exact h.kept hg (.inl rfl)
  · refine h.kept hg (.inr fun e => ?_)
    obtain ⟨o, ho, hc⟩ := hr g e.symm
    rw [hh] at ho
    cases ho
    cases hc
theorem ownsRow_succ_l {w : World} {base : Nat} {e : TypeId} {size n : Nat} {v : Value} {xs : List Value} (h : w.ownsRow base e size v (n + 1) xs) : ∃ g cap, v = .slice (some ⟨g, 0, none⟩) (n + 1) cap := by
  rcases h.2 with ⟨_, h0⟩ | ⟨g, cap, cur, hv, _⟩
  · omega
  · exact ⟨g, cap, hv⟩
/-- What has been told lies in the list. -/
structure LAt (b K : Nat) (pre : List Int) (W : World) : Prop where
  k : W.cell? ⟨b, 0, none⟩ = some (.int .i64 K)
  l : ∃ v, W.cell? ⟨b + 1, 0, none⟩ = some v ∧ W.frozen? ⟨b + 1, 0, none⟩ = false ∧ W.ownsRow (b + 2) 3 1 v pre.length (pre.map (Value.int .i64))
  size : b + 2 ≤ W.heap.size
theorem LAt.own {b K : Nat} {pre : List Int} {A B : World} {row : Option Nat} (h : LAt b K pre A) (hg : A.grownBy B row) (hr : ∀ r, row = some r → ∃ o : Obj, A.heap[r]? = some o ∧ o.isCells = false) : LAt b K pre B := by
  obtain ⟨v, h1, h2, h3⟩ := h.l
  exact ⟨cell_kept h.k hg hr, ⟨v, cell_kept h1 hg hr, (frozen_kept h1 hg hr).trans h2, row_kept_l h3 hg hr⟩, Nat.le_trans h.size hg.size⟩
/-- One more is told. -/
theorem LAt.step {b K : Nat} {pre : List Int} {W W1 : World} {v v' : Value} {x : Int} (h : LAt b K pre W) (hv : W.cell? ⟨b + 1, 0, none⟩ = some v) (hf : W.frozen? ⟨b + 1, 0, none⟩ = false) (hrow : W.ownsRow (b + 2) 3 1 v pre.length (pre.map (Value.int .i64)))
    (hown : W1.ownsRow (b + 2) 3 1 v' (pre.length + 1) (pre.map (Value.int .i64) ++ [.int .i64 x])) (hg : (W.alloc (.cells #[.int .i64 x] 3)).grownBy W1 v.ownBlock) :
    W1.cell? ⟨b + 1, 0, none⟩ = some v ∧ W1.frozen? ⟨b + 1, 0, none⟩ = false ∧ W1.cell? ⟨b, 0, none⟩ = some (.int .i64 K) ∧ KeepsOthers W (W1.setCell ⟨b + 1, 0, none⟩ v') ∧ Below b W (W1.setCell ⟨b + 1, 0, none⟩ v') ∧ LAt b K (pre ++ [x]) (W1.setCell ⟨b + 1, 0, none⟩ v') := by
  have hA := (hrow.alloc (.cells #[.int .i64 x] 3)).lt
  have hs := h.size
  have hne : ∀ i, i < b + 2 → some i ≠ v.ownBlock := fun i hi e => by have := (hA i e.symm).1; omega
  have hz : W.heap.size ≤ W1.heap.size := Nat.le_trans (by simp) hg.size
  have hblk : ∀ i, i < b + 2 → W1.heap[i]? = W.heap[i]? := fun i hi => (hg.block i (by simp; omega) (hne i hi)).trans (Below.heap_alloc _ _ _ (by omega))
  have c1 : W1.cell? ⟨b + 1, 0, none⟩ = some v := (World.cell?_of_block (hblk _ (by simp))).trans hv
  have f1 : W1.frozen? ⟨b + 1, 0, none⟩ = false := (World.frozen?_of_block (hblk _ (by simp))).trans hf
  have k1 : W1.cell? ⟨b, 0, none⟩ = some (.int .i64 K) := (World.cell?_of_block (hblk _ (by simp))).trans h.k
  have hgs : W1.grownBy (W1.setCell ⟨b + 1, 0, none⟩ v') (some (b + 1)) := ⟨rfl, rfl, rfl, by simp [World.setCell], fun i _ hi => Below.heap_setCell _ _ _ _ (fun e => hi (by rw [e]))⟩
  have hB : Below b W (W1.setCell ⟨b + 1, 0, none⟩ v') := by
    have h1 : Below b W (W.alloc (.cells #[.int .i64 x] 3)) := (Below.refl _ _).alloc (by omega) _
    exact (h1.grown hg (by simp; omega) (fun i e => by have := (hA i e).1; omega)).setCell (by simp) _
  refine ⟨c1, f1, k1, ?_, hB, ⟨?_, ⟨v', ?_, ?_, ?_⟩, by simp [World.setCell]; omega⟩⟩
  · refine ((KeepsOthers.alloc _ _).trans (KeepsOthers.of_grownBy hg ?_)).trans (KeepsOthers.setCell _ _ _)
    intro j o hj ho
    rcases (hrow.alloc (.cells #[.int .i64 x] 3)).2 with ⟨rfl, _⟩ | ⟨g, cap, cur, rfl, _, hh, _⟩
    · cases hj
    · cases hj
      rw [hh] at ho
      cases ho
      rfl
  · rw [World.cell?_setCell_other _ _ _ _ (by simp)]; exact k1
  · exact World.cell?_setCell_same' _ _ _ (by rw [c1]; rfl)
  · rw [World.frozen?_setCell]; exact f1
  · have e := hown.kept hgs (.inr (fun e => by have := (hown.lt _ e).1; omega))
    simpa using e

end Go.Proofs.YtadoiplfglaonaaDoor
