/-
  The reference's counters in memory: a row of names and numbers.
-/
import Derived.Test.YtadoiplfglaonabMova
import Derived.Test.YtadoiplfglaonabPur
namespace Go.Proofs.Ytadoiplfglaonab
open Go.RowKit Go.Shelf Go.Deep Go.Lib

/-- The cells of counters. -/
def cellsC : List (List UInt8) → List Int → List Value
  | x :: ts, c :: cs => encStr x :: .int .u64 c :: cellsC ts cs
  | _, _ => []
theorem cellsC_len : ∀ (ts : List (List UInt8)) (cs : List Int), cs.length = ts.length → (cellsC ts cs).length = ts.length * 2
  | [], [], _ => rfl
  | x :: ts, c :: cs, h => by simp only [cellsC, List.length_cons]; rw [cellsC_len ts cs (by simpa using h)]; omega
  | [], _ :: _, h => by simp at h
  | _ :: _, [], h => by simp at h
theorem cellsC_name : ∀ (ts : List (List UInt8)) (cs : List Int) (j : Nat), cs.length = ts.length → j < ts.length → (cellsC ts cs)[j * 2]? = some (encStr (ts.getD j []))
  | x :: ts, c :: cs, 0, _, _ => rfl
  | x :: ts, c :: cs, j + 1, h, hj => by
    rw [show (j + 1) * 2 = j * 2 + 1 + 1 by omega]
    simp only [cellsC, List.getElem?_cons_succ]
    rw [cellsC_name ts cs j (by simpa using h) (by simpa using hj)]
    simp
  | [], _, _, _, h => by simp at h
  | _ :: _, [], _, h, _ => by simp at h
theorem cellsC_num : ∀ (ts : List (List UInt8)) (cs : List Int) (j : Nat), cs.length = ts.length → j < ts.length → (cellsC ts cs)[j * 2 + 1]? = some (.int .u64 (cs.getD j 0))
  | x :: ts, c :: cs, 0, _, _ => rfl
  | x :: ts, c :: cs, j + 1, h, hj => by
    rw [show (j + 1) * 2 + 1 = j * 2 + 1 + 1 + 1 by omega]
    simp only [cellsC, List.getElem?_cons_succ]
    rw [cellsC_num ts cs j (by simpa using h) (by simpa using hj)]
    simp
  | [], _, _, _, h => by simp at h
  | _ :: _, [], _, h, _ => by simp at h
theorem cellsC_set : ∀ (ts : List (List UInt8)) (cs : List Int) (j : Nat) (c : Int), (cellsC ts cs).set (j * 2 + 1) (.int .u64 c) = cellsC ts (cs.set j c)
  | x :: ts, d :: cs, 0, c => rfl
  | x :: ts, d :: cs, j + 1, c => by
    rw [show (j + 1) * 2 + 1 = j * 2 + 1 + 1 + 1 by omega]
    simp only [cellsC, List.set_cons_succ]
    rw [cellsC_set ts cs j c]
  | [], cs, j, c => by cases cs <;> rfl
  | _ :: _, [], j, c => by simp [cellsC]
theorem cellsC_append : ∀ (a b : List (List UInt8)) (x y : List Int), x.length = a.length → cellsC (a ++ b) (x ++ y) = cellsC a x ++ cellsC b y
  | [], b, [], y, _ => rfl
  | z :: a, b, c :: x, y, h => by simp only [List.cons_append, cellsC]; rw [cellsC_append a b x y (by simpa using h)]
  | [], _, _ :: _, _, h => by simp at h
  | _ :: _, _, [], _, h => by simp at h
theorem cellsC_take : ∀ (ts : List (List UInt8)) (cs : List Int) (k : Nat), cs.length = ts.length → (cellsC ts cs).take (k * 2) = cellsC (ts.take k) (cs.take k)
  | [], [], k, _ => by simp [cellsC]
  | x :: ts, c :: cs, 0, h => rfl
  | x :: ts, c :: cs, k + 1, h => by
    rw [show (k + 1) * 2 = k * 2 + 1 + 1 by omega]
    simp only [cellsC, List.take_succ_cons]
    rw [cellsC_take ts cs k (by simpa using h)]
  | [], _ :: _, _, h => by simp at h
  | _ :: _, [], _, h => by simp at h

/-- Counters in memory, from block B on. -/
structure RefIn (w : World) (B : Nat) (v : Value) (ts : List (List UInt8)) (cs : List Int) : Prop where
  row : w.ownsRow B 41 2 v ts.length (cellsC ts cs)
  size : cs.length = ts.length
section
variable {w : World} {B : Nat} {v : Value} {ts : List (List UInt8)} {cs : List Int}
theorem RefIn.shape (h : RefIn w B v ts cs) : (v = .slice none 0 0 ∧ ts.length = 0) ∨ ∃ g cap, v = .slice (some ⟨g, 0, none⟩) ts.length cap ∧ B ≤ g ∧ g < w.heap.size ∧ ∃ cur, w.heap[g]? = some (.cells cur 41 (0, 0)) := by
  rcases h.row.2 with ⟨h1, h2⟩ | ⟨g, cap, cur, h1, h2, h3, _⟩
  · exact .inl ⟨h1, h2⟩
  · exact .inr ⟨g, cap, h1, h2, (Array.getElem?_eq_some_iff.1 h3).1, cur, h3⟩
theorem RefIn.cells {g cap : Nat} (h : RefIn w B (.slice (some ⟨g, 0, none⟩) ts.length cap) ts cs) {j : Nat} (hj : j < ts.length) : w.cell? ⟨g, j * 2, none⟩ = some (encStr (ts.getD j [])) ∧ w.cell? ⟨g, j * 2 + 1, none⟩ = some (.int .u64 (cs.getD j 0)) ∧ w.frozen? ⟨g, j * 2 + 1, none⟩ = false := by
  refine ⟨?_, ?_, h.row.frozenAt _⟩
  · rw [h.row.cellAt (j * 2) (by omega), cellsC_name ts cs j h.size hj]
  · rw [h.row.cellAt (j * 2 + 1) (by omega), cellsC_num ts cs j h.size hj]
theorem RefIn.kept {w' : World} {r : Nat} {c : Array Value} {e : TypeId} {fz : Nat × Nat} (h : RefIn w B v ts cs) (hg : w.grownBy w' (some r)) (hr : w.heap[r]? = some (.cells c e fz)) (he : e ≠ 41) : RefIn w' B v ts cs := by
  refine ⟨h.row.kept hg (.inr fun e' => ?_), h.size⟩
  obtain ⟨c', fz', hb⟩ := ownsRow_kind h.row r e'
  rw [hr] at hb
  simp at hb
  exact he hb.2.1
theorem RefIn.grown {w' : World} (h : RefIn w B v ts cs) (hg : w.grownBy w' none) : RefIn w' B v ts cs := by
  rcases h.shape with ⟨rfl, _⟩ | ⟨g, cap, rfl, _⟩
  · exact ⟨h.row.kept hg (.inl rfl), h.size⟩
  · exact ⟨h.row.kept hg (.inr (by simp [Value.ownBlock])), h.size⟩
end
end Go.Proofs.Ytadoiplfglaonab
