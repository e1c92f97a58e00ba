/-
  OrderBegins: its pure part, and the two orders of a round told back.
-/
import Derived.Test.YtjhmjjlmdmmilaaIk
import Derived.Deep.DeepCutAuto
namespace Go.Proofs.Ytjhmjjlmdmmilaa
open Go.RowKit Go.Lib

theorem allF_more : ∀ (f g : Nat) (xs : List Int), xs.length ≤ f → xs.length ≤ g → allF f xs = allF g xs := by
  intro f
  induction f with
  | zero =>
    intro g xs h _
    have : xs = [] := List.length_eq_zero_iff.1 (by omega)
    subst this
    rw [allF_nil, allF_nil]
  | succ f ih =>
    intro g xs h h'
    by_cases hx : xs = []
    · subst hx; rw [allF_nil, allF_nil]
    · have hp : 0 < xs.length := List.length_pos_iff.2 hx
      match g, h' with
      | 0, h' => omega
      | g + 1, h' =>
        by_cases he : (firF xs).1 = 0
        · have hu : 1 ≤ (firF xs).2.2 := by
            have q := @firF_take xs xs.length (Nat.le_refl _) (by rw [List.take_length]; exact hx) (by rw [List.take_length]; exact he)
            rw [List.take_length] at q
            exact q.2.1
          rw [allF_one f xs hx he, allF_one g xs hx he, ih g _ (by rw [List.length_drop]; omega) (by rw [List.length_drop]; omega)]
        · rw [allF_bad f xs hx he, allF_bad g xs hx he]
theorem pairF_few (xs : List Int) : (pairF xs).2.length ≤ xs.length + 1 := by
  unfold pairF
  split <;> simp
theorem parF_few (xs : List Int) : (parF xs).2.1.length ≤ xs.length + 1 := by
  unfold parF
  split
  · simp
  · split
    · show (pairsL _ _).length ≤ _
      rw [pairsL_length]
      omega
    · simp
theorem behF_few (k : Int) (xs : List Int) : (behF k xs).2.1.pairs.length ≤ xs.length + 1 := by
  have h1 := pairF_few xs
  have h2 := parF_few xs
  unfold behF repF
  repeat (first | exact h1 | exact h2 | exact Nat.zero_le _ | split)
theorem firF_few (xs : List Int) : (firF xs).2.1.pairs.length ≤ xs.length := by
  match xs with
  | [] => exact Nat.zero_le _
  | b :: r =>
    have h := behF_few b r
    show (if isO b = true then _ else _ : Int × OpD × Nat).2.1.pairs.length ≤ _
    split
    · split
      · exact h
      · exact Nat.zero_le _
    · exact Nat.zero_le _
theorem allF_few : ∀ (f : Nat) (xs : List Int), ∀ d ∈ (allF f xs).1, d.pairs.length ≤ xs.length := by
  intro f
  induction f with
  | zero => intro xs d hd; cases hd
  | succ f ih =>
    intro xs d hd
    by_cases hx : xs = []
    · subst hx; rw [allF_nil] at hd; cases hd
    · by_cases he : (firF xs).1 = 0
      · rw [allF_one f xs hx he] at hd
        rcases List.mem_cons.1 hd with rfl | hd
        · exact firF_few xs
        · have := ih _ d hd
          rw [List.length_drop] at this
          omega
      · rw [allF_bad f xs hx he] at hd; cases hd
/-- What a beginning says, and the whole, at one place: alike, but for a text at its end. -/
theorem agree_at {zs : List Int} {m : Nat} (hm : m ≤ zs.length) {xs ys : List OpV} (hx : xs.map OpV.d = (allF zs.length zs).1) (hy : ys.map OpV.d = (allF (zs.take m).length (zs.take m)).1) :
    ys.length ≤ xs.length ∧ ∀ k (h : k < ys.length) (h' : k < xs.length), ys[k].d = xs[k].d ∨ (k + 1 = ys.length ∧ ∃ t j, xs[k].d = opT t ∧ ys[k].d = opT (t.take j) ∧ j ≤ t.length) := by
  obtain ⟨⟨h1, h2⟩, -, -⟩ := allF_take zs.length zs m hm hm
  rw [allF_more zs.length (zs.take m).length (zs.take m) (by rw [List.length_take]; omega) (Nat.le_refl _)] at h1 h2
  rw [← hx, ← hy] at h1 h2
  rw [List.length_map, List.length_map] at h1
  refine ⟨h1, fun k h h' => ?_⟩
  have q := h2 k (by rw [List.length_map]; exact h) (by rw [List.length_map]; exact h')
  rw [List.getElem_map, List.getElem_map] at q
  rcases q with q | ⟨q1, q2⟩
  · exact .inl q
  · exact .inr ⟨by rwa [List.length_map] at q1, q2⟩
theorem agree_end {zs : List Int} {m : Nat} (hm : m ≤ zs.length) : (allF (zs.take m).length (zs.take m)).2.1 ≤ m ∧ ((allF (zs.take m).length (zs.take m)).2.2 = 0 → (allF (zs.take m).length (zs.take m)).2.1 = m) := by
  obtain ⟨-, h⟩ := allF_take zs.length zs m hm hm
  rw [allF_more zs.length (zs.take m).length (zs.take m) (by rw [List.length_take]; omega) (Nat.le_refl _)] at h
  exact h
theorem few_of {zs : List Int} {xs : List OpV} {f : Nat} (hx : xs.map OpV.d = (allF f zs).1) (k : Nat) (h : k < xs.length) : xs[k].d.pairs.length ≤ zs.length := by
  refine allF_few f zs _ ?_
  rw [← hx]
  exact List.mem_map.2 ⟨_, List.getElem_mem h, rfl⟩
/-- Two orders that were told back, in two boxes. -/
structure Mid (w0 W : World) (b13 b14 : Nat) (d e : OpD) (rv1 rv2 tv1 tv2 : Value) : Prop where
  x : Box7 W b13 (.int .i64 d.kind) (.int .i64 d.addr) (.int .u8 d.code) (.bool d.graph) (.int .u8 d.fa) rv1 tv1
  y : Box7 W b14 (.int .i64 e.kind) (.int .i64 e.addr) (.int .u8 e.code) (.bool e.graph) (.int .u8 e.fa) rv2 tv2
  px : PairsIn W rv1 d.pairs
  py : PairsIn W rv2 e.pairs
  ne : b13 ≠ b14
  l13 : w0.heap.size ≤ b13
  l14 : w0.heap.size ≤ b14
  n1 : b14 ∉ blkV rv1
  n2 : b14 ∉ blkV rv2
  bel : Below w0.heap.size w0 W
theorem pairs_moved {w w' : World} {v : Value} {ps : List (Nat × Nat)} {S S' : List Nat} (h : PairsIn w v ps) (m : Moved w w' S S') (hk : ∀ k ∈ blkV v, k ∉ S) : PairsIn w' v ps := by
  rcases h with h | ⟨g, off, cap, rfl, h⟩
  · exact .inl h
  · have hg := hk g (by simp [blkV, Value.ownBlock])
    exact .inr ⟨g, off, cap, rfl, fun i hi => ⟨cell_moved m (h i hi).1 hg, cell_moved m (h i hi).2 hg⟩⟩
theorem Box7.set6 {w : World} {b : Nat} {v0 v1 v2 v3 v4 v5 v6 : Value} (h : Box7 w b v0 v1 v2 v3 v4 v5 v6) (u : Value) : Box7 (w.setCell ⟨b, 6, none⟩ u) b v0 v1 v2 v3 v4 v5 u :=
  ⟨set_o (by omega) h.c0, set_o (by omega) h.c1, set_o (by omega) h.c2, set_o (by omega) h.c3, set_o (by omega) h.c4, set_o (by omega) h.c5, set_s h.c6, fun i hi => by simp [h.fr i hi]⟩
def MidI (w0 : World) (d e : OpD) (tv1 tv2 : Value) (k : Nat) (a b c : Value) (W : World) : Prop := ∃ b13 b14 x1 n1 c1 x2 n2 c2, a = .pointer (some ⟨b13, 0, none⟩) ∧ b = .pointer (some ⟨b14, 0, none⟩) ∧ c = .int .i64 k ∧ Mid w0 W b13 b14 d e (.slice x1 n1 c1) (.slice x2 n2 c2) tv1 tv2
end Go.Proofs.Ytjhmjjlmdmmilaa
