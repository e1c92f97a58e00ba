/-
  Two ends, the program's and the reference's, side by side.
-/
import Derived.Test.YtdpfjbpfafekfaaSa
namespace Go.Proofs.Ytdpfjbpfafekfaa
open Go.RowKit Go.Lib

theorem sortL_len (r : List Int) : (sortL r).length ≤ 5 := by
  unfold sortL
  exact List.length_filter_le _ _
theorem agH_len {fs ag : List Int} {st o : Int} {xs : List Int} (h : ag.length ≤ 1000) : (agH fs ag st o xs).length ≤ 1000 := by
  have hs := sortL_len (xs.drop 2)
  unfold agH
  split
  · unfold agK
    split
    · simp
    · split
      · exact h
      · split
        · split
          · omega
          · exact h
        · split
          · omega
          · simp
  · exact h
theorem stH_range {fs : List Int} {st o : Int} {xs : List Int} (h : 0 ≤ st ∧ st ≤ 4) : 0 ≤ stH fs st o xs ∧ stH fs st o xs ≤ 4 := by
  unfold stH
  split
  · unfold stK
    repeat' split
    all_goals omega
  · exact h
theorem ansH_len {T D : ByteArray} {fs : List Int} {st o : Int} {xs : List Int} (hT : T.size ≤ 1000) (hD : D.size ≤ 1000) (hf : fs.length ≤ 1000) (hx : xs.length ≤ 1000) : (ansH T D fs st o xs).length ≤ 100000 := by
  have h1 := strL_length T
  have h2 := strL_length D
  have h3 : (devT D).length ≤ D.size + 1 := by
    unfold devT
    split
    · simp
    · simp only [List.length_cons]
      omega
  have h4 : (xs.drop 2).length ≤ 1000 := by rw [List.length_drop]; omega
  have h5 := keep_le fs (xs.drop 2)
  unfold ansH
  split
  · split
    · simp only [List.length_cons]
      omega
    · simp
  · split
    · unfold ansK
      repeat' split
      all_goals (first | (simp only [List.length_cons, List.length_append]; omega) | simp)
    · simp
/-- Both ends are alike, and lie apart. -/
structure Two (w0 W : World) (g1 g2 : Nat) (sv v2 av1 av2 : Value) (T D : ByteArray) (fs : List Int) (st : Int) (dev : ByteArray) (ag : List Int) : Prop where
  e1 : EndM W g1 sv av1 T D fs st dev ag
  e2 : EndM W g2 v2 av2 T D fs st dev ag
  hst : 0 ≤ st ∧ st ≤ 4
  hag : ag.length ≤ 1000
  n12 : g1 ≠ g2
  d1 : g1 ∉ blkV v2
  d2 : g1 ∉ blkV av2
  d3 : g2 ∉ blkV sv
  d4 : g2 ∉ blkV av1
  bel : Below w0.heap.size w0 W
  low1 : w0.heap.size ≤ g1
  low2 : w0.heap.size ≤ g2
section
variable {w0 W : World} {g1 g2 : Nat} {sv v2 av1 av2 : Value} {T D : ByteArray} {fs : List Int} {st : Int} {dev : ByteArray} {ag : List Int}
theorem Two.step {W' : World} (h : Two w0 W g1 g2 sv v2 av1 av2 T D fs st dev ag) (hb : Below W.heap.size W W') : Two w0 W' g1 g2 sv v2 av1 av2 T D fs st dev ag := ⟨h.e1.step hb, h.e2.step hb, h.hst, h.hag, h.n12, h.d1, h.d2, h.d3, h.d4, below_t h.bel hb, h.low1, h.low2⟩
theorem one_notin {k g : Nat} (h : k ≠ g) : k ∉ [g] := fun q => h (List.mem_singleton.1 q)
theorem Two.first {W1 : World} (h : Two w0 W g1 g2 sv v2 av1 av2 T D fs st dev ag) (m : Moved W W1 [g1] [g1]) : EndM W1 g2 v2 av2 T D fs st dev ag := h.e2.moved m (one_notin (Ne.symm h.n12)) (fun k hk q => h.d1 (by rw [← List.mem_singleton.1 q]; exact hk)) (fun k hk q => h.d2 (by rw [← List.mem_singleton.1 q]; exact hk))
theorem Two.heard {W1 W2 : World} {a1 a2 : Value} {st' : Int} {dev' : ByteArray} {ag' : List Int} (h : Two w0 W g1 g2 sv v2 av1 av2 T D fs st dev ag) (m1 : Moved W W1 [g1] [g1]) (x1 : EndM W1 g1 sv a1 T D fs st' dev' ag') (o1 : OldNew W g1 a1) (m2 : Moved W1 W2 [g2] [g2]) (x2 : EndM W2 g2 v2 a2 T D fs st' dev' ag') (o2 : OldNew W1 g2 a2) (hst : 0 ≤ st' ∧ st' ≤ 4) (hag : ag'.length ≤ 1000) : Two w0 W2 g1 g2 sv v2 a1 a2 T D fs st' dev' ag' := by
  have l1 := h.e1.lt
  have l2 := h.e2.lt
  have sz := m1.size
  have n1 : g2 ∉ blkV a1 := by
    rcases o1 with q | q
    · have e := h.e1.c5.symm.trans q
      injection e with e
      rw [← e]
      exact h.d4
    · exact fun z => by have := q g2 z; omega
  have n2 : g1 ∉ blkV a2 := by
    rcases o2 with q | q
    · have e := (h.first m1).c5.symm.trans q
      injection e with e
      rw [← e]
      exact h.d2
    · exact fun z => by have := q g1 z; omega
  refine ⟨x1.moved m2 (one_notin h.n12) (fun k hk q => h.d3 (by rw [← List.mem_singleton.1 q]; exact hk)) (fun k hk q => n1 (by rw [← List.mem_singleton.1 q]; exact hk)), x2, hst, hag, h.n12, h.d1, n2, h.d3, n1, ?_, h.low1, h.low2⟩
  exact (h.bel.trans (m1.toBelow h.bel.size (fun k hk => by rw [List.mem_singleton.1 hk]; exact h.low1))).trans (m2.toBelow (Nat.le_trans h.bel.size m1.size) (fun k hk => by rw [List.mem_singleton.1 hk]; exact h.low2))
theorem Two.flip {W' : World} {v : Value} (h : Two w0 W g1 g2 sv v2 av1 av2 T D fs st dev ag) (m : Moved W W' (blkV v) (blkV v)) (hv : ∀ k ∈ blkV v, k ≠ g1 ∧ k ≠ g2 ∧ k ∉ blkV sv ∧ k ∉ blkV v2 ∧ k ∉ blkV av1 ∧ k ∉ blkV av2 ∧ w0.heap.size ≤ k) : Two w0 W' g1 g2 sv v2 av1 av2 T D fs st dev ag :=
  ⟨h.e1.moved m (fun q => (hv _ q).1 rfl) (fun k hk q => (hv k q).2.2.1 hk) (fun k hk q => (hv k q).2.2.2.2.1 hk), h.e2.moved m (fun q => (hv _ q).2.1 rfl) (fun k hk q => (hv k q).2.2.2.1 hk) (fun k hk q => (hv k q).2.2.2.2.2.1 hk), h.hst, h.hag, h.n12, h.d1, h.d2, h.d3, h.d4, h.bel.trans (m.toBelow h.bel.size (fun k hk => (hv k hk).2.2.2.2.2.2)), h.low1, h.low2⟩
/-- What a value made before a hearing has to do with the ends behind it. -/
theorem old_apart {a : Value} {g : Nat} {k : Nat} {W : World} {x : Value} (o : OldNew W g a) (hc : W.cell? ⟨g, 5, none⟩ = some x) (hx : k ∉ blkV x) (hk : k < W.heap.size) : k ∉ blkV a := by
  rcases o with q | q
  · have e := hc.symm.trans q
    injection e with e
    rw [← e]
    exact hx
  · exact fun z => by have := q k z; omega
/-- Of the ends. -/
def TwoI (w0 : World) (g1 g2 : Nat) (sv v2 : Value) (T D : ByteArray) (fs : List Int) (W : World) : Prop := ∃ av1 av2 st dev ag, Two w0 W g1 g2 sv v2 av1 av2 T D fs st dev ag
end
theorem cutS_id {s : ByteArray} (h : s.size ≤ 45) : cutS s 45 = s := if_neg (by omega)
/-- A step of a script that came in. -/
def OpRow (w : World) (gl ol i : Nat) : Prop := ∃ (rs : Bool) (o : Nat) (u : Value) (zs : List Int), o < 256 ∧ w.cell? ⟨gl, ol + i * 3, none⟩ = some (.bool rs) ∧ w.cell? ⟨gl, ol + i * 3 + 1, none⟩ = some (.int .u8 o) ∧ w.cell? ⟨gl, ol + i * 3 + 2, none⟩ = some u ∧ Reads w u zs
end Go.Proofs.Ytdpfjbpfafekfaa
