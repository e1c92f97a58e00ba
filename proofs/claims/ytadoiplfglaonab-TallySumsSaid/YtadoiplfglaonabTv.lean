/-
  TallySums: what the law asks at its end.
-/
import Derived.Test.YtadoiplfglaonabTt
namespace Go.Proofs.Ytadoiplfglaonab
open Go.RowKit Go.Shelf Go.Deep Go.Lib

theorem idx_uniq {ts : List (List UInt8)} (hr : Rising ts) {j : Nat} (hj : j < ts.length) : ts.idxOf (ts.getD j []) = j := by
  have hm : ts.getD j [] ∈ ts := by simp [List.getD, List.getElem?_eq_getElem hj]
  obtain ⟨h1, h2⟩ := idx_at hm
  rcases Nat.lt_trichotomy (ts.idxOf (ts.getD j [])) j with h | h | h
  · have := hr _ _ h hj
    rw [h2] at this
    exact absurd this (List.lt_irrefl _)
  · exact h
  · have := hr _ _ h h1
    rw [h2] at this
    exact absurd this (List.lt_irrefl _)
theorem find_at {v : Value} {ts : List (List UInt8)} {cs : List Int} (x : ByteArray) (w : World) (h : CRead w v ts cs) (hr : Rising ts) (hx : x.data.toList ∈ ts) : Calls Try.prog 13 #[v, .string x] w fun e w' => e = .returned (.int .i64 (ts.idxOf x.data.toList)) ∧ w.grownBy w' none :=
  (find_any v ts cs x w h).mono fun e w' ⟨hg, hf⟩ => by
    rcases hf with ⟨j, hj, hjx, rfl⟩ | ⟨hn, _⟩
    · exact ⟨by rw [← hjx, idx_uniq hr hj], hg⟩
    · exact absurd hx hn
theorem mem_pairs {ts : List (List UInt8)} {cs : List Int} {n : Nat} {P : List UInt8 → Prop} : (∀ x ∈ pairsL ts cs n, P x.1) ↔ ∀ j, j < n → P (ts.getD j []) := by
  unfold pairsL
  constructor
  · intro h j hj
    exact h _ (List.mem_map.2 ⟨j, List.mem_range.2 hj, rfl⟩)
  · intro h x hx
    obtain ⟨j, hj, rfl⟩ := List.mem_map.1 hx
    exact h j (List.mem_range.1 hj)
section
variable {W : World} {B1 C1 B2 t1 : Nat} {vn1 : Value} {g1 : Nat} {l1 : Value} {ts1 : List (List UInt8)} {t2 : Nat} {vn2 : Value} {g2 : Nat} {l2 : Value} {ts2 : List (List UInt8)} {cs1 csF cs2 : List Int}
theorem sum_two (b : Bool) (hT : TallyIn W B1 t1 vn1 g1 ts1 cs1) (hR : RefIn W B1 l1 ts1 csF) (hP : PairIn W B2 t2 vn2 g2 l2 ts2 cs2) (un : Under C1 t1 vn1 g1 l1) (le : C1 ≤ B2) (lo : B1 ≤ C1)
    (hb : b = true ↔ ∀ j, j < ts2.length → ts2.getD j [] ∈ ts1) (hF : csF = if b then addAllC ts1 cs1 (pairsL ts2 cs2 ts2.length) else cs1) (hne : l1.ownBlock ≠ some g1) :
    Calls Try.prog 14 #[.pointer (some ⟨t1, 0, none⟩), .pointer (some ⟨t2, 0, none⟩)] W fun e W' => e = .returned (.bool b) ∧ Two W' B1 C1 B2 t1 vn1 g1 l1 ts1 t2 vn2 g2 l2 ts2 csF cs2 ∧ Below B1 W W' := by
  have hB2 : B2 ≤ W.heap.size := hP.size
  have hg1 : g1 < C1 := un.g
  have hover : ∀ W', Chg g1 (g1 + 1) W W' → PairIn W' B2 t2 vn2 g2 l2 ts2 cs2 := fun W' h => hP.over_of (fun i h1 h2 => h.up i (by omega) h2)
  refine (callsIn_wide.1 (sum_in W hT (some ⟨t2, 0, none⟩) (pairsL ts2 cs2 ts2.length) (fun W' h => other_some W' (hP.grown (grown_of_below h)).tally) (fun W' h => other_some W' (hover W' h).tally))).mono ?_
  rintro e W' (⟨hall, rfl, hT', hC⟩ | ⟨⟨x, hx, hxn⟩, rfl, hB⟩)
  · have hbt : b = true := hb.2 (mem_pairs.1 hall)
    subst hbt
    rw [if_pos rfl] at hF
    subst hF
    refine ⟨rfl, ⟨⟨hT', hR.atK (fun k e => ?_)⟩, hover W' hC, un, le, lo⟩, ?_⟩
    · have hkg : k ≠ g1 := fun h => hne (by rw [e, h])
      have hkl := (hR.row.lt k e).2
      rcases Nat.lt_or_ge k g1 with h | h
      · exact hC.below.block k h
      · exact hC.up k (by omega) hkl
    · exact hC.below.mono (hT.counts.lt g1 rfl).1
  · have hbf : b = false := by
      rcases Bool.eq_false_or_eq_true b with h | h
      · exact absurd (mem_pairs.2 (hb.1 h) x hx) hxn
      · exact h
    subst hbf
    rw [if_neg (by decide)] at hF
    subst hF
    exact ⟨rfl, ⟨⟨hT.grown (grown_of_below hB), hR.grown (grown_of_below hB)⟩, hP.grown (grown_of_below hB), un, le, lo⟩, hB.mono (Nat.le_trans hT.base (Nat.le_of_lt (Array.getElem?_eq_some_iff.1 hT.block).1))⟩
theorem size_of_two (h : Two W B1 C1 B2 t1 vn1 g1 l1 ts1 t2 vn2 g2 l2 ts2 cs1 cs2) : B1 ≤ W.heap.size := h.one.size
theorem all_one (h : Two W B1 C1 B2 t1 vn1 g1 l1 ts1 t2 vn2 g2 l2 ts2 cs1 cs2) : Calls Try.prog 12 #[.pointer (some ⟨t1, 0, none⟩), .int .i64 1000] W fun e W' => ∃ u, e = .returned u ∧ CRead W' u ts1 cs1 ∧ CRead W' l1 ts1 cs1 ∧ Two W' B1 C1 B2 t1 vn1 g1 l1 ts1 t2 vn2 g2 l2 ts2 cs1 cs2 ∧ Below W.heap.size W W' :=
  (all_some 1000 (by omega) (by omega) W h.one.tally).mono fun e W' ⟨u, h1, h3, h4⟩ => ⟨u, h1, (h3.read (by have := h.one.tally.few; rw [List.length_take]; omega)).all (by have := h.one.tally.few; omega), (h.one.ref.grown (grown_of_below h4)).read h.one.tally.few, h.grown (grown_of_below h4), h4⟩
theorem all_two (h : Two W B1 C1 B2 t1 vn1 g1 l1 ts1 t2 vn2 g2 l2 ts2 cs1 cs2) : Calls Try.prog 12 #[.pointer (some ⟨t2, 0, none⟩), .int .i64 1000] W fun e W' => ∃ u, e = .returned u ∧ CRead W' u ts2 cs2 ∧ CRead W' l2 ts2 cs2 ∧ Two W' B1 C1 B2 t1 vn1 g1 l1 ts1 t2 vn2 g2 l2 ts2 cs1 cs2 ∧ Below W.heap.size W W' :=
  (all_some 1000 (by omega) (by omega) W h.two.tally).mono fun e W' ⟨u, h1, h3, h4⟩ => ⟨u, h1, (h3.read (by have := h.two.tally.few; rw [List.length_take]; omega)).all (by have := h.two.tally.few; omega), (h.two.ref.grown (grown_of_below h4)).read h.two.tally.few, h.grown (grown_of_below h4), h4⟩
theorem sum_none (hT : TallyIn W B1 t1 vn1 g1 ts1 cs1) : Calls Try.prog 14 #[.pointer (some ⟨t1, 0, none⟩), .pointer none] W fun e W' => e = .returned (.bool true) ∧ Below B1 W W' := by
  refine (callsIn_wide.1 (sum_in W hT none [] (fun W' _ => other_none W') (fun W' _ => other_none W'))).mono ?_
  rintro e W' (⟨_, rfl, _, hC⟩ | ⟨⟨x, hx, _⟩, _⟩)
  · exact ⟨rfl, hC.below.mono (hT.counts.lt g1 rfl).1⟩
  · cases hx
end
end Go.Proofs.Ytadoiplfglaonab
