/-
  A subnegotiation that is said is read again: plain lists, and its one event in memory.
-/
import Derived.Test.YtdbjjieoohfckaaDoorKe
namespace Go.Proofs.YtdbjjieoohfckaaDoor
open Go.RowKit Go.Lib Go.Deep Go.Shelf

theorem run_sub (o : Int) : ∀ (xs d : List Int) (l : Bool), d.length ≤ 256 → runS (.sub o d l) (escI xs) = .sub o ((d ++ xs).take 256) (l || decide (256 < d.length + xs.length)) ∧ emit (.sub o d l) (escI xs) = []
  | [], d, l, hd => by
    refine ⟨?_, rfl⟩
    show St.sub o d l = _
    rw [List.append_nil, List.take_of_length_le hd, decide_eq_false (by simp; omega), Bool.or_false]
  | x :: xs, d, l, hd => by
    have key : ∀ s, s = keepS o d l x → runS s (escI xs) = .sub o ((d ++ x :: xs).take 256) (l || decide (256 < d.length + (x :: xs).length)) ∧ emit s (escI xs) = [] := by
      rintro s rfl
      unfold keepS
      by_cases h : d.length = 256
      · rw [if_pos h]
        obtain ⟨h1, h2⟩ := run_sub o xs d true hd
        refine ⟨?_, h2⟩
        rw [h1, Bool.true_or, decide_eq_true (by simp; omega), Bool.or_true]
        congr 1
        rw [List.take_append, List.take_append, List.take_of_length_le (by omega), show 256 - d.length = 0 by omega, List.take_zero, List.take_zero]
      · rw [if_neg h]
        obtain ⟨h1, h2⟩ := run_sub o xs (d ++ [x]) l (by simp; omega)
        refine ⟨?_, h2⟩
        rw [h1, List.append_assoc]
        congr 2
        simp
        omega
    simp only [escI]
    by_cases hx : x = 255
    · subst hx
      rw [if_pos rfl]
      exact key _ rfl
    · rw [if_neg hx]
      have hs : stepS (.sub o d l) x = (keepS o d l x, []) := by simp only [stepS, if_neg hx]
      obtain ⟨h1, h2⟩ := key _ rfl
      refine ⟨?_, ?_⟩
      · show runS (stepS (.sub o d l) x).1 (escI xs) = _
        rw [hs]; exact h1
      · show (stepS (.sub o d l) x).2 ++ emit (stepS (.sub o d l) x).1 (escI xs) = _
        rw [hs, List.nil_append]; exact h2
theorem run_subL (o : Int) (xs : List Int) : runS .between (subL o xs) = .between ∧ emit .between (subL o xs) = [⟨3, 0, o, xs.take 256, decide (256 < xs.length), false⟩] := by
  obtain ⟨h1, h2⟩ := run_sub o xs [] false (by simp)
  rw [List.nil_append, Bool.false_or] at h1
  rw [show ([] : List Int).length + xs.length = xs.length by simp] at h1
  have e : subL o xs = [255, 250, o] ++ (escI xs ++ [255, 240]) := by unfold subL; rw [List.append_assoc]
  rw [e, runS_append, emit_append]
  have e1 : runS .between [255, 250, o] = .sub o [] false := rfl
  have e2 : emit .between [255, 250, o] = [] := rfl
  rw [e1, e2, runS_append, emit_append, h1, h2]
  exact ⟨rfl, rfl⟩
theorem merge_one (e : Ev) (h : ¬ e.kind = 0) : mergeL [e] = [e] := by
  show mstep [] e = _
  rw [mstep_ev _ h]
  rfl
theorem reads_blk {w : World} {v : Value} {xs : List Int} (h : Reads w v xs) (hx : xs ≠ []) : ∀ k ∈ blkV v, k < w.heap.size := by
  intro k hk
  rcases h.2 with ⟨rfl, _⟩ | ⟨a, cap, rfl, _, _, hc⟩
  · cases hk
  · have hl : 0 < xs.length := List.length_pos_iff.2 hx
    have c0 := hc 0 hl
    obtain ⟨g, off, spot⟩ := a
    obtain rfl : spot = none := by simpa [Addr.add] using World.cell?_spot c0
    have e : k = g := by
      have := mem_blkV.1 hk
      cases off
      · simpa [Value.ownBlock, eq_comm] using this
      · simp [Value.ownBlock] at this
        try omega
    subst e
    rw [addr_add] at c0
    exact World.block_lt_of_cell? w _ c0
theorem six_ev {w : World} {v : Value} {xs : List (Ev × Value)} {e : Ev} (h : OwnL w v xs) (he : xs.map (·.1) = [e]) : ∃ g cap d, v = .slice (some ⟨g, 0, none⟩) 1 cap ∧ Six w g 0 e d ∧ Reads w d e.data := by
  match xs, he with
  | [x], he =>
    have e1 : x.1 = e := by simpa using he
    subst e1
    obtain ⟨o, cap, rfl, hc⟩ := h.evsX
    obtain ⟨g, off, rfl, h6, hr⟩ := hc 0 (by simp)
    have hoff : off = 0 := by
      rcases h.row.2 with ⟨h', _⟩ | ⟨g', cap', cur, h', _⟩
      · cases h'
      · simp only [Value.slice.injEq, Option.some.injEq, Addr.mk.injEq] at h'
        exact h'.1.2.1
    subst hoff
    exact ⟨g, cap, x.2, rfl, six_of (fun j hj => by have := h6 j hj; simpa using this), hr⟩
end Go.Proofs.YtdbjjieoohfckaaDoor
