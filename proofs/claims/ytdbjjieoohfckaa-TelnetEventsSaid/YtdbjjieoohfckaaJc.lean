/-
  events: what the law's loop and the iterator share.
-/
import Derived.Test.YtdbjjieoohfckaaGf
import Derived.Test.YtdbjjieoohfckaaJb
import Derived.Lib.OwnKind
import Derived.Laws.Rows
import Derived.RangeFuncNested
import Derived.RangeFuncBound
import Derived.RangeFuncCalls
import Derived.RangeFuncLeaves
import Derived.Shelf.Abstract
import Derived.Shelf.RegionOpen
import Derived.OwnWalkIn
import Derived.TacticsInMore
import Derived.LoopNIn
import Derived.LoopIn
namespace Go.Proofs.Ytdbjjieoohfckaa
open Go.RowKit Go.Lib Go.Deep

theorem ownL_kind {w : World} {v : Value} {xs : List (Ev × Value)} (h : OwnL w v xs) {k : Nat} (hk : k ∈ blks v xs) : ∃ c e fz, w.heap[k]? = some (.cells c e fz) ∧ (e = 37 ∨ e = 5) := by
  rcases mem_blks.1 hk with q | ⟨x, hx, q⟩
  · obtain ⟨c, fz, hb⟩ := ownsRow_kind h.row k (mem_blkV.1 q)
    exact ⟨c, _, fz, hb, .inl rfl⟩
  · obtain ⟨c, fz, hb⟩ := ownsRow_kind (h.data x hx).2 k (mem_blkV.1 q)
    exact ⟨c, _, fz, hb, .inr rfl⟩
/-- What was told lies in the list, whose box is ob; where one stops lies in kb; the iterator's events lie as they lay. -/
structure JI (w : World) (B ob kb K : Nat) (v : Value) (xs : List (Ev × Value)) (k : Nat) (W : World) : Prop where
  out : ∃ s, W.cell? ⟨ob, 0, none⟩ = some s ∧ W.frozen? ⟨ob, 0, none⟩ = false ∧ W.ownsRow B 36 6 s k (cellsE (xs.take k))
  obk : ∃ c, W.heap[ob]? = some (.cells c 28 (0, 0))
  kc : W.cell? ⟨kb, 0, none⟩ = some (.int .i64 K)
  evs : OwnL W v xs
  bel : Below w.heap.size w W
  ge : w.heap.size ≤ ob ∧ w.heap.size ≤ B
  ob_lt : ob < B
  kb_ne : kb < B ∧ kb ≠ ob
  size : B ≤ W.heap.size
theorem jobk_of {W W' : World} {ob : Nat} (h : ∃ c, W.heap[ob]? = some (.cells c 28 (0, 0))) (he : W'.heap[ob]? = W.heap[ob]?) : ∃ c, W'.heap[ob]? = some (.cells c 28 (0, 0)) := by
  rw [he]; exact h
/-- A block that is no cells may turn, a new one may come. -/
theorem JI.own {w : World} {B ob kb K : Nat} {v : Value} {xs : List (Ev × Value)} {k : Nat} {W W' : World} {row : Option Nat} (h : JI w B ob kb K v xs k W) (hg : W.grownBy W' row) (hr : ∀ r, row = some r → w.heap.size ≤ r ∧ ∃ o : Obj, W.heap[r]? = some o ∧ o.isCells = false) : JI w B ob kb K v xs k W' := by
  have hr' : ∀ r, row = some r → ∃ o : Obj, W.heap[r]? = some o ∧ o.isCells = false := fun r e => (hr r e).2
  have hne : ∀ {i c e fz}, W.heap[i]? = some (.cells c e fz) → row ≠ some i := fun hi e => by
    obtain ⟨o, ho, hc⟩ := hr' _ e
    rw [hi] at ho
    cases ho
    cases hc
  obtain ⟨s, h1, h2, h3⟩ := h.out
  obtain ⟨c, hob⟩ := h.obk
  have hS : ∀ k, row = some k → k ∈ row.toList := fun k e => by rw [e]; simp
  have m : Moved W W' row.toList row.toList := Moved.grown hg hS (fun k hk => .inl hk)
  refine ⟨⟨s, cell_kept h1 hg hr', (frozen_kept h1 hg hr').trans h2, own_moved h3 m ?_⟩, jobk_of h.obk (hg.block ob (Array.getElem?_eq_some_iff.1 hob).1 (hne hob ·.symm)), cell_kept h.kc hg hr', h.evs.moved m ?_, h.bel.grown hg (Nat.le_trans h.ge.2 h.size) (fun k e => (hr k e).1), h.ge, h.ob_lt, h.kb_ne, Nat.le_trans h.size hg.size⟩
  · intro i hi hj
    obtain ⟨c', fz', hb⟩ := ownsRow_kind h3 i (mem_blkV.1 hi)
    exact hne hb (Option.mem_toList.1 hj)
  · intro i hi hj
    obtain ⟨c', e', fz', hb, _⟩ := ownL_kind h.evs hi
    exact hne hb (Option.mem_toList.1 hj)
theorem JI.booked {w : World} {B ob kb K m : Nat} {v : Value} {xs : List (Ev × Value)} {k : Nat} (hm : w.heap.size ≤ m) : Booked m (JI w B ob kb K v xs k) := fun W l o o' hl ho hc h =>
  h.own (grownBy_putObj' W l o') (fun r e => by cases e; exact ⟨by omega, o, ho, hc⟩)
theorem JI.alloc {w : World} {B ob kb K : Nat} {v : Value} {xs : List (Ev × Value)} {k : Nat} {W : World} (h : JI w B ob kb K v xs k W) (o : Obj) : JI w B ob kb K v xs k (W.alloc o) := h.own (World.grownBy_alloc W o none) (fun r e => by cases e)
/-- One more is told. -/
theorem JI.step {w : World} {B ob kb K : Nat} {v : Value} {xs : List (Ev × Value)} {k : Nat} {W W1 : World} {s s' : Value} {o : Obj} {ev : Ev} {dv : Value} (h : JI w B ob kb K v xs k W) (hs : W.cell? ⟨ob, 0, none⟩ = some s) (hk : k < xs.length) (hx : xs[k] = (ev, dv))
    (hown : W1.ownsRow B 36 6 s' (k + 1) (cellsE (xs.take k) ++ evC ev dv)) (hg : (W.alloc o).grownBy W1 s.ownBlock) :
    JI w B ob kb K v xs (k + 1) (W1.setCell ⟨ob, 0, none⟩ s') ∧ KeepsOthers W (W1.setCell ⟨ob, 0, none⟩ s') ∧ W1.cell? ⟨ob, 0, none⟩ = some s ∧ W1.frozen? ⟨ob, 0, none⟩ = false ∧ W1.cell? ⟨kb, 0, none⟩ = some (.int .i64 K) := by
  obtain ⟨s0, h1, h2, h3⟩ := h.out
  obtain rfl : s0 = s := Option.some.inj (h1.symm.trans hs)
  obtain ⟨c, hob⟩ := h.obk
  have hobl := (Array.getElem?_eq_some_iff.1 hob).1
  have h3a := h3.alloc o
  have hsz := h.size
  have hlt := h.ob_lt
  have hkb := h.kb_ne
  have hne : ∀ i, i < B → some i ≠ s0.ownBlock := fun i hi e => by have := (h3a.lt i e.symm).1; omega
  have hblk : ∀ i, i < B → W1.heap[i]? = W.heap[i]? := fun i hi => (hg.block i (by simp; omega) (hne i hi)).trans (Below.heap_alloc _ _ _ (by omega))
  have c1 : W1.cell? ⟨ob, 0, none⟩ = some s0 := (World.cell?_of_block (hblk _ hlt)).trans hs
  have f1 : W1.frozen? ⟨ob, 0, none⟩ = false := (World.frozen?_of_block (hblk _ hlt)).trans h2
  have k1 : W1.cell? ⟨kb, 0, none⟩ = some (.int .i64 K) := (World.cell?_of_block (hblk _ hkb.1)).trans h.kc
  have hz : W.heap.size ≤ W1.heap.size := Nat.le_trans (by simp) hg.size
  have hgs : W1.grownBy (W1.setCell ⟨ob, 0, none⟩ s') (some ob) := ⟨rfl, rfl, rfl, by simp [World.setCell], fun i _ hi => Below.heap_setCell _ _ _ _ (fun e => hi (by rw [e]))⟩
  have m1 : Moved W W1 (blkV s0) (blkV s0) := (Moved.alloc W o _).trans (Moved.grown hg (fun k e => mem_blkV.2 e) (fun k hk => .inl hk))
  have m2 : Moved W (W1.setCell ⟨ob, 0, none⟩ s') (ob :: blkV s0) (ob :: blkV s0) := (m1.sub (fun k hk => List.mem_cons_of_mem _ hk) (fun k hk => .inr hk)).trans (Moved.set (List.mem_cons_self ..) 0 s')
  refine ⟨⟨⟨s', World.cell?_setCell_same' _ _ _ (by rw [c1]; rfl), by rw [World.frozen?_setCell]; exact f1, ?_⟩, ?_, ?_, h.evs.moved m2 ?_, ?_, h.ge, hlt, hkb, by have : (W1.setCell ⟨ob, 0, none⟩ s').heap.size = W1.heap.size := (by simp [World.setCell]); omega⟩, ?_, c1, f1, k1⟩
  · rw [cellsE_take xs k hk, hx]
    exact hown.kept hgs (.inr (fun e => by have := (hown.lt _ e).1; omega))
  · obtain ⟨c', h'⟩ := jobk_of h.obk (hblk ob hlt)
    exact ⟨_, Go.heap_setCell_same _ _ _ _ _ _ h'⟩
  · rw [World.cell?_setCell_other W1 _ _ _ (fun e => hkb.2 (by cases e; rfl))]
    exact k1
  · intro i hi hj
    obtain ⟨c', e', fz', hb, he⟩ := ownL_kind h.evs hi
    rcases List.mem_cons.1 hj with rfl | hj
    · rw [hob] at hb
      cases hb
      rcases he with he | he <;> exact absurd he (by decide)
    · obtain ⟨c2, fz2, hb2⟩ := ownsRow_kind h3 i (mem_blkV.1 hj)
      rw [hb2] at hb
      cases hb
      rcases he with he | he <;> exact absurd he (by decide)
  · exact h.bel.trans (m2.toBelow h.bel.size (fun k hk => by
      rcases List.mem_cons.1 hk with rfl | hk
      · exact h.ge.1
      · have := (h3.lt k (mem_blkV.1 hk)).1; have := h.ge.2; omega))
  · refine ((KeepsOthers.alloc _ _).trans (KeepsOthers.of_grownBy hg ?_)).trans (KeepsOthers.setCell _ _ _)
    intro j o' hj ho
    obtain ⟨c', fz', hb⟩ := ownsRow_kind h3a j hj
    rw [hb] at ho
    cases ho
    rfl
theorem JI.done {w : World} {B ob kb K : Nat} {v : Value} {xs : List (Ev × Value)} {k : Nat} {W W' : World} {row : Option Nat} (h : JI w B ob kb K v xs k W) (hk : k ≤ xs.length) (hg : W.grownBy W' row) (hr : ∀ r, row = some r → w.heap.size ≤ r ∧ ∃ o : Obj, W.heap[r]? = some o ∧ o.isCells = false) : ∃ s, W.cell? ⟨ob, 0, none⟩ = some s ∧ (∃ x n c, s = .slice x n c) ∧ EvsX W' s (xs.take k) ∧ Below w.heap.size w W' := by
  obtain ⟨s, h1, _, h3⟩ := h.out
  have h' := h.own hg hr
  have hr' : ∀ r, row = some r → ∃ o : Obj, W.heap[r]? = some o ∧ o.isCells = false := fun r e => (hr r e).2
  obtain ⟨s', h1', _, h3'⟩ := h'.out
  obtain rfl : s' = s := Option.some.inj (h1'.symm.trans (cell_kept h1 hg hr'))
  have hl : (xs.take k).length = k := by rw [List.length_take]; omega
  refine ⟨s', h1, ?_, row_evs (B := B) (by rw [hl]; exact h3') (fun x hx => (h'.evs.data x (List.mem_of_mem_take hx)).reads), h'.bel⟩
  rcases h3.2 with ⟨rfl, _⟩ | ⟨g, cap, cur, rfl, _⟩
  · exact ⟨_, _, _, rfl⟩
  · exact ⟨_, _, _, rfl⟩
end Go.Proofs.Ytdbjjieoohfckaa
