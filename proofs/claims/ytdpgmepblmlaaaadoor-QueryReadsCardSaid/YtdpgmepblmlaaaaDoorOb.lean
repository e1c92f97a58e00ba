/-
  Orders: boxes of seven cells; one byte, a code, a pair.
  Orders: what is behind the byte of an order.
  Orders: all of what bytes say.
-/
import Derived.Test.YtdpgmepblmlaaaaDoorOa
import Derived.Deep.RegionWith
namespace Go.Proofs.YtdpgmepblmlaaaaDoor
open Go.RowKit Go.Lib

theorem Moved.late {w w1 : World} {S S' : List Nat} (m : Moved w w1 S S') {b : Nat} (hb : w.heap.size ≤ b) (i : Nat) (u : Value) : Moved w (w1.setCell ⟨b, i, none⟩ u) S S' :=
  ⟨m.os, m.tape, m.output, Nat.le_trans m.size (by simp [World.setCell]), fun j hj hs => (Go.heap_setCell_other w1 _ j u (fun e => by have : j = b := e; omega)).trans (m.block j hj hs), m.from'⟩
/-- A box of seven cells. -/
structure Box7 (w : World) (b : Nat) (v0 v1 v2 v3 v4 v5 v6 : Value) : Prop where
  c0 : w.cell? ⟨b, 0, none⟩ = some v0
  c1 : w.cell? ⟨b, 1, none⟩ = some v1
  c2 : w.cell? ⟨b, 2, none⟩ = some v2
  c3 : w.cell? ⟨b, 3, none⟩ = some v3
  c4 : w.cell? ⟨b, 4, none⟩ = some v4
  c5 : w.cell? ⟨b, 5, none⟩ = some v5
  c6 : w.cell? ⟨b, 6, none⟩ = some v6
  fr : ∀ i, i < 7 → w.frozen? ⟨b, i, none⟩ = false
def put7 (w : World) (b : Nat) (v0 v1 v2 v3 v4 v5 v6 : Value) : World := ((((((w.setCell ⟨b, 0, none⟩ v0).setCell ⟨b, 1, none⟩ v1).setCell ⟨b, 2, none⟩ v2).setCell ⟨b, 3, none⟩ v3).setCell ⟨b, 4, none⟩ v4).setCell ⟨b, 5, none⟩ v5).setCell ⟨b, 6, none⟩ v6
section
variable {w w' : World} {b : Nat} {v0 v1 v2 v3 v4 v5 v6 : Value}
theorem Box7.new (w : World) (t : TypeId) : Box7 (w.alloc (.cells #[v0, v1, v2, v3, v4, v5, v6] t)) w.heap.size v0 v1 v2 v3 v4 v5 v6 :=
  ⟨by simp [go_sem], by simp [go_sem], by simp [go_sem], by simp [go_sem], by simp [go_sem], by simp [go_sem], by simp [go_sem], fun i _ => by simp [go_sem]⟩
theorem Box7.lt (h : Box7 w b v0 v1 v2 v3 v4 v5 v6) : b < w.heap.size := World.block_lt_of_cell? w _ h.c0
theorem Box7.moved {S S' : List Nat} (h : Box7 w b v0 v1 v2 v3 v4 v5 v6) (m : Moved w w' S S') (hb : b ∉ S) : Box7 w' b v0 v1 v2 v3 v4 v5 v6 :=
  ⟨cell_moved m h.c0 hb, cell_moved m h.c1 hb, cell_moved m h.c2 hb, cell_moved m h.c3 hb, cell_moved m h.c4 hb, cell_moved m h.c5 hb, cell_moved m h.c6 hb, fun i hi => (World.frozen?_of_block (m.block _ h.lt hb)).trans (h.fr i hi)⟩
theorem Box7.step (h : Box7 w b v0 v1 v2 v3 v4 v5 v6) (hb : Below w.heap.size w w') : Box7 w' b v0 v1 v2 v3 v4 v5 v6 := h.moved (Moved.below hb []) (fun q => by cases q)
theorem set_o {g i j : Nat} (hij : j ≠ i) {u x : Value} (c : w.cell? ⟨g, j, none⟩ = some u) : (w.setCell ⟨g, i, none⟩ x).cell? ⟨g, j, none⟩ = some u := by
  rw [World.cell?_setCell_other _ _ _ _ (fun q => by injection q; omega)]
  exact c
theorem set_s {g i : Nat} {u x : Value} (c : w.cell? ⟨g, i, none⟩ = some u) : (w.setCell ⟨g, i, none⟩ x).cell? ⟨g, i, none⟩ = some x := World.cell?_setCell_same _ _ _ c
theorem Box7.put (h : Box7 w b v0 v1 v2 v3 v4 v5 v6) (u0 u1 u2 u3 u4 u5 u6 : Value) : Box7 (put7 w b u0 u1 u2 u3 u4 u5 u6) b u0 u1 u2 u3 u4 u5 u6 := by
  refine ⟨?_, ?_, ?_, ?_, ?_, ?_, ?_, fun i hi => by unfold put7; simp [h.fr i hi]⟩
  · exact set_o (by omega) (set_o (by omega) (set_o (by omega) (set_o (by omega) (set_o (by omega) (set_o (by omega) (set_s h.c0))))))
  · exact set_o (by omega) (set_o (by omega) (set_o (by omega) (set_o (by omega) (set_o (by omega) (set_s (set_o (by omega) h.c1))))))
  · exact set_o (by omega) (set_o (by omega) (set_o (by omega) (set_o (by omega) (set_s (set_o (by omega) (set_o (by omega) h.c2))))))
  · exact set_o (by omega) (set_o (by omega) (set_o (by omega) (set_s (set_o (by omega) (set_o (by omega) (set_o (by omega) h.c3))))))
  · exact set_o (by omega) (set_o (by omega) (set_s (set_o (by omega) (set_o (by omega) (set_o (by omega) (set_o (by omega) h.c4))))))
  · exact set_o (by omega) (set_s (set_o (by omega) (set_o (by omega) (set_o (by omega) (set_o (by omega) (set_o (by omega) h.c5))))))
  · exact set_s (set_o (by omega) (set_o (by omega) (set_o (by omega) (set_o (by omega) (set_o (by omega) (set_o (by omega) h.c6))))))
theorem Moved.late7 {w w1 : World} {S S' : List Nat} (m : Moved w w1 S S') {b : Nat} (hb : w.heap.size ≤ b) (v0 v1 v2 v3 v4 v5 v6 : Value) : Moved w (put7 w1 b v0 v1 v2 v3 v4 v5 v6) S S' :=
  ((((((m.late hb 0 v0).late hb 1 v1).late hb 2 v2).late hb 3 v3).late hb 4 v4).late hb 5 v5).late hb 6 v6
theorem put7_moved (w : World) (b : Nat) (v0 v1 v2 v3 v4 v5 v6 : Value) : Moved w (put7 w b v0 v1 v2 v3 v4 v5 v6) [b] [b] :=
  have h : ∀ (w : World) (i : Nat) (v : Value), Moved w (w.setCell ⟨b, i, none⟩ v) [b] [b] := fun w i v => Moved.set (by simp) i v
  ((((((h _ 0 v0).trans (h _ 1 v1)).trans (h _ 2 v2)).trans (h _ 3 v3)).trans (h _ 4 v4)).trans (h _ 5 v5)).trans (h _ 6 v6)
end
theorem run_to {w : World} {p : Value} {xs : List Int} (hr : Reads w p xs) (n : Nat) (hn : n ≤ xs.length) : ∃ q, (Instr.sliceAt 22 p none (some (.int .i64 n)) none).run Tryd.prog w = .ok q w ∧ Reads w q (xs.take n) ∧ ∀ k ∈ blkV q, k ∈ blkV p := by
  obtain ⟨hb, ⟨rfl, rfl⟩ | ⟨a, cap, rfl, h1, h2, h3⟩⟩ := hr
  · have : n = 0 := by simpa using hn
    subst this
    refine ⟨.slice none 0 0, ?_, reads_nil w, fun k hk => hk⟩
    simp [Instr.sliceAt, Instr.slice, run_underlying Tryd.underlying22, Instr.sliceBounds, Instr.sliceBound, asIntOf]
  · refine ⟨.slice (some a) n cap, ?_, reads_take ⟨hb, .inr ⟨a, cap, rfl, h1, h2, h3⟩⟩ rfl n hn, fun k hk => hk⟩
    have hnc : n ≤ cap := by omega
    simp [Instr.sliceAt, Instr.slice, run_underlying Tryd.underlying22, Instr.sliceBounds, Instr.sliceBound, asIntOf, hnc]
    intro _
    simp [Addr.add]
theorem run_from {w : World} {p : Value} {xs : List Int} (hr : Reads w p xs) (n : Nat) (hn : n ≤ xs.length) : ∃ q, (Instr.sliceAt 22 p (some (.int .i64 n)) none none).run Tryd.prog w = .ok q w ∧ Reads w q (xs.drop n) ∧ ∀ k ∈ blkV q, k ∈ blkV p := by
  obtain ⟨hb, ⟨rfl, rfl⟩ | ⟨a, cap, rfl, h1, h2, h3⟩⟩ := hr
  · have : n = 0 := by simpa using hn
    subst this
    refine ⟨.slice none 0 0, ?_, reads_nil w, fun k hk => hk⟩
    simp [Instr.sliceAt, Instr.slice, run_underlying Tryd.underlying22, Instr.sliceBounds, Instr.sliceBound, asIntOf]
  · have hlen : (xs.drop n).length = xs.length - n := List.length_drop
    refine ⟨.slice (some (if cap = n then a else a.add n)) (xs.length - n) (cap - n), ?_, ⟨fun y hy => hb y (List.mem_of_mem_drop hy), .inr ⟨_, cap - n, by rw [hlen], by omega, by omega, fun i hi => ?_⟩⟩, fun k hk => ?_⟩
    · simp [Instr.sliceAt, Instr.slice, run_underlying Tryd.underlying22, Instr.sliceBounds, Instr.sliceBound, asIntOf, hn]
      split <;> rfl
    · rw [hlen] at hi
      rw [if_neg (by omega)]
      have c0 := h3 0 (by omega)
      obtain ⟨g, off, spot⟩ := a
      obtain rfl : spot = none := by simpa [Addr.add] using World.cell?_spot c0
      have c := h3 (n + i) (by omega)
      rw [addr_add] at c
      rw [addr_add, addr_add, Nat.add_assoc, c, List.getD, List.getD, List.getElem?_drop]
    · rw [mem_blkV] at hk ⊢
      have e : (a.add n).block = a.block := by unfold Addr.add; split <;> rfl
      by_cases hc : cap = n
      · rw [if_pos hc] at hk; exact hk
      · rw [if_neg hc] at hk
        simpa [Value.ownBlock, e] using hk
theorem run_from_all {w : World} {p : Value} {xs : List Int} (hr : Reads w p xs) (n : Nat) (hn : n ≤ xs.length) : ∃ q, (∀ w', (Instr.sliceAt 22 p (some (.int .i64 n)) none none).run Tryd.prog w' = .ok q w') ∧ Reads w q (xs.drop n) := by
  obtain ⟨q0, h1, h2, h3⟩ := run_from hr n hn
  obtain ⟨hb, ⟨rfl, rfl⟩ | ⟨a, cap, rfl, k1, k2, k3⟩⟩ := hr
  · have : n = 0 := by simpa using hn
    subst this
    refine ⟨.slice none 0 0, fun w' => ?_, reads_nil w⟩
    simp [Instr.sliceAt, Instr.slice, run_underlying Tryd.underlying22, Instr.sliceBounds, Instr.sliceBound, asIntOf]
  · have e : ∀ w', (Instr.sliceAt 22 (.slice (some a) xs.length cap) (some (.int .i64 n)) none none).run Tryd.prog w' = .ok (.slice (some (if cap = n then a else a.add n)) (xs.length - n) (cap - n)) w' := fun w' => by
      simp [Instr.sliceAt, Instr.slice, run_underlying Tryd.underlying22, Instr.sliceBounds, Instr.sliceBound, asIntOf, hn]
      split <;> rfl
    rw [e w] at h1
    injection h1 with e1 _
    subst e1
    exact ⟨_, e, h2⟩
theorem reads_sl {w : World} {v : Value} {xs : List Int} (h : Reads w v xs) : ∃ x c, v = .slice x xs.length c := by
  rcases h.2 with ⟨rfl, rfl⟩ | ⟨x, cap, rfl, _⟩
  · exact ⟨_, _, rfl⟩
  · exact ⟨_, _, rfl⟩
/-- Bytes: none, or a first one. -/
theorem reads_cons {w : World} {v : Value} {xs : List Int} (h : Reads w v xs) : (∃ x c, v = .slice x 0 c ∧ xs = []) ∨ ∃ g o c r, ∃ b : Nat, b < 256 ∧ v = .slice (some ⟨g, o, none⟩) (r.length + 1) c ∧ xs = (b : Int) :: r ∧ w.cell? ⟨g, o, none⟩ = some (.int .u8 b) ∧ r.length + 1 ≤ c ∧ c ≤ maxLen := by
  match xs, h with
  | [], h =>
    obtain ⟨x, c, rfl⟩ := reads_sl h
    exact .inl ⟨_, _, rfl, rfl⟩
  | b :: r, ⟨hb, h⟩ =>
    rcases h with ⟨_, h⟩ | ⟨a, cap, rfl, h1, h2, h3⟩
    · cases h
    · have c0 := h3 0 (by simp)
      obtain ⟨g, off, spot⟩ := a
      obtain rfl : spot = none := by simpa [Addr.add] using World.cell?_spot c0
      rw [addr_add, Nat.add_zero] at c0
      have h0 := hb b (by simp)
      obtain ⟨n, rfl⟩ : ∃ n : Nat, b = n := ⟨b.toNat, by omega⟩
      exact .inr ⟨g, off, cap, r, n, by omega, rfl, rfl, c0, by simpa using h1, h2⟩
theorem reads_two {w : World} {v : Value} {xs : List Int} (h : Reads w v xs) : (∃ x n c, v = .slice x n c ∧ n < 2 ∧ xs.length = n) ∨ ∃ g o c r, ∃ a b : Nat, a < 256 ∧ b < 256 ∧ v = .slice (some ⟨g, o, none⟩) (r.length + 2) c ∧ xs = (a : Int) :: (b : Int) :: r ∧ w.cell? ⟨g, o, none⟩ = some (.int .u8 a) ∧ w.cell? ⟨g, o + 1, none⟩ = some (.int .u8 b) := by
  match xs, h with
  | [], h =>
    obtain ⟨x, c, rfl⟩ := reads_sl h
    exact .inl ⟨_, _, _, rfl, by simp, rfl⟩
  | [_], h =>
    obtain ⟨x, c, rfl⟩ := reads_sl h
    exact .inl ⟨_, _, _, rfl, by simp, rfl⟩
  | a :: b :: r, ⟨hb, h⟩ =>
    rcases h with ⟨_, h⟩ | ⟨y, cap, rfl, h1, h2, h3⟩
    · cases h
    · have c0 := h3 0 (by simp)
      have c1 := h3 1 (by simp)
      obtain ⟨g, off, spot⟩ := y
      obtain rfl : spot = none := by simpa [Addr.add] using World.cell?_spot c0
      rw [addr_add] at c0 c1
      have ha := hb a (by simp)
      have hb := hb b (by simp)
      obtain ⟨n, rfl⟩ : ∃ n : Nat, a = n := ⟨a.toNat, by omega⟩
      obtain ⟨m, rfl⟩ : ∃ m : Nat, b = m := ⟨b.toNat, by omega⟩
      exact .inr ⟨g, off, cap, r, n, m, by omega, by omega, rfl, rfl, c0, c1⟩
theorem held_step {w0 w w' : World} {B : Nat} {p q : Addr} {x y : Value} (h : w.cell? p = some x ∧ w.cell? q = some y ∧ Below B w0 w) (hb : Below w.heap.size w w') (hB : B ≤ p.block) : w'.cell? p = some x ∧ w'.cell? q = some y ∧ Below B w0 w' := ⟨keepc hb h.1, keepc hb h.2.1, h.2.2.trans (hb.mono (Nat.le_trans hB (Nat.le_of_lt (World.block_lt_of_cell? w _ h.1))))⟩
end Go.Proofs.YtdpgmepblmlaaaaDoor
namespace Go.Proofs.YtdpgmepblmlaaaaDoor
open Go.RowKit Go.Lib

theorem row_slice {w : World} {B : Nat} {t : TypeId} {m n : Nat} {v : Value} {xs : List Value} (h : w.ownsRow B t m v n xs) : ∃ x c, v = .slice x n c := by
  rcases h.2 with ⟨rfl, rfl⟩ | ⟨g, cap, cur, rfl, _⟩
  · exact ⟨_, _, rfl⟩
  · exact ⟨_, _, rfl⟩
end Go.Proofs.YtdpgmepblmlaaaaDoor
namespace Go.Proofs.YtdpgmepblmlaaaaDoor
open Go.RowKit Go.Lib

theorem news_seven (W : World) (x0 x1 x2 x3 x4 x5 x6 : Value) (t : TypeId) : ∀ j u, [x0, x1, x2, x3, x4, x5, x6][j]? = some u → (W.alloc (.cells #[x0, x1, x2, x3, x4, x5, x6] t)).cell? ((⟨W.heap.size, 0, none⟩ : Addr).add j) = some u := by
  intro j u hu
  rw [addr_add, Nat.zero_add, cell_of_row _ W.heap.size j #[x0, x1, x2, x3, x4, x5, x6] t (0, 0) (heap_alloc_new W _)]
  simpa using hu
end Go.Proofs.YtdpgmepblmlaaaaDoor
