/-
  The cells of a space are told one by one.
  The screen, purely: cells, a space, what is done to it; and how it lies in memory.
  A space is cleared, and made; a character is put; the cursor: the program's.
  The places of a space's attributes are told one by one.
  What a loop over an iterator collects; slices.Collect of ints; the law's list of attributes.
  A record's orders executed one behind the other: Orders.
  One law for every append of bytes onto bytes of one's own; an order's bytes; all orders'.
-/
import Derived.Test.YtdpgmepblmlaaaaDoorOc
import Derived.RangeFuncNested
import Derived.RangeFuncBound
import Derived.Shelf.Abstract
import Derived.Shelf.RegionOpen
import Derived.OwnWalkIn
import Derived.TacticsInMore
import Derived.LoopNIn
import Derived.LoopIn
import Derived.Laws.MakeOwn
import Derived.WalkMore
namespace Go.Proofs.YtdpgmepblmlaaaaDoor
open Go.RowKit Go.Lib Go.Shelf
attribute [local go_sem] Oper.semAt_some

end Go.Proofs.YtdpgmepblmlaaaaDoor
namespace Go.Proofs.YtdpgmepblmlaaaaDoor
open Go.RowKit Go.Lib

theorem cells_of_cell {A : World} {b o : Nat} {v : Value} (h : A.cell? ⟨b, o, none⟩ = some v) : ∃ q : Obj, A.heap[b]? = some q ∧ q.isCells = true := by
  cases hq : A.heap[b]? with
  | none => simp [World.cell?, hq] at h
  | some q =>
    refine ⟨q, rfl, ?_⟩
    cases q <;> simp [World.cell?, hq] at h <;> rfl
end Go.Proofs.YtdpgmepblmlaaaaDoor
namespace Go.Proofs.YtdpgmepblmlaaaaDoor
open Go.RowKit Go.Lib

abbrev z6 : Array Value := #[.int .u8 0, .bool false, .int .u8 0, .int .u8 0, .int .u8 0, .int .u8 0]
theorem sc_same {w : World} {b i : Nat} {u v : Value} (h : w.cell? ⟨b, i, none⟩ = some u) : (w.setCell ⟨b, i, none⟩ v).cell? ⟨b, i, none⟩ = some v := by
  apply World.cell?_setCell_same
  exact h
end Go.Proofs.YtdpgmepblmlaaaaDoor
namespace Go.Proofs.YtdpgmepblmlaaaaDoor
open Go.RowKit Go.Lib Go.Shelf
attribute [local go_sem] Oper.semAt_some

theorem cell_grow {m : Nat} {A B : World} {b o : Nat} {v : Value} (k : Grow m A B) (h : A.cell? ⟨b, o, none⟩ = some v) : B.cell? ⟨b, o, none⟩ = some v := by
  obtain ⟨q, hq, hc⟩ := cells_of_cell h
  exact (World.cell?_of_block (a := ⟨b, o, none⟩) ((k.block _ _ hq (.inr hc)).trans hq.symm)).trans h
theorem cell_touch {m : Nat} {A B : World} {S S' : List Nat} {b o : Nat} {v : Value} (k : Touch m A B S S') (hm : m ≤ b) (hs : b ∉ S) (h : A.cell? ⟨b, o, none⟩ = some v) : B.cell? ⟨b, o, none⟩ = some v :=
  (World.cell?_of_block (a := ⟨b, o, none⟩) (k.block b hm (World.block_lt_of_cell? A _ h) hs)).trans h
theorem notin_touch {m : Nat} {A B : World} {S S' : List Nat} {b : Nat} (k : Touch m A B S S') (hs : b ∉ S) (hb : b < A.heap.size) : b ∉ S' := fun q => by
  rcases k.from' b q with h | h
  · exact hs h
  · omega
end Go.Proofs.YtdpgmepblmlaaaaDoor
namespace Go.Proofs.YtdpgmepblmlaaaaDoor
open Go.RowKit Go.Lib Go.Shelf
attribute [local go_sem] Oper.semAt_some

theorem wpListIn_append_blk {F : Fence} {n : Nat} {P : Program} (w : World) {ops : Array Oper} {rest : List Oper} {o : Oper} {a : Act} {Q : Exit → Act → World → Prop}
    (hg : o.guard = none) (s x : Operand) (t : TypeId) (hop : o.op = Op.call { callee := Callee.builtin Builtin.append, args := #[s, x], argTypes := #[t, t] })
    (e : TypeId) (i : TypeInfo) (z : Value) (size bytes : Nat) (h1 : P.underlying t = some (.slice e)) (h2 : P.info? e = some i) (h3 : i.zero = some z) (h4 : i.size = size) (h5 : i.bytes = bytes) (h6 : z.cells.size = size) (h7 : 0 < size)
    (v : Value) (k : Nat) (xs : List Value) (hs : a.eval s = v) (hown : w.ownsRow 0 e size v k xs) (ad : Addr) (m c : Nat) (news : List Value) (hx : a.eval x = .slice (some ad) m c) (hn : news.length = m * size)
    (hc : ∀ j u, news[j]? = some u → w.cell? (ad.add j) = some u) (h1c : ∀ u ∈ news, u.oneCell' = true) (b1 : k + m ≤ maxLen) (b2 : (k + m) * bytes ≤ 140737488355328)
    (hK : ∀ v' w', w'.ownsRow 0 e size v' (k + m) (xs ++ news) → w.grownBy w' v.ownBlock → (∀ k ∈ blkV v', k ∈ blkV v ∨ w.heap.size ≤ k) → wpListIn F n P ops Q rest (a.put o.dst v') w') :
    wpListIn F n P ops Q (o :: rest) a w := by
  refine wpListIn_plain hg fun K hK' => ?_
  obtain ⟨v', w', hrun, r1, r2, _, r4⟩ := run_append_blk (P := P) w t o.type e i z size bytes h1 h2 h3 h4 h5 h6 h7 v k xs hown ad m c news hn hc h1c b1 b2
  unfold Oper.wpIn
  refine ⟨?_, ?_⟩
  · simp [Oper.about, hop, resolve, Target.leads, Sem.run_pure]
  · rw [Oper.semAt_plain F _ _ (by rw [hop]; intro c hc'; cases hc')]
    simp [execOp, hop, resolve, invoke, builtin, hs, hx, hrun, Result.andThen]
    exact hK' _ _ (hK v' w' r1 r2 r4)
theorem own_block {A B : World} {t : TypeId} {sz n : Nat} {v : Value} {cs : List Value} (h : A.ownsRow 0 t sz v n cs) (hb : ∀ k ∈ blkV v, B.heap[k]? = A.heap[k]?) : B.ownsRow 0 t sz v n cs := by
  refine ⟨h.1, ?_⟩
  rcases h.2 with hn | ⟨g, cap, cur, rfl, hb', hgg, rest⟩
  · exact .inl hn
  · refine .inr ⟨g, cap, cur, rfl, hb', ?_, rest⟩
    rw [hb g (by simp [blkV, Value.ownBlock])]
    exact hgg
theorem own_cells {A : World} {t : TypeId} {sz n : Nat} {v : Value} {cs : List Value} (h : A.ownsRow 0 t sz v n cs) : ∀ k ∈ blkV v, ∃ q : Obj, A.heap[k]? = some q ∧ q.isCells = true := fun k hk => by
  rcases h.2 with ⟨rfl, _⟩ | ⟨g, cap, cur, rfl, hb', hgg, rest⟩
  · cases hk
  · have e : g = k := by simpa [mem_blkV, Value.ownBlock] using hk
    subst e
    exact ⟨_, hgg, rfl⟩
theorem own_grow {m : Nat} {A B : World} {t : TypeId} {sz n : Nat} {v : Value} {cs : List Value} (h : A.ownsRow 0 t sz v n cs) (k : Grow m A B) : B.ownsRow 0 t sz v n cs :=
  own_block h fun q hq => by
    obtain ⟨o, ho, hc⟩ := own_cells h q hq
    exact (k.block _ _ ho (.inr hc)).trans ho.symm
theorem frozen_grow {m : Nat} {A B : World} {b o : Nat} {v : Value} {z : Bool} (k : Grow m A B) (h : A.cell? ⟨b, o, none⟩ = some v) (hf : A.frozen? ⟨b, o, none⟩ = z) : B.frozen? ⟨b, o, none⟩ = z := by
  obtain ⟨q, hq, hc⟩ := cells_of_cell h
  exact (World.frozen?_of_block (a := ⟨b, o, none⟩) ((k.block _ _ hq (.inr hc)).trans hq.symm)).trans hf
theorem below_grow {n m : Nat} {w A B : World} (h : Below n w A) (k : Grow m A B) (hn : n ≤ m) (hw : n ≤ w.heap.size) : Below n w B :=
  ⟨k.os.trans h.os, k.tape.trans h.tape, k.output.trans h.output, Nat.le_trans h.size k.size, fun i hi => by
    have hi2 : i < A.heap.size := Nat.lt_of_lt_of_le hi (Nat.le_trans hw h.size)
    rw [k.block i _ (Array.getElem?_eq_getElem hi2) (.inl (Nat.lt_of_lt_of_le hi hn)), ← Array.getElem?_eq_getElem hi2]
    exact h.block i hi⟩
/-- The box ob holds a slice that owns these cells, in a row of S. -/
structure Acc (m ob : Nat) (t : TypeId) (sz : Nat) (cs : List Value) (n : Nat) (S : List Nat) (V : World) : Prop where
  ex : ∃ v, V.cell? ⟨ob, 0, none⟩ = some v ∧ V.frozen? ⟨ob, 0, none⟩ = false ∧ V.ownsRow 0 t sz v n cs ∧ ∀ k ∈ blkV v, k ∈ S
  lt : ob < m
  ms : ∀ k ∈ S, m ≤ k
section
variable {m ob : Nat} {t : TypeId} {sz n : Nat} {cs : List Value} {S : List Nat} {V : World}
theorem Acc.grow (h : Acc m ob t sz cs n S V) {m' : Nat} {B : World} (k : Grow m' V B) : Acc m ob t sz cs n S B := by
  obtain ⟨⟨v, h1, h2, h3, h4⟩, h5, h6⟩ := h
  exact ⟨⟨v, cell_grow k h1, frozen_grow k h1 h2, own_grow h3 k, h4⟩, h5, h6⟩
theorem Acc.step (h : Acc m ob t sz cs n S V) {v v' : Value} {o : Obj} {W1 : World} {news : List Value} {k : Nat} (hv : V.cell? ⟨ob, 0, none⟩ = some v) (hown : W1.ownsRow 0 t sz v' (n + k) (cs ++ news)) (hg : (V.alloc o).grownBy W1 v.ownBlock) (hb : ∀ k ∈ blkV v', k ∈ blkV v ∨ (V.alloc o).heap.size ≤ k) (hmV : m ≤ V.heap.size) :
    W1.cell? ⟨ob, 0, none⟩ = some v ∧ W1.frozen? ⟨ob, 0, none⟩ = false ∧ ob < W1.heap.size ∧ Acc m ob t sz (cs ++ news) (n + k) (blkV v') (W1.setCell ⟨ob, 0, none⟩ v') ∧ Touch m V (W1.setCell ⟨ob, 0, none⟩ v') S (blkV v') ∧ (∀ n0 w, n0 ≤ ob → Below n0 w V → Below n0 w (W1.setCell ⟨ob, 0, none⟩ v')) ∧ ∀ i, i < V.heap.size → i ≠ ob → i ∉ S → (W1.setCell ⟨ob, 0, none⟩ v').heap[i]? = V.heap[i]? := by
  obtain ⟨⟨v0, h1, h2, h3, h4⟩, h5, h6⟩ := h
  rw [hv] at h1
  cases h1
  have hlt := World.block_lt_of_cell? V _ hv
  have hz : V.heap.size ≤ W1.heap.size := Nat.le_trans (by simp) hg.size
  have hsame : ∀ i, i < V.heap.size → i ∉ S → W1.heap[i]? = V.heap[i]? := fun i hi hs => (hg.block i (by simp; omega) (fun e => hs (h4 i (mem_blkV.2 e.symm)))).trans (Below.heap_alloc _ _ _ hi)
  have hobS : ob ∉ S := fun q => by have := h6 _ q; omega
  have c1 : W1.cell? ⟨ob, 0, none⟩ = some v := (World.cell?_of_block (a := ⟨ob, 0, none⟩) (hsame ob hlt hobS)).trans hv
  have f1 : W1.frozen? ⟨ob, 0, none⟩ = false := (World.frozen?_of_block (a := ⟨ob, 0, none⟩) (hsame ob hlt hobS)).trans h2
  have hms : ∀ k ∈ blkV v', m ≤ k := fun k hk => by
    rcases hb k hk with q | q
    · exact h6 k (h4 k q)
    · simp at q; omega
  have hset : ∀ i, i ≠ ob → (W1.setCell ⟨ob, 0, none⟩ v').heap[i]? = W1.heap[i]? := fun i hi => Go.heap_setCell_other W1 ⟨ob, 0, none⟩ i v' hi
  refine ⟨c1, f1, by omega, ⟨⟨v', sc_same c1, by rw [World.frozen?_setCell]; exact f1, own_block hown fun i hi => hset i (fun e => by have := hms i hi; omega), fun _ q => q⟩, h5, hms⟩, ⟨by simp [World.setCell]; omega, fun i hm hi hs => (hset i (by omega)).trans (hsame i hi hs), fun i hi => ?_⟩, fun n0 w hn hbl => ⟨?_, ?_, ?_, ?_, fun i hi => ?_⟩, fun i hi hn hs => (hset i hn).trans (hsame i hi hs)⟩
  · rcases hb i hi with q | q
    · exact .inl (h4 i q)
    · simp at q; exact .inr (by omega)
  · exact (show W1.os = _ from hg.os.trans hbl.os)
  · exact (show W1.tape = _ from hg.tape.trans hbl.tape)
  · exact (show W1.output = _ from hg.output.trans hbl.output)
  · have := hbl.size; simp [World.setCell]; omega
  · rw [hset i (by omega), hsame i (by omega) (fun q => by have := h6 _ q; omega)]
    exact hbl.block i hi
end
theorem one_new (V : World) (u : Value) (t : TypeId) (b : Nat) (hb : b = V.heap.size) : ∀ j x, ([u] : List Value)[j]? = some x → (V.alloc (.cells #[u] t)).cell? ((⟨b, 0, none⟩ : Addr).add j) = some x := fun j x hx => by
  subst hb
  rcases j with _ | j
  · simp at hx
    subst hx
    rw [addr_add]
    simp [go_sem]
  · simp at hx
theorem row_any {w : World} {base : Nat} {e : TypeId} {size n : Nat} {v : Value} {xs : List Value} (h : w.ownsRow base e size v n xs) : ∃ y cap, v = .slice y n cap := by
  rcases h.2 with ⟨rfl, h0⟩ | ⟨g, cap, cur, rfl, _⟩
  · exact ⟨none, 0, by rw [h0]⟩
  · exact ⟨_, cap, rfl⟩
theorem take_one {α : Type} (xs : List α) (k : Nat) (x : α) (h : xs[k]? = some x) : xs.take (k + 1) = xs.take k ++ [x] := by
  obtain ⟨hk, e⟩ := List.getElem?_eq_some_iff.1 h
  rw [List.take_succ_eq_append_getElem hk, e]
end Go.Proofs.YtdpgmepblmlaaaaDoor
namespace Go.Proofs.YtdpgmepblmlaaaaDoor
open Go.RowKit Go.Lib Go.Deep Go.Shelf
attribute [local go_sem] Oper.semAt_some

/-- A box that may be written. -/
def Bx1 (W : World) (a : Nat) (v : Value) : Prop := W.cell? ⟨a, 0, none⟩ = some v ∧ W.frozen? ⟨a, 0, none⟩ = false
theorem bx1_moved {A B : World} {a : Nat} {v : Value} (h : Bx1 A a v) {S S' : List Nat} (m : Moved A B S S') (ha : a ∉ S) : Bx1 B a v := ⟨cell_moved m h.1 ha, (World.frozen?_of_block (a := ⟨a, 0, none⟩) (m.block a (World.block_lt_of_cell? A _ h.1) ha)).trans h.2⟩
section
theorem grow_block {m : Nat} {A B : World} (k : Grow m A B) {a o : Nat} {v : Value} (h : A.cell? ⟨a, o, none⟩ = some v) : B.heap[a]? = A.heap[a]? := by
  obtain ⟨o, ho, hc⟩ := cells_of_cell h
  exact (k.block _ _ ho (.inr hc)).trans ho.symm
theorem Bx1.grow {m : Nat} {A B : World} {a : Nat} {v : Value} (h : Bx1 A a v) (k : Grow m A B) : Bx1 B a v := ⟨cell_grow k h.1, (World.frozen?_of_block (a := ⟨a, 0, none⟩) (grow_block k h.1)).trans h.2⟩
end
end Go.Proofs.YtdpgmepblmlaaaaDoor
namespace Go.Proofs.YtdpgmepblmlaaaaDoor
open Go.RowKit Go.Lib

/-- Grown by bytes of one's own that are new: all that was stays. -/
theorem below_grown {w0 w w' : World} {v : Value} (hb : Below w0.heap.size w0 w) (hg : w.grownBy w' v.ownBlock) (hv : ∀ k ∈ blkV v, w0.heap.size ≤ k) : Below w0.heap.size w0 w' :=
  hb.grown hg hb.size (fun k hk => hv k (mem_blkV.2 hk))
theorem new_grown {w0 w : World} {v v' : Value} (hb : Below w0.heap.size w0 w) (hv : ∀ k ∈ blkV v, w0.heap.size ≤ k) (h : ∀ k ∈ blkV v', k ∈ blkV v ∨ w.heap.size ≤ k) : ∀ k ∈ blkV v', w0.heap.size ≤ k := fun k hk => by
  rcases h k hk with q | q
  · exact hv k q
  · have := hb.size; omega

end Go.Proofs.YtdpgmepblmlaaaaDoor
