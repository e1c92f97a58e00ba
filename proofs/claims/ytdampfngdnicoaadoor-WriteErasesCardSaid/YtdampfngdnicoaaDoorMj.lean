/-
  A record's orders executed one behind the other: Orders.
-/
import Derived.Test.YtdampfngdnicoaaDoorMi
import Derived.WalkMore
namespace Go.Proofs.YtdampfngdnicoaaDoor
open Go.RowKit Go.Lib Go.Deep Go.Shelf
attribute [local go_sem] Oper.semAt_some

theorem wpIn_scope {n : Nat} {P : Program} {c : Code} {Q : Exit → Act → World → Prop} {a : Act} {w : World} (h : c.wpIn Fence.wide n P (Exit.noGoto Q) a w) : (Code.scope c).wpIn Fence.wide n P Q a w := wpIn_wide.2 (wp_scope_straight (wpIn_wide.1 h))
/-- The orders that were told, executed up to where one can't be: the state, how many, the error. -/
def runO : Wst → List (OpD × Int) → Wst × Nat × Int
  | x, [] => (x, 0, 0)
  | x, p :: t => if p.2 ≠ 0 then (x, 0, p.2) else if (x.s.L.length : Int) ≤ p.1.addr then (x, 0, 9) else if p.1.kind = 44 ∧ (x.s.cel x.n).at_ = false then (x, 0, 10) else
    ((runO (execW x p.1) t).1, (runO (execW x p.1) t).2.1 + 1, (runO (execW x p.1) t).2.2)
def ordW (s : Spc) (zs : List Int) (n : Int) : Wst × Nat × Int := runO ⟨s, s.wr n, cel0, false⟩ (opsL zs)
/-- k were executed, and the state is y. -/
def AtO (x : Wst) (l : List (OpD × Int)) (k : Nat) (y : Wst) : Prop := runO x l = ((runO y (l.drop k)).1, (runO y (l.drop k)).2.1 + k, (runO y (l.drop k)).2.2)
theorem AtO.start (x : Wst) (l : List (OpD × Int)) : AtO x l 0 x := rfl
theorem AtO.next {x : Wst} {l : List (OpD × Int)} {k : Nat} {y : Wst} (h : AtO x l k y) {d : OpD} (hk : l[k]? = some (d, 0)) (ha : ¬ (y.s.L.length : Int) ≤ d.addr) (hm : ¬ (d.kind = 44 ∧ (y.s.cel y.n).at_ = false)) : AtO x l (k + 1) (execW y d) := by
  unfold AtO at h ⊢
  obtain ⟨hl, he⟩ := List.getElem?_eq_some_iff.1 hk
  rw [h, List.drop_eq_getElem_cons hl, he]
  show ((if _ then _ else if _ then _ else if _ then _ else _ : Wst × Nat × Int).1, (if _ then _ else if _ then _ else if _ then _ else _ : Wst × Nat × Int).2.1 + k, (if _ then _ else if _ then _ else if _ then _ else _ : Wst × Nat × Int).2.2) = _
  rw [if_neg (by simp), if_neg ha, if_neg hm]
  simp only [Nat.add_assoc, Nat.add_comm 1 k]
theorem AtO.done {x : Wst} {l : List (OpD × Int)} {y : Wst} (h : AtO x l l.length y) : runO x l = (y, l.length, 0) := by
  unfold AtO at h
  rw [h, List.drop_length]
  simp [runO]
theorem AtO.err {x : Wst} {l : List (OpD × Int)} {k : Nat} {y : Wst} (h : AtO x l k y) {d : OpD} {er : Int} (hk : l[k]? = some (d, er)) (he : er ≠ 0) : runO x l = (y, k, er) := by
  unfold AtO at h
  obtain ⟨hl, hq⟩ := List.getElem?_eq_some_iff.1 hk
  rw [h, List.drop_eq_getElem_cons hl, hq]
  simp [runO, he]
theorem AtO.addr {x : Wst} {l : List (OpD × Int)} {k : Nat} {y : Wst} (h : AtO x l k y) {d : OpD} (hk : l[k]? = some (d, 0)) (ha : (y.s.L.length : Int) ≤ d.addr) : runO x l = (y, k, 9) := by
  unfold AtO at h
  obtain ⟨hl, hq⟩ := List.getElem?_eq_some_iff.1 hk
  rw [h, List.drop_eq_getElem_cons hl, hq]
  simp [runO, ha]
theorem AtO.mf {x : Wst} {l : List (OpD × Int)} {k : Nat} {y : Wst} (h : AtO x l k y) {d : OpD} (hk : l[k]? = some (d, 0)) (ha : ¬ (y.s.L.length : Int) ≤ d.addr) (hm : d.kind = 44 ∧ (y.s.cel y.n).at_ = false) : runO x l = (y, k, 10) := by
  unfold AtO at h
  obtain ⟨hl, hq⟩ := List.getElem?_eq_some_iff.1 hk
  rw [h, List.drop_eq_getElem_cons hl, hq]
  simp [runO, ha, hm]
/-- Nothing old but the screen has changed. -/
theorem moved_old {w A B : World} {b g : Nat} (h : Moved w A [b, g] [b, g]) {S S' : List Nat} (m : Moved A B S S') (hS : ∀ k ∈ S, k ∈ [b, g] ∨ w.heap.size ≤ k) : Moved w B [b, g] [b, g] :=
  ⟨m.os.trans h.os, m.tape.trans h.tape, m.output.trans h.output, Nat.le_trans h.size m.size, fun k hk hs => (m.block k (Nat.lt_of_lt_of_le hk h.size) (fun q => by
    rcases hS k q with r | r
    · exact hs r
    · omega)).trans (h.block k hk hs), fun _ q => .inl q⟩
/-- A box that may be written. -/
def Bx1 (W : World) (a : Nat) (v : Value) : Prop := W.cell? ⟨a, 0, none⟩ = some v ∧ W.frozen? ⟨a, 0, none⟩ = false
/-- Between two orders. -/
structure BothO (w : World) (q b g kb fb sb bx : Nat) (zs : List Int) (pv : Value) (y : Wst) (k : Nat) (er : Int) (V : World) : Prop where
  wr : WrM V q b g y
  pk : Bx1 V kb (.int .i64 k)
  pf : Bx1 V fb (.int .i64 er)
  ps : V.cell? ⟨sb, 0, none⟩ = some (.pointer (some ⟨b, 0, none⟩))
  cb : V.cell? ⟨bx, 0, none⟩ = some pv
  rd : OwnB V pv zs
  mv : Moved w V [b, g] [b, g]
/-- A writer's box, just made. -/
def ZrM (V : World) (q : Nat) : Prop := V.cell? ⟨q, 0, none⟩ = some (.pointer none) ∧ V.cell? ⟨q, 1, none⟩ = some (.int .i64 0) ∧ V.cell? ⟨q, 2, none⟩ = some (.int .u8 0) ∧ V.cell? ⟨q, 3, none⟩ = some (.bool false) ∧ V.cell? ⟨q, 4, none⟩ = some (.int .u8 0) ∧ V.cell? ⟨q, 5, none⟩ = some (.int .u8 0) ∧ V.cell? ⟨q, 6, none⟩ = some (.int .u8 0) ∧ V.cell? ⟨q, 7, none⟩ = some (.int .u8 0) ∧ V.cell? ⟨q, 8, none⟩ = some (.bool false) ∧ ∀ o, V.frozen? ⟨q, o, none⟩ = false
theorem zr_new (W : World) : ZrM (W.alloc (.cells #[.pointer none, .int .i64 0, .int .u8 0, .bool false, .int .u8 0, .int .u8 0, .int .u8 0, .int .u8 0, .bool false] 87)) W.heap.size := by
  refine ⟨?_, ?_, ?_, ?_, ?_, ?_, ?_, ?_, ?_, fun o => ?_⟩ <;> simp [go_sem]
theorem zr_of {n : Nat} {A W : World} (h : Below A.heap.size A W) (_ : Below n A (W.alloc (.cells #[.pointer none, .int .i64 0, .int .u8 0, .bool false, .int .u8 0, .int .u8 0, .int .u8 0, .int .u8 0, .bool false] 87))) : ZrM (W.alloc (.cells #[.pointer none, .int .i64 0, .int .u8 0, .bool false, .int .u8 0, .int .u8 0, .int .u8 0, .int .u8 0, .bool false] 87)) W.heap.size ∧ A.heap.size ≤ W.heap.size := ⟨zr_new W, h.size⟩
theorem ZrM.below {A B : World} {q : Nat} (h : ZrM A q) (hb : Below A.heap.size A B) : ZrM B q :=
  ⟨keepc hb h.1, keepc hb h.2.1, keepc hb h.2.2.1, keepc hb h.2.2.2.1, keepc hb h.2.2.2.2.1, keepc hb h.2.2.2.2.2.1, keepc hb h.2.2.2.2.2.2.1, keepc hb h.2.2.2.2.2.2.2.1, keepc hb h.2.2.2.2.2.2.2.2.1, fun o => (hb.frozen (p := ⟨q, o, none⟩) (show q < A.heap.size from World.block_lt_of_cell? A _ h.1)).trans (h.2.2.2.2.2.2.2.2.2 o)⟩
theorem zr_ofd {n : Nat} {A W : World} (h : Below A.heap.size A W.drew) (_ : Below n A (W.alloc (.cells #[.pointer none, .int .i64 0, .int .u8 0, .bool false, .int .u8 0, .int .u8 0, .int .u8 0, .int .u8 0, .bool false] 87)).drew) : ZrM (W.alloc (.cells #[.pointer none, .int .i64 0, .int .u8 0, .bool false, .int .u8 0, .int .u8 0, .int .u8 0, .int .u8 0, .bool false] 87)).drew W.heap.size ∧ A.heap.size ≤ W.heap.size := ⟨(zr_new W).below (Below.refl _ _).drew, h.size⟩
/-- A writer, just made: in a new box, or in a box of zeros. -/
theorem wr_one {W : World} {b g : Nat} {s : Spc} (h : SpM W b g s) {n : Nat} (hn : n < s.L.length) : WrM (W.alloc (.cells #[.pointer (some ⟨b, 0, none⟩), .int .i64 n, .int .u8 0, .bool false, .int .u8 0, .int .u8 0, .int .u8 0, .int .u8 0, .bool false] 87)) W.heap.size b g ⟨s, n, cel0, false⟩ := by
  refine ⟨?_, ?_, ?_, ?_, ?_, ?_, ?_, ?_, ?_, fun o => ?_, h.below ((Below.refl _ _).alloc (Nat.le_refl _) _), by have := h.lt; omega, hn, cel0_ok⟩ <;> simp [go_sem, cel0]
theorem wr_two {W : World} {q b g : Nat} {s : Spc} (h : SpM W b g s) (hz : ZrM W q) (hq : q ≠ b ∧ q ≠ g) {n : Nat} (hn : n < s.L.length) : WrM (((((((((W.setCell ⟨q, 0, none⟩ (.pointer (some ⟨b, 0, none⟩))).setCell ⟨q, 1, none⟩ (.int .i64 n)).setCell ⟨q, 2, none⟩ (.int .u8 0)).setCell ⟨q, 3, none⟩ (.bool false)).setCell ⟨q, 4, none⟩ (.int .u8 0)).setCell ⟨q, 5, none⟩ (.int .u8 0)).setCell ⟨q, 6, none⟩ (.int .u8 0)).setCell ⟨q, 7, none⟩ (.int .u8 0)).setCell ⟨q, 8, none⟩ (.bool false)) q b g ⟨s, n, cel0, false⟩ := by
  obtain ⟨w', hw'⟩ : ∃ w', ((((((((W.setCell ⟨q, 0, none⟩ (.pointer (some ⟨b, 0, none⟩))).setCell ⟨q, 1, none⟩ (.int .i64 n)).setCell ⟨q, 2, none⟩ (.int .u8 0)).setCell ⟨q, 3, none⟩ (.bool false)).setCell ⟨q, 4, none⟩ (.int .u8 0)).setCell ⟨q, 5, none⟩ (.int .u8 0)).setCell ⟨q, 6, none⟩ (.int .u8 0)).setCell ⟨q, 7, none⟩ (.int .u8 0)).setCell ⟨q, 8, none⟩ (.bool false) = w' := ⟨_, rfl⟩
  have m : Moved W w' [q] [q] := by
    rw [← hw']
    have s := fun (A : World) (i : Nat) (u : Value) => Moved.set (a := A) (S := [q]) (g := q) (List.mem_cons_self ..) i u
    exact ((((((((s _ _ _).trans (s _ _ _)).trans (s _ _ _)).trans (s _ _ _)).trans (s _ _ _)).trans (s _ _ _)).trans (s _ _ _)).trans (s _ _ _)).trans (s _ _ _)
  rw [hw']
  obtain ⟨y0, y1, y2, y3, y4, y5, y6, y7, y8, yf⟩ := hz
  refine ⟨?_, ?_, ?_, ?_, ?_, ?_, ?_, ?_, ?_, fun o => ?_, h.moved m (fun k => hq.1 (List.mem_singleton.1 k).symm) (fun k => hq.2 (List.mem_singleton.1 k).symm), hq, hn, cel0_ok⟩
  · rw [← hw', sc_other (by decide), sc_other (by decide), sc_other (by decide), sc_other (by decide), sc_other (by decide), sc_other (by decide), sc_other (by decide), sc_other (by decide)]
    exact sc_same (by exact y0)
  · rw [← hw', sc_other (by decide), sc_other (by decide), sc_other (by decide), sc_other (by decide), sc_other (by decide), sc_other (by decide), sc_other (by decide)]
    exact sc_same (by rw [sc_other (by decide)]; exact y1)
  · rw [← hw', sc_other (by decide), sc_other (by decide), sc_other (by decide), sc_other (by decide), sc_other (by decide), sc_other (by decide)]
    exact sc_same (by rw [sc_other (by decide), sc_other (by decide)]; exact y2)
  · rw [← hw', sc_other (by decide), sc_other (by decide), sc_other (by decide), sc_other (by decide), sc_other (by decide)]
    exact sc_same (by rw [sc_other (by decide), sc_other (by decide), sc_other (by decide)]; exact y3)
  · rw [← hw', sc_other (by decide), sc_other (by decide), sc_other (by decide), sc_other (by decide)]
    exact sc_same (by rw [sc_other (by decide), sc_other (by decide), sc_other (by decide), sc_other (by decide)]; exact y4)
  · rw [← hw', sc_other (by decide), sc_other (by decide), sc_other (by decide)]
    exact sc_same (by rw [sc_other (by decide), sc_other (by decide), sc_other (by decide), sc_other (by decide), sc_other (by decide)]; exact y5)
  · rw [← hw', sc_other (by decide), sc_other (by decide)]
    exact sc_same (by rw [sc_other (by decide), sc_other (by decide), sc_other (by decide), sc_other (by decide), sc_other (by decide), sc_other (by decide)]; exact y6)
  · rw [← hw', sc_other (by decide)]
    exact sc_same (by rw [sc_other (by decide), sc_other (by decide), sc_other (by decide), sc_other (by decide), sc_other (by decide), sc_other (by decide), sc_other (by decide)]; exact y7)
  · rw [← hw']
    exact sc_same (by rw [sc_other (by decide), sc_other (by decide), sc_other (by decide), sc_other (by decide), sc_other (by decide), sc_other (by decide), sc_other (by decide), sc_other (by decide)]; exact y8)
  · rw [← hw']
    simp only [World.frozen?_setCell]
    exact yf o
theorem nine_keep {A W : World} {q b k : Nat} {n : Int} {v : Value} (hb : Below A.heap.size A W) (hq : A.heap.size ≤ q) (hc : W.cell? ⟨k, 0, none⟩ = some v) (hk : q ≠ k) : (((((((((W.setCell ⟨q, 0, none⟩ (.pointer (some ⟨b, 0, none⟩))).setCell ⟨q, 1, none⟩ (.int .i64 n)).setCell ⟨q, 2, none⟩ (.int .u8 0)).setCell ⟨q, 3, none⟩ (.bool false)).setCell ⟨q, 4, none⟩ (.int .u8 0)).setCell ⟨q, 5, none⟩ (.int .u8 0)).setCell ⟨q, 6, none⟩ (.int .u8 0)).setCell ⟨q, 7, none⟩ (.int .u8 0)).setCell ⟨q, 8, none⟩ (.bool false)).cell? ⟨k, 0, none⟩ = some v ∧ Below A.heap.size A (((((((((W.setCell ⟨q, 0, none⟩ (.pointer (some ⟨b, 0, none⟩))).setCell ⟨q, 1, none⟩ (.int .i64 n)).setCell ⟨q, 2, none⟩ (.int .u8 0)).setCell ⟨q, 3, none⟩ (.bool false)).setCell ⟨q, 4, none⟩ (.int .u8 0)).setCell ⟨q, 5, none⟩ (.int .u8 0)).setCell ⟨q, 6, none⟩ (.int .u8 0)).setCell ⟨q, 7, none⟩ (.int .u8 0)).setCell ⟨q, 8, none⟩ (.bool false)) := by
  refine ⟨?_, ((((((((hb.setCell hq _).setCell hq _).setCell hq _).setCell hq _).setCell hq _).setCell hq _).setCell hq _).setCell hq _).setCell hq _⟩
  rw [World.cell?_setCell_far _ _ _ _ hk, World.cell?_setCell_far _ _ _ _ hk, World.cell?_setCell_far _ _ _ _ hk, World.cell?_setCell_far _ _ _ _ hk, World.cell?_setCell_far _ _ _ _ hk, World.cell?_setCell_far _ _ _ _ hk, World.cell?_setCell_far _ _ _ _ hk, World.cell?_setCell_far _ _ _ _ hk, World.cell?_setCell_far _ _ _ _ hk]
  exact hc
structure OrdS (w : World) (q b g kb fb sb bx : Nat) (pv : Value) : Prop where
  bl : b < w.heap.size
  gl : g < w.heap.size
  ge : w.heap.size ≤ q ∧ w.heap.size ≤ kb ∧ w.heap.size ≤ fb ∧ w.heap.size ≤ sb ∧ w.heap.size ≤ bx
  ne : q ≠ kb ∧ q ≠ fb ∧ q ≠ sb ∧ q ≠ bx ∧ kb ≠ fb ∧ kb ≠ sb ∧ kb ≠ bx ∧ fb ≠ sb ∧ fb ≠ bx
  pv : ∀ k ∈ blkV pv, w.heap.size ≤ k ∧ k ≠ q ∧ k ≠ kb ∧ k ≠ fb
theorem bx1_moved {A B : World} {a : Nat} {v : Value} (h : Bx1 A a v) {S S' : List Nat} (m : Moved A B S S') (ha : a ∉ S) : Bx1 B a v := ⟨cell_moved m h.1 ha, (World.frozen?_of_block (a := ⟨a, 0, none⟩) (m.block a (World.block_lt_of_cell? A _ h.1) ha)).trans h.2⟩
abbrev U8L (zs : List Int) : Prop := ∀ x ∈ zs, U8 x
theorem pairs_grow {m : Nat} {A B : World} {v : Value} {ps : List (Nat × Nat)} (h : PairsIn A v ps) (k : Grow m A B) : PairsIn B v ps := by
  rcases h with h | ⟨g, off, cap, rfl, h⟩
  · exact .inl h
  · exact .inr ⟨g, off, cap, rfl, fun i hi => ⟨cell_grow k (h i hi).1, cell_grow k (h i hi).2⟩⟩
/-- The k-th that is told. -/
def elP (tl : List (OpD × Int)) (B : Nat) (k : Nat) (x : XO) (V : World) : Prop := tl[k]? = some (x.1, x.2.1) ∧ PairsIn V x.2.2.1 x.1.pairs ∧ OwnB V x.2.2.2 x.1.text ∧ ∀ b ∈ blkV x.2.2.2, B ≤ b
theorem elP.grow {tl : List (OpD × Int)} {C k : Nat} {x : XO} {m : Nat} {A B : World} (h : elP tl C k x A) (g : Grow m A B) : elP tl C k x B := ⟨h.1, pairs_grow h.2.1 g, ⟨h.2.2.1.1, own_grow h.2.2.1.2 (g.mono (Nat.zero_le _))⟩, h.2.2.2⟩
/-- The order's box. -/
def OpBx (V : World) (ob : Nat) (x : XO) : Prop := V.cell? ⟨ob, 0, none⟩ = some (.int .i64 x.1.kind) ∧ V.cell? ⟨ob, 1, none⟩ = some (.int .i64 x.1.addr) ∧ V.cell? ⟨ob, 2, none⟩ = some (.int .u8 x.1.code) ∧ V.cell? ⟨ob, 3, none⟩ = some (.bool x.1.graph) ∧ V.cell? ⟨ob, 4, none⟩ = some (.int .u8 x.1.fa) ∧ V.cell? ⟨ob, 5, none⟩ = some x.2.2.1 ∧ V.cell? ⟨ob, 6, none⟩ = some x.2.2.2
theorem OpBx.grow {ob : Nat} {x : XO} {m : Nat} {A B : World} (h : OpBx A ob x) (g : Grow m A B) : OpBx B ob x := ⟨cell_grow g h.1, cell_grow g h.2.1, cell_grow g h.2.2.1, cell_grow g h.2.2.2.1, cell_grow g h.2.2.2.2.1, cell_grow g h.2.2.2.2.2.1, cell_grow g h.2.2.2.2.2.2⟩
theorem opbx_new (V : World) (x : XO) : OpBx (V.alloc (.cells #[.int .i64 x.1.kind, .int .i64 x.1.addr, .int .u8 x.1.code, .bool x.1.graph, .int .u8 x.1.fa, x.2.2.1, x.2.2.2] 93)) V.heap.size x := by
  refine ⟨?_, ?_, ?_, ?_, ?_, ?_, ?_⟩ <;> simp [go_sem]
theorem opsL_len : ∀ (n : Nat) (xs : List Int), xs.length ≤ n → (opsL xs).length ≤ xs.length
  | 0, xs, h => by
    have : xs = [] := List.length_eq_zero_iff.1 (by omega)
    subst this
    exact Nat.le_refl _
  | n + 1, xs, h => by
    by_cases hx : xs = []
    · subst hx
      exact Nat.le_refl _
    have hl : 0 < xs.length := List.length_pos_iff.2 hx
    by_cases he : (firF xs).1 = 0
    · have u := fir_used (zs := xs) (k := 0) hl (by simpa using he)
      rw [List.drop_zero] at u
      have q := opsL_len n (xs.drop (firF xs).2.2) (by rw [List.length_drop]; omega)
      rw [opsL_cons hx he, List.length_cons]
      rw [List.length_drop] at q
      omega
    · rw [opsL_bad hx he]
      exact hl
section
variable {w : World} {q b g kb fb sb bx : Nat} {zs : List Int} {pv : Value} {y : Wst} {k : Nat} {er : Int} {V : World}
theorem grow_block {m : Nat} {A B : World} (k : Grow m A B) {a o : Nat} {v : Value} (h : A.cell? ⟨a, o, none⟩ = some v) : B.heap[a]? = A.heap[a]? := by
  obtain ⟨o, ho, hc⟩ := cells_of_cell h
  exact (k.block _ _ ho (.inr hc)).trans ho.symm
theorem WrM.grow {m : Nat} {A B : World} {x : Wst} (h : WrM A q b g x) (k : Grow m A B) : WrM B q b g x :=
  ⟨cell_grow k h.c0, cell_grow k h.c1, cell_grow k h.c2, cell_grow k h.c3, cell_grow k h.c4, cell_grow k h.c5, cell_grow k h.c6, cell_grow k h.c7, cell_grow k h.c8, fun o => (World.frozen?_of_block (a := ⟨q, o, none⟩) (grow_block k h.c0)).trans (h.fr o), h.sp.grow k, h.ne, h.lt, h.lk⟩
theorem Bx1.grow {m : Nat} {A B : World} {a : Nat} {v : Value} (h : Bx1 A a v) (k : Grow m A B) : Bx1 B a v := ⟨cell_grow k h.1, (World.frozen?_of_block (a := ⟨a, 0, none⟩) (grow_block k h.1)).trans h.2⟩
theorem BothO.below' (h : BothO w q b g kb fb sb bx zs pv y k er V) {B : World} (hb : Below V.heap.size V B) (_hw : w.heap.size ≤ V.heap.size) : BothO w q b g kb fb sb bx zs pv y k er B :=
  ⟨h.wr.below hb, bx1_moved h.pk (Moved.below hb []) (by simp), bx1_moved h.pf (Moved.below hb []) (by simp), keepc hb h.ps, keepc hb h.cb, h.rd.step hb, h.mv.trans (Moved.below hb _)⟩
theorem touch_old3 {m : Nat} {A B : World} {q b g : Nat} {S : List Nat} (h : Moved A B [q, b, g] [q, b, g]) (hq : q < m) (hb : b < m) (hg : g < m) : Touch m A B S S :=
  ⟨h.size, fun k hm hk _ => h.block k hk (by simp; omega), fun _ r => .inl r⟩
/-- One more is executed. -/
theorem both_exec {A B : World} {y' : Wst} (h : BothO w q b g kb fb sb bx zs pv y k 0 A) (o : OrdS w q b g kb fb sb bx pv) (hw : WrM B q b g y') (m : Moved A B [q, b, g] [q, b, g]) : BothO w q b g kb fb sb bx zs pv y' (k + 1) 0 (B.setCell ⟨kb, 0, none⟩ (.int .i64 ((k : Int) + 1))) := by
  have m2 : Moved B (B.setCell ⟨kb, 0, none⟩ (.int .i64 ((k : Int) + 1))) [kb] [kb] := Moved.set (List.mem_cons_self ..) 0 _
  obtain ⟨g1, g2, g3, g4, g5⟩ := o.ge
  obtain ⟨n1, n2, n3, n4, n5, n6, n7, n8, n9⟩ := o.ne
  have hbl := o.bl
  have hgl := o.gl
  have pk := bx1_moved h.pk m (by simp; omega)
  have pf := bx1_moved h.pf m (by simp; omega)
  have hps := cell_moved m h.ps (by simp; omega)
  have hcb := cell_moved m h.cb (by simp; omega)
  have hrd := h.rd.moved m (fun i hi r => by
    have := o.pv i hi
    simp only [List.mem_cons, List.not_mem_nil, or_false] at r
    omega)
  refine ⟨hw.moved m2 (by simp; omega) (by simp; omega) (by simp; omega), ⟨World.cell?_setCell_same _ _ _ pk.1, (World.frozen?_setCell ..).trans pk.2⟩, bx1_moved pf m2 (by simp; omega), cell_moved m2 hps (by simp; omega), cell_moved m2 hcb (by simp; omega), hrd.moved m2 (fun i hi r => ?_), moved_old (moved_old h.mv m (fun i hi => ?_)) m2 (fun i hi => .inr (by have := List.mem_singleton.1 hi; omega))⟩
  · have := o.pv i hi
    have := List.mem_singleton.1 r
    omega
  · rcases List.mem_cons.1 hi with r | r
    · exact .inr (by omega)
    · exact .inl r
/-- It has failed. -/
theorem both_fail (h : BothO w q b g kb fb sb bx zs pv y k er V) (o : OrdS w q b g kb fb sb bx pv) (e : Int) : BothO w q b g kb fb sb bx zs pv y k e (V.setCell ⟨fb, 0, none⟩ (.int .i64 e)) := by
  have m : Moved V (V.setCell ⟨fb, 0, none⟩ (.int .i64 e)) [fb] [fb] := Moved.set (List.mem_cons_self ..) 0 _
  obtain ⟨g1, g2, g3, g4, g5⟩ := o.ge
  obtain ⟨n1, n2, n3, n4, n5, n6, n7, n8, n9⟩ := o.ne
  have hbl := o.bl
  have hgl := o.gl
  refine ⟨h.wr.moved m (by simp; omega) (by simp; omega) (by simp; omega), bx1_moved h.pk m (by simp; omega), ⟨World.cell?_setCell_same _ _ _ h.pf.1, (World.frozen?_setCell ..).trans h.pf.2⟩, cell_moved m h.ps (by simp; omega), cell_moved m h.cb (by simp; omega), h.rd.moved m (fun i hi q => ?_), moved_old h.mv m (fun i hi => .inr (by have := List.mem_singleton.1 hi; omega))⟩
  have := o.pv i hi
  have := List.mem_singleton.1 q
  omega
theorem BothO.grow (h : BothO w q b g kb fb sb bx zs pv y k er V) {B : World} {m : Nat} (hm : w.heap.size ≤ m) (hg : Grow m V B) (o : OrdS w q b g kb fb sb bx pv) : BothO w q b g kb fb sb bx zs pv y k er B :=
  ⟨h.wr.grow hg, h.pk.grow hg, h.pf.grow hg, cell_grow hg h.ps, cell_grow hg h.cb, ⟨h.rd.1, own_grow h.rd.2 (hg.mono (Nat.zero_le _))⟩,
    ⟨hg.os.trans h.mv.os, hg.tape.trans h.mv.tape, hg.output.trans h.mv.output, Nat.le_trans h.mv.size hg.size, fun i hi hs => by
      have e := h.mv.block i hi hs
      obtain ⟨ob, hob⟩ : ∃ ob, w.heap[i]? = some ob := ⟨_, Array.getElem?_eq_getElem hi⟩
      rw [hob] at e ⊢
      exact hg.block i ob e (.inl (Nat.lt_of_lt_of_le hi hm)), fun _ r => .inl r⟩⟩
end
set_option maxRecDepth 100000 in
set_option maxHeartbeats 600000 in
theorem orders_in (m : Nat) (hm : 12 ≤ m) (b g : Nat) (s : Spc) (p : Value) (zs : List Int) (n0 : Int) (hn0 : I64 n0) (hlz : zs.length ≤ 100000) (w : World) (h : SpM w b g s) (hp : Reads w p zs) :
    CallsIn Fence.wide m Tryd.prog 18 #[.pointer (some ⟨b, 0, none⟩), p, .int .i64 n0] w fun e w' => e = .returned (.tuple #[.int .i64 (ordW s zs n0).1.n, .int .i64 ((ordW s zs n0).2.1 : Nat), .int .i64 (ordW s zs n0).2.2]) ∧ SpM w' b g (ordW s zs n0).1.s ∧ Moved w w' [b, g] [b, g] := by
  have hok := h.ok
  have hN := hok.pos
  have hbw := h.lt.1
  have hgw := h.lt.2
  have HSZ := hid (fun W (t : Spc) (ht : SpM W b g t) => size_any (b := b) (g := g) (s := t) W ht)
  have HWR := hid (fun W => (show Calls Tryd.prog 42 #[.agg #[.int .i64 s.r, .int .i64 s.c], .int .i64 n0] W fun e w' => e = .returned (.int .i64 (s.wr n0 : Nat)) ∧ Below W.heap.size W w' from by
    rw [hok.wr_eq, hok.len]
    exact wrap_ok _ _ _ hok.sz hn0 W))
  have HSP := hid h
  have HPR := hid (fun W (hb : Below w.heap.size w W) => oparse_any p zs W (reads_below hp hb) hlz)
  obtain ⟨px, pc, rfl⟩ := reads_sl hp
  clear h hp
  refine callsIn_of_wp_marks Tryd.func18 rfl trivial ?_ rfl
  simp only [Tryd.ntmps18, List.size_toArray, List.length_cons, List.length_nil, Nat.reduceAdd, Nat.reduceSub, Array.replicate_succ, Array.replicate_zero, List.push_toArray, List.append_toArray, List.nil_append, List.cons_append]
  gi_wp2
  obtain ⟨a0, ha0⟩ : ∃ a0, w.alloc (.cells #[.pointer (some ⟨b, 0, none⟩)] 25) = a0 := ⟨_, rfl⟩
  have H0 := hid (show Below w.heap.size w a0 ∧ a0.cell? ⟨w.heap.size, 0, none⟩ = some (.pointer (some ⟨b, 0, none⟩)) ∧ a0.heap.size = w.heap.size + 1 from ⟨by rw [← ha0]; exact bal (Below.refl _ _) _, by rw [← ha0]; simp [go_sem], by rw [← ha0]; simp⟩)
  simp only [ha0]
  clear ha0
  have cs := H0.out.2.1
  refine wpIn_scope ?_
  gi_wp2
  have hdr : Below a0.heap.size a0 a0.drew := (Below.refl _ _).drew
  have HSP0 := hid (HSP.out.below H0.out.1)
  have hwn := hok.wr_lt n0
  refine wpIn_mono (Q := fun e a V => e = .normal ∧ ∃ q, a = { tmps := #[.pointer (some ⟨b, 0, none⟩), .slice px zs.length pc, .int .i64 n0, .pointer (some ⟨w.heap.size, 0, none⟩), undef, undef, .int .i64 0, .int .i64 0, .int .i64 0, .pointer (some ⟨q, 0, none⟩), undef, undef, undef, undef, .pointer (some ⟨b, 0, none⟩), .bool false, .pointer (some ⟨b, 0, none⟩), .pointer (some ⟨b, 0, none⟩), sizeV s.r s.c, .int .i64 n0, .int .i64 (s.wr n0 : Nat), .agg #[.pointer (some ⟨b, 0, none⟩), .int .i64 (s.wr n0 : Nat), .int .u8 0, .bool false, .int .u8 0, .int .u8 0, .int .u8 0, .int .u8 0, .bool false], undef, undef, undef, undef, undef, undef, undef, undef, undef, undef, undef, undef, undef, undef, undef, undef, undef, undef, undef, undef, undef, undef, undef, undef, undef, undef, undef, undef, undef, undef, undef, undef, undef, undef, undef], defers := [] } ∧ WrM V q b g ⟨s, s.wr n0, cel0, false⟩ ∧ V.cell? ⟨w.heap.size, 0, none⟩ = some (.pointer (some ⟨b, 0, none⟩)) ∧ Below a0.heap.size a0 V ∧ a0.heap.size ≤ q) ?reg ?rest
  case reg =>
    refine wpIn_of_wpN ?_
    refine wp_region_held_drew (S := fun V => V.cell? ⟨w.heap.size, 0, none⟩ = some (.pointer (some ⟨b, 0, none⟩)) ∧ Below a0.heap.size a0 V) (by kernel_rfl) ?_ (fun hHeld => ?_)
    · exact ⟨keepc hdr cs, hdr⟩
    refine takeD (i := 0) (v := ?_) 16 rfl rfl (by kernel_rfl) (by kernel_rfl) (by kernel_rfl) (fun _ _ _ h => h) (by assumption) (Or.inl ⟨by rfl, ?_⟩) ?_
    rotate_left
    · intro w hSw
      (try dsimp only at hSw)
      go_simp
      try with_reducible rfl
    simp only [List.setIfInBounds_toArray, List.set_cons_zero, List.set_cons_succ]
    refine takeD (i := 1) (v := ?_) 17 rfl rfl (by kernel_rfl) (by kernel_rfl) (by kernel_rfl) (fun _ _ _ h => h) (by assumption) (Or.inl ⟨by rfl, ?_⟩) ?_
    rotate_left
    · intro w hSw
      (try dsimp only at hSw)
      go_simp
      try with_reducible rfl
    simp only [List.setIfInBounds_toArray, List.set_cons_zero, List.set_cons_succ]
    refine takeD (i := 3) (v := ?_) 19 rfl rfl (by kernel_rfl) (by kernel_rfl) (by kernel_rfl) (fun _ _ _ h => h) (by assumption) (Or.inl ⟨by rfl, ?_⟩) ?_
    rotate_left
    · intro w hSw
      (try dsimp only at hSw)
      go_simp
      try with_reducible rfl
    simp only [List.setIfInBounds_toArray, List.set_cons_zero, List.set_cons_succ]
    refine wpAnyH_ready (rs := [2, 6]) (by kernel_rfl) (by simp) ?_
    refine AllReadyH.cons (by simp only [List.getElem?_toArray, List.getElem?_cons_succ, List.getElem?_cons_zero]; rfl) (fun K hK => ?_) (AllReadyH.cons (by simp only [List.getElem?_toArray, List.getElem?_cons_succ, List.getElem?_cons_zero]; rfl) (fun K hK => ?_) AllReadyH.nil)
    · go_simp
      go_at_call 41; (with_reducible refine (HSZ.out _ s (HSP0.out.below hHeld.2)).mono ?_); rintro e w5 ⟨rfl, hb5⟩
      refine hK.out _ _ ?_ (fun hHeldN => ?_)
      · exact ⟨keepc hb5 hHeld.1, below_t hHeld.2 hb5⟩
      clear hK K hHeld
      have hHeld := hHeldN
      clear hHeldN
      (try simp only [Act.put, List.setIfInBounds_toArray, List.set_cons_zero, List.set_cons_succ])
      refine wpAnyH_ready (rs := [4, 6]) (by kernel_rfl) (by simp) ?_
      refine AllReadyH.cons (by simp only [List.getElem?_toArray, List.getElem?_cons_succ, List.getElem?_cons_zero]; rfl) (fun K hK => ?_) (AllReadyH.cons (by simp only [List.getElem?_toArray, List.getElem?_cons_succ, List.getElem?_cons_zero]; rfl) (fun K hK => ?_) AllReadyH.nil)
      · go_simp
        go_at_call 42; (with_reducible refine (HWR.out _).mono ?_); rintro e w6 ⟨rfl, hb6⟩
        refine hK.out _ _ ?_ (fun hHeldN => ?_)
        · exact ⟨keepc hb6 hHeld.1, below_t hHeld.2 hb6⟩
        have HB6 := hid (below_t hHeld.2 hb6)
        clear hK K hHeld
        have hHeld := hHeldN
        clear hHeldN
        (try simp only [Act.put, List.setIfInBounds_toArray, List.set_cons_zero, List.set_cons_succ])
        refine takeD (i := 5) (v := ?_) 21 rfl rfl (by kernel_rfl) (by kernel_rfl) (by kernel_rfl) (fun _ _ _ h => h) (by assumption) (Or.inl ⟨by rfl, ?_⟩) ?_
        rotate_left
        · intro w hSw
          (try dsimp only at hSw)
          go_simp
          try with_reducible rfl
        simp only [List.setIfInBounds_toArray, List.set_cons_zero, List.set_cons_succ]
        refine wpAnyH_ready (rs := [6]) (by kernel_rfl) (by simp) ?_
        refine AllReadyH.cons (by simp only [List.getElem?_toArray, List.getElem?_cons_succ, List.getElem?_cons_zero]; rfl) (fun K hK => ?_) AllReadyH.nil
        go_simp
        refine hK.out _ _ ?_ (fun hHeldN => ?_)
        · exact ⟨keepc ((Below.refl _ _).alloc (Nat.le_refl _) _) hHeld.1, below_t hHeld.2 ((Below.refl _ _).alloc (Nat.le_refl _) _)⟩
        have HHP := hid hHeld
        obtain ⟨hq1, hq2⟩ : ZrM _ _ ∧ a0.heap.size ≤ _ := by first | exact zr_of hHeld.2 hHeldN.2 | exact zr_ofd hHeld.2 hHeldN.2
        try rw [show a0.drew.heap.size = a0.heap.size from rfl] at hq1
        try rw [show a0.drew.heap.size = a0.heap.size from rfl] at hq2
        have HQ := hid hq1
        have HQZ := hid hq2
        clear hq1 hq2
        clear hK K hHeld
        have hHeld := hHeldN
        clear hHeldN
        (try simp only [Act.put, List.setIfInBounds_toArray, List.set_cons_zero, List.set_cons_succ])
        refine wpAnyH_ready (rs := [7]) (by kernel_rfl) (by simp) ?_
        refine AllReadyH.cons (by simp only [List.getElem?_toArray, List.getElem?_cons_succ, List.getElem?_cons_zero]; rfl) (fun K hK => ?_) AllReadyH.nil
        obtain ⟨y0, y1, y2, y3, y4, y5, y6, y7, y8, yf⟩ := HQ.out
        have g0 := yf 0
        have g1 := yf 1
        have g2 := yf 2
        have g3 := yf 3
        have g4 := yf 4
        have g5 := yf 5
        have g6 := yf 6
        have g7 := yf 7
        have g8 := yf 8
        go_simp
        refine hK.out _ _ ?_ (fun hHeldN => ?_)
        · exact ⟨keepc ((Below.refl _ _).alloc (Nat.le_refl _) _) HHP.out.1, below_t HHP.out.2 ((Below.refl _ _).alloc (Nat.le_refl _) _)⟩
        clear hK K hHeld
        have hHeld := hHeldN
        clear hHeldN
        (try simp only [Act.put, List.setIfInBounds_toArray, List.set_cons_zero, List.set_cons_succ])
        refine wpAnyH_done (by kernel_rfl) ?_ _
        have hHF := hHeld
        clear hHeld
        dsimp only [OnlyN]
        exact ⟨rfl, _, rfl, wr_one (HSP0.out.below HB6.out) hwn, hHF.1, hHF.2, HB6.out.size⟩
      · go_simp
        refine hK.out _ _ ?_ (fun hHeldN => ?_)
        · exact ⟨keepc ((Below.refl _ _).alloc (Nat.le_refl _) _) hHeld.1, below_t hHeld.2 ((Below.refl _ _).alloc (Nat.le_refl _) _)⟩
        have HHP := hid hHeld
        obtain ⟨hq1, hq2⟩ : ZrM _ _ ∧ a0.heap.size ≤ _ := by first | exact zr_of hHeld.2 hHeldN.2 | exact zr_ofd hHeld.2 hHeldN.2
        try rw [show a0.drew.heap.size = a0.heap.size from rfl] at hq1
        try rw [show a0.drew.heap.size = a0.heap.size from rfl] at hq2
        have HQ := hid hq1
        have HQZ := hid hq2
        clear hq1 hq2
        clear hK K hHeld
        have hHeld := hHeldN
        clear hHeldN
        (try simp only [Act.put, List.setIfInBounds_toArray, List.set_cons_zero, List.set_cons_succ])
        refine wpAnyH_ready (rs := [4]) (by kernel_rfl) (by simp) ?_
        refine AllReadyH.cons (by simp only [List.getElem?_toArray, List.getElem?_cons_succ, List.getElem?_cons_zero]; rfl) (fun K hK => ?_) AllReadyH.nil
        go_simp
        go_at_call 42; (with_reducible refine (HWR.out _).mono ?_); rintro e w6 ⟨rfl, hb6⟩
        refine hK.out _ _ ?_ (fun hHeldN => ?_)
        · exact ⟨keepc hb6 hHeld.1, below_t hHeld.2 hb6⟩
        have HB6 := hid (below_t hHeld.2 hb6)
        have HQ := hid (HQ.out.below hb6)
        clear hK K hHeld
        have hHeld := hHeldN
        clear hHeldN
        (try simp only [Act.put, List.setIfInBounds_toArray, List.set_cons_zero, List.set_cons_succ])
        refine takeD (i := 5) (v := ?_) 21 rfl rfl (by kernel_rfl) (by kernel_rfl) (by kernel_rfl) (fun _ _ _ h => h) (by assumption) (Or.inl ⟨by rfl, ?_⟩) ?_
        rotate_left
        · intro w hSw
          (try dsimp only at hSw)
          go_simp
          try with_reducible rfl
        simp only [List.setIfInBounds_toArray, List.set_cons_zero, List.set_cons_succ]
        refine wpAnyH_ready (rs := [7]) (by kernel_rfl) (by simp) ?_
        refine AllReadyH.cons (by simp only [List.getElem?_toArray, List.getElem?_cons_succ, List.getElem?_cons_zero]; rfl) (fun K hK => ?_) AllReadyH.nil
        obtain ⟨y0, y1, y2, y3, y4, y5, y6, y7, y8, yf⟩ := HQ.out
        have g0 := yf 0
        have g1 := yf 1
        have g2 := yf 2
        have g3 := yf 3
        have g4 := yf 4
        have g5 := yf 5
        have g6 := yf 6
        have g7 := yf 7
        have g8 := yf 8
        go_simp
        refine hK.out _ _ ?_ (fun hHeldN => ?_)
        · exact nine_keep hHeld.2 HQZ.out hHeld.1 (by have := HQZ.out; have := H0.out.2.2; omega)
        clear hK K hHeld
        have hHeld := hHeldN
        clear hHeldN
        (try simp only [Act.put, List.setIfInBounds_toArray, List.set_cons_zero, List.set_cons_succ])
        refine wpAnyH_done (by kernel_rfl) ?_ _
        have hHF := hHeld
        clear hHeld
        dsimp only [OnlyN]
        exact ⟨rfl, _, rfl, wr_two (HSP0.out.below HB6.out) HQ.out (by have := HQZ.out; have := H0.out.2.2; omega) hwn, hHF.1, hHF.2, HQZ.out⟩
    · go_simp
      refine hK.out _ _ ?_ (fun hHeldN => ?_)
      · exact ⟨keepc ((Below.refl _ _).alloc (Nat.le_refl _) _) hHeld.1, below_t hHeld.2 ((Below.refl _ _).alloc (Nat.le_refl _) _)⟩
      have HHP := hid hHeld
      obtain ⟨hq1, hq2⟩ : ZrM _ _ ∧ a0.heap.size ≤ _ := by first | exact zr_of hHeld.2 hHeldN.2 | exact zr_ofd hHeld.2 hHeldN.2
      try rw [show a0.drew.heap.size = a0.heap.size from rfl] at hq1
      try rw [show a0.drew.heap.size = a0.heap.size from rfl] at hq2
      have HQ := hid hq1
      have HQZ := hid hq2
      clear hq1 hq2
      clear hK K hHeld
      have hHeld := hHeldN
      clear hHeldN
      (try simp only [Act.put, List.setIfInBounds_toArray, List.set_cons_zero, List.set_cons_succ])
      refine wpAnyH_ready (rs := [2]) (by kernel_rfl) (by simp) ?_
      refine AllReadyH.cons (by simp only [List.getElem?_toArray, List.getElem?_cons_succ, List.getElem?_cons_zero]; rfl) (fun K hK => ?_) AllReadyH.nil
      go_simp
      go_at_call 41; (with_reducible refine (HSZ.out _ s (HSP0.out.below hHeld.2)).mono ?_); rintro e w5 ⟨rfl, hb5⟩
      refine hK.out _ _ ?_ (fun hHeldN => ?_)
      · exact ⟨keepc hb5 hHeld.1, below_t hHeld.2 hb5⟩
      have HQ := hid (HQ.out.below hb5)
      clear hK K hHeld
      have hHeld := hHeldN
      clear hHeldN
      (try simp only [Act.put, List.setIfInBounds_toArray, List.set_cons_zero, List.set_cons_succ])
      refine wpAnyH_ready (rs := [4]) (by kernel_rfl) (by simp) ?_
      refine AllReadyH.cons (by simp only [List.getElem?_toArray, List.getElem?_cons_succ, List.getElem?_cons_zero]; rfl) (fun K hK => ?_) AllReadyH.nil
      go_simp
      go_at_call 42; (with_reducible refine (HWR.out _).mono ?_); rintro e w6 ⟨rfl, hb6⟩
      refine hK.out _ _ ?_ (fun hHeldN => ?_)
      · exact ⟨keepc hb6 hHeld.1, below_t hHeld.2 hb6⟩
      have HB6 := hid (below_t hHeld.2 hb6)
      have HQ := hid (HQ.out.below hb6)
      clear hK K hHeld
      have hHeld := hHeldN
      clear hHeldN
      (try simp only [Act.put, List.setIfInBounds_toArray, List.set_cons_zero, List.set_cons_succ])
      refine takeD (i := 5) (v := ?_) 21 rfl rfl (by kernel_rfl) (by kernel_rfl) (by kernel_rfl) (fun _ _ _ h => h) (by assumption) (Or.inl ⟨by rfl, ?_⟩) ?_
      rotate_left
      · intro w hSw
        (try dsimp only at hSw)
        go_simp
        try with_reducible rfl
      simp only [List.setIfInBounds_toArray, List.set_cons_zero, List.set_cons_succ]
      refine wpAnyH_ready (rs := [7]) (by kernel_rfl) (by simp) ?_
      refine AllReadyH.cons (by simp only [List.getElem?_toArray, List.getElem?_cons_succ, List.getElem?_cons_zero]; rfl) (fun K hK => ?_) AllReadyH.nil
      obtain ⟨y0, y1, y2, y3, y4, y5, y6, y7, y8, yf⟩ := HQ.out
      have g0 := yf 0
      have g1 := yf 1
      have g2 := yf 2
      have g3 := yf 3
      have g4 := yf 4
      have g5 := yf 5
      have g6 := yf 6
      have g7 := yf 7
      have g8 := yf 8
      go_simp
      refine hK.out _ _ ?_ (fun hHeldN => ?_)
      · exact nine_keep hHeld.2 HQZ.out hHeld.1 (by have := HQZ.out; have := H0.out.2.2; omega)
      clear hK K hHeld
      have hHeld := hHeldN
      clear hHeldN
      (try simp only [Act.put, List.setIfInBounds_toArray, List.set_cons_zero, List.set_cons_succ])
      refine wpAnyH_done (by kernel_rfl) ?_ _
      have hHF := hHeld
      clear hHeld
      dsimp only [OnlyN]
      exact ⟨rfl, _, rfl, wr_two (HSP0.out.below HB6.out) HQ.out (by have := HQZ.out; have := H0.out.2.2; omega) hwn, hHF.1, hHF.2, HQZ.out⟩
  case rest =>
    rintro e a V ⟨rfl, q, rfl, hW, hsb, hb, hq⟩
    have HW := hid hW
    have HB := hid (below_t H0.out.1 hb)
    clear hW hb hdr cs
    gi_wp2
    obtain ⟨W1, hW1⟩ : ∃ W1, (V.alloc (.cells #[.int .i64 0] 3)).alloc (.cells #[.int .i64 0] 32) = W1 := ⟨_, rfl⟩
    have hbV1 : Below V.heap.size V W1 := by rw [← hW1]; exact bal (bal (Below.refl _ _) _) _
    have hz1 : W1.heap.size = V.heap.size + 2 := by rw [← hW1]; simp
    have hpk : Bx1 W1 V.heap.size (.int .i64 0) := by rw [← hW1]; exact ⟨by simp [go_sem], by simp [go_sem]⟩
    have hpf : Bx1 W1 (V.heap.size + 1) (.int .i64 0) := by rw [← hW1]; exact ⟨by simp [go_sem], by simp [go_sem]⟩
    simp only [hW1]
    clear hW1
    refine wpIn_label ?_
    gi_wp2
    have HBW1 := hid (below_t HB.out hbV1)
    refine ⟨trivial, fun _ => (by omega), ?_⟩
    refine (callsIn_wide.2 (HPR.out _ HBW1.out)).mono ?_
    rintro e W2 ⟨bx, pv, rfl, hcb, hrd, hb2, hbx, hbk⟩
    have hqV := HW.out.qlt
    have hz0 := H0.out.2.2
    have hzV := HB.out.size
    have HO := hid (show OrdS w q b g V.heap.size (V.heap.size + 1) w.heap.size bx pv from ⟨hbw, hgw, ⟨by omega, by omega, by omega, Nat.le_refl _, by omega⟩, ⟨by omega, by omega, by omega, by omega, by omega, by omega, by omega, by omega, by omega⟩, fun k hk => by have := hbk k hk; omega⟩)
    have HB0 := hid (show BothO w q b g V.heap.size (V.heap.size + 1) w.heap.size bx zs pv ⟨s, s.wr n0, cel0, false⟩ 0 0 W2 from
      ⟨(HW.out.below hbV1).below hb2, bx1_moved (bx1_moved hpk (Moved.below hb2 []) (by simp)) (Moved.refl _ []) (by simp), bx1_moved hpf (Moved.below hb2 []) (by simp), keepc hb2 (keepc hbV1 hsb), hcb, hrd, Moved.below (below_t HBW1.out hb2) _⟩)
    have hz2 : W1.heap.size ≤ W2.heap.size := hb2.size
    have hbxl := World.block_lt_of_cell? W2 _ hcb
    have hwz2 : w.heap.size ≤ W2.heap.size := by omega
    have hkz : V.heap.size + 1 < W2.heap.size := by omega
    have hqz : q < W2.heap.size := by omega
    clear hpk hpf hcb hrd hb2 hbk HW HB hbV1 hsb HBW1 HSP0 HSP HWR HPR hq hz0 hzV hqV hz1 hz2
    generalize V.heap.size = kb at *
    have HXU := hid (show U8L zs from HB0.out.rd.1)
    have HOK := hid (fun (p : OpD × Int) (hp : p ∈ opsL zs) (h0 : p.2 = 0) => opsL_ok (zs := zs) HXU.out hlz zs.length zs (Nat.le_refl _) HXU.out p hp h0)
    obtain ⟨x0, hx0⟩ : ∃ x0 : Wst, (⟨s, s.wr n0, cel0, false⟩ : Wst) = x0 := ⟨_, rfl⟩
    have HRES := hid (show ordW s zs n0 = runO x0 (opsL zs) by rw [← hx0]; rfl)
    rw [hx0] at HB0
    have HSEQ := hid (fun o1 o2 => (show SeqF Fence.wide (m - 1) Tryd.prog 59 #[.pointer (some ⟨bx, 0, none⟩)] encO (elP (opsL zs) (W2.heap.size + 2)) (opsL zs).length (RO bx zs) ((W2.alloc o1).alloc o2) from by
      have q0 := ops_seq (m - 1) (by omega) bx zs hlz ((W2.alloc o1).alloc o2)
      rwa [show ((W2.alloc o1).alloc o2).heap.size = W2.heap.size + 2 by simp] at q0))
    clear hx0
    have HTL := hid (Nat.le_trans (opsL_len zs.length zs (Nat.le_refl _)) hlz)
    generalize opsL zs = tl at HOK HRES HSEQ HTL
    gi_wp2
    refine rangeFunc_seq (n := m) (w := W2) rfl (by omega) (gf := 59) (lb := #[.pointer (some ⟨bx, 0, none⟩)]) rfl trivial (enters_of Tryd.func59 (by kernel_rfl) rfl)
      (encs := encO) (fun _ => rfl) (el := elP tl (W2.heap.size + 2)) (N := tl.length) (R := RO bx zs)
      (fun k S V => S = [] ∧ ∃ y, BothO w q b g kb (kb + 1) w.heap.size bx zs pv y k 0 V ∧ AtO x0 tl k y)
      (fun c k S V => S = [] ∧ c = .exit 0 ∧ ∃ y er j, BothO w q b g kb (kb + 1) w.heap.size bx zs pv y j er V ∧ runO x0 tl = (y, j, er)) ?hI ?hIx ?hR ⟨rfl, x0, HB0.out, AtO.start _ _⟩
      (fun k S x a V => S = [] ∧ elP tl (W2.heap.size + 2) k x V ∧ (∃ y, BothO w q b g kb (kb + 1) w.heap.size bx zs pv y k 0 V ∧ AtO x0 tl k y) ∧ ∃ ob, OpBx V ob x ∧ W2.heap.size ≤ ob ∧ a = { tmps := #[.pointer (some ⟨b, 0, none⟩), .slice px zs.length pc, .int .i64 n0, .pointer (some ⟨w.heap.size, 0, none⟩), undef, undef, .int .i64 0, .int .i64 0, .int .i64 0, .pointer (some ⟨q, 0, none⟩), .pointer (some ⟨kb, 0, none⟩), .pointer (some ⟨kb + 1, 0, none⟩), .pointer (some ⟨ob, 0, none⟩), .int .i64 x.2.1, .pointer (some ⟨b, 0, none⟩), .bool false, .pointer (some ⟨b, 0, none⟩), .pointer (some ⟨b, 0, none⟩), sizeV s.r s.c, .int .i64 n0, .int .i64 (s.wr n0 : Nat), .agg #[.pointer (some ⟨b, 0, none⟩), .int .i64 (s.wr n0 : Nat), .int .u8 0, .bool false, .int .u8 0, .int .u8 0, .int .u8 0, .int .u8 0, .bool false], .slice px zs.length pc, .func (.func 59) #[] #[.pointer (some ⟨bx, 0, none⟩)], opV x.1 x.2.2.1 x.2.2.2, .int .i64 x.2.1, undef, undef, undef, undef, undef, undef, undef, undef, undef, undef, undef, undef, undef, undef, undef, undef, undef, undef, undef, undef, undef, undef, undef, undef, undef, undef, undef, undef, undef, undef, undef], defers := [] }) ?hAx ?assign ?body ?iter ?done ?stop
    case hI => exact fun k S A B hg ⟨h1, y, h2, h3⟩ => ⟨h1, y, h2.grow hwz2 hg HO.out, h3⟩
    case hIx => exact fun c k S A B hg ⟨h1, h2, y, er, j, h3, h4⟩ => ⟨h1, h2, y, er, j, h3.grow hwz2 hg HO.out, h4⟩
    case hR => exact fun k S V ⟨_, y, h, _⟩ => ⟨pv, h.cb, h.rd.reads⟩
    case hAx => exact fun k S x a A B hg ⟨h1, h2, ⟨y, h3, h4⟩, ob, h5, h6, h7⟩ => ⟨h1, h2.grow hg, ⟨y, h3.grow hwz2 hg HO.out, h4⟩, ob, h5.grow hg, h6, h7⟩
    case iter => exact fun o1 o2 _ _ => HSEQ.out o1 o2
    case assign =>
      rintro l' k ⟨⟨kd, ad, cd, gr, fa, ps, tx⟩, er, pv', tv'⟩ S V KK hk hel hi hsz hK
      have HK := hid hK
      obtain ⟨hS, y, hi1, hi2⟩ := hi
      subst hS
      have HI1 := hid hi1
      have HI2 := hid hi2
      have HEL := hid hel
      have e1 := hel.2.1
      have e2 := hel.2.2.1
      dsimp only at e1 e2
      obtain ⟨xp, cp, rfl, -⟩ := pairs_at e1
      obtain ⟨xt, nt, ct, rfl⟩ := own_slice e2
      clear hK hi1 hi2 hel e1 e2
      gi_wp2
      have hal : Grow W2.heap.size V (V.alloc (.cells #[.int .i64 kd, .int .i64 ad, .int .u8 cd, .bool gr, .int .u8 fa, .slice xp ps.length cp, .slice xt nt ct] 93)) := Grow.alloc _ _ _
      exact HK.out _ _ (Touch.alloc _ _ _ _) ⟨by simp, HEL.out.grow hal, ⟨y, HI1.out.grow hwz2 hal HO.out, HI2.out⟩, V.heap.size, opbx_new V ⟨⟨kd, ad, cd, gr, fa, ps, tx⟩, er, .slice xp ps.length cp, .slice xt nt ct⟩, by omega, by first | rfl | simp⟩
    case body =>
      rintro l' k ⟨⟨kd, ad, cd, gr, fa, ps, tx⟩, er, pv', tv'⟩ S a' V hk ⟨hS, hel, ⟨y, hb, hat⟩, ob, hop, hob, rfl⟩ hsz
      subst hS
      have e1 := hel.2.1
      have e2 := hel.2.2.1
      dsimp only at e1 e2
      obtain ⟨xp, cp, rfl, -⟩ := pairs_at e1
      obtain ⟨xt, nt, ct, rfl⟩ := own_slice e2
      have HEL := hid hel
      have HBO := hid hb
      have HAT := hid hat
      have HTK := hid hel.1
      have HTB := hid hel.2.2.2
      dsimp only at HTK HTB
      obtain ⟨o0, o1, o2, o3, o4, o5, o6⟩ := hop
      dsimp only at o0 o1 o2 o3 o4 o5 o6
      have y0 := hb.wr.c0
      have y1 := hb.wr.c1
      have ysb := hb.ps
      have yk := hb.pk.1
      have yf := hb.pf.1
      have ykz := hb.pk.2
      have yfz := hb.pf.2
      have hobl := World.block_lt_of_cell? V _ o0
      have hwl : w.heap.size ≤ V.heap.size := by omega
      have hHN := hb.wr.sp.ok.pos
      have hlt := hb.wr.lt
      have HSZ1 := hid (fun W (hW : Below V.heap.size V W) => HSZ.out W y.s (hb.wr.sp.below hW))
      have HCL1 := hid (fun W => (show Calls Tryd.prog 44 #[.agg #[.int .i64 y.s.r, .int .i64 y.s.c]] W fun e w' => e = .returned (.int .i64 (y.s.L.length : Nat)) ∧ Below W.heap.size W w' from by
        rw [hb.wr.sp.ok.len]
        exact cells_ok y.s.r y.s.c hb.wr.sp.ok.sz W))
      have HATY := hid (fun W (hW : Below V.heap.size V W) => (show Calls Tryd.prog 14 #[.pointer (some ⟨b, 0, none⟩), .int .i64 y.n] W fun e w' => e = .returned (y.s.cel y.n).v ∧ Below W.heap.size W w' from by
        have q1 := at_any (b := b) (g := g) (s := y.s) (y.n : Int) (i64_small (by omega) (by omega)) W (hb.wr.sp.below hW)
        unfold Spc.atC at q1
        rwa [wr_nat hlt] at q1))
      have hf1 := celf1
      obtain ⟨N, hN2⟩ : ∃ N, y.s.L.length = N := ⟨_, rfl⟩
      have HNN := hid hN2
      rw [hN2] at HCL1 hHN
      generalize y.s.r = R at HSZ1 HCL1
      generalize y.s.c = C at HSZ1 HCL1
      clear hel hb hat e1 e2 hN2
      by_cases he : er = 0
      · subst he
        have HXO := hid (HOK.out (⟨kd, ad, cd, gr, fa, ps, tx⟩, 0) (List.mem_of_getElem? HTK.out) rfl)
        have hdr : Below V.heap.size V V.drew := (Below.refl _ _).drew
        by_cases hge : (N : Int) ≤ ad
        · gi_wp2
          refine wpIn_mono (Q := fun e a V' => e = .normal ∧ a = { tmps := #[.pointer (some ⟨b, 0, none⟩), .slice px zs.length pc, .int .i64 n0, .pointer (some ⟨w.heap.size, 0, none⟩), undef, undef, .int .i64 0, .int .i64 0, .int .i64 0, .pointer (some ⟨q, 0, none⟩), .pointer (some ⟨kb, 0, none⟩), .pointer (some ⟨kb + 1, 0, none⟩), .pointer (some ⟨ob, 0, none⟩), .int .i64 0, .pointer (some ⟨b, 0, none⟩), .bool false, .pointer (some ⟨b, 0, none⟩), .pointer (some ⟨b, 0, none⟩), sizeV s.r s.c, .int .i64 n0, .int .i64 (s.wr n0 : Nat), .agg #[.pointer (some ⟨b, 0, none⟩), .int .i64 (s.wr n0 : Nat), .int .u8 0, .bool false, .int .u8 0, .int .u8 0, .int .u8 0, .int .u8 0, .bool false], .slice px zs.length pc, .func (.func 59) #[] #[.pointer (some ⟨bx, 0, none⟩)], .agg #[.int .i64 kd, .int .i64 ad, .int .u8 cd, .bool gr, .int .u8 fa, .slice xp ps.length cp, .slice xt nt ct], .int .i64 0, .bool false, .int .i64 0, .bool false, undef, .bool true, .pointer (some ⟨ob, 1, none⟩), .int .i64 ad, .pointer (some ⟨b, 0, none⟩), sizeV R C, .int .i64 (N : Nat), .bool true, undef, undef, undef, undef, undef, undef, undef, undef, undef, undef, undef, undef, undef, undef, undef, undef, undef, undef, undef, undef], defers := [] } ∧ Below V.heap.size V V') ?reg ?rest
          case reg =>
            refine wpIn_region_round (by kernel_rfl) (by kernel_rfl) ?_
            refine wpAnyIn_take (i := 0) (v := .pointer (some ⟨ob, 1, none⟩)) (fuel := 6) rfl rfl (by kernel_rfl) (by kernel_rfl) (by kernel_rfl) (fun _ _ _ h => by cases h.1) ⟨Or.inl ⟨by rfl, fun w => ?_⟩, fun _ => rfl⟩ ?_
            · go_simp
              try with_reducible rfl
            simp only [Act.put, List.setIfInBounds_toArray, List.set_cons_zero, List.set_cons_succ]
            refine wpAnyIn_ready (rs := [1, 2]) (by kernel_rfl) (by simp) ?_
            refine AllReadyIn.cons (by simp only [List.getElem?_toArray, List.getElem?_cons_succ, List.getElem?_cons_zero]; rfl) (fun K hK => ?_) (AllReadyIn.cons (by simp only [List.getElem?_toArray, List.getElem?_cons_succ, List.getElem?_cons_zero]; rfl) (fun K hK => ?_) AllReadyIn.nil)
            · go_simp
              refine hK _ _ ?_
              clear hK K
              (try simp only [Act.put, List.setIfInBounds_toArray, List.set_cons_zero, List.set_cons_succ])
              refine wpAnyIn_ready (rs := [2]) (by kernel_rfl) (by simp) ?_
              refine AllReadyIn.cons (by simp only [List.getElem?_toArray, List.getElem?_cons_succ, List.getElem?_cons_zero]; rfl) (fun K hK => ?_) AllReadyIn.nil
              · go_simp
                refine hK _ _ ?_
                clear hK K
                (try simp only [Act.put, List.setIfInBounds_toArray, List.set_cons_zero, List.set_cons_succ])
                refine wpAnyIn_ready (rs := [3]) (by kernel_rfl) (by simp) ?_
                refine AllReadyIn.cons (by simp only [List.getElem?_toArray, List.getElem?_cons_succ, List.getElem?_cons_zero]; rfl) (fun K hK => ?_) AllReadyIn.nil
                · go_simp
                  refine ⟨trivial, fun _ => (by omega), ?_⟩
                  refine (callsIn_wide.2 (HSZ1.out _ hdr)).mono ?_
                  rintro e w4 ⟨rfl, hb4⟩
                  refine hK _ _ ?_
                  clear hK K
                  have HB4 := hid (below_t hdr hb4)
                  have o1_4 := keepc HB4.out o1
                  clear hb4
                  (try simp only [Act.put, List.setIfInBounds_toArray, List.set_cons_zero, List.set_cons_succ])
                  refine wpAnyIn_ready (rs := [4]) (by kernel_rfl) (by simp) ?_
                  refine AllReadyIn.cons (by simp only [List.getElem?_toArray, List.getElem?_cons_succ, List.getElem?_cons_zero]; rfl) (fun K hK => ?_) AllReadyIn.nil
                  · go_simp
                    refine ⟨trivial, fun _ => (by omega), ?_⟩
                    refine (callsIn_wide.2 (HCL1.out _)).mono ?_
                    rintro e w5 ⟨rfl, hb5⟩
                    refine hK _ _ ?_
                    clear hK K
                    have HB5 := hid (below_t HB4.out hb5)
                    have o1_5 := keepc HB5.out o1
                    clear hb5
                    (try simp only [Act.put, List.setIfInBounds_toArray, List.set_cons_zero, List.set_cons_succ])
                    refine wpAnyIn_take (i := 5) (v := .bool true) (fuel := 1) rfl rfl (by kernel_rfl) (by kernel_rfl) (by kernel_rfl) (fun _ _ _ h => by cases h.1) ⟨Or.inl ⟨by rfl, fun w => ?_⟩, fun _ => rfl⟩ ?_
                    · go_simp
                      try with_reducible rfl
                    simp only [Act.put, List.setIfInBounds_toArray, List.set_cons_zero, List.set_cons_succ]
                    refine wpAnyIn_take (i := 6) (v := .bool true) (fuel := 0) rfl rfl (by kernel_rfl) (by kernel_rfl) (by kernel_rfl) (fun _ _ _ h => by cases h.1) ⟨Or.inl ⟨by rfl, fun w => ?_⟩, fun _ => rfl⟩ ?_
                    · go_simp
                      try with_reducible rfl
                    simp only [Act.put, List.setIfInBounds_toArray, List.set_cons_zero, List.set_cons_succ]
                    refine wpAnyIn_done (by kernel_rfl) ?_ _
                    exact ⟨rfl, rfl, HB5.out⟩
            · go_simp
              refine hK _ _ ?_
              clear hK K
              (try simp only [Act.put, List.setIfInBounds_toArray, List.set_cons_zero, List.set_cons_succ])
              refine wpAnyIn_ready (rs := [1, 3]) (by kernel_rfl) (by simp) ?_
              refine AllReadyIn.cons (by simp only [List.getElem?_toArray, List.getElem?_cons_succ, List.getElem?_cons_zero]; rfl) (fun K hK => ?_) (AllReadyIn.cons (by simp only [List.getElem?_toArray, List.getElem?_cons_succ, List.getElem?_cons_zero]; rfl) (fun K hK => ?_) AllReadyIn.nil)
              · go_simp
                refine hK _ _ ?_
                clear hK K
                (try simp only [Act.put, List.setIfInBounds_toArray, List.set_cons_zero, List.set_cons_succ])
                refine wpAnyIn_ready (rs := [3]) (by kernel_rfl) (by simp) ?_
                refine AllReadyIn.cons (by simp only [List.getElem?_toArray, List.getElem?_cons_succ, List.getElem?_cons_zero]; rfl) (fun K hK => ?_) AllReadyIn.nil
                · go_simp
                  refine ⟨trivial, fun _ => (by omega), ?_⟩
                  refine (callsIn_wide.2 (HSZ1.out _ hdr)).mono ?_
                  rintro e w4 ⟨rfl, hb4⟩
                  refine hK _ _ ?_
                  clear hK K
                  have HB4 := hid (below_t hdr hb4)
                  have o1_4 := keepc HB4.out o1
                  clear hb4
                  (try simp only [Act.put, List.setIfInBounds_toArray, List.set_cons_zero, List.set_cons_succ])
                  refine wpAnyIn_ready (rs := [4]) (by kernel_rfl) (by simp) ?_
                  refine AllReadyIn.cons (by simp only [List.getElem?_toArray, List.getElem?_cons_succ, List.getElem?_cons_zero]; rfl) (fun K hK => ?_) AllReadyIn.nil
                  · go_simp
                    refine ⟨trivial, fun _ => (by omega), ?_⟩
                    refine (callsIn_wide.2 (HCL1.out _)).mono ?_
                    rintro e w5 ⟨rfl, hb5⟩
                    refine hK _ _ ?_
                    clear hK K
                    have HB5 := hid (below_t HB4.out hb5)
                    have o1_5 := keepc HB5.out o1
                    clear hb5
                    (try simp only [Act.put, List.setIfInBounds_toArray, List.set_cons_zero, List.set_cons_succ])
                    refine wpAnyIn_take (i := 5) (v := .bool true) (fuel := 1) rfl rfl (by kernel_rfl) (by kernel_rfl) (by kernel_rfl) (fun _ _ _ h => by cases h.1) ⟨Or.inl ⟨by rfl, fun w => ?_⟩, fun _ => rfl⟩ ?_
                    · go_simp
                      try with_reducible rfl
                    simp only [Act.put, List.setIfInBounds_toArray, List.set_cons_zero, List.set_cons_succ]
                    refine wpAnyIn_take (i := 6) (v := .bool true) (fuel := 0) rfl rfl (by kernel_rfl) (by kernel_rfl) (by kernel_rfl) (fun _ _ _ h => by cases h.1) ⟨Or.inl ⟨by rfl, fun w => ?_⟩, fun _ => rfl⟩ ?_
                    · go_simp
                      try with_reducible rfl
                    simp only [Act.put, List.setIfInBounds_toArray, List.set_cons_zero, List.set_cons_succ]
                    refine wpAnyIn_done (by kernel_rfl) ?_ _
                    exact ⟨rfl, rfl, HB5.out⟩
              · go_simp
                refine ⟨trivial, fun _ => (by omega), ?_⟩
                refine (callsIn_wide.2 (HSZ1.out _ hdr)).mono ?_
                rintro e w4 ⟨rfl, hb4⟩
                refine hK _ _ ?_
                clear hK K
                have HB4 := hid (below_t hdr hb4)
                have o1_4 := keepc HB4.out o1
                clear hb4
                (try simp only [Act.put, List.setIfInBounds_toArray, List.set_cons_zero, List.set_cons_succ])
                refine wpAnyIn_ready (rs := [1, 4]) (by kernel_rfl) (by simp) ?_
                refine AllReadyIn.cons (by simp only [List.getElem?_toArray, List.getElem?_cons_succ, List.getElem?_cons_zero]; rfl) (fun K hK => ?_) (AllReadyIn.cons (by simp only [List.getElem?_toArray, List.getElem?_cons_succ, List.getElem?_cons_zero]; rfl) (fun K hK => ?_) AllReadyIn.nil)
                · go_simp
                  refine hK _ _ ?_
                  clear hK K
                  (try simp only [Act.put, List.setIfInBounds_toArray, List.set_cons_zero, List.set_cons_succ])
                  refine wpAnyIn_ready (rs := [4]) (by kernel_rfl) (by simp) ?_
                  refine AllReadyIn.cons (by simp only [List.getElem?_toArray, List.getElem?_cons_succ, List.getElem?_cons_zero]; rfl) (fun K hK => ?_) AllReadyIn.nil
                  · go_simp
                    refine ⟨trivial, fun _ => (by omega), ?_⟩
                    refine (callsIn_wide.2 (HCL1.out _)).mono ?_
                    rintro e w5 ⟨rfl, hb5⟩
                    refine hK _ _ ?_
                    clear hK K
                    have HB5 := hid (below_t HB4.out hb5)
                    have o1_5 := keepc HB5.out o1
                    clear hb5
                    (try simp only [Act.put, List.setIfInBounds_toArray, List.set_cons_zero, List.set_cons_succ])
                    refine wpAnyIn_take (i := 5) (v := .bool true) (fuel := 1) rfl rfl (by kernel_rfl) (by kernel_rfl) (by kernel_rfl) (fun _ _ _ h => by cases h.1) ⟨Or.inl ⟨by rfl, fun w => ?_⟩, fun _ => rfl⟩ ?_
                    · go_simp
                      try with_reducible rfl
                    simp only [Act.put, List.setIfInBounds_toArray, List.set_cons_zero, List.set_cons_succ]
                    refine wpAnyIn_take (i := 6) (v := .bool true) (fuel := 0) rfl rfl (by kernel_rfl) (by kernel_rfl) (by kernel_rfl) (fun _ _ _ h => by cases h.1) ⟨Or.inl ⟨by rfl, fun w => ?_⟩, fun _ => rfl⟩ ?_
                    · go_simp
                      try with_reducible rfl
                    simp only [Act.put, List.setIfInBounds_toArray, List.set_cons_zero, List.set_cons_succ]
                    refine wpAnyIn_done (by kernel_rfl) ?_ _
                    exact ⟨rfl, rfl, HB5.out⟩
                · go_simp
                  refine ⟨trivial, fun _ => (by omega), ?_⟩
                  refine (callsIn_wide.2 (HCL1.out _)).mono ?_
                  rintro e w5 ⟨rfl, hb5⟩
                  refine hK _ _ ?_
                  clear hK K
                  have HB5 := hid (below_t HB4.out hb5)
                  have o1_5 := keepc HB5.out o1
                  clear hb5
                  (try simp only [Act.put, List.setIfInBounds_toArray, List.set_cons_zero, List.set_cons_succ])
                  refine wpAnyIn_ready (rs := [1]) (by kernel_rfl) (by simp) ?_
                  refine AllReadyIn.cons (by simp only [List.getElem?_toArray, List.getElem?_cons_succ, List.getElem?_cons_zero]; rfl) (fun K hK => ?_) AllReadyIn.nil
                  · go_simp
                    refine hK _ _ ?_
                    clear hK K
                    (try simp only [Act.put, List.setIfInBounds_toArray, List.set_cons_zero, List.set_cons_succ])
                    refine wpAnyIn_take (i := 5) (v := .bool true) (fuel := 1) rfl rfl (by kernel_rfl) (by kernel_rfl) (by kernel_rfl) (fun _ _ _ h => by cases h.1) ⟨Or.inl ⟨by rfl, fun w => ?_⟩, fun _ => rfl⟩ ?_
                    · go_simp
                      try with_reducible rfl
                    simp only [Act.put, List.setIfInBounds_toArray, List.set_cons_zero, List.set_cons_succ]
                    refine wpAnyIn_take (i := 6) (v := .bool true) (fuel := 0) rfl rfl (by kernel_rfl) (by kernel_rfl) (by kernel_rfl) (fun _ _ _ h => by cases h.1) ⟨Or.inl ⟨by rfl, fun w => ?_⟩, fun _ => rfl⟩ ?_
                    · go_simp
                      try with_reducible rfl
                    simp only [Act.put, List.setIfInBounds_toArray, List.set_cons_zero, List.set_cons_succ]
                    refine wpAnyIn_done (by kernel_rfl) ?_ _
                    exact ⟨rfl, rfl, HB5.out⟩
          case rest =>
            rintro e a V5 ⟨rfl, rfl, hb5⟩
            have HB5 := hid hb5
            have f5 := keepc HB5.out yf
            have z5 := (HB5.out.frozen (p := ⟨kb + 1, 0, none⟩) (show kb + 1 < V.heap.size by omega)).trans yfz
            clear hb5
            gi_wp2
            refine ⟨[], (Touch.below HB5.out _ _).trans (Touch.set V5 ⟨kb + 1, 0, none⟩ _ (.inl hkz)), rfl, rfl, y, 9, k, both_fail (HBO.out.below' HB5.out hwl) HO.out _, HAT.out.addr HTK.out (by rw [HNN.out]; exact hge)⟩
        · gi_wp2
          refine wpIn_mono (Q := fun e a V' => e = .normal ∧ a = { tmps := #[.pointer (some ⟨b, 0, none⟩), .slice px zs.length pc, .int .i64 n0, .pointer (some ⟨w.heap.size, 0, none⟩), undef, undef, .int .i64 0, .int .i64 0, .int .i64 0, .pointer (some ⟨q, 0, none⟩), .pointer (some ⟨kb, 0, none⟩), .pointer (some ⟨kb + 1, 0, none⟩), .pointer (some ⟨ob, 0, none⟩), .int .i64 0, .pointer (some ⟨b, 0, none⟩), .bool false, .pointer (some ⟨b, 0, none⟩), .pointer (some ⟨b, 0, none⟩), sizeV s.r s.c, .int .i64 n0, .int .i64 (s.wr n0 : Nat), .agg #[.pointer (some ⟨b, 0, none⟩), .int .i64 (s.wr n0 : Nat), .int .u8 0, .bool false, .int .u8 0, .int .u8 0, .int .u8 0, .int .u8 0, .bool false], .slice px zs.length pc, .func (.func 59) #[] #[.pointer (some ⟨bx, 0, none⟩)], .agg #[.int .i64 kd, .int .i64 ad, .int .u8 cd, .bool gr, .int .u8 fa, .slice xp ps.length cp, .slice xt nt ct], .int .i64 0, .bool false, .int .i64 0, .bool false, undef, .bool false, .pointer (some ⟨ob, 1, none⟩), .int .i64 ad, .pointer (some ⟨b, 0, none⟩), sizeV R C, .int .i64 (N : Nat), .bool false, undef, undef, undef, undef, undef, undef, undef, undef, undef, undef, undef, undef, undef, undef, undef, undef, undef, undef, undef, undef], defers := [] } ∧ Below V.heap.size V V') ?reg ?rest
          case reg =>
            refine wpIn_region_round (by kernel_rfl) (by kernel_rfl) ?_
            refine wpAnyIn_take (i := 0) (v := .pointer (some ⟨ob, 1, none⟩)) (fuel := 6) rfl rfl (by kernel_rfl) (by kernel_rfl) (by kernel_rfl) (fun _ _ _ h => by cases h.1) ⟨Or.inl ⟨by rfl, fun w => ?_⟩, fun _ => rfl⟩ ?_
            · go_simp
              try with_reducible rfl
            simp only [Act.put, List.setIfInBounds_toArray, List.set_cons_zero, List.set_cons_succ]
            refine wpAnyIn_ready (rs := [1, 2]) (by kernel_rfl) (by simp) ?_
            refine AllReadyIn.cons (by simp only [List.getElem?_toArray, List.getElem?_cons_succ, List.getElem?_cons_zero]; rfl) (fun K hK => ?_) (AllReadyIn.cons (by simp only [List.getElem?_toArray, List.getElem?_cons_succ, List.getElem?_cons_zero]; rfl) (fun K hK => ?_) AllReadyIn.nil)
            · go_simp
              refine hK _ _ ?_
              clear hK K
              (try simp only [Act.put, List.setIfInBounds_toArray, List.set_cons_zero, List.set_cons_succ])
              refine wpAnyIn_ready (rs := [2]) (by kernel_rfl) (by simp) ?_
              refine AllReadyIn.cons (by simp only [List.getElem?_toArray, List.getElem?_cons_succ, List.getElem?_cons_zero]; rfl) (fun K hK => ?_) AllReadyIn.nil
              · go_simp
                refine hK _ _ ?_
                clear hK K
                (try simp only [Act.put, List.setIfInBounds_toArray, List.set_cons_zero, List.set_cons_succ])
                refine wpAnyIn_ready (rs := [3]) (by kernel_rfl) (by simp) ?_
                refine AllReadyIn.cons (by simp only [List.getElem?_toArray, List.getElem?_cons_succ, List.getElem?_cons_zero]; rfl) (fun K hK => ?_) AllReadyIn.nil
                · go_simp
                  refine ⟨trivial, fun _ => (by omega), ?_⟩
                  refine (callsIn_wide.2 (HSZ1.out _ hdr)).mono ?_
                  rintro e w4 ⟨rfl, hb4⟩
                  refine hK _ _ ?_
                  clear hK K
                  have HB4 := hid (below_t hdr hb4)
                  have o1_4 := keepc HB4.out o1
                  clear hb4
                  (try simp only [Act.put, List.setIfInBounds_toArray, List.set_cons_zero, List.set_cons_succ])
                  refine wpAnyIn_ready (rs := [4]) (by kernel_rfl) (by simp) ?_
                  refine AllReadyIn.cons (by simp only [List.getElem?_toArray, List.getElem?_cons_succ, List.getElem?_cons_zero]; rfl) (fun K hK => ?_) AllReadyIn.nil
                  · go_simp
                    refine ⟨trivial, fun _ => (by omega), ?_⟩
                    refine (callsIn_wide.2 (HCL1.out _)).mono ?_
                    rintro e w5 ⟨rfl, hb5⟩
                    refine hK _ _ ?_
                    clear hK K
                    have HB5 := hid (below_t HB4.out hb5)
                    have o1_5 := keepc HB5.out o1
                    clear hb5
                    (try simp only [Act.put, List.setIfInBounds_toArray, List.set_cons_zero, List.set_cons_succ])
                    refine wpAnyIn_take (i := 5) (v := .bool false) (fuel := 1) rfl rfl (by kernel_rfl) (by kernel_rfl) (by kernel_rfl) (fun _ _ _ h => by cases h.1) ⟨Or.inl ⟨by rfl, fun w => ?_⟩, fun _ => rfl⟩ ?_
                    · go_simp
                      try with_reducible rfl
                    simp only [Act.put, List.setIfInBounds_toArray, List.set_cons_zero, List.set_cons_succ]
                    refine wpAnyIn_take (i := 6) (v := .bool false) (fuel := 0) rfl rfl (by kernel_rfl) (by kernel_rfl) (by kernel_rfl) (fun _ _ _ h => by cases h.1) ⟨Or.inl ⟨by rfl, fun w => ?_⟩, fun _ => rfl⟩ ?_
                    · go_simp
                      try with_reducible rfl
                    simp only [Act.put, List.setIfInBounds_toArray, List.set_cons_zero, List.set_cons_succ]
                    refine wpAnyIn_done (by kernel_rfl) ?_ _
                    exact ⟨rfl, rfl, HB5.out⟩
            · go_simp
              refine hK _ _ ?_
              clear hK K
              (try simp only [Act.put, List.setIfInBounds_toArray, List.set_cons_zero, List.set_cons_succ])
              refine wpAnyIn_ready (rs := [1, 3]) (by kernel_rfl) (by simp) ?_
              refine AllReadyIn.cons (by simp only [List.getElem?_toArray, List.getElem?_cons_succ, List.getElem?_cons_zero]; rfl) (fun K hK => ?_) (AllReadyIn.cons (by simp only [List.getElem?_toArray, List.getElem?_cons_succ, List.getElem?_cons_zero]; rfl) (fun K hK => ?_) AllReadyIn.nil)
              · go_simp
                refine hK _ _ ?_
                clear hK K
                (try simp only [Act.put, List.setIfInBounds_toArray, List.set_cons_zero, List.set_cons_succ])
                refine wpAnyIn_ready (rs := [3]) (by kernel_rfl) (by simp) ?_
                refine AllReadyIn.cons (by simp only [List.getElem?_toArray, List.getElem?_cons_succ, List.getElem?_cons_zero]; rfl) (fun K hK => ?_) AllReadyIn.nil
                · go_simp
                  refine ⟨trivial, fun _ => (by omega), ?_⟩
                  refine (callsIn_wide.2 (HSZ1.out _ hdr)).mono ?_
                  rintro e w4 ⟨rfl, hb4⟩
                  refine hK _ _ ?_
                  clear hK K
                  have HB4 := hid (below_t hdr hb4)
                  have o1_4 := keepc HB4.out o1
                  clear hb4
                  (try simp only [Act.put, List.setIfInBounds_toArray, List.set_cons_zero, List.set_cons_succ])
                  refine wpAnyIn_ready (rs := [4]) (by kernel_rfl) (by simp) ?_
                  refine AllReadyIn.cons (by simp only [List.getElem?_toArray, List.getElem?_cons_succ, List.getElem?_cons_zero]; rfl) (fun K hK => ?_) AllReadyIn.nil
                  · go_simp
                    refine ⟨trivial, fun _ => (by omega), ?_⟩
                    refine (callsIn_wide.2 (HCL1.out _)).mono ?_
                    rintro e w5 ⟨rfl, hb5⟩
                    refine hK _ _ ?_
                    clear hK K
                    have HB5 := hid (below_t HB4.out hb5)
                    have o1_5 := keepc HB5.out o1
                    clear hb5
                    (try simp only [Act.put, List.setIfInBounds_toArray, List.set_cons_zero, List.set_cons_succ])
                    refine wpAnyIn_take (i := 5) (v := .bool false) (fuel := 1) rfl rfl (by kernel_rfl) (by kernel_rfl) (by kernel_rfl) (fun _ _ _ h => by cases h.1) ⟨Or.inl ⟨by rfl, fun w => ?_⟩, fun _ => rfl⟩ ?_
                    · go_simp
                      try with_reducible rfl
                    simp only [Act.put, List.setIfInBounds_toArray, List.set_cons_zero, List.set_cons_succ]
                    refine wpAnyIn_take (i := 6) (v := .bool false) (fuel := 0) rfl rfl (by kernel_rfl) (by kernel_rfl) (by kernel_rfl) (fun _ _ _ h => by cases h.1) ⟨Or.inl ⟨by rfl, fun w => ?_⟩, fun _ => rfl⟩ ?_
                    · go_simp
                      try with_reducible rfl
                    simp only [Act.put, List.setIfInBounds_toArray, List.set_cons_zero, List.set_cons_succ]
                    refine wpAnyIn_done (by kernel_rfl) ?_ _
                    exact ⟨rfl, rfl, HB5.out⟩
              · go_simp
                refine ⟨trivial, fun _ => (by omega), ?_⟩
                refine (callsIn_wide.2 (HSZ1.out _ hdr)).mono ?_
                rintro e w4 ⟨rfl, hb4⟩
                refine hK _ _ ?_
                clear hK K
                have HB4 := hid (below_t hdr hb4)
                have o1_4 := keepc HB4.out o1
                clear hb4
                (try simp only [Act.put, List.setIfInBounds_toArray, List.set_cons_zero, List.set_cons_succ])
                refine wpAnyIn_ready (rs := [1, 4]) (by kernel_rfl) (by simp) ?_
                refine AllReadyIn.cons (by simp only [List.getElem?_toArray, List.getElem?_cons_succ, List.getElem?_cons_zero]; rfl) (fun K hK => ?_) (AllReadyIn.cons (by simp only [List.getElem?_toArray, List.getElem?_cons_succ, List.getElem?_cons_zero]; rfl) (fun K hK => ?_) AllReadyIn.nil)
                · go_simp
                  refine hK _ _ ?_
                  clear hK K
                  (try simp only [Act.put, List.setIfInBounds_toArray, List.set_cons_zero, List.set_cons_succ])
                  refine wpAnyIn_ready (rs := [4]) (by kernel_rfl) (by simp) ?_
                  refine AllReadyIn.cons (by simp only [List.getElem?_toArray, List.getElem?_cons_succ, List.getElem?_cons_zero]; rfl) (fun K hK => ?_) AllReadyIn.nil
                  · go_simp
                    refine ⟨trivial, fun _ => (by omega), ?_⟩
                    refine (callsIn_wide.2 (HCL1.out _)).mono ?_
                    rintro e w5 ⟨rfl, hb5⟩
                    refine hK _ _ ?_
                    clear hK K
                    have HB5 := hid (below_t HB4.out hb5)
                    have o1_5 := keepc HB5.out o1
                    clear hb5
                    (try simp only [Act.put, List.setIfInBounds_toArray, List.set_cons_zero, List.set_cons_succ])
                    refine wpAnyIn_take (i := 5) (v := .bool false) (fuel := 1) rfl rfl (by kernel_rfl) (by kernel_rfl) (by kernel_rfl) (fun _ _ _ h => by cases h.1) ⟨Or.inl ⟨by rfl, fun w => ?_⟩, fun _ => rfl⟩ ?_
                    · go_simp
                      try with_reducible rfl
                    simp only [Act.put, List.setIfInBounds_toArray, List.set_cons_zero, List.set_cons_succ]
                    refine wpAnyIn_take (i := 6) (v := .bool false) (fuel := 0) rfl rfl (by kernel_rfl) (by kernel_rfl) (by kernel_rfl) (fun _ _ _ h => by cases h.1) ⟨Or.inl ⟨by rfl, fun w => ?_⟩, fun _ => rfl⟩ ?_
                    · go_simp
                      try with_reducible rfl
                    simp only [Act.put, List.setIfInBounds_toArray, List.set_cons_zero, List.set_cons_succ]
                    refine wpAnyIn_done (by kernel_rfl) ?_ _
                    exact ⟨rfl, rfl, HB5.out⟩
                · go_simp
                  refine ⟨trivial, fun _ => (by omega), ?_⟩
                  refine (callsIn_wide.2 (HCL1.out _)).mono ?_
                  rintro e w5 ⟨rfl, hb5⟩
                  refine hK _ _ ?_
                  clear hK K
                  have HB5 := hid (below_t HB4.out hb5)
                  have o1_5 := keepc HB5.out o1
                  clear hb5
                  (try simp only [Act.put, List.setIfInBounds_toArray, List.set_cons_zero, List.set_cons_succ])
                  refine wpAnyIn_ready (rs := [1]) (by kernel_rfl) (by simp) ?_
                  refine AllReadyIn.cons (by simp only [List.getElem?_toArray, List.getElem?_cons_succ, List.getElem?_cons_zero]; rfl) (fun K hK => ?_) AllReadyIn.nil
                  · go_simp
                    refine hK _ _ ?_
                    clear hK K
                    (try simp only [Act.put, List.setIfInBounds_toArray, List.set_cons_zero, List.set_cons_succ])
                    refine wpAnyIn_take (i := 5) (v := .bool false) (fuel := 1) rfl rfl (by kernel_rfl) (by kernel_rfl) (by kernel_rfl) (fun _ _ _ h => by cases h.1) ⟨Or.inl ⟨by rfl, fun w => ?_⟩, fun _ => rfl⟩ ?_
                    · go_simp
                      try with_reducible rfl
                    simp only [Act.put, List.setIfInBounds_toArray, List.set_cons_zero, List.set_cons_succ]
                    refine wpAnyIn_take (i := 6) (v := .bool false) (fuel := 0) rfl rfl (by kernel_rfl) (by kernel_rfl) (by kernel_rfl) (fun _ _ _ h => by cases h.1) ⟨Or.inl ⟨by rfl, fun w => ?_⟩, fun _ => rfl⟩ ?_
                    · go_simp
                      try with_reducible rfl
                    simp only [Act.put, List.setIfInBounds_toArray, List.set_cons_zero, List.set_cons_succ]
                    refine wpAnyIn_done (by kernel_rfl) ?_ _
                    exact ⟨rfl, rfl, HB5.out⟩
          case rest =>
            rintro e a V5 ⟨rfl, rfl, hb5⟩
            have HB5 := hid hb5
            have f5 := keepc HB5.out yf
            have z5 := (HB5.out.frozen (p := ⟨kb + 1, 0, none⟩) (show kb + 1 < V.heap.size by omega)).trans yfz
            clear hb5
            have t0 := keepc HB5.out o0
            have t1 := keepc HB5.out y0
            have t2 := keepc HB5.out y1
            have t3 := keepc HB5.out ysb
            have hge' : ad < ((y.s.L.length : Nat) : Int) := by rw [HNN.out]; omega
            have HGE := hid hge'
            clear hge'
            by_cases h44 : kd = 44
            · subst h44
              obtain ⟨cc, hcc⟩ : ∃ cc, y.s.cel y.n = cc := ⟨_, rfl⟩
              rw [hcc] at HATY
              have HCC := hid hcc
              clear hcc
              obtain ⟨x0', x1', x2', x3', x4', x5'⟩ := cc
              cases x1'
              · gi_wp2
                refine ⟨trivial, fun _ => (by omega), ?_⟩
                refine (CallsIn.inRound l' (callsIn_wide.2 (HATY.out _ HB5.out))).mono ?_
                rintro e w6 ⟨rfl, hb6⟩
                have HB6 := hid (below_t HB5.out hb6)
                have f6 := keepc HB6.out yf
                have z6 := (HB6.out.frozen (p := ⟨kb + 1, 0, none⟩) (by show kb + 1 < _; omega)).trans yfz
                clear hb6
                gi_wp2
                refine ⟨[], (Touch.below HB6.out _ _).trans (Touch.set w6 ⟨kb + 1, 0, none⟩ _ (.inl hkz)), rfl, rfl, y, 10, k, both_fail (HBO.out.below' HB6.out hwl) HO.out _, HAT.out.mf HTK.out (Int.not_le.2 HGE.out) ⟨rfl, by rw [HCC.out]⟩⟩
              · gi_wp2
                refine ⟨trivial, fun _ => (by omega), ?_⟩
                refine (CallsIn.inRound l' (callsIn_wide.2 (HATY.out _ HB5.out))).mono ?_
                rintro e w6 ⟨rfl, hb6⟩
                have HB6 := hid (below_t HB5.out hb6)
                clear hb6
                have HMF := hid (show (y.s.cel y.n).at_ = true by rw [HCC.out])
                have p0 := keepc HB6.out o0
                have p1 := keepc HB6.out o1
                have p2 := keepc HB6.out o2
                have p3 := keepc HB6.out o3
                have p4 := keepc HB6.out o4
                have p5 := keepc HB6.out o5
                have p6 := keepc HB6.out o6
                have HB7 := hid (HBO.out.below' HB6.out hwl)
                have HXX := hid (show ExOK y ⟨44, ad, cd, gr, fa, ps, tx⟩ from ⟨HXO.out.1.a1, HGE.out, HXO.out.1.cd, HXO.out.1.fa, HXO.out.1.ps, HXO.out.1.pl, HXO.out.1.tx, HXO.out.1.t0, Nat.le_trans HXO.out.2 hlz⟩)
                have HPP := hid (pairs_below HEL.out.2.1 HB6.out)
                have HTT := hid (HEL.out.2.2.1.step HB6.out)
                have HDJ := hid (show ∀ i ∈ blkV (.slice xt nt ct), i ∉ [q, b, g] from fun i hi r => by
                  have := HTB.out i hi
                  simp only [List.mem_cons, List.not_mem_nil, or_false] at r
                  omega)
                have hkn : kb ∉ [q, b, g] := by
                  have h1 := HO.out.ne.1
                  have h2 := HO.out.ge.2.1
                  simp only [List.mem_cons, List.not_mem_nil, or_false]
                  omega
                have hk1 : k < tl.length := hk
                have hkw : IntKind.i64.wrap ((k : Int) + 1) = (k : Int) + 1 := wrapI (i64_small (by have := HTL.out; omega) (by have := HTL.out; omega))
                clear hk1
                gi_wp2
                refine ⟨trivial, fun _ => (by omega), ?_⟩
                refine (CallsIn.inRound l' (callsIn_wide.2 (exec_any ⟨44, ad, cd, gr, fa, ps, tx⟩ HXO.out.1.kd HXX.out (.slice xp ps.length cp) (.slice xt nt ct) _ HB7.out.wr HPP.out HTT.out HDJ.out))).mono ?_
                rintro e w7 ⟨⟨v7, rfl⟩, hw7, hm7⟩
                have HW7 := hid hw7
                have HM7 := hid hm7
                have k7 := cell_moved hm7 HB7.out.pk.1 hkn
                have kz7 := (World.frozen?_of_block (a := ⟨kb, 0, none⟩) (hm7.block kb (World.block_lt_of_cell? _ _ HB7.out.pk.1) hkn)).trans HB7.out.pk.2
                clear hw7 hm7
                gi_wp2
                refine ⟨[], ((Touch.below HB6.out _ _).trans (touch_old3 HM7.out hqz (by omega) (by omega))).trans (Touch.set w7 ⟨kb, 0, none⟩ _ (.inl (by show kb < _; omega))), rfl, execW y ⟨44, ad, cd, gr, fa, ps, tx⟩, both_exec HB7.out HO.out HW7.out HM7.out, HAT.out.next HTK.out (Int.not_le.2 HGE.out) (fun r => by have := r.2; rw [HMF.out] at this; cases this)⟩
            · have h44' : (kd == 44) = false := by simpa using h44
              have HB6 := HB5
              have HMF := hid (show ¬ (kd = 44 ∧ (y.s.cel y.n).at_ = false) from fun q => h44 q.1)
              have p0 := keepc HB6.out o0
              have p1 := keepc HB6.out o1
              have p2 := keepc HB6.out o2
              have p3 := keepc HB6.out o3
              have p4 := keepc HB6.out o4
              have p5 := keepc HB6.out o5
              have p6 := keepc HB6.out o6
              have HB7 := hid (HBO.out.below' HB6.out hwl)
              have HXX := hid (show ExOK y ⟨kd, ad, cd, gr, fa, ps, tx⟩ from ⟨HXO.out.1.a1, HGE.out, HXO.out.1.cd, HXO.out.1.fa, HXO.out.1.ps, HXO.out.1.pl, HXO.out.1.tx, HXO.out.1.t0, Nat.le_trans HXO.out.2 hlz⟩)
              have HPP := hid (pairs_below HEL.out.2.1 HB6.out)
              have HTT := hid (HEL.out.2.2.1.step HB6.out)
              have HDJ := hid (show ∀ i ∈ blkV (.slice xt nt ct), i ∉ [q, b, g] from fun i hi r => by
                have := HTB.out i hi
                simp only [List.mem_cons, List.not_mem_nil, or_false] at r
                omega)
              have hkn : kb ∉ [q, b, g] := by
                have h1 := HO.out.ne.1
                have h2 := HO.out.ge.2.1
                simp only [List.mem_cons, List.not_mem_nil, or_false]
                omega
              have hk1 : k < tl.length := hk
              have hkw : IntKind.i64.wrap ((k : Int) + 1) = (k : Int) + 1 := wrapI (i64_small (by have := HTL.out; omega) (by have := HTL.out; omega))
              clear hk1
              gi_wp2
              rename_i aK
              refine ⟨trivial, aK _ _ ?_⟩
              gi_wp2
              refine ⟨trivial, fun _ => (by omega), ?_⟩
              refine (CallsIn.inRound l' (callsIn_wide.2 (exec_any ⟨kd, ad, cd, gr, fa, ps, tx⟩ HXO.out.1.kd HXX.out (.slice xp ps.length cp) (.slice xt nt ct) _ HB7.out.wr HPP.out HTT.out HDJ.out))).mono ?_
              rintro e w7 ⟨⟨v7, rfl⟩, hw7, hm7⟩
              have HW7 := hid hw7
              have HM7 := hid hm7
              have k7 := cell_moved hm7 HB7.out.pk.1 hkn
              have kz7 := (World.frozen?_of_block (a := ⟨kb, 0, none⟩) (hm7.block kb (World.block_lt_of_cell? _ _ HB7.out.pk.1) hkn)).trans HB7.out.pk.2
              clear hw7 hm7
              gi_wp2
              refine ⟨[], ((Touch.below HB6.out _ _).trans (touch_old3 HM7.out hqz (by omega) (by omega))).trans (Touch.set w7 ⟨kb, 0, none⟩ _ (.inl (by show kb < _; omega))), rfl, execW y ⟨kd, ad, cd, gr, fa, ps, tx⟩, both_exec HB7.out HO.out HW7.out HM7.out, HAT.out.next HTK.out (Int.not_le.2 HGE.out) HMF.out⟩
      · have hne : (er == 0) = false := by simpa using he
        gi_wp2
        refine ⟨[], Touch.set V ⟨kb + 1, 0, none⟩ _ (.inl hkz), rfl, rfl, y, er, k, both_fail HBO.out HO.out _, HAT.out.err HTK.out he⟩
    case done =>
      rintro D S V hD ⟨-, y, hb, hat⟩ hdf
      have HF := hid hat.done
      obtain ⟨kk, hkk⟩ : ∃ kk, tl.length = kk := ⟨_, rfl⟩
      rw [hkk] at hb HF
      clear hkk hat
      have HBO := hid hb
      have HDF := hid hdf
      have y1 := hb.wr.c1
      have y2 := hb.pk.1
      have y3 := hb.pf.1
      clear hb hdf
      gi_wp2
      refine wpIn_of_wpN ?_
      have hdr2 : Below V.heap.size V V.drew := (Below.refl _ _).drew
      refine wp_region_held_drew (S := fun V => V.cell? ⟨q, 1, none⟩ = some (.int .i64 y.n) ∧ V.cell? ⟨kb, 0, none⟩ = some (.int .i64 kk) ∧ V.cell? ⟨kb + 1, 0, none⟩ = some (.int .i64 0)) (by kernel_rfl) ?_ (fun hHeld => ?_)
      · exact ⟨keepc hdr2 y1, keepc hdr2 y2, keepc hdr2 y3⟩
      refine takeD (i := 0) (v := ?_) 53 rfl rfl (by kernel_rfl) (by kernel_rfl) (by kernel_rfl) (fun _ _ _ h => h) (by assumption) (Or.inl ⟨by rfl, ?_⟩) ?_
      rotate_left
      · intro w hSw
        (try dsimp only at hSw)
        go_simp
        try with_reducible rfl
      simp only [List.setIfInBounds_toArray, List.set_cons_zero, List.set_cons_succ]
      refine takeD (i := 1) (v := ?_) 54 rfl rfl (by kernel_rfl) (by kernel_rfl) (by kernel_rfl) (fun _ _ _ h => h) (by assumption) (Or.inl ⟨by rfl, ?_⟩) ?_
      rotate_left
      · intro w hSw
        (try dsimp only at hSw)
        go_simp
        try with_reducible rfl
      simp only [List.setIfInBounds_toArray, List.set_cons_zero, List.set_cons_succ]
      refine takeD (i := 2) (v := ?_) 55 rfl rfl (by kernel_rfl) (by kernel_rfl) (by kernel_rfl) (fun _ _ _ h => h) (by assumption) (Or.inl ⟨by rfl, ?_⟩) ?_
      rotate_left
      · intro w hSw
        (try dsimp only at hSw)
        go_simp
        try with_reducible rfl
      simp only [List.setIfInBounds_toArray, List.set_cons_zero, List.set_cons_succ]
      refine takeD (i := 3) (v := ?_) 56 rfl rfl (by kernel_rfl) (by kernel_rfl) (by kernel_rfl) (fun _ _ _ h => h) (by assumption) (Or.inl ⟨by rfl, ?_⟩) ?_
      rotate_left
      · intro w hSw
        (try dsimp only at hSw)
        go_simp
        try with_reducible rfl
      simp only [List.setIfInBounds_toArray, List.set_cons_zero, List.set_cons_succ]
      refine takeD (i := 4) (v := ?_) 6 rfl rfl (by kernel_rfl) (by kernel_rfl) (by kernel_rfl) (fun _ _ _ h => h) (by assumption) (Or.inl ⟨by rfl, ?_⟩) ?_
      rotate_left
      · intro w hSw
        (try dsimp only at hSw)
        go_simp
        try with_reducible rfl
      simp only [List.setIfInBounds_toArray, List.set_cons_zero, List.set_cons_succ]
      refine takeD (i := 5) (v := ?_) 7 rfl rfl (by kernel_rfl) (by kernel_rfl) (by kernel_rfl) (fun _ _ _ h => h) (by assumption) (Or.inl ⟨by rfl, ?_⟩) ?_
      rotate_left
      · intro w hSw
        (try dsimp only at hSw)
        go_simp
        try with_reducible rfl
      simp only [List.setIfInBounds_toArray, List.set_cons_zero, List.set_cons_succ]
      refine takeD (i := 6) (v := ?_) 8 rfl rfl (by kernel_rfl) (by kernel_rfl) (by kernel_rfl) (fun _ _ _ h => h) (by assumption) (Or.inl ⟨by rfl, ?_⟩) ?_
      rotate_left
      · intro w hSw
        (try dsimp only at hSw)
        go_simp
        try with_reducible rfl
      simp only [List.setIfInBounds_toArray, List.set_cons_zero, List.set_cons_succ]
      refine wpAnyH_done (by kernel_rfl) ?_ _
      clear hHeld
      dsimp only [OnlyN]
      gi_wp2
      (try rw [Exit.noGoto_ret])
      refine ⟨by simp, .inl ⟨_, _, rfl, run_takeDeferred HDF.out, ?_⟩⟩
      have hg : Grow W2.heap.size V (V.drew.putObj D (.deferred none)) := (Grow.below hdr2 _).trans (Grow.put (m := W2.heap.size) (A := V.drew) (.deferred none) hD HDF.out rfl)
      refine ⟨.tuple #[.int .i64 y.n, .int .i64 kk, .int .i64 0], by simp [results, Tryd.results18, go_sem], ?_⟩
      have HB2 := hid (HBO.out.grow hwz2 hg HO.out)
      rw [HRES.out, HF.out]
      exact ⟨rfl, HB2.out.wr.sp, HB2.out.mv⟩
    case stop =>
      rintro D k c S V hD hk ⟨-, rfl, y, er, kk, hb, hrun⟩ hdf
      have HF := hid hrun
      clear hrun hk
      have HBO := hid hb
      have HDF := hid hdf
      have y1 := hb.wr.c1
      have y2 := hb.pk.1
      have y3 := hb.pf.1
      clear hb hdf
      gi_wp2
      refine wpIn_of_wpN ?_
      have hdr2 : Below V.heap.size V V.drew := (Below.refl _ _).drew
      refine wp_region_held_drew (S := fun V => V.cell? ⟨q, 1, none⟩ = some (.int .i64 y.n) ∧ V.cell? ⟨kb, 0, none⟩ = some (.int .i64 kk) ∧ V.cell? ⟨kb + 1, 0, none⟩ = some (.int .i64 er)) (by kernel_rfl) ?_ (fun hHeld => ?_)
      · exact ⟨keepc hdr2 y1, keepc hdr2 y2, keepc hdr2 y3⟩
      refine takeD (i := 0) (v := ?_) 53 rfl rfl (by kernel_rfl) (by kernel_rfl) (by kernel_rfl) (fun _ _ _ h => h) (by assumption) (Or.inl ⟨by rfl, ?_⟩) ?_
      rotate_left
      · intro w hSw
        (try dsimp only at hSw)
        go_simp
        try with_reducible rfl
      simp only [List.setIfInBounds_toArray, List.set_cons_zero, List.set_cons_succ]
      refine takeD (i := 1) (v := ?_) 54 rfl rfl (by kernel_rfl) (by kernel_rfl) (by kernel_rfl) (fun _ _ _ h => h) (by assumption) (Or.inl ⟨by rfl, ?_⟩) ?_
      rotate_left
      · intro w hSw
        (try dsimp only at hSw)
        go_simp
        try with_reducible rfl
      simp only [List.setIfInBounds_toArray, List.set_cons_zero, List.set_cons_succ]
      refine takeD (i := 2) (v := ?_) 55 rfl rfl (by kernel_rfl) (by kernel_rfl) (by kernel_rfl) (fun _ _ _ h => h) (by assumption) (Or.inl ⟨by rfl, ?_⟩) ?_
      rotate_left
      · intro w hSw
        (try dsimp only at hSw)
        go_simp
        try with_reducible rfl
      simp only [List.setIfInBounds_toArray, List.set_cons_zero, List.set_cons_succ]
      refine takeD (i := 3) (v := ?_) 56 rfl rfl (by kernel_rfl) (by kernel_rfl) (by kernel_rfl) (fun _ _ _ h => h) (by assumption) (Or.inl ⟨by rfl, ?_⟩) ?_
      rotate_left
      · intro w hSw
        (try dsimp only at hSw)
        go_simp
        try with_reducible rfl
      simp only [List.setIfInBounds_toArray, List.set_cons_zero, List.set_cons_succ]
      refine takeD (i := 4) (v := ?_) 6 rfl rfl (by kernel_rfl) (by kernel_rfl) (by kernel_rfl) (fun _ _ _ h => h) (by assumption) (Or.inl ⟨by rfl, ?_⟩) ?_
      rotate_left
      · intro w hSw
        (try dsimp only at hSw)
        go_simp
        try with_reducible rfl
      simp only [List.setIfInBounds_toArray, List.set_cons_zero, List.set_cons_succ]
      refine takeD (i := 5) (v := ?_) 7 rfl rfl (by kernel_rfl) (by kernel_rfl) (by kernel_rfl) (fun _ _ _ h => h) (by assumption) (Or.inl ⟨by rfl, ?_⟩) ?_
      rotate_left
      · intro w hSw
        (try dsimp only at hSw)
        go_simp
        try with_reducible rfl
      simp only [List.setIfInBounds_toArray, List.set_cons_zero, List.set_cons_succ]
      refine takeD (i := 6) (v := ?_) 8 rfl rfl (by kernel_rfl) (by kernel_rfl) (by kernel_rfl) (fun _ _ _ h => h) (by assumption) (Or.inl ⟨by rfl, ?_⟩) ?_
      rotate_left
      · intro w hSw
        (try dsimp only at hSw)
        go_simp
        try with_reducible rfl
      simp only [List.setIfInBounds_toArray, List.set_cons_zero, List.set_cons_succ]
      refine wpAnyH_done (by kernel_rfl) ?_ _
      clear hHeld
      dsimp only [OnlyN]
      gi_wp2
      (try rw [Exit.noGoto_ret])
      refine ⟨by simp, .inl ⟨_, _, rfl, run_takeDeferred HDF.out, ?_⟩⟩
      have hg : Grow W2.heap.size V (V.drew.putObj D (.deferred none)) := (Grow.below hdr2 _).trans (Grow.put (m := W2.heap.size) (A := V.drew) (.deferred none) hD HDF.out rfl)
      refine ⟨.tuple #[.int .i64 y.n, .int .i64 kk, .int .i64 er], by simp [results, Tryd.results18, go_sem], ?_⟩
      have HB2 := hid (HBO.out.grow hwz2 hg HO.out)
      rw [HRES.out, HF.out]
      exact ⟨rfl, HB2.out.wr.sp, HB2.out.mv⟩
end Go.Proofs.YtdampfngdnicoaaDoor
