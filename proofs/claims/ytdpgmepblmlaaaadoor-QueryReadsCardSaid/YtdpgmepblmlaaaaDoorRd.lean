/-
  What a loop over the fields collects: a row in a box, and data apart from it.
-/
import Derived.Test.YtdpgmepblmlaaaaDoorRc
namespace Go.Proofs.YtdpgmepblmlaaaaDoor
open Go.RowKit Go.Lib Go.Deep Go.Shelf
attribute [local go_sem] Oper.semAt_some

/-- A field and where its data lie. -/
structure SfV where
  d : SfD
  tv : Value
def sfC (x : SfV) : List Value := [.int .u8 x.d.id, x.tv]
def cellsS (xs : List SfV) : List Value := xs.flatMap sfC
theorem cellsS_append (a b : List SfV) : cellsS (a ++ b) = cellsS a ++ cellsS b := by simp [cellsS]
theorem cellsS_length (xs : List SfV) : (cellsS xs).length = xs.length * 2 := by
  induction xs with
  | nil => rfl
  | cons p ps ih => simp [cellsS, sfC] at ih ⊢; omega
theorem cellsS_at (xs : List SfV) (i : Nat) (h : i < xs.length) (j : Nat) (hj : j < 2) : (cellsS xs)[i * 2 + j]? = (sfC xs[i])[j]? := by
  have e : xs = xs.take i ++ xs[i] :: xs.drop (i + 1) := by rw [List.getElem_cons_drop, List.take_append_drop]
  have hl : (cellsS (xs.take i)).length = i * 2 := by rw [cellsS_length, List.length_take]; congr 1; omega
  conv => lhs; rw [e, cellsS_append]
  rw [List.getElem?_append_right (by omega), hl, Nat.add_sub_cancel_left]
  show (sfC _ ++ cellsS _)[j]? = _
  rw [List.getElem?_append_left (by simpa [sfC] using hj)]
theorem own_apart {w : World} {B B' : Nat} {t t' : TypeId} {sz sz' n n' : Nat} {v v' : Value} {cs cs' : List Value} (h : w.ownsRow B t sz v n cs) (k : w.ownsRow B' t' sz' v' n' cs') (ht : t ≠ t') : ∀ b ∈ blkV v, b ∉ blkV v' := fun b hb hb' => by
  rcases h.2 with ⟨rfl, _⟩ | ⟨g, cap, cur, rfl, _, hg, _⟩
  · cases hb
  rcases k.2 with ⟨rfl, _⟩ | ⟨g', cap', cur', rfl, _, hg', _⟩
  · cases hb'
  have e : g = b := by simpa [mem_blkV, Value.ownBlock] using hb
  have e' : g' = b := by simpa [mem_blkV, Value.ownBlock] using hb'
  subst e e'
  rw [hg] at hg'
  injection hg' with q
  injection q with _ q _
  exact ht q
theorem moved_grow {m : Nat} {w1 A C : World} {S : List Nat} (h : Moved w1 A S S) (k : Grow m A C) (hm : w1.heap.size ≤ m) : Moved w1 C S S :=
  ⟨k.os.trans h.os, k.tape.trans h.tape, k.output.trans h.output, Nat.le_trans h.size k.size, fun i hi hs => by
    have hi2 : i < A.heap.size := Nat.lt_of_lt_of_le hi h.size
    rw [k.block i _ (Array.getElem?_eq_getElem hi2) (.inl (Nat.lt_of_lt_of_le hi hm)), ← Array.getElem?_eq_getElem hi2]
    exact h.block i hi hs, fun _ q => .inl q⟩
/-- The box ob holds a slice that owns these cells; but for it what was there ahead of the loop is as it was. -/
structure ColM (w1 : World) (ob : Nat) (t : TypeId) (sz : Nat) (cs : List Value) (n : Nat) (S : List Nat) (V : World) : Prop where
  ex : ∃ v, Bx1 V ob v ∧ V.ownsRow 0 t sz v n cs ∧ S = blkV v
  ms : ∀ k ∈ S, w1.heap.size ≤ k
  mv : Moved w1 V [ob] [ob]
  lt : ob < w1.heap.size
section
variable {w1 : World} {ob : Nat} {t : TypeId} {sz n : Nat} {cs : List Value} {S : List Nat} {V : World}
theorem ColM.start (w1 : World) (ob : Nat) (t : TypeId) (sz : Nat) (h : Bx1 w1 ob (.slice none 0 0)) : ColM w1 ob t sz [] 0 [] w1 := ⟨⟨_, h, World.ownsRow_nil _ _ _ _, rfl⟩, fun _ q => (by cases q), Moved.refl _ _, World.block_lt_of_cell? w1 _ h.1⟩
theorem ColM.grow {m : Nat} {B : World} (h : ColM w1 ob t sz cs n S V) (k : Grow m V B) (hm : w1.heap.size ≤ m) : ColM w1 ob t sz cs n S B := by
  obtain ⟨⟨v, h1, h2, h3⟩, h4, h5, h6⟩ := h
  exact ⟨⟨v, h1.grow k, own_grow h2 k, h3⟩, h4, moved_grow h5 k hm, h6⟩
theorem ColM.step (h : ColM w1 ob t sz cs n S V) {v v' : Value} {o : Obj} {W1 : World} {news : List Value} {k : Nat} (hv : V.cell? ⟨ob, 0, none⟩ = some v) (hown : W1.ownsRow 0 t sz v' (n + k) (cs ++ news)) (hg : (V.alloc o).grownBy W1 v.ownBlock) (hb : ∀ k ∈ blkV v', k ∈ blkV v ∨ (V.alloc o).heap.size ≤ k) :
    Bx1 W1 ob v ∧ ob < W1.heap.size ∧ ColM w1 ob t sz (cs ++ news) (n + k) (blkV v') (W1.setCell ⟨ob, 0, none⟩ v') ∧ Touch w1.heap.size V (W1.setCell ⟨ob, 0, none⟩ v') S (blkV v') ∧ ∀ t' sz' u m cs', t' ≠ t → (∀ b ∈ blkV u, w1.heap.size ≤ b) → V.ownsRow 0 t' sz' u m cs' → (W1.setCell ⟨ob, 0, none⟩ v').ownsRow 0 t' sz' u m cs' := by
  obtain ⟨⟨v0, ⟨h1, h2⟩, h3, h4⟩, h5, h6, h7⟩ := h
  rw [hv] at h1
  cases h1
  subst h4
  have hlt := World.block_lt_of_cell? V _ hv
  have hz : V.heap.size ≤ W1.heap.size := Nat.le_trans (by simp) hg.size
  have hsame : ∀ i, i < V.heap.size → i ∉ blkV v → W1.heap[i]? = V.heap[i]? := fun i hi hs => (hg.block i (by simp; omega) (fun e => hs (mem_blkV.2 e.symm))).trans (Below.heap_alloc _ _ _ hi)
  have hobS : ob ∉ blkV v := fun q => by have := h5 _ q; omega
  have c1 : W1.cell? ⟨ob, 0, none⟩ = some v := (World.cell?_of_block (a := ⟨ob, 0, none⟩) (hsame ob hlt hobS)).trans hv
  have f1 : W1.frozen? ⟨ob, 0, none⟩ = false := (World.frozen?_of_block (a := ⟨ob, 0, none⟩) (hsame ob hlt hobS)).trans h2
  have hmz := h6.size
  have hms : ∀ k ∈ blkV v', w1.heap.size ≤ k := fun k hk => by
    rcases hb k hk with q | q
    · exact h5 k q
    · simp at q; omega
  have hset : ∀ i, i ≠ ob → (W1.setCell ⟨ob, 0, none⟩ v').heap[i]? = W1.heap[i]? := fun i hi => Go.heap_setCell_other W1 ⟨ob, 0, none⟩ i v' hi
  refine ⟨⟨c1, f1⟩, by omega, ⟨⟨v', ⟨sc_same c1, by rw [World.frozen?_setCell]; exact f1⟩, own_block hown fun i hi => hset i (fun e => by have := hms i hi; omega), rfl⟩, hms, ⟨?_, ?_, ?_, ?_, fun i hi hs => ?_, fun _ q => .inl q⟩, h7⟩, ⟨by simp [World.setCell]; omega, fun i hm hi hs => (hset i (by omega)).trans (hsame i hi hs), fun i hi => ?_⟩, fun t' sz' u m cs' ht hu ho => own_block ho fun b hbu => ?_⟩
  · exact (show W1.os = _ from hg.os.trans h6.os)
  · exact (show W1.tape = _ from hg.tape.trans h6.tape)
  · exact (show W1.output = _ from hg.output.trans h6.output)
  · simp [World.setCell]; omega
  · rw [hset i (fun e => hs (by rw [e]; exact List.mem_singleton_self _)), hsame i (by omega) (fun q => by have := h5 _ q; omega)]
    exact h6.block i hi hs
  · rcases hb i hi with q | q
    · exact .inl q
    · simp at q; exact .inr (by omega)
  · rw [hset b (fun e => by have := hu b hbu; omega)]
    exact hsame b (own_lt ho b hbu) (fun q => own_apart ho h3 ht b hbu q)
end
/-- Data that lie behind the loop's beginning. -/
def DatS (m : Nat) (V : World) (xs : List SfV) : Prop := ∀ x ∈ xs, OwnB V x.tv x.d.data ∧ ∀ b ∈ blkV x.tv, m ≤ b
theorem DatS.nil (m : Nat) (V : World) : DatS m V [] := fun _ h => (by cases h)
theorem ownB_grow {m : Nat} {A B : World} {v : Value} {xs : List Int} (h : OwnB A v xs) (k : Grow m A B) : OwnB B v xs := ⟨h.1, own_grow h.2 k⟩
theorem DatS.grow {m m' : Nat} {A B : World} {xs : List SfV} (h : DatS m A xs) (k : Grow m' A B) : DatS m B xs := fun x hx => ⟨ownB_grow (h x hx).1 k, (h x hx).2⟩
theorem DatS.snoc {m : Nat} {V : World} {xs : List SfV} {x : SfV} (h : DatS m V xs) (h1 : OwnB V x.tv x.d.data) (h2 : ∀ b ∈ blkV x.tv, m ≤ b) : DatS m V (xs ++ [x]) := fun y hy => by
  rcases List.mem_append.1 hy with hy | hy
  · exact h y hy
  · rw [List.mem_singleton.1 hy]
    exact ⟨h1, h2⟩
theorem elS.grow {zs : List Int} {B m k : Nat} {x : XS} {V V' : World} (h : elS zs B k x V) (g : Grow m V V') : elS zs B k x V' := ⟨h.1, ownB_grow h.2.1 g, h.2.2⟩
/-- Fields of one's own: a row, and apart from it their data. -/
structure SfM (t : TypeId) (w : World) (v : Value) (xs : List SfV) : Prop where
  row : w.ownsRow 0 t 2 v xs.length (cellsS xs)
  txt : ∀ x ∈ xs, OwnB w x.tv x.d.data
theorem SfM.step {t : TypeId} {w w' : World} {v : Value} {xs : List SfV} (h : SfM t w v xs) (hb : Below w.heap.size w w') : SfM t w' v xs :=
  ⟨own_moved h.row (Moved.below hb []) (fun _ _ q => by cases q), fun x hx => (h.txt x hx).step hb⟩
theorem SfM.nil (t : TypeId) (w : World) : SfM t w (.slice none 0 0) [] := ⟨World.ownsRow_nil _ _ _ _, fun _ h => (by cases h)⟩
theorem SfM.at {t : TypeId} {w : World} {v : Value} {xs : List SfV} (h : SfM t w v xs) : ∃ x cap, v = .slice x xs.length cap ∧ xs.length ≤ cap ∧ cap ≤ 9223372036854775807 ∧ ∀ i (hi : i < xs.length), ∃ g, x = some ⟨g, 0, none⟩ ∧ g < w.heap.size ∧ w.cell? ⟨g, i * 2, none⟩ = some (.int .u8 xs[i].d.id) ∧ w.cell? ⟨g, i * 2 + 1, none⟩ = some xs[i].tv := by
  rcases h.row.2 with ⟨rfl, e⟩ | ⟨g, cap, cur, rfl, hg, hh, h1, h2, h3, h4⟩
  · have hx : xs = [] := List.length_eq_zero_iff.1 e
    subst hx
    exact ⟨none, 0, rfl, Nat.le_refl _, by omega, fun i hi => absurd hi (Nat.not_lt_zero i)⟩
  · refine ⟨some ⟨g, 0, none⟩, cap, rfl, h1, by unfold maxLen at h2; omega, fun i hi => ⟨g, rfl, own_lt h.row g (by simp [blkV, Value.ownBlock]), ?_, ?_⟩⟩
    · have := World.ownsRow.cellAt h.row (i * 2) (by omega)
      rw [this, show i * 2 = i * 2 + 0 from rfl, cellsS_at xs i hi 0 (by omega)]
      rfl
    · rw [World.ownsRow.cellAt h.row (i * 2 + 1) (by omega), cellsS_at xs i hi 1 (by omega)]
      rfl
theorem news_two (W : World) (x0 x1 : Value) (t : TypeId) (b : Nat) (hb : b = W.heap.size) : ∀ j u, [x0, x1][j]? = some u → (W.alloc (.cells #[x0, x1] t)).cell? ((⟨b, 0, none⟩ : Addr).add j) = some u := by
  intro j u hu
  subst hb
  rw [addr_add, Nat.zero_add, cell_of_row _ W.heap.size j #[x0, x1] t (0, 0) (heap_alloc_new W _)]
  simpa using hu
theorem one_sfC (x : SfV) (ht : x.tv.oneCell' = true) : ∀ u ∈ sfC x, u.oneCell' = true := by
  intro u hu
  simp only [sfC, List.mem_cons, List.not_mem_nil, or_false] at hu
  rcases hu with rfl | rfl
  · rfl
  · exact ht
theorem told_split {zs : List Int} {k : Nat} {d : SfD} {er : Int} (h : (toldS zs)[k]? = some (d, er)) : (er = 0 ∧ (sfA zs).1[k]? = some d ∧ k < (sfA zs).1.length) ∨ (er ≠ 0 ∧ k = (sfA zs).1.length ∧ (sfA zs).2 = er) := by
  by_cases hk : k < (sfA zs).1.length
  · left
    have e : (sfA zs).1[k]? = some (sfA zs).1[k] := List.getElem?_eq_getElem hk
    have := told_good e
    rw [this] at h
    injection h with h
    injection h with h1 h2
    exact ⟨h2.symm, by rw [e, h1], hk⟩
  · right
    have hl := (List.getElem?_eq_some_iff.1 h).1
    by_cases he : (sfA zs).2 = 0
    · rw [told_all he] at hl
      exact absurd hl hk
    · have hb := told_bad he
      rw [hb.2] at hl
      obtain rfl : k = (sfA zs).1.length := by omega
      rw [hb.1] at h
      injection h with h
      injection h with h1 h2
      exact ⟨by rw [← h2]; exact he, rfl, h2⟩
theorem told_end {zs : List Int} (h : (toldS zs).length ≤ (sfA zs).1.length) : (toldS zs).length = (sfA zs).1.length ∧ (sfA zs).2 = 0 := by
  by_cases he : (sfA zs).2 = 0
  · exact ⟨told_all he, he⟩
  · rw [(told_bad he).2] at h
    omega
theorem infoFp : (Tryd.prog.info? 35).map (fun i => (i.zero, i.size, i.bytes)) = some (some (.agg #[.int .u8 0, .slice none 0 0]), 2, 32) := by kernel_rfl
theorem infoFr : (Tryd.prog.info? 36).map (fun i => (i.zero, i.size, i.bytes)) = some (some (.agg #[.int .u8 0, .slice none 0 0]), 2, 32) := by kernel_rfl
end Go.Proofs.YtdpgmepblmlaaaaDoor
