/-
  Bytes that are made one behind the other; a terminal's end in memory.
-/
import Derived.Test.YtdpfjbpfafekfaaNb
import Derived.Lib.AppendStr
namespace Go.Proofs.Ytdpfjbpfafekfaa
open Go.RowKit Go.Lib

/-- A string's bytes. -/
def strL (s : ByteArray) : List Int := s.data.toList.map fun b => (b.toNat : Int)
theorem strL_length (s : ByteArray) : (strL s).length = s.size := by
  unfold strL
  rw [List.length_map, Array.length_toList]
  rfl
theorem strL_cells (s : ByteArray) : strCells s = (strL s).map (Value.int .u8) := by
  unfold strL strCells
  rw [List.map_map]
  rfl
theorem strL_byte (s : ByteArray) : ∀ x ∈ strL s, 0 ≤ x ∧ x < 256 := fun x hx => by
  unfold strL at hx
  obtain ⟨b, _, rfl⟩ := List.mem_map.1 hx
  have := b.toNat_lt
  omega
/-- Bytes of one's own, made since a world. -/
def Fresh (w0 w : World) (v : Value) (xs : List Int) : Prop := OwnB w v xs ∧ Below w0.heap.size w0 w ∧ ∀ k ∈ blkV v, w0.heap.size ≤ k
theorem Fresh.owns {w0 w : World} {v : Value} {xs : List Int} (h : Fresh w0 w v xs) : w.ownsRow w0.heap.size 5 1 v xs.length (xs.map (Value.int .u8)) := by
  refine ⟨h.1.2.1, ?_⟩
  rcases h.1.2.2 with h1 | ⟨g, cap, cur, rfl, hg, rest⟩
  · exact .inl h1
  · exact .inr ⟨g, cap, cur, rfl, h.2.2 g (by simp [blkV, Value.ownBlock]), rest⟩
theorem Fresh.lit (w : World) (cs : Array Value) (n : Nat) (xs : List Int) (hb : ∀ x ∈ xs, 0 ≤ x ∧ x < 256) (hc : cs.toList = xs.map (Value.int .u8)) (hn : n = xs.length) (hl : n ≤ 1000) (b : Nat) (hbk : b = w.heap.size) : Fresh w (w.alloc (.cells cs 5)) (.slice (some ⟨b, 0, none⟩) n n) xs :=
  ⟨own_lit w cs n xs hb hc hn hl b hbk, bal (Below.refl _ _) _, blk_lit w b n n (by omega)⟩
theorem Fresh.step {w0 w w' : World} {v : Value} {xs : List Int} (h : Fresh w0 w v xs) (hb : Below w.heap.size w w') : Fresh w0 w' v xs := ⟨h.1.step hb, below_t h.2.1 hb, h.2.2⟩
theorem Fresh.since {w0 w1 w : World} {v : Value} {xs : List Int} (h : Fresh w1 w v xs) (hb : Below w0.heap.size w0 w1) : Fresh w0 w v xs := ⟨h.1, below_t hb h.2.1, fun k hk => Nat.le_trans hb.size (h.2.2 k hk)⟩
theorem Fresh.slice {w0 w : World} {v : Value} {xs : List Int} (h : Fresh w0 w v xs) : ∃ x c, v = .slice x xs.length c := own_len h.1 _ rfl
theorem Fresh.done {w0 w : World} {v : Value} {xs : List Int} (h : Fresh w0 w v xs) : OwnDone xs w0 (.returned v) w := ⟨v, rfl, h.1, h.2.1, h.2.2⟩
section
variable {w0 w : World} {v : Value} {xs : List Int}
theorem fresh_grown {w' : World} {v' : Value} {ys : List Int} (h : Fresh w0 w v xs) (hy : ∀ y ∈ ys, 0 ≤ y ∧ y < 256) (hown : w'.ownsRow w0.heap.size 5 1 v' (xs.length + ys.length) (xs.map (Value.int .u8) ++ ys.map (Value.int .u8))) (hg : w.grownBy w' v.ownBlock) : Fresh w0 w' v' (xs ++ ys) := by
  refine ⟨⟨fun x hx => ?_, ?_⟩, h.2.1.grown hg h.2.1.size (fun k hk => h.2.2 k (mem_blkV.2 hk)), fun k hk => (hown.lt k (mem_blkV.1 hk)).1⟩
  · rcases List.mem_append.1 hx with h1 | h1
    · exact h.1.1 x h1
    · exact hy x h1
  · rw [List.length_append, List.map_append]
    exact hown.mono (Nat.zero_le _)
/-- A string's bytes behind. -/
theorem wpList_append_str {ops : Array Oper} {rest : List Oper} {o : Oper} {a : Act} {Q : Exit → Act → World → Prop} (hgd : o.guard = none) (sl x : Operand)
    (ho : o.op = .call { callee := .builtin .append, args := #[sl, x], argTypes := #[22, 9] }) (hs : a.eval sl = v) (hF : Fresh w0 w v xs) (s : ByteArray) (hx : a.eval x = .string s)
    (hl : xs.length + s.size ≤ 1000000) (h : ∀ x' c' w', Fresh w0 w' (.slice x' (xs.length + s.size) c') (xs ++ strL s) → wpList Try.prog ops Q rest (a.put o.dst (.slice x' (xs.length + s.size) c')) w') : wpList Try.prog ops Q (o :: rest) a w := by
  obtain ⟨i0, hi, hz0, hz1, hz2⟩ := info_parts info5
  refine wpList_append_own_string w hgd sl x 22 9 ho w0.heap.size 5 i0 Try.underlying22 Try.underlying9 hi hz0 hz1 hz2 v xs.length _ hs hF.owns s hx (by unfold maxLen; omega) (by omega) hF.2.1.size ?_
  intro v' w' hown hg _
  rw [strL_cells] at hown
  have hF' := fresh_grown hF (strL_byte s) (by rw [strL_length]; exact hown) hg
  obtain ⟨x', c', e⟩ := hF'.slice
  rw [List.length_append, strL_length] at e
  subst e
  exact h x' c' w' hF'
/-- Bytes behind. -/
theorem wpList_append_rd {ops : Array Oper} {rest : List Oper} {o : Oper} {a : Act} {Q : Exit → Act → World → Prop} (hgd : o.guard = none) (sl x : Operand)
    (ho : o.op = .call { callee := .builtin .append, args := #[sl, x], argTypes := #[22, 22] }) (hs : a.eval sl = v) (hF : Fresh w0 w v xs) (y : Value) (ys : List Int) (hx : a.eval x = y) (hr : Reads w y ys)
    (hl : xs.length + ys.length ≤ 1000000) (h : ∀ x' c' w', Fresh w0 w' (.slice x' (xs.length + ys.length) c') (xs ++ ys) → wpList Try.prog ops Q rest (a.put o.dst (.slice x' (xs.length + ys.length) c')) w') : wpList Try.prog ops Q (o :: rest) a w := by
  obtain ⟨i0, hi, hz0, hz1, hz2⟩ := info_parts info5
  have hr' := hr
  rcases hr.2 with ⟨rfl, rfl⟩ | ⟨b, cap, rfl, h1, h2, h3⟩
  · refine wpList_append_own_none hgd sl x 22 ho w0.heap.size 5 i0 1 Try.underlying22 hi v xs.length _ hs hF.owns hx ?_
    obtain ⟨x', c', e⟩ := hF.slice
    subst e
    have := h x' c' w
    simp only [List.length_nil, Nat.add_zero, List.append_nil] at this
    exact this hF
  · refine wpList_append_own w hgd sl x 22 ho w0.heap.size 5 i0 (.int .u8 0) 1 1 Try.underlying22 hi hz0 hz1 hz2 rfl (by decide) v xs.length _ hs hF.owns b ys.length cap (ys.map (Value.int .u8)) hx (by simp) (reads_src hr').2 (ints_oneCell .u8 _) (by unfold maxLen; omega) (by omega) hF.2.1.size ?_
    intro v' w' hown hg _
    have hF' := fresh_grown hF hr'.1 hown hg
    obtain ⟨x', c', e⟩ := hF'.slice
    rw [List.length_append] at e
    subst e
    exact h x' c' w' hF'
end
/-- A terminal's end in memory (the program's, or the reference's: both have the same cells). -/
structure EndM (w : World) (g : Nat) (sv av : Value) (T D : ByteArray) (fs : List Int) (st : Int) (dev : ByteArray) (ag : List Int) : Prop where
  c0 : w.cell? ⟨g, 0, none⟩ = some (.string T)
  c1 : w.cell? ⟨g, 1, none⟩ = some (.string D)
  c2 : w.cell? ⟨g, 2, none⟩ = some sv
  c3 : w.cell? ⟨g, 3, none⟩ = some (.int .i64 st)
  c4 : w.cell? ⟨g, 4, none⟩ = some (.string dev)
  c5 : w.cell? ⟨g, 5, none⟩ = some av
  fr : ∀ i, i < 6 → w.frozen? ⟨g, i, none⟩ = false
  rs : OwnB w sv fs
  ra : OwnB w av ag
  ns : g ∉ blkV sv
  na : g ∉ blkV av
section
variable {w : World} {g : Nat} {sv av : Value} {T D : ByteArray} {fs : List Int} {st : Int} {dev : ByteArray} {ag : List Int}
theorem EndM.lt (h : EndM w g sv av T D fs st dev ag) : g < w.heap.size := World.block_lt_of_cell? w _ h.c0
theorem frozen_moved {w w' : World} {S S' : List Nat} (m : Moved w w' S S') {a : Addr} (hl : a.block < w.heap.size) (hs : a.block ∉ S) : w'.frozen? a = w.frozen? a := World.frozen?_of_block (m.block _ hl hs)
theorem EndM.moved {w' : World} {S S' : List Nat} (h : EndM w g sv av T D fs st dev ag) (m : Moved w w' S S') (hg : g ∉ S) (hs : ∀ k ∈ blkV sv, k ∉ S) (ha : ∀ k ∈ blkV av, k ∉ S) : EndM w' g sv av T D fs st dev ag :=
  ⟨cell_moved m h.c0 hg, cell_moved m h.c1 hg, cell_moved m h.c2 hg, cell_moved m h.c3 hg, cell_moved m h.c4 hg, cell_moved m h.c5 hg, fun i hi => (frozen_moved m (a := ⟨g, i, none⟩) h.lt hg).trans (h.fr i hi), h.rs.moved m hs, h.ra.moved m ha, h.ns, h.na⟩
theorem EndM.step {w' : World} (h : EndM w g sv av T D fs st dev ag) (hb : Below w.heap.size w w') : EndM w' g sv av T D fs st dev ag := h.moved (Moved.below hb []) (fun q => by cases q) (fun _ _ q => by cases q) (fun _ _ q => by cases q)
theorem set_other {i j : Nat} (hij : j ≠ i) {u x : Value} (c : w.cell? ⟨g, j, none⟩ = some u) : (w.setCell ⟨g, i, none⟩ x).cell? ⟨g, j, none⟩ = some u := by
  rw [World.cell?_setCell_other _ _ _ _ (fun q => by injection q; omega)]
  exact c
theorem set_moved (w : World) (g i : Nat) (x : Value) : Moved w (w.setCell ⟨g, i, none⟩ x) [g] [g] := Moved.set (by simp) i x
theorem EndM.set3 (h : EndM w g sv av T D fs st dev ag) (s' : Int) : EndM (w.setCell ⟨g, 3, none⟩ (.int .i64 s')) g sv av T D fs s' dev ag :=
  ⟨set_other (by omega) h.c0, set_other (by omega) h.c1, set_other (by omega) h.c2, World.cell?_setCell_same _ _ _ h.c3, set_other (by omega) h.c4, set_other (by omega) h.c5, fun i hi => by rw [World.frozen?_setCell]; exact h.fr i hi,
    h.rs.moved (set_moved w g 3 _) (fun k hk q => h.ns (by rw [← List.mem_singleton.1 q]; exact hk)), h.ra.moved (set_moved w g 3 _) (fun k hk q => h.na (by rw [← List.mem_singleton.1 q]; exact hk)), h.ns, h.na⟩
theorem EndM.set4 (h : EndM w g sv av T D fs st dev ag) (d' : ByteArray) : EndM (w.setCell ⟨g, 4, none⟩ (.string d')) g sv av T D fs st d' ag :=
  ⟨set_other (by omega) h.c0, set_other (by omega) h.c1, set_other (by omega) h.c2, set_other (by omega) h.c3, World.cell?_setCell_same _ _ _ h.c4, set_other (by omega) h.c5, fun i hi => by rw [World.frozen?_setCell]; exact h.fr i hi,
    h.rs.moved (set_moved w g 4 _) (fun k hk q => h.ns (by rw [← List.mem_singleton.1 q]; exact hk)), h.ra.moved (set_moved w g 4 _) (fun k hk q => h.na (by rw [← List.mem_singleton.1 q]; exact hk)), h.ns, h.na⟩
theorem EndM.set5 {av' : Value} {ag' : List Int} (h : EndM w g sv av T D fs st dev ag) (ho : OwnB w av' ag') (hn : g ∉ blkV av') : EndM (w.setCell ⟨g, 5, none⟩ av') g sv av' T D fs st dev ag' :=
  ⟨set_other (by omega) h.c0, set_other (by omega) h.c1, set_other (by omega) h.c2, set_other (by omega) h.c3, set_other (by omega) h.c4, World.cell?_setCell_same _ _ _ h.c5, fun i hi => by rw [World.frozen?_setCell]; exact h.fr i hi,
    h.rs.moved (set_moved w g 5 _) (fun k hk q => h.ns (by rw [← List.mem_singleton.1 q]; exact hk)), ho.moved (set_moved w g 5 _) (fun k hk q => hn (by rw [← List.mem_singleton.1 q]; exact hk)), h.ns, hn⟩
theorem EndM.set5n (h : EndM w g sv av T D fs st dev ag) : EndM (w.setCell ⟨g, 5, none⟩ (.slice none 0 0)) g sv (.slice none 0 0) T D fs st dev [] := h.set5 (OwnB.nil w) (fun q => by cases q)
end
end Go.Proofs.Ytdpfjbpfafekfaa
