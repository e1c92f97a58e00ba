/-
  Pieces of bytes; what is put behind what goes out.
-/
import Derived.Test.YtdbjjieoohfckaaDoorGc
namespace Go.Proofs.YtdbjjieoohfckaaDoor
open Go.RowKit Go.Lib

theorem run_to {w : World} {p : Value} {xs : List Int} (hr : Reads w p xs) (n : Nat) (hn : n ≤ xs.length) : ∃ q, (Instr.sliceAt 24 p none (some (.int .i64 n)) none).run Tryd.prog w = .ok q w ∧ Reads w q (xs.take n) ∧ ∀ k ∈ blkV q, k ∈ blkV p := by
  obtain ⟨hb, ⟨rfl, rfl⟩ | ⟨a, cap, rfl, h1, h2, h3⟩⟩ := hr
  · have : n = 0 := by simpa using hn
    subst this
    refine ⟨.slice none 0 0, ?_, reads_nil w, fun k hk => hk⟩
    simp [Instr.sliceAt, Instr.slice, run_underlying Tryd.underlying24, Instr.sliceBounds, Instr.sliceBound, asIntOf]
  · refine ⟨.slice (some a) n cap, ?_, reads_take ⟨hb, .inr ⟨a, cap, rfl, h1, h2, h3⟩⟩ rfl n hn, fun k hk => hk⟩
    have hnc : n ≤ cap := by omega
    simp [Instr.sliceAt, Instr.slice, run_underlying Tryd.underlying24, Instr.sliceBounds, Instr.sliceBound, asIntOf, hnc]
    intro _
    simp [Addr.add]
theorem run_from {w : World} {p : Value} {xs : List Int} (hr : Reads w p xs) (n : Nat) (hn : n ≤ xs.length) : ∃ q, (Instr.sliceAt 24 p (some (.int .i64 n)) none none).run Tryd.prog w = .ok q w ∧ Reads w q (xs.drop n) ∧ ∀ k ∈ blkV q, k ∈ blkV p := by
  obtain ⟨hb, ⟨rfl, rfl⟩ | ⟨a, cap, rfl, h1, h2, h3⟩⟩ := hr
  · have : n = 0 := by simpa using hn
    subst this
    refine ⟨.slice none 0 0, ?_, reads_nil w, fun k hk => hk⟩
    simp [Instr.sliceAt, Instr.slice, run_underlying Tryd.underlying24, Instr.sliceBounds, Instr.sliceBound, asIntOf]
  · have hlen : (xs.drop n).length = xs.length - n := List.length_drop
    refine ⟨.slice (some (if cap = n then a else a.add n)) (xs.length - n) (cap - n), ?_, ⟨fun y hy => hb y (List.mem_of_mem_drop hy), .inr ⟨_, cap - n, by rw [hlen], by omega, by omega, fun i hi => ?_⟩⟩, fun k hk => ?_⟩
    · simp [Instr.sliceAt, Instr.slice, run_underlying Tryd.underlying24, Instr.sliceBounds, Instr.sliceBound, asIntOf, hn]
      split <;> rfl
    · rw [hlen] at hi
      rw [if_neg (by omega)]
      have c0 := h3 0 (by omega)
      obtain ⟨g, off, spot⟩ := a
      obtain rfl : spot = none := by simpa [Addr.add] using World.cell?_spot c0
      have c := h3 (n + i) (by omega)
      rw [addr_add] at c
      rw [addr_add, addr_add, Nat.add_assoc, c, List.getD, List.getD, List.getElem?_drop]
    · rw [mem_blkV] at hk ⊢
      have e : (a.add n).block = a.block := by unfold Addr.add; split <;> rfl
      by_cases hc : cap = n
      · rw [if_pos hc] at hk; exact hk
      · rw [if_neg hc] at hk
        simpa [Value.ownBlock, e] using hk
section
variable (w : World) {ops : Array Oper} {rest : List Oper} {o : Oper} {a : Act} {Q : Exit → Act → World → Prop}
theorem wpList_to (hg : o.guard = none) (x h : Operand) (hop : o.op = Op.slice 24 x none (some h) none) (p : Value) (xs : List Int) (n : Nat) (hx : a.eval x = p) (hh : a.eval h = .int .i64 n) (hr : Reads w p xs) (hn : n ≤ xs.length)
    (hK : ∀ q, Reads w q (xs.take n) → (∀ k ∈ blkV q, k ∈ blkV p) → wpList Tryd.prog ops Q rest (a.put o.dst q) w) : wpList Tryd.prog ops Q (o :: rest) a w := by
  refine wpList_plain hg fun K hK' => ?_
  obtain ⟨q, hrun, h1, h2⟩ := run_to hr n hn
  unfold Oper.wp
  simp [execOp, hop, hx, hh, hrun, Result.andThen]
  exact hK' _ _ (hK q h1 h2)
theorem wpList_from (hg : o.guard = none) (x h : Operand) (hop : o.op = Op.slice 24 x (some h) none none) (p : Value) (xs : List Int) (n : Nat) (hx : a.eval x = p) (hh : a.eval h = .int .i64 n) (hr : Reads w p xs) (hn : n ≤ xs.length)
    (hK : ∀ q, Reads w q (xs.drop n) → (∀ k ∈ blkV q, k ∈ blkV p) → wpList Tryd.prog ops Q rest (a.put o.dst q) w) : wpList Tryd.prog ops Q (o :: rest) a w := by
  refine wpList_plain hg fun K hK' => ?_
  obtain ⟨q, hrun, h1, h2⟩ := run_from hr n hn
  unfold Oper.wp
  simp [execOp, hop, hx, hh, hrun, Result.andThen]
  exact hK' _ _ (hK q h1 h2)
/-- Events behind events. -/
theorem wpList_append_row (hgd : o.guard = none) (s x : Operand) (t : TypeId) (ho : o.op = .call { callee := .builtin .append, args := #[s, x], argTypes := #[t, t] })
    (e : TypeId) (i : TypeInfo) (z : Value) (size bytes : Nat) (ht : Tryd.prog.underlying t = some (.slice e)) (hi : Tryd.prog.info? e = some i) (hz : i.zero = some z)
    (hsize : i.size = size) (hby : i.bytes = bytes) (hzs : z.cells.size = size) (hsz : 0 < size)
    (v : Value) (n : Nat) (cs : List Value) (hs : a.eval s = v) (hown : w.ownsRow 0 e size v n cs)
    (u : Value) (m : Nat) (ds : List Value) (hx : a.eval x = u) (hsrc : w.ownsRow 0 e size u m ds) (h1 : ∀ c ∈ ds, c.oneCell' = true)
    (h63 : n + m ≤ maxLen) (hbytes : (n + m) * bytes ≤ 140737488355328)
    (h : ∀ v' w', w'.ownsRow 0 e size v' (n + m) (cs ++ ds) → w.grownBy w' v.ownBlock → (∀ k ∈ blkV v', k ∈ blkV v ∨ w.heap.size ≤ k) → wpList Tryd.prog ops Q rest (a.put o.dst v') w') : wpList Tryd.prog ops Q (o :: rest) a w := by
  rcases hsrc.2 with ⟨rfl, rfl⟩ | ⟨g, cap, cur, rfl, _⟩
  · have hd : ds = [] := List.eq_nil_of_length_eq_zero (by simpa using hsrc.1)
    subst hd
    refine wpList_append_own_none hgd s x t ho 0 e i size ht hi v n cs hs hown hx (h v w ?_ (World.grownBy.refl _ _) (fun k hk => .inl hk))
    rw [List.append_nil]
    exact hown
  · exact wpList_append_blk w hgd s x t ho e i z size bytes ht hi hz hsize hby hzs hsz v n cs hs hown ⟨g, 0, none⟩ m cap ds hx hsrc.1 (hsrc.cells rfl) h1 h63 hbytes (fun v' w' a1 a2 _ a4 => h v' w' a1 a2 a4)
end
theorem one_cellsE {w : World} {xs : List (Ev × Value)} (h : ∀ x ∈ xs, Reads w x.2 x.1.data) : ∀ u ∈ cellsE xs, u.oneCell' = true := by
  intro u hu
  obtain ⟨x, hx, hu⟩ := List.mem_flatMap.1 hu
  exact one_evC x.1 x.2 (reads_one (h x hx)) u hu
/-- What goes out: events whose data others may hold, apart from the reader. -/
structure OutL (w : World) (B R : Nat) (d s : Value) (ys : List (Ev × Value)) : Prop where
  row : w.ownsRow 0 34 6 s ys.length (cellsE ys)
  data : ∀ y ∈ ys, Reads w y.2 y.1.data
  new : ∀ k ∈ blks s ys, B ≤ k ∧ k ∉ R :: blkV d
  out : ∀ k ∈ blkV s, ∀ y ∈ ys, k ∉ blkV y.2
  lt : ∀ k ∈ blks s ys, k < w.heap.size
theorem OutL.moved {w w' : World} {B R : Nat} {d s : Value} {ys : List (Ev × Value)} {S S' : List Nat} (h : OutL w B R d s ys) (m : Moved w w' S S') (hk : ∀ k ∈ blks s ys, k ∉ S) : OutL w' B R d s ys :=
  ⟨own_moved h.row m (fun k q => hk k (mem_blks.2 (.inl q))), fun y hy => reads_moved (h.data y hy) m (fun k q => hk k (mem_blks.2 (.inr ⟨y, hy, q⟩))), h.new, h.out, fun k q => Nat.lt_of_lt_of_le (h.lt k q) m.size⟩
/-- Behind Feed and the append. -/
theorem feed_append {w2 w3 w4 : World} {B R : Nat} {d d' v s s' : Value} {st : St} {xs ys : List (Ev × Value)} (o2 : OutL w2 B R d s ys) (hB : B ≤ w2.heap.size) (hRB : ∀ k ∈ R :: blkV d, B ≤ k)
    (own3 : Own3 w3 R d' st v xs) (m23 : Moved w2 w3 (R :: blkV d) (foot R d' v xs))
    (row4 : w4.ownsRow 0 34 6 s' (ys.length + xs.length) (cellsE ys ++ cellsE xs)) (g34 : w3.grownBy w4 s.ownBlock) (k34 : ∀ k ∈ blkV s', k ∈ blkV s ∨ w3.heap.size ≤ k) :
    OutL w4 B R d' s' (ys ++ xs) ∧ RIn w4 R d' st ∧ (∀ k ∈ R :: blkV d', B ≤ k) ∧ Below B w2 w4 ∧ (∀ k ∈ blks s' (ys ++ xs), k ∈ blks s ys ∨ k ∈ R :: blkV d ∨ w2.heap.size ≤ k) := by
  have hft : ∀ k ∈ foot R d' v xs, k ∈ R :: blkV d ∨ w2.heap.size ≤ k := m23.from'
  have hfx : ∀ x ∈ xs, ∀ k ∈ blkV x.2, k ∈ foot R d' v xs := fun x hx k hk => List.mem_append.2 (.inr (mem_blks.2 (.inr ⟨x, hx, hk⟩)))
  have hfr : ∀ k ∈ R :: blkV d', k ∈ foot R d' v xs := fun k hk => List.mem_append.2 (.inl hk)
  have h23 := m23.size
  have h34 := g34.size
  have o3 : OutL w3 B R d s ys := o2.moved m23 (fun k hk => (o2.new k hk).2)
  have nr : ∀ k ∈ blks s ys, k ∉ R :: blkV d' := fun k hk q => by
    rcases hft k (hfr k q) with r | r
    · exact (o2.new k hk).2 r
    · have := o2.lt k hk; omega
  have m34 : Moved w3 w4 (blkV s) (blkV s') := Moved.grown g34 (fun k hk => mem_blkV.2 hk) k34
  have hsx : ∀ k ∈ blkV s, ∀ x ∈ xs, k ∉ blkV x.2 := fun k hk x hx q => by
    have hks : k ∈ blks s ys := mem_blks.2 (.inl hk)
    rcases hft k (hfx x hx k q) with r | r
    · exact (o2.new k hks).2 r
    · have := o2.lt k hks; omega
  have hRl : ∀ k ∈ R :: blkV d', k < w3.heap.size := fun k hk => by
    rcases List.mem_cons.1 hk with e | e
    · rw [e]; exact own3.rdr.lt
    · exact own3.rdr.dlt k e
  have hxl : ∀ x ∈ xs, ∀ k ∈ blkV x.2, k < w3.heap.size := fun x hx k hk => own3.evs.lt k (mem_blks.2 (.inr ⟨x, hx, hk⟩))
  refine ⟨⟨?_, ?_, ?_, ?_, ?_⟩, ?_, ?_, ?_, ?_⟩
  · rw [List.length_append, cellsE_append]; exact row4
  · intro y hy
    rcases List.mem_append.1 hy with q | q
    · exact reads_moved (o3.data y q) m34 (fun k hk r => o2.out k r y q hk)
    · exact reads_moved (own3.evs.data y q).reads m34 (fun k hk r => hsx k r y q hk)
  · intro k hk
    rcases mem_blks.1 hk with q | ⟨y, hy, q⟩
    · rcases k34 k q with r | r
      · have hks : k ∈ blks s ys := mem_blks.2 (.inl r)
        exact ⟨(o2.new k hks).1, nr k hks⟩
      · exact ⟨by omega, fun p => by have := hRl k p; omega⟩
    · rcases List.mem_append.1 hy with r | r
      · have hks : k ∈ blks s ys := mem_blks.2 (.inr ⟨y, r, q⟩)
        exact ⟨(o2.new k hks).1, nr k hks⟩
      · refine ⟨?_, fun p => own3.apart k p (mem_blks.2 (.inr ⟨y, r, q⟩))⟩
        rcases hft k (hfx y r k q) with p | p
        · exact hRB k p
        · omega
  · intro k hk y hy q
    rcases k34 k hk with r | r
    · rcases List.mem_append.1 hy with p | p
      · exact o2.out k r y p q
      · exact hsx k r y p q
    · rcases List.mem_append.1 hy with p | p
      · have := o3.lt k (mem_blks.2 (.inr ⟨y, p, q⟩)); omega
      · have := hxl y p k q; omega
  · intro k hk
    rcases mem_blks.1 hk with q | ⟨y, hy, q⟩
    · exact own_lt row4 k q
    · rcases List.mem_append.1 hy with p | p
      · have := o3.lt k (mem_blks.2 (.inr ⟨y, p, q⟩)); omega
      · have := hxl y p k q; omega
  · exact own3.rdr.moved m34 (fun k hk q => nr k (mem_blks.2 (.inl q)) hk)
  · intro k hk
    rcases hft k (hfr k hk) with r | r
    · exact hRB k r
    · omega
  · exact (m23.toBelow hB hRB).trans (m34.toBelow (by omega) (fun k hk => (o2.new k (mem_blks.2 (.inl hk))).1))
  · intro k hk
    rcases mem_blks.1 hk with q | ⟨y, hy, q⟩
    · rcases k34 k q with r | r
      · exact .inl (mem_blks.2 (.inl r))
      · exact .inr (.inr (by omega))
    · rcases List.mem_append.1 hy with p | p
      · exact .inl (mem_blks.2 (.inr ⟨y, p, q⟩))
      · rcases hft k (hfx y p k q) with r | r
        · exact .inr (.inl r)
        · exact .inr (.inr r)
end Go.Proofs.YtdbjjieoohfckaaDoor
