/-
  The reference's Bytes; what is said and what is wanted, side by side.
-/
import Derived.Test.YtdbjjieoohfckaaDoorLb
namespace Go.Proofs.YtdbjjieoohfckaaDoor
open Go.RowKit Go.Lib Go.Deep Go.Shelf

theorem saidB_after {zs : List Int} {w w1 w2 : World} {e : Ending} (h : SaidB zs w1 e w2) (hb : Below w.heap.size w w1) : SaidB zs w e w2 := by
  obtain ⟨v, rfl, h1, h2⟩ := h
  exact ⟨v, rfl, h1, hb.trans (h2.mono hb.size)⟩
set_option maxRecDepth 100000 in
theorem refBytes_dat (g n c : Nat) (xs : List Int) (w : World) (hr : Reads w (.slice (some ⟨g, 0, none⟩) n c) xs) (hn : n ≤ 1000) : Calls Tryd.prog 11 #[.agg #[.int .i64 0, .int .u8 0, .int .u8 0, .slice (some ⟨g, 0, none⟩) n c, .bool false, .bool false]] w (SaidB (escI xs) w) := by
  have hb : Below w.heap.size w (w.alloc (.cells #[.int .i64 0, .int .u8 0, .int .u8 0, .slice (some ⟨g, 0, none⟩) n c, .bool false, .bool false] 27)) := (Below.refl _ w).alloc (Nat.le_refl _) _
  have HES := hid (refEscape_any g n c xs _ (reads_below hr hb) (by omega))
  have HB := hid hb
  clear hr hb
  go_enter Tryd.func11, Tryd.ntmps11
  go_wp2_with fail
  refine HES.out.mono ?_
  rintro e w2 ⟨v2, rfl, hv2, hb2⟩
  have HV2 := hid hv2
  have HB2 := hid (HB.out.trans (hb2.mono HB.out.size))
  obtain ⟨x2, n2, c2, rfl⟩ := reads_any_slice hv2
  clear hv2 hb2
  go_wp2
  go_ret
  exact ⟨_, rfl, HV2.out, HB2.out⟩
set_option maxRecDepth 100000 in
theorem refBytes_sub (o : Int) (ho : 0 ≤ o ∧ o < 256) (g n c : Nat) (xs : List Int) (w : World) (hr : Reads w (.slice (some ⟨g, 0, none⟩) n c) xs) (hn : n ≤ 1000) : Calls Tryd.prog 11 #[.agg #[.int .i64 3, .int .u8 0, .int .u8 o, .slice (some ⟨g, 0, none⟩) n c, .bool false, .bool false]] w (SaidB (subL o xs) w) := by
  have hb : Below w.heap.size w (w.alloc (.cells #[.int .i64 3, .int .u8 0, .int .u8 o, .slice (some ⟨g, 0, none⟩) n c, .bool false, .bool false] 27)) := (Below.refl _ w).alloc (Nat.le_refl _) _
  have HES := hid (refSub_any o ho g n c xs _ (reads_below hr hb) (by omega))
  have HB := hid hb
  clear hr hb
  go_enter Tryd.func11, Tryd.ntmps11
  go_wp2_with fail
  refine HES.out.mono ?_
  rintro e w2 ⟨v2, rfl, hv2, hb2⟩
  have HV2 := hid hv2
  have HB2 := hid (HB.out.trans (hb2.mono HB.out.size))
  obtain ⟨x2, n2, c2, rfl⟩ := reads_any_slice hv2
  clear hv2 hb2
  go_wp2
  go_ret
  exact ⟨_, rfl, HV2.out, HB2.out⟩
set_option maxRecDepth 100000 in
theorem refBytes_cmd (v : Int) (hv : 0 ≤ v ∧ v < 256) (w : World) : Calls Tryd.prog 11 #[.agg #[.int .i64 1, .int .u8 v, .int .u8 0, .slice none 0 0, .bool false, .bool false]] w (SaidB [255, v] w) := by
  obtain ⟨W1, hW1⟩ : ∃ W1, W1 = w.alloc (.cells #[.int .i64 1, .int .u8 v, .int .u8 0, .slice none 0 0, .bool false, .bool false] 27) := ⟨_, rfl⟩
  have hb : Below w.heap.size w W1 := by rw [hW1]; exact (Below.refl _ w).alloc (Nat.le_refl _) _
  have HR := hid (reads_lit W1 (0, 0) [255, v] 2 rfl (by decide) (by intro x hx; simp only [List.mem_cons, List.not_mem_nil, or_false] at hx; rcases hx with rfl | rfl <;> omega))
  have HB := hid (hb.alloc hb.size (.cells #[.int .u8 255, .int .u8 v] 5))
  subst hW1
  clear hb
  go_enter Tryd.func11, Tryd.ntmps11
  go_wp2
  go_ret
  refine ⟨_, rfl, ?_, HB.out⟩
  have q := HR.out
  simp at q ⊢
  exact q
set_option maxRecDepth 100000 in
theorem refBytes_opt (v o : Int) (hv : 0 ≤ v ∧ v < 256) (ho : 0 ≤ o ∧ o < 256) (w : World) : Calls Tryd.prog 11 #[.agg #[.int .i64 2, .int .u8 v, .int .u8 o, .slice none 0 0, .bool false, .bool false]] w (SaidB [255, v, o] w) := by
  obtain ⟨W1, hW1⟩ : ∃ W1, W1 = w.alloc (.cells #[.int .i64 2, .int .u8 v, .int .u8 o, .slice none 0 0, .bool false, .bool false] 27) := ⟨_, rfl⟩
  have hb : Below w.heap.size w W1 := by rw [hW1]; exact (Below.refl _ w).alloc (Nat.le_refl _) _
  have HR := hid (reads_lit W1 (0, 0) [255, v, o] 3 rfl (by decide) (by intro x hx; simp only [List.mem_cons, List.not_mem_nil, or_false] at hx; rcases hx with rfl | rfl | rfl <;> omega))
  have HB := hid (hb.alloc hb.size (.cells #[.int .u8 255, .int .u8 v, .int .u8 o] 5))
  subst hW1
  clear hb
  go_enter Tryd.func11, Tryd.ntmps11
  go_wp2
  go_ret
  refine ⟨_, rfl, ?_, HB.out⟩
  have q := HR.out
  simp at q ⊢
  exact q
set_option maxRecDepth 100000 in
theorem say_any (v o : Int) (hv : 0 ≤ v ∧ v < 256) (ho : 0 ≤ o ∧ o < 256) (w : World) : Calls Tryd.prog 8 #[.int .u8 v, .int .u8 o] w (SaidB [255, v, o] w) := by
  have HR := hid (reads_lit w (0, 0) [255, v, o] 3 rfl (by decide) (by intro x hx; simp only [List.mem_cons, List.not_mem_nil, or_false] at hx; rcases hx with rfl | rfl | rfl <;> omega))
  have HB := hid ((Below.refl w.heap.size w).alloc (Nat.le_refl _) (.cells #[.int .u8 255, .int .u8 v, .int .u8 o] 5))
  go_enter Tryd.func8, Tryd.ntmps8
  go_wp2
  go_ret
  refine ⟨_, rfl, ?_, HB.out⟩
  have q := HR.out
  simp at q ⊢
  exact q
/-- What is said and what is wanted. -/
structure TwoP (w : World) (B : Nat) (pv wv : Value) (ps : List Int) (ws : List (Ev × Value)) : Prop where
  pb : ∀ x ∈ ps, 0 ≤ x ∧ x < 256
  rowP : w.ownsRow 0 5 1 pv ps.length (ps.map (Value.int .u8))
  rowW : w.ownsRow 0 34 6 wv ws.length (cellsE ws)
  data : ∀ x ∈ ws, Reads w x.2 x.1.data ∧ ∀ k ∈ blkV x.2, k < w.heap.size ∧ k ∉ blkV pv ∧ k ∉ blkV wv
  new : ∀ k, k ∈ blkV pv ∨ k ∈ blkV wv → B ≤ k
  apart : ∀ k ∈ blkV pv, k ∉ blkV wv
theorem TwoP.below {w w' : World} {B : Nat} {pv wv : Value} {ps : List Int} {ws : List (Ev × Value)} (h : TwoP w B pv wv ps ws) (hb : Below w.heap.size w w') : TwoP w' B pv wv ps ws :=
  ⟨h.pb, own_moved h.rowP (Moved.below hb []) (fun _ _ q => by cases q), own_moved h.rowW (Moved.below hb []) (fun _ _ q => by cases q), fun x hx => ⟨reads_below (h.data x hx).1 hb, fun k hk => ⟨Nat.lt_of_lt_of_le ((h.data x hx).2 k hk).1 hb.size, ((h.data x hx).2 k hk).2⟩⟩, h.new, h.apart⟩
/-- Other blocks may change. -/
theorem TwoP.moved {w w' : World} {B : Nat} {pv wv : Value} {ps : List Int} {ws : List (Ev × Value)} {S S' : List Nat} (h : TwoP w B pv wv ps ws) (m : Moved w w' S S') (hS : ∀ k ∈ S, k ∉ blkV pv ∧ k ∉ blkV wv ∧ ∀ x ∈ ws, k ∉ blkV x.2) : TwoP w' B pv wv ps ws :=
  ⟨h.pb, own_moved h.rowP m (fun k q r => (hS k r).1 q), own_moved h.rowW m (fun k q r => (hS k r).2.1 q), fun x hx => ⟨reads_moved (h.data x hx).1 m (fun k q r => (hS k r).2.2 x hx q), fun k hk => ⟨Nat.lt_of_lt_of_le ((h.data x hx).2 k hk).1 m.size, ((h.data x hx).2 k hk).2⟩⟩, h.new, h.apart⟩
/-- A slice of data that may go into what is wanted. -/
def DInP (w : World) (pv wv d : Value) (ds : List Int) : Prop := Reads w d ds ∧ ∀ k ∈ blkV d, k < w.heap.size ∧ k ∉ blkV pv ∧ k ∉ blkV wv
theorem DInP.below {w w' : World} {pv wv d : Value} {ds : List Int} (h : DInP w pv wv d ds) (hb : Below w.heap.size w w') : DInP w' pv wv d ds := ⟨reads_below h.1 hb, fun k hk => ⟨Nat.lt_of_lt_of_le (h.2 k hk).1 hb.size, (h.2 k hk).2⟩⟩
theorem DInP.nil (w : World) (pv wv : Value) : DInP w pv wv (.slice none 0 0) [] := ⟨reads_nil _, fun k hk => by cases hk⟩
theorem TwoP.addP {w w' : World} {B : Nat} {pv pv' wv : Value} {ps xs : List Int} {ws : List (Ev × Value)} (h : TwoP w B pv wv ps ws) (hxb : ∀ x ∈ xs, 0 ≤ x ∧ x < 256) (hB : B ≤ w.heap.size)
    (hrow : w'.ownsRow 0 5 1 pv' (ps.length + xs.length) ((ps ++ xs).map (Value.int .u8))) (hg : w.grownBy w' pv.ownBlock) (hk : ∀ k ∈ blkV pv', k ∈ blkV pv ∨ w.heap.size ≤ k) :
    TwoP w' B pv' wv (ps ++ xs) ws ∧ (∀ d ds, DInP w pv wv d ds → DInP w' pv' wv d ds) ∧ Moved w w' (blkV pv) (blkV pv') ∧ Below B w w' := by
  have m : Moved w w' (blkV pv) (blkV pv') := Moved.grown hg (fun k q => mem_blkV.2 q) hk
  have hs := m.size
  have step : ∀ (x : Value) (ds : List Int), DInP w pv wv x ds → DInP w' pv' wv x ds := fun x ds q => ⟨reads_moved q.1 m (fun k hk => (q.2 k hk).2.1), fun k hk' => ⟨by have := (q.2 k hk').1; omega, fun r => by
    rcases hk k r with p | p
    · exact (q.2 k hk').2.1 p
    · have := (q.2 k hk').1; omega, (q.2 k hk').2.2⟩⟩
  refine ⟨⟨?_, ?_, own_moved h.rowW m (fun k q r => h.apart k r q), ?_, ?_, ?_⟩, step, m, ?_⟩
  · intro x hx
    rcases List.mem_append.1 hx with hx | hx
    · exact h.pb x hx
    · exact hxb x hx
  · rw [List.length_append]; exact hrow
  · intro x hx
    exact step _ _ (h.data x hx)
  · intro k q
    rcases q with q | q
    · rcases hk k q with r | r
      · exact h.new k (.inl r)
      · omega
    · exact h.new k (.inr q)
  · intro k q r
    rcases hk k q with p | p
    · exact h.apart k p r
    · have := own_lt h.rowW k r; omega
  · exact m.toBelow hB (fun k q => h.new k (.inl q))
theorem TwoP.addW {w w' : World} {B : Nat} {pv wv wv' d : Value} {ps : List Int} {ws : List (Ev × Value)} {e : Ev} (h : TwoP w B pv wv ps ws) (hd : DInP w pv wv d e.data) (hB : B ≤ w.heap.size)
    (hrow : w'.ownsRow 0 34 6 wv' (ws.length + 1) (cellsE ws ++ evC e d)) (hg : w.grownBy w' wv.ownBlock) (hk : ∀ k ∈ blkV wv', k ∈ blkV wv ∨ w.heap.size ≤ k) :
    TwoP w' B pv wv' ps (ws ++ [(e, d)]) ∧ Below B w w' := by
  have m : Moved w w' (blkV wv) (blkV wv') := Moved.grown hg (fun k q => mem_blkV.2 q) hk
  have hs := m.size
  have step : ∀ (x : Value) (ds : List Int), DInP w pv wv x ds → DInP w' pv wv' x ds := fun x ds q => ⟨reads_moved q.1 m (fun k hk => (q.2 k hk).2.2), fun k hk' => ⟨by have := (q.2 k hk').1; omega, (q.2 k hk').2.1, fun r => by
    rcases hk k r with p | p
    · exact (q.2 k hk').2.2 p
    · have := (q.2 k hk').1; omega⟩⟩
  refine ⟨⟨h.pb, own_moved h.rowP m (fun k q r => h.apart k q r), ?_, ?_, ?_, ?_⟩, ?_⟩
  · rw [List.length_append, cellsE_append]
    show w'.ownsRow 0 34 6 wv' (ws.length + 1) (cellsE ws ++ (evC e d ++ []))
    rw [List.append_nil]; exact hrow
  · intro x hx
    rcases List.mem_append.1 hx with hx | hx
    · exact step _ _ (h.data x hx)
    · rw [List.mem_singleton.1 hx]; exact step d _ hd
  · intro k q
    rcases q with q | q
    · exact h.new k (.inl q)
    · rcases hk k q with r | r
      · exact h.new k (.inr r)
      · omega
  · intro k q r
    rcases hk k r with p | p
    · exact h.apart k q p
    · have := own_lt h.rowP k q; omega
  · exact m.toBelow hB (fun k q => h.new k (.inr q))
theorem append_bytesB {w : World} {n : Nat} {v u : Value} {ys xs : List Int} (h : w.ownsRow 0 5 1 v n (ys.map (Value.int .u8))) (hu : Reads w u xs) (hn : n + xs.length ≤ 10000000) (ty : TypeId) :
    ∃ v' w', (Builtin.append_ #[24, 24] ty #[v, u]).run Tryd.prog w = .ok v' w' ∧ w'.ownsRow 0 5 1 v' (n + xs.length) ((ys ++ xs).map (Value.int .u8)) ∧ w.grownBy w' v.ownBlock ∧ ∀ k ∈ blkV v', k ∈ blkV v ∨ w.heap.size ≤ k := by
  rcases hu.2 with ⟨rfl, rfl⟩ | ⟨a, cap, rfl, _, _, _⟩
  · exact ⟨v, w, run_append_none w h ty, by simpa using h, ⟨rfl, rfl, rfl, Nat.le_refl _, fun _ _ _ => rfl⟩, fun k hk => .inl hk⟩
  · obtain ⟨i0, hi, hz0, hz1, hz2⟩ := info_parts info5
    have hsrc := (reads_src hu).2
    obtain ⟨v', w', h1, h2, h3, _, h5⟩ := run_append_blk (P := Tryd.prog) w 24 ty 5 i0 (.int .u8 0) 1 1 Tryd.underlying24 hi hz0 hz1 hz2 rfl (by decide) v n _ h a xs.length cap (xs.map (Value.int .u8)) (by simp) hsrc (ints_one xs) (by unfold maxLen; omega) (by omega)
    exact ⟨v', w', h1, by rw [List.map_append]; exact h2, h3, h5⟩
/-- An append of bytes onto what is said. -/
theorem wpList_append_P {w : World} {ops : Array Oper} {rest : List Oper} {o : Oper} {a : Act} {Q : Exit → Act → World → Prop} (hgd : o.guard = none) (s x : Operand)
    (ho : o.op = .call { callee := .builtin .append, args := #[s, x], argTypes := #[24, 24] }) (B : Nat) (pv wv u : Value) (ps xs : List Int) (ws : List (Ev × Value)) (hs : a.eval s = pv) (hx : a.eval x = u) (h : TwoP w B pv wv ps ws) (hu : Reads w u xs) (hn : ps.length + xs.length ≤ 10000000) (hB : B ≤ w.heap.size) (N : Nat) (hN : ps.length + xs.length = N) (zs : List Int) (hz : ps ++ xs = zs)
    (hk : ∀ y cap w', TwoP w' B (.slice y N cap) wv zs ws → (∀ d ds, DInP w pv wv d ds → DInP w' (.slice y N cap) wv d ds) → Moved w w' (blkV pv) (blkV (.slice y N cap)) → Below B w w' → wpList Tryd.prog ops Q rest (a.put o.dst (.slice y N cap)) w') : wpList Tryd.prog ops Q (o :: rest) a w := by
  subst hN hz
  obtain ⟨v', w', h1, h2, h3, h4⟩ := append_bytesB h.rowP hu hn o.type
  obtain ⟨y, cap, rfl⟩ := row_anyK h2
  obtain ⟨q1, q2, q3, q4⟩ := h.addP hu.1 hB h2 h3 h4
  exact wpList_append_val hgd s x 24 ho pv u _ hs hx h1 (hk y cap w' q1 q2 q3 q4)
end Go.Proofs.YtdbjjieoohfckaaDoor
