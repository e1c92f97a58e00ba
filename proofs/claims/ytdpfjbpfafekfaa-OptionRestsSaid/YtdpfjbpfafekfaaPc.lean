/-
  Words under way, in memory: a slice of messages whose beginning moves on.
-/
import Derived.Test.YtdpfjbpfafekfaaPb
import Derived.Test.YtdpfjbpfafekfaaOh
namespace Go.Proofs.Ytdpfjbpfafekfaa
open Go.RowKit Go.Lib

theorem info_omsg : (Try.prog.info? 66).map (fun i => (i.zero, i.size, i.bytes)) = some (some (.agg #[.int .u8 0, .int .u8 0]), 2, 2) := by kernel_rfl
/-- The cells of messages. -/
def msC (ms : List (Nat × Nat)) : List Value := ms.flatMap fun m => [.int .u8 m.1, .int .u8 m.2]
theorem msC_append (a b : List (Nat × Nat)) : msC (a ++ b) = msC a ++ msC b := by simp [msC]
theorem msC_length (ms : List (Nat × Nat)) : (msC ms).length = ms.length * 2 := by
  induction ms with
  | nil => rfl
  | cons m ms ih => simp only [msC, List.flatMap_cons, List.length_append, List.length_cons, List.length_nil] at ih ⊢; omega
theorem msC_one (m : Nat × Nat) : msC [m] = [.int .u8 m.1, .int .u8 m.2] := rfl
/-- Messages under way. -/
def Que (w : World) (v : Value) (ms : List (Nat × Nat)) : Prop := (v = .slice none 0 0 ∧ ms = []) ∨ ∃ g off cap cur, v = .slice (some ⟨g, off, none⟩) ms.length cap ∧ w.heap[g]? = some (.cells cur 66 (0, 0)) ∧ off + cap * 2 ≤ cur.size ∧ ms.length ≤ cap ∧ cap ≤ maxLen ∧ ∀ j u, (msC ms)[j]? = some u → cur[off + j]? = some u
theorem Que.nil (w : World) : Que w (.slice none 0 0) [] := .inl ⟨rfl, rfl⟩
theorem Que.moved {w w' : World} {v : Value} {ms : List (Nat × Nat)} {S S' : List Nat} (h : Que w v ms) (m : Moved w w' S S') (hk : ∀ k ∈ blkV v, k ∉ S) : Que w' v ms := by
  rcases h with h | ⟨g, off, cap, cur, rfl, hg, r⟩
  · exact .inl h
  · refine .inr ⟨g, off, cap, cur, rfl, ?_, r⟩
    rw [m.block g (Array.getElem?_eq_some_iff.1 hg).1 (hk g (by simp [blkV, Value.ownBlock]))]
    exact hg
theorem Que.step {w w' : World} {v : Value} {ms : List (Nat × Nat)} (h : Que w v ms) (hb : Below w.heap.size w w') : Que w' v ms := h.moved (Moved.below hb []) (fun _ _ q => by cases q)
theorem Que.lt {w : World} {v : Value} {ms : List (Nat × Nat)} (h : Que w v ms) : ∀ k ∈ blkV v, k < w.heap.size := fun k hk => by
  rcases h with ⟨rfl, _⟩ | ⟨g, off, cap, cur, rfl, hg, _⟩
  · cases hk
  · have : g = k := by simpa [mem_blkV, Value.ownBlock] using hk
    rw [← this]
    exact (Array.getElem?_eq_some_iff.1 hg).1
theorem Que.shape {w : World} {v : Value} {ms : List (Nat × Nat)} (h : Que w v ms) : ∃ x c, v = .slice x ms.length c := by
  rcases h with ⟨rfl, rfl⟩ | ⟨g, off, cap, cur, rfl, _⟩
  · exact ⟨_, _, rfl⟩
  · exact ⟨_, _, rfl⟩
/-- The eldest message, and the rest. -/
theorem Que.head {w : World} {v : Value} {m : Nat × Nat} {ms : List (Nat × Nat)} (h : Que w v (m :: ms)) : ∃ g off cap, v = .slice (some ⟨g, off, none⟩) (ms.length + 1) cap ∧ ms.length + 1 ≤ cap ∧ cap ≤ maxLen ∧ w.cell? ⟨g, off, none⟩ = some (.int .u8 m.1) ∧ w.cell? ⟨g, off + 1, none⟩ = some (.int .u8 m.2) ∧ ∃ x, (∀ w', (Instr.sliceAt 33 (.slice (some ⟨g, off, none⟩) (ms.length + 1) cap) (some (.int .i64 1)) none none).run Try.prog w' = .ok (.slice (some x) ms.length (cap - 1)) w') ∧ x.block = g ∧ Que w (.slice (some x) ms.length (cap - 1)) ms := by
  rcases h with ⟨_, h⟩ | ⟨g, off, cap, cur, rfl, hg, h1, h2, h3, h4⟩
  · cases h
  · have hl : (m :: ms).length = ms.length + 1 := rfl
    rw [hl] at h2
    have c (j : Nat) : w.cell? ⟨g, off + j, none⟩ = cur[off + j]? := by
      have := cell_of_row w g (off + j) cur 66 (0, 0) hg
      exact this
    refine ⟨g, off, cap, rfl, h2, h3, ?_, ?_, if cap = 1 then ⟨g, off, none⟩ else ⟨g, off + 2, none⟩, fun w' => ?_, by split <;> rfl, ?_⟩
    · have := c 0
      rw [Nat.add_zero] at this
      rw [this]
      have q := h4 0 (.int .u8 m.1) rfl
      rw [Nat.add_zero] at q
      exact q
    · rw [c 1]
      exact h4 1 (.int .u8 m.2) rfl
    · obtain ⟨i0, hi, hz0, hz1, hz2⟩ := info_parts info_omsg
      have h1' : (0 : Int) ≤ ms.length := by omega
      have h5 : ¬ ((ms.length : Int) + 1 < 1) := by omega
      have ha : (⟨g, off, none⟩ : Addr).add 2 = ⟨g, off + 2, none⟩ := addr_add _ _ _
      by_cases hc : cap = 1
      · simp [Instr.sliceAt, Instr.slice, run_underlying Try.underlying33, Instr.sliceBounds, Instr.sliceBound, asIntOf, sizeOf, typeInfo, hi, hz1, h1', h5, hc, ha]
        try (intro h; omega)
      · simp [Instr.sliceAt, Instr.slice, run_underlying Try.underlying33, Instr.sliceBounds, Instr.sliceBound, asIntOf, sizeOf, typeInfo, hi, hz1, h1', h5, hc, ha]
        try (intro h; omega)
    · refine .inr ?_
      by_cases hc : cap = 1
      · rw [if_pos hc]
        refine ⟨g, off, cap - 1, cur, rfl, hg, by omega, by omega, by omega, fun j u hj => ?_⟩
        have : ms = [] := List.length_eq_zero_iff.1 (by omega)
        subst this
        cases hj
      · rw [if_neg hc]
        refine ⟨g, off + 2, cap - 1, cur, rfl, hg, by omega, by omega, by omega, fun j u hj => ?_⟩
        have := h4 (j + 2) u (by simpa [msC] using hj)
        rw [show off + 2 + j = off + (j + 2) by omega]
        exact this
section
variable {P : Program} (w : World)
/-- An append into room behind any place of a row. -/
theorem run_append_off (t ty e : TypeId) (i : TypeInfo) (ht : P.underlying t = some (.slice e)) (hi : P.info? e = some i)
    (g off sLen sCap : Nat) (cur : Array Value) (hg : w.heap[g]? = some (.cells cur e (0, 0)))
    (a : Addr) (m c : Nat) (news : List Value) (hl : news.length = m * i.size) (hnews : ∀ j u, news[j]? = some u → w.cell? (a.add j) = some u) (h1 : ∀ u ∈ news, u.oneCell' = true)
    (hroom : sLen + m ≤ sCap) (hfit : off + sLen * i.size + news.length ≤ cur.size) :
    (Builtin.append_ #[t, t] ty #[.slice (some ⟨g, off, none⟩) sLen sCap, .slice (some a) m c]).run P w =
      .ok (.slice (some ⟨g, off, none⟩) (sLen + m) sCap) (w.setRow g (cur.toList.take (off + sLen * i.size) ++ news ++ cur.toList.drop (off + sLen * i.size + news.length)).toArray) := by
  have hf := run_firstCells_some (P := P) w i.size m a m c news hl hnews
  have hst := run_storeCells_at P g (off + sLen * i.size) e news 0 cur w hg (by simpa using hfit) h1
  simp only [Nat.add_zero] at hst
  have ha : (⟨g, off, none⟩ : Addr).add (sLen * i.size) = ⟨g, off + sLen * i.size, none⟩ := addr_add _ _ _
  simp [Builtin.append_, run_underlying ht, sizeOf, typeInfo, hi, Builtin.lenOf, hroom, hf, ha, hst]
/-- A message more. -/
theorem que_append {v : Value} {ms : List (Nat × Nat)} (h : Que w v ms) (hms : ms.length ≤ 100000) (a : Addr) (c : Nat) (m : Nat × Nat) (ty : TypeId) (h0 : w.cell? (a.add 0) = some (.int .u8 m.1)) (h1 : w.cell? (a.add 1) = some (.int .u8 m.2)) :
    ∃ v' w', (Builtin.append_ #[33, 33] ty #[v, .slice (some a) 1 c]).run Try.prog w = .ok v' w' ∧ Que w' v' (ms ++ [m]) ∧ Moved w w' (blkV v) (blkV v') ∧ ∃ x c', v' = .slice (some x) (ms.length + 1) c' := by
  obtain ⟨i0, hi, hz0, hz1, hz2⟩ := info_parts info_omsg
  have hn : ∀ j u, ([.int .u8 m.1, .int .u8 m.2] : List Value)[j]? = some u → w.cell? (a.add j) = some u := fun j u hj => by
    rcases j with _ | _ | j
    · simp at hj; subst hj; exact h0
    · simp at hj; subst hj; exact h1
    · simp at hj
  have ho : ∀ u ∈ ([.int .u8 m.1, .int .u8 m.2] : List Value), u.oneCell' = true := fun u hu => by simp at hu; rcases hu with rfl | rfl <;> rfl
  have hlen : (ms ++ [m]).length = ms.length + 1 := by simp
  rcases h with ⟨rfl, rfl⟩ | ⟨g, off, cap, cur, rfl, hg, hc1, hc2, hc3, hc4⟩
  · obtain ⟨v', w', hr, hown, hG, hnil, hblk⟩ := run_append_blk (P := Try.prog) w 33 ty 66 i0 (.agg #[.int .u8 0, .int .u8 0]) 2 2 Try.underlying33 hi hz0 hz1 hz2 rfl (by decide) (.slice none 0 0) 0 [] (World.ownsRow_nil _ _ _ _) a 1 c [.int .u8 m.1, .int .u8 m.2] rfl hn ho (by unfold maxLen; omega) (by omega)
    refine ⟨v', w', hr, ?_, Moved.grown hG (fun k hk => by cases hk) hblk, ?_⟩
    · rcases hown.2 with ⟨_, e⟩ | ⟨g, cap, cur, rfl, _, hgg, q1, q2, q3, q4⟩
      · omega
      · refine .inr ⟨g, 0, cap, cur, rfl, hgg, by omega, by simpa using q1, q2, fun j u hj => ?_⟩
        have hj' : ([.int .u8 m.1, .int .u8 m.2] : List Value)[j]? = some u := hj
        rw [Nat.zero_add, ← Array.getElem?_toList]
        have hjl : j < 2 := by have := (List.getElem?_eq_some_iff.1 hj').1; simpa using this
        have : (cur.toList.take ((0 + 1) * 2))[j]? = some u := by rw [q4]; simpa using hj'
        rw [List.getElem?_take_of_lt (by omega)] at this
        exact this
    · rcases hown.2 with ⟨_, e⟩ | ⟨g, cap, cur, rfl, _⟩
      · omega
      · exact ⟨_, _, rfl⟩
  · by_cases hroom : ms.length + 1 ≤ cap
    · have hr := run_append_off (P := Try.prog) w 33 ty 66 i0 Try.underlying33 hi g off ms.length cap cur hg a 1 c [.int .u8 m.1, .int .u8 m.2] (by rw [hz1]; rfl) hn ho hroom (by rw [hz1]; simp; omega)
      rw [hz1] at hr
      have hcur : off + ms.length * 2 + 2 ≤ cur.toList.length := by have q : cur.toList.length = cur.size := Array.length_toList; omega
      refine ⟨_, _, hr, .inr ⟨g, off, cap, _, by rw [hlen], setRow_heap w g cur _ 66 (0, 0) hg, ?_, by rw [hlen]; exact hroom, hc3, fun j u hj => ?_⟩, ⟨rfl, rfl, rfl, by simp, fun k _ hk => setRow_other w g k _ (fun e => hk (by simp [blkV, Value.ownBlock, e])), fun k hk => .inl hk⟩, ⟨_, _, rfl⟩⟩
      · simp only [List.size_toArray, List.length_append, List.length_take, List.length_drop, Array.length_toList, List.length_cons, List.length_nil]
        omega
      · rw [msC_append, msC_one] at hj
        rw [List.getElem?_toArray, List.append_assoc]
        by_cases hjl : j < ms.length * 2
        · rw [List.getElem?_append_left (by rw [List.length_take]; omega), List.getElem?_take_of_lt (by omega), Array.getElem?_toList]
          rw [List.getElem?_append_left (by rw [msC_length]; exact hjl)] at hj
          exact hc4 j u hj
        · rw [List.getElem?_append_right (by rw [msC_length]; omega), msC_length] at hj
          have hj2 : j - ms.length * 2 < 2 := by have := (List.getElem?_eq_some_iff.1 hj).1; simpa using this
          rw [List.getElem?_append_right (by rw [List.length_take]; omega), List.length_take, Nat.min_eq_left (by omega), show off + j - (off + ms.length * 2) = j - ms.length * 2 by omega, List.getElem?_append_left (by simpa using hj2)]
          exact hj
    · have hold : ∀ j u, (msC ms)[j]? = some u → w.cell? ((⟨g, off, none⟩ : Addr).add j) = some u := fun j u hj => by
        rw [show (⟨g, off, none⟩ : Addr).add j = ⟨g, off + j, none⟩ from addr_add _ _ _]
        have := cell_of_row w g (off + j) cur 66 (0, 0) hg
        rw [this]
        exact hc4 j u hj
      have hcap : cap = ms.length := by omega
      have h63 : ms.length + 1 ≤ maxLen := by unfold maxLen; omega
      have hr := run_append_grow (P := Try.prog) w 33 ty 66 i0 (.agg #[.int .u8 0, .int .u8 0]) Try.underlying33 hi hz0 ⟨g, off, none⟩ ms.length cap (msC ms) (by rw [hz1, msC_length]) hold a 1 c [.int .u8 m.1, .int .u8 m.2] (by rw [hz1]; rfl) hn (by omega) (by omega) (growslice_fits (by omega) (by rw [hz2]; omega))
      have hge := grownCap_ge w (ms.length + 1) cap 66
      have hle := grownCap_le_maxLen w (ms.length + 1) cap 66 h63
      refine ⟨_, _, hr, .inr ⟨w.heap.size, 0, _, _, by rw [hlen], heap_alloc_new w.drew _, ?_, by rw [hlen]; exact hge, hle, fun j u hj => ?_⟩, ⟨rfl, rfl, rfl, by simp, fun k hk _ => heap_alloc_old w.drew _ hk, fun k hk => .inr ?_⟩, ⟨_, _, rfl⟩⟩
      · simp only [Array.size_append, List.size_toArray, size_zeroCells, msC_length, List.length_cons, List.length_nil]
        have : (Value.agg #[.int .u8 0, .int .u8 0]).cells.size = 2 := rfl
        rw [this]
        omega
      · rw [msC_append, msC_one] at hj
        have hj1 := (List.getElem?_eq_some_iff.1 hj).1
        rw [Nat.zero_add, ← Array.getElem?_toList, Array.toList_append, Array.toList_append, List.getElem?_append_left (by simpa using hj1)]
        simpa using hj
      · have : w.heap.size = k := by simpa [mem_blkV, Value.ownBlock] using hk
        omega
end
end Go.Proofs.Ytdpfjbpfafekfaa
