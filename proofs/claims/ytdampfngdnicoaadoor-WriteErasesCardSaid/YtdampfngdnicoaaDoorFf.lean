/-
  The law's example; a space that is the document's.
  A copy; two that are the same; what a nil space answers.
  What a nil space answers.
  What differs from a nil space: nothing. A plain walk inside the widest fence.
-/
import Derived.Test.YtdampfngdnicoaaDoorFe
import Derived.Lib.LazyBuf
namespace Go.Proofs.YtdampfngdnicoaaDoor
open Go.RowKit Go.Lib Go.Deep

theorem fld0 (x y : Int) (w : World) : (Instr.field 84 (.agg #[.int .i64 x, .int .i64 y]) 0).run Tryd.prog w = .ok (.int .i64 x) w := by kernel_rfl
theorem fld1 (x y : Int) (w : World) : (Instr.field 84 (.agg #[.int .i64 x, .int .i64 y]) 1).run Tryd.prog w = .ok (.int .i64 y) w := by kernel_rfl
theorem cellsV_at : ∀ (L : List Cel) (i j : Nat), i < L.length → j < 6 → (cellsV L)[i * 6 + j]? = (L.getD i cel0).cs[j]?
  | [], i, _, hi, _ => absurd hi (Nat.not_lt_zero i)
  | c :: L, 0, j, _, hj => by
    show (c.cs ++ cellsV L)[0 * 6 + j]? = _
    rw [Nat.zero_mul, Nat.zero_add, List.getElem?_append_left (by simpa [Cel.cs] using hj)]
    rfl
  | c :: L, i + 1, j, hi, hj => by
    show (c.cs ++ cellsV L)[(i + 1) * 6 + j]? = _
    have e : c.cs.length = 6 := rfl
    rw [List.getElem?_append_right (by omega), show (i + 1) * 6 + j - c.cs.length = i * 6 + j by omega, cellsV_at L i j (by simpa using hi) hj]
    rfl
theorem own_below {A B : World} {t : TypeId} {sz n : Nat} {v : Value} {cs : List Value} (h : A.ownsRow 0 t sz v n cs) (hb : Below A.heap.size A B) : B.ownsRow 0 t sz v n cs := own_grow h (Grow.below hb 0)
/-- Of a list of cells, made: what lies there. -/
theorem cells_row {w : World} {v : Value} {L : List Cel} (h : w.ownsRow 0 47 6 v L.length (cellsV L)) (hl : 0 < L.length) : ∃ g c, v = .slice (some ⟨g, 0, none⟩) L.length c ∧ ∀ i, i < L.length → ∀ j, j < 6 → w.cell? ⟨g, i * 6 + j, none⟩ = (L.getD i cel0).cs[j]? := by
  rcases h.2 with ⟨rfl, e⟩ | ⟨g, cap, cur, rfl, hb, hh, h1, h2, h3, h4⟩
  · omega
  · refine ⟨g, cap, rfl, fun i hi j hj => ?_⟩
    rw [World.ownsRow.cellAt h (i * 6 + j) (by omega), cellsV_at L i j hi hj]
end Go.Proofs.YtdampfngdnicoaaDoor
namespace Go.Proofs.YtdampfngdnicoaaDoor
open Go.RowKit Go.Lib Go.Deep

theorem cellsV_len (L : List Cel) : (cellsV L).length = L.length * 6 := by
  induction L with
  | nil => rfl
  | cons c L ih =>
    show (c.cs ++ cellsV L).length = _
    rw [List.length_append, ih, List.length_cons]
    show 6 + _ = _
    omega
theorem cellsV_one (L : List Cel) : ∀ u ∈ cellsV L, u.oneCell' = true := fun u hu => by
  obtain ⟨c, _, hc⟩ := List.mem_flatMap.1 hu
  simp only [Cel.cs, List.mem_cons, List.not_mem_nil, or_false] at hc
  rcases hc with rfl | rfl | rfl | rfl | rfl | rfl <;> rfl
theorem cells_src {w : World} {g : Nat} {L : List Cel} (h : CellsM w g L) : ∀ j u, (cellsV L)[j]? = some u → w.cell? ((⟨g, 0, none⟩ : Addr).add j) = some u := fun j u hu => by
  have hj : j < L.length * 6 := by
    have := (List.getElem?_eq_some_iff.1 hu).1
    rwa [cellsV_len] at this
  have e : j = j / 6 * 6 + j % 6 := by omega
  have h6 : j % 6 < 6 := Nat.mod_lt _ (by omega)
  have hq : j / 6 < L.length := by omega
  rw [addr_addS, Nat.zero_add]
  rw [e] at hu ⊢
  rw [cellsV_at L _ _ hq h6] at hu
  rw [h.at_ _ hq _ h6]
  exact hu
/-- Cells that were made are cells that lie there. -/
theorem cells_own {w : World} {b : Nat} {v : Value} {L : List Cel} (h : w.ownsRow b 47 6 v L.length (cellsV L)) (hl : 0 < L.length) : ∃ g ex, v = .slice (some ⟨g, 0, none⟩) L.length (L.length + ex) ∧ b ≤ g ∧ CellsM w g L := by
  have hr := h
  rcases h.2 with ⟨rfl, e⟩ | ⟨g, cap, cur, rfl, hb, hh, h1, h2, h3, h4⟩
  · omega
  · refine ⟨g, cap - L.length, by rw [Nat.add_sub_cancel' h1], hb, fun i hi j hj => ?_, fun o => frozen_of_heap hh, (Array.getElem?_eq_some_iff.1 hh).1⟩
    rw [World.ownsRow.cellAt hr (i * 6 + j) (by omega), cellsV_at L i j hi hj]
def CopyD (s : Spc) (w : World) (e : Ending) (w' : World) : Prop := ∃ b' g' ex, e = .returned (.pointer (some ⟨b', 0, none⟩)) ∧ w.heap.size ≤ b' ∧ w.heap.size ≤ g' ∧ SpM w' b' g' { s with ex := ex } ∧ Below w.heap.size w w'
set_option maxRecDepth 100000 in
set_option maxHeartbeats 4000000 in
/-- Two that are alike. -/
theorem same_yes {b g b' g' : Nat} {s t : Spc} (w : World) (h : SpM w b g s) (k : SpM w b' g' t) (e0 : t.mo = s.mo) (e1 : t.alt = s.alt) (e2 : t.L = s.L) (e3 : t.cu = s.cu) : Calls Tryd.prog 11 #[.pointer (some ⟨b, 0, none⟩), .pointer (some ⟨b', 0, none⟩)] w fun e w' => e = .returned (.bool true) ∧ Below w.heap.size w w' := by
  obtain ⟨c0, c1, c2, c3⟩ : w.cell? ⟨b, 0, none⟩ = some (.int .i64 s.mo) ∧ w.cell? ⟨b, 1, none⟩ = some (.bool s.alt) ∧ w.cell? ⟨b, 2, none⟩ = some (.slice (some ⟨g, 0, none⟩) s.L.length (s.L.length + s.ex)) ∧ w.cell? ⟨b, 3, none⟩ = some (.int .i64 s.cu) := ⟨h.h0, h.h1, h.h2, h.h3⟩
  obtain ⟨d0, d1, d2, d3⟩ : w.cell? ⟨b', 0, none⟩ = some (.int .i64 s.mo) ∧ w.cell? ⟨b', 1, none⟩ = some (.bool s.alt) ∧ w.cell? ⟨b', 2, none⟩ = some (.slice (some ⟨g', 0, none⟩) s.L.length (s.L.length + t.ex)) ∧ w.cell? ⟨b', 3, none⟩ = some (.int .i64 s.cu) := ⟨by rw [← e0]; exact k.h0, by rw [← e1]; exact k.h1, by rw [← e2]; exact k.h2, by rw [← e3]; exact k.h3⟩
  have hN := h.ok.pos
  have HA := hid (fun W (hb : Below w.heap.size w W) => (h.below hb).row.at_)
  have HA' := hid (fun W (hb : Below w.heap.size w W) => (show ∀ i, i < s.L.length → ∀ j, j < 6 → W.cell? ⟨g', i * 6 + j, none⟩ = (s.L.getD i cel0).cs[j]? from by rw [← e2]; exact (k.below hb).row.at_))
  have HEC := hid (fun W => equalC_row g g' s.L.length (s.L.length + s.ex) (s.L.length + t.ex) s.L rfl (by omega) W)
  have hl := h.lt.1
  have hl' := k.lt.1
  have HC0 := hid (show w.cell? ⟨b, 0, none⟩ = some (.int .i64 s.mo) ∧ w.cell? ⟨b, 1, none⟩ = some (.bool s.alt) ∧ w.cell? ⟨b, 2, none⟩ = some (.slice (some ⟨g, 0, none⟩) s.L.length (s.L.length + s.ex)) ∧ w.cell? ⟨b, 3, none⟩ = some (.int .i64 s.cu) ∧ w.cell? ⟨b', 0, none⟩ = some (.int .i64 s.mo) ∧ w.cell? ⟨b', 1, none⟩ = some (.bool s.alt) ∧ w.cell? ⟨b', 2, none⟩ = some ((.slice (some ⟨g', 0, none⟩) s.L.length (s.L.length + t.ex))) ∧ w.cell? ⟨b', 3, none⟩ = some (.int .i64 s.cu) ∧ Below w.heap.size w w from ⟨c0, c1, c2, c3, d0, d1, d2, d3, Below.refl _ _⟩)
  clear h k e0 e1 e2 e3 c0 c1 c2 c3 d0 d1 d2 d3
  go_enter Tryd.func11, Tryd.ntmps11
  go_wp2_with fail
  refine wp_region_held_drew (S := fun V => V.cell? ⟨b, 0, none⟩ = some (.int .i64 s.mo) ∧ V.cell? ⟨b, 1, none⟩ = some (.bool s.alt) ∧ V.cell? ⟨b, 2, none⟩ = some (.slice (some ⟨g, 0, none⟩) s.L.length (s.L.length + s.ex)) ∧ V.cell? ⟨b, 3, none⟩ = some (.int .i64 s.cu) ∧ V.cell? ⟨b', 0, none⟩ = some (.int .i64 s.mo) ∧ V.cell? ⟨b', 1, none⟩ = some (.bool s.alt) ∧ V.cell? ⟨b', 2, none⟩ = some ((.slice (some ⟨g', 0, none⟩) s.L.length (s.L.length + t.ex))) ∧ V.cell? ⟨b', 3, none⟩ = some (.int .i64 s.cu) ∧ Below w.heap.size w V) (by kernel_rfl) ?_ (fun hHeld => ?_)
  · have hdr : Below w.heap.size w w.drew := (Below.refl _ _).drew
    exact ⟨keepc hdr HC0.out.1, keepc hdr HC0.out.2.1, keepc hdr HC0.out.2.2.1, keepc hdr HC0.out.2.2.2.1, keepc hdr HC0.out.2.2.2.2.1, keepc hdr HC0.out.2.2.2.2.2.1, keepc hdr HC0.out.2.2.2.2.2.2.1, keepc hdr HC0.out.2.2.2.2.2.2.2.1, below_t HC0.out.2.2.2.2.2.2.2.2 hdr⟩
  refine takeD (i := 0) (v := ?_) 14 rfl rfl (by kernel_rfl) (by kernel_rfl) (by kernel_rfl) (fun _ _ _ h => h) (by assumption) (Or.inl ⟨by rfl, ?_⟩) ?_
  rotate_left
  · intro w hSw
    (try dsimp only at hSw)
    go_simp
    try with_reducible rfl
  simp only [List.setIfInBounds_toArray, List.set_cons_zero, List.set_cons_succ]
  refine takeD (i := 1) (v := ?_) 15 rfl rfl (by kernel_rfl) (by kernel_rfl) (by kernel_rfl) (fun _ _ _ h => h) (by assumption) (Or.inl ⟨by rfl, ?_⟩) ?_
  rotate_left
  · intro w hSw
    (try dsimp only at hSw)
    go_simp
    try with_reducible rfl
  simp only [List.setIfInBounds_toArray, List.set_cons_zero, List.set_cons_succ]
  refine takeD (i := 2) (v := ?_) 16 rfl rfl (by kernel_rfl) (by kernel_rfl) (by kernel_rfl) (fun _ _ _ h => h) (by assumption) (Or.inl ⟨by rfl, ?_⟩) ?_
  rotate_left
  · intro w hSw
    (try dsimp only at hSw)
    go_simp
    try with_reducible rfl
  simp only [List.setIfInBounds_toArray, List.set_cons_zero, List.set_cons_succ]
  refine takeD (i := 3) (v := ?_) 17 rfl rfl (by kernel_rfl) (by kernel_rfl) (by kernel_rfl) (fun _ _ _ h => h) (by assumption) (Or.inl ⟨by rfl, ?_⟩) ?_
  rotate_left
  · intro w hSw
    (try dsimp only at hSw)
    go_simp
    try with_reducible rfl
  simp only [List.setIfInBounds_toArray, List.set_cons_zero, List.set_cons_succ]
  refine takeD (i := 4) (v := ?_) 18 rfl rfl (by kernel_rfl) (by kernel_rfl) (by kernel_rfl) (fun _ _ _ h => h) (by assumption) (Or.inl ⟨by rfl, ?_⟩) ?_
  rotate_left
  · intro w hSw
    (try dsimp only at hSw)
    go_simp
    try with_reducible rfl
  simp only [List.setIfInBounds_toArray, List.set_cons_zero, List.set_cons_succ]
  refine takeD (i := 5) (v := ?_) 19 rfl rfl (by kernel_rfl) (by kernel_rfl) (by kernel_rfl) (fun _ _ _ h => h) (by assumption) (Or.inl ⟨by rfl, ?_⟩) ?_
  rotate_left
  · intro w hSw
    (try dsimp only at hSw)
    go_simp
    try with_reducible rfl
  simp only [List.setIfInBounds_toArray, List.set_cons_zero, List.set_cons_succ]
  refine takeD (i := 6) (v := ?_) 20 rfl rfl (by kernel_rfl) (by kernel_rfl) (by kernel_rfl) (fun _ _ _ h => h) (by assumption) (Or.inl ⟨by rfl, ?_⟩) ?_
  rotate_left
  · intro w hSw
    (try dsimp only at hSw)
    go_simp
    try with_reducible rfl
  simp only [List.setIfInBounds_toArray, List.set_cons_zero, List.set_cons_succ]
  refine takeD (i := 7) (v := ?_) 21 rfl rfl (by kernel_rfl) (by kernel_rfl) (by kernel_rfl) (fun _ _ _ h => h) (by assumption) (Or.inl ⟨by rfl, ?_⟩) ?_
  rotate_left
  · intro w hSw
    (try dsimp only at hSw)
    go_simp
    try with_reducible rfl
  simp only [List.setIfInBounds_toArray, List.set_cons_zero, List.set_cons_succ]
  refine takeD (i := 8) (v := ?_) 22 rfl rfl (by kernel_rfl) (by kernel_rfl) (by kernel_rfl) (fun _ _ _ h => h) (by assumption) (Or.inl ⟨by rfl, ?_⟩) ?_
  rotate_left
  · intro w hSw
    (try dsimp only at hSw)
    go_simp
    try with_reducible rfl
  simp only [List.setIfInBounds_toArray, List.set_cons_zero, List.set_cons_succ]
  refine takeD (i := 9) (v := ?_) 23 rfl rfl (by kernel_rfl) (by kernel_rfl) (by kernel_rfl) (fun _ _ _ h => h) (by assumption) (Or.inl ⟨by rfl, ?_⟩) ?_
  rotate_left
  · intro w hSw
    (try dsimp only at hSw)
    go_simp
    try with_reducible rfl
  simp only [List.setIfInBounds_toArray, List.set_cons_zero, List.set_cons_succ]
  refine takeD (i := 10) (v := ?_) 24 rfl rfl (by kernel_rfl) (by kernel_rfl) (by kernel_rfl) (fun _ _ _ h => h) (by assumption) (Or.inl ⟨by rfl, ?_⟩) ?_
  rotate_left
  · intro w hSw
    (try dsimp only at hSw)
    go_simp
    try with_reducible rfl
  simp only [List.setIfInBounds_toArray, List.set_cons_zero, List.set_cons_succ]
  refine takeD (i := 11) (v := ?_) 25 rfl rfl (by kernel_rfl) (by kernel_rfl) (by kernel_rfl) (fun _ _ _ h => h) (by assumption) (Or.inl ⟨by rfl, ?_⟩) ?_
  rotate_left
  · intro w hSw
    (try dsimp only at hSw)
    go_simp
    try with_reducible rfl
  simp only [List.setIfInBounds_toArray, List.set_cons_zero, List.set_cons_succ]
  refine takeD (i := 12) (v := ?_) 26 rfl rfl (by kernel_rfl) (by kernel_rfl) (by kernel_rfl) (fun _ _ _ h => h) (by assumption) (Or.inl ⟨by rfl, ?_⟩) ?_
  rotate_left
  · intro w hSw
    (try dsimp only at hSw)
    go_simp
    try with_reducible rfl
  simp only [List.setIfInBounds_toArray, List.set_cons_zero, List.set_cons_succ]
  refine takeD (i := 13) (v := ?_) 27 rfl rfl (by kernel_rfl) (by kernel_rfl) (by kernel_rfl) (fun _ _ _ h => h) (by assumption) (Or.inl ⟨by rfl, ?_⟩) ?_
  rotate_left
  · intro w hSw
    (try dsimp only at hSw)
    go_simp
    try with_reducible rfl
  simp only [List.setIfInBounds_toArray, List.set_cons_zero, List.set_cons_succ]
  refine takeD (i := 14) (v := ?_) 28 rfl rfl (by kernel_rfl) (by kernel_rfl) (by kernel_rfl) (fun _ _ _ h => h) (by assumption) (Or.inl ⟨by rfl, ?_⟩) ?_
  rotate_left
  · intro w hSw
    (try dsimp only at hSw)
    go_simp
    try with_reducible rfl
  simp only [List.setIfInBounds_toArray, List.set_cons_zero, List.set_cons_succ]
  refine takeD (i := 15) (v := ?_) 29 rfl rfl (by kernel_rfl) (by kernel_rfl) (by kernel_rfl) (fun _ _ _ h => h) (by assumption) (Or.inl ⟨by rfl, ?_⟩) ?_
  rotate_left
  · intro w hSw
    (try dsimp only at hSw)
    go_simp
    try with_reducible rfl
  simp only [List.setIfInBounds_toArray, List.set_cons_zero, List.set_cons_succ]
  refine takeD (i := 16) (v := ?_) 30 rfl rfl (by kernel_rfl) (by kernel_rfl) (by kernel_rfl) (fun _ _ _ h => h) (by assumption) (Or.inl ⟨by rfl, ?_⟩) ?_
  rotate_left
  · intro w hSw
    (try dsimp only at hSw)
    go_simp
    try with_reducible rfl
  simp only [List.setIfInBounds_toArray, List.set_cons_zero, List.set_cons_succ]
  refine takeD (i := 17) (v := ?_) 31 rfl rfl (by kernel_rfl) (by kernel_rfl) (by kernel_rfl) (fun _ _ _ h => h) (by assumption) (Or.inl ⟨by rfl, ?_⟩) ?_
  rotate_left
  · intro w hSw
    (try dsimp only at hSw)
    go_simp
    try with_reducible rfl
  simp only [List.setIfInBounds_toArray, List.set_cons_zero, List.set_cons_succ]
  refine takeD (i := 18) (v := ?_) 32 rfl rfl (by kernel_rfl) (by kernel_rfl) (by kernel_rfl) (fun _ _ _ h => h) (by assumption) (Or.inl ⟨by rfl, ?_⟩) ?_
  rotate_left
  · intro w hSw
    (try dsimp only at hSw)
    go_simp
    try with_reducible rfl
  simp only [List.setIfInBounds_toArray, List.set_cons_zero, List.set_cons_succ]
  refine takeD (i := 19) (v := ?_) 33 rfl rfl (by kernel_rfl) (by kernel_rfl) (by kernel_rfl) (fun _ _ _ h => h) (by assumption) (Or.inl ⟨by rfl, ?_⟩) ?_
  rotate_left
  · intro w hSw
    (try dsimp only at hSw)
    go_simp
    try with_reducible rfl
  simp only [List.setIfInBounds_toArray, List.set_cons_zero, List.set_cons_succ]
  refine takeD (i := 20) (v := ?_) 34 rfl rfl (by kernel_rfl) (by kernel_rfl) (by kernel_rfl) (fun _ _ _ h => h) (by assumption) (Or.inl ⟨by rfl, ?_⟩) ?_
  rotate_left
  · intro w hSw
    (try dsimp only at hSw)
    go_simp
    try with_reducible rfl
  simp only [List.setIfInBounds_toArray, List.set_cons_zero, List.set_cons_succ]
  refine takeD (i := 21) (v := ?_) 35 rfl rfl (by kernel_rfl) (by kernel_rfl) (by kernel_rfl) (fun _ _ _ h => h) (by assumption) (Or.inl ⟨by rfl, ?_⟩) ?_
  rotate_left
  · intro w hSw
    (try dsimp only at hSw)
    go_simp
    try with_reducible rfl
  simp only [List.setIfInBounds_toArray, List.set_cons_zero, List.set_cons_succ]
  refine takeD (i := 22) (v := ?_) 36 rfl rfl (by kernel_rfl) (by kernel_rfl) (by kernel_rfl) (fun _ _ _ h => h) (by assumption) (Or.inl ⟨by rfl, ?_⟩) ?_
  rotate_left
  · intro w hSw
    (try dsimp only at hSw)
    go_simp
    try with_reducible rfl
  simp only [List.setIfInBounds_toArray, List.set_cons_zero, List.set_cons_succ]
  refine takeD (i := 23) (v := ?_) 37 rfl rfl (by kernel_rfl) (by kernel_rfl) (by kernel_rfl) (fun _ _ _ h => h) (by assumption) (Or.inl ⟨by rfl, ?_⟩) ?_
  rotate_left
  · intro w hSw
    (try dsimp only at hSw)
    go_simp
    try with_reducible rfl
  simp only [List.setIfInBounds_toArray, List.set_cons_zero, List.set_cons_succ]
  refine takeD (i := 24) (v := ?_) 38 rfl rfl (by kernel_rfl) (by kernel_rfl) (by kernel_rfl) (fun _ _ _ h => h) (by assumption) (Or.inl ⟨by rfl, ?_⟩) ?_
  rotate_left
  · intro w hSw
    (try dsimp only at hSw)
    go_simp
    try with_reducible rfl
  simp only [List.setIfInBounds_toArray, List.set_cons_zero, List.set_cons_succ]
  refine takeD (i := 25) (v := ?_) 39 rfl rfl (by kernel_rfl) (by kernel_rfl) (by kernel_rfl) (fun _ _ _ h => h) (by assumption) (Or.inl ⟨by rfl, ?_⟩) ?_
  rotate_left
  · intro w hSw
    (try dsimp only at hSw)
    go_simp
    try with_reducible rfl
  simp only [List.setIfInBounds_toArray, List.set_cons_zero, List.set_cons_succ]
  refine takeD (i := 26) (v := ?_) 40 rfl rfl (by kernel_rfl) (by kernel_rfl) (by kernel_rfl) (fun _ _ _ h => h) (by assumption) (Or.inl ⟨by rfl, ?_⟩) ?_
  rotate_left
  · intro w hSw
    (try dsimp only at hSw)
    go_simp
    try with_reducible rfl
  simp only [List.setIfInBounds_toArray, List.set_cons_zero, List.set_cons_succ]
  refine takeD (i := 27) (v := ?_) 41 rfl rfl (by kernel_rfl) (by kernel_rfl) (by kernel_rfl) (fun _ _ _ h => h) (by assumption) (Or.inl ⟨by rfl, ?_⟩) ?_
  rotate_left
  · intro w hSw
    (try dsimp only at hSw)
    go_simp
    try with_reducible rfl
  simp only [List.setIfInBounds_toArray, List.set_cons_zero, List.set_cons_succ]
  refine takeD (i := 28) (v := ?_) 42 rfl rfl (by kernel_rfl) (by kernel_rfl) (by kernel_rfl) (fun _ _ _ h => h) (by assumption) (Or.inl ⟨by rfl, ?_⟩) ?_
  rotate_left
  · intro w hSw
    (try dsimp only at hSw)
    go_simp
    try with_reducible rfl
  simp only [List.setIfInBounds_toArray, List.set_cons_zero, List.set_cons_succ]
  refine takeD (i := 29) (v := ?_) 43 rfl rfl (by kernel_rfl) (by kernel_rfl) (by kernel_rfl) (fun _ _ _ h => h) (by assumption) (Or.inl ⟨by rfl, ?_⟩) ?_
  rotate_left
  · intro w hSw
    (try dsimp only at hSw)
    go_simp
    try with_reducible rfl
  simp only [List.setIfInBounds_toArray, List.set_cons_zero, List.set_cons_succ]
  refine takeD (i := 30) (v := ?_) 44 rfl rfl (by kernel_rfl) (by kernel_rfl) (by kernel_rfl) (fun _ _ _ h => h) (by assumption) (Or.inl ⟨by rfl, ?_⟩) ?_
  rotate_left
  · intro w hSw
    (try dsimp only at hSw)
    go_simp
    try with_reducible rfl
  simp only [List.setIfInBounds_toArray, List.set_cons_zero, List.set_cons_succ]
  refine takeD (i := 31) (v := ?_) 45 rfl rfl (by kernel_rfl) (by kernel_rfl) (by kernel_rfl) (fun _ _ _ h => h) (by assumption) (Or.inl ⟨by rfl, ?_⟩) ?_
  rotate_left
  · intro w hSw
    (try dsimp only at hSw)
    go_simp
    try with_reducible rfl
  simp only [List.setIfInBounds_toArray, List.set_cons_zero, List.set_cons_succ]
  refine takeD (i := 32) (v := ?_) 46 rfl rfl (by kernel_rfl) (by kernel_rfl) (by kernel_rfl) (fun _ _ _ h => h) (by assumption) (Or.inl ⟨by rfl, ?_⟩) ?_
  rotate_left
  · intro w hSw
    (try dsimp only at hSw)
    go_simp
    try with_reducible rfl
  simp only [List.setIfInBounds_toArray, List.set_cons_zero, List.set_cons_succ]
  refine takeD (i := 33) (v := ?_) 47 rfl rfl (by kernel_rfl) (by kernel_rfl) (by kernel_rfl) (fun _ _ _ h => h) (by assumption) (Or.inl ⟨by rfl, ?_⟩) ?_
  rotate_left
  · intro w hSw
    (try dsimp only at hSw)
    go_simp
    try with_reducible rfl
  simp only [List.setIfInBounds_toArray, List.set_cons_zero, List.set_cons_succ]
  refine takeD (i := 34) (v := ?_) 48 rfl rfl (by kernel_rfl) (by kernel_rfl) (by kernel_rfl) (fun _ _ _ h => h) (by assumption) (Or.inl ⟨by rfl, ?_⟩) ?_
  rotate_left
  · intro w hSw
    (try dsimp only at hSw)
    go_simp
    try with_reducible rfl
  simp only [List.setIfInBounds_toArray, List.set_cons_zero, List.set_cons_succ]
  refine takeD (i := 35) (v := ?_) 49 rfl rfl (by kernel_rfl) (by kernel_rfl) (by kernel_rfl) (fun _ _ _ h => h) (by assumption) (Or.inl ⟨by rfl, ?_⟩) ?_
  rotate_left
  · intro w hSw
    (try dsimp only at hSw)
    go_simp
    try with_reducible rfl
  simp only [List.setIfInBounds_toArray, List.set_cons_zero, List.set_cons_succ]
  refine takeD (i := 36) (v := ?_) 50 rfl rfl (by kernel_rfl) (by kernel_rfl) (by kernel_rfl) (fun _ _ _ h => h) (by assumption) (Or.inl ⟨by rfl, ?_⟩) ?_
  rotate_left
  · intro w hSw
    (try dsimp only at hSw)
    go_simp
    try with_reducible rfl
  simp only [List.setIfInBounds_toArray, List.set_cons_zero, List.set_cons_succ]
  refine takeD (i := 37) (v := ?_) 51 rfl rfl (by kernel_rfl) (by kernel_rfl) (by kernel_rfl) (fun _ _ _ h => h) (by assumption) (Or.inl ⟨by rfl, ?_⟩) ?_
  rotate_left
  · intro w hSw
    (try dsimp only at hSw)
    go_simp
    try with_reducible rfl
  simp only [List.setIfInBounds_toArray, List.set_cons_zero, List.set_cons_succ]
  refine takeD (i := 38) (v := ?_) 52 rfl rfl (by kernel_rfl) (by kernel_rfl) (by kernel_rfl) (fun _ _ _ h => h) (by assumption) (Or.inl ⟨by rfl, ?_⟩) ?_
  rotate_left
  · intro w hSw
    (try dsimp only at hSw)
    go_simp
    try with_reducible rfl
  simp only [List.setIfInBounds_toArray, List.set_cons_zero, List.set_cons_succ]
  refine takeD (i := 39) (v := ?_) 53 rfl rfl (by kernel_rfl) (by kernel_rfl) (by kernel_rfl) (fun _ _ _ h => h) (by assumption) (Or.inl ⟨by rfl, ?_⟩) ?_
  rotate_left
  · intro w hSw
    (try dsimp only at hSw)
    go_simp
    try with_reducible rfl
  simp only [List.setIfInBounds_toArray, List.set_cons_zero, List.set_cons_succ]
  refine wpAnyH_ready (rs := [40]) (by kernel_rfl) (by simp) ?_
  refine AllReadyH.cons (by simp only [List.getElem?_toArray, List.getElem?_cons_succ, List.getElem?_cons_zero]; rfl) (fun K hK => ?_) AllReadyH.nil
  go_simp
  go_at_call 36; (with_reducible refine (HEC.out _ (HA.out _ hHeld.2.2.2.2.2.2.2.2) (HA'.out _ hHeld.2.2.2.2.2.2.2.2)).mono ?_); rintro e w1 ⟨rfl, hb1⟩
  refine hK.out _ _ ?_ (fun hHeldN => ?_)
  · exact ⟨keepc hb1 hHeld.1, keepc hb1 hHeld.2.1, keepc hb1 hHeld.2.2.1, keepc hb1 hHeld.2.2.2.1, keepc hb1 hHeld.2.2.2.2.1, keepc hb1 hHeld.2.2.2.2.2.1, keepc hb1 hHeld.2.2.2.2.2.2.1, keepc hb1 hHeld.2.2.2.2.2.2.2.1, below_t hHeld.2.2.2.2.2.2.2.2 hb1⟩
  clear hK K hHeld
  have hHeld := hHeldN
  clear hHeldN
  (try simp only [Act.put, List.setIfInBounds_toArray, List.set_cons_zero, List.set_cons_succ])
  refine takeD (i := 41) (v := ?_) 55 rfl rfl (by kernel_rfl) (by kernel_rfl) (by kernel_rfl) (fun _ _ _ h => h) (by assumption) (Or.inl ⟨by rfl, ?_⟩) ?_
  rotate_left
  · intro w hSw
    (try dsimp only at hSw)
    go_simp
    try with_reducible rfl
  simp only [List.setIfInBounds_toArray, List.set_cons_zero, List.set_cons_succ]
  refine takeD (i := 42) (v := ?_) 4 rfl rfl (by kernel_rfl) (by kernel_rfl) (by kernel_rfl) (fun _ _ _ h => h) (by assumption) (Or.inl ⟨by rfl, ?_⟩) ?_
  rotate_left
  · intro w hSw
    (try dsimp only at hSw)
    go_simp
    try with_reducible rfl
  simp only [List.setIfInBounds_toArray, List.set_cons_zero, List.set_cons_succ]
  refine wpAnyH_done (by kernel_rfl) ?_ _
  have HE := hid hHeld
  clear hHeld
  go_wp2
  go_ret
  exact ⟨rfl, HE.out.2.2.2.2.2.2.2.2⟩
set_option maxRecDepth 100000 in
theorem same_nil (w : World) : Calls Tryd.prog 11 #[.pointer none, .pointer none] w fun e w' => e = .returned (.bool true) ∧ Below w.heap.size w w' := by
  go_enter Tryd.func11, Tryd.ntmps11
  go_wp2
  go_ret
  exact ⟨rfl, Below.refl _ _⟩
set_option maxRecDepth 100000 in
theorem same_nil2 (b : Nat) (w : World) : Calls Tryd.prog 11 #[.pointer none, .pointer (some ⟨b, 0, none⟩)] w fun e w' => e = .returned (.bool false) ∧ Below w.heap.size w w' := by
  have heq : ∀ W : World, Sem.run Tryd.prog (binOp .eql 25 (.pointer none) (.pointer (some ⟨b, 0, none⟩))) W = .ok (.bool false) W := fun _ => by kernel_rfl
  go_enter Tryd.func11, Tryd.ntmps11
  go_wp2
  go_ret
  exact ⟨rfl, Below.refl _ _⟩
set_option maxRecDepth 100000 in
theorem same_no (a : Addr) (w : World) : Calls Tryd.prog 11 #[.pointer (some a), .pointer none] w fun e w' => e = .returned (.bool false) ∧ Below w.heap.size w w' := by
  go_enter Tryd.func11, Tryd.ntmps11
  go_wp2
  go_ret
  exact ⟨rfl, Below.refl _ _⟩
end Go.Proofs.YtdampfngdnicoaaDoor
namespace Go.Proofs.YtdampfngdnicoaaDoor
open Go.RowKit Go.Lib Go.Deep

section
variable {F : Fence} {n : Nat} {P : Program}
/-- A loop over an iterator that tells nothing. -/
theorem rangeFunc_none {α : Type} {g : Operand} {ps : Array Tmp} {assign body : Code} {Q : Exit → Act → World → Prop} {a : Act} {w : World}
    (hro : F.round = none) (h1 : 1 ≤ n) {gf : Nat} {lb : Array Value} (hg : a.eval g = .func (.func gf) #[] lb) (hFg : F.fn gf) (eg : ∀ args w, (callFunc gf args).run P w = .ok (.enter gf args) w)
    {encs : α → Array Value} (hps : ∀ x, (encs x).size = ps.size) {R : World → Prop} (J : World → Prop) (hJ : Abides w.heap.size J) (hR : ∀ V, J V → R V) (h0 : J w)
    (hiter : ∀ W, SeqF F (n - 1) P gf lb encs (fun _ _ _ => False) 0 R W)
    (hdone : ∀ (D : Nat) (W : World), w.heap.size ≤ D → J W → W.heap[D]? = some (.deferred (some [])) → Q .normal { a with defers := { target := .collected D, args := #[] } :: a.defers } W) :
    (Code.rangeFunc g ps assign body).wpIn F n P Q a w :=
  rangeFunc_seq hro h1 hg hFg eg hps (fun _ _ => J) (fun _ _ _ _ => False) (fun _ _ => hJ) (fun _ _ _ _ _ _ h => h.elim) (fun _ _ V h => hR V h) h0 (fun _ _ _ _ _ => False) (fun _ _ _ _ _ _ _ h => h.elim)
    (fun _ _ _ _ _ _ h => absurd h (Nat.not_lt_zero _)) (fun _ _ _ _ _ _ h => absurd h (Nat.not_lt_zero _)) (fun _ _ _ _ => hiter _) (fun D _ W hD h hK => hdone D W hD h hK) (fun _ _ _ _ _ _ h => absurd h (Nat.not_lt_zero _))
end
set_option maxRecDepth 100000 in
set_option maxHeartbeats 4000000 in
theorem all_nil (w : World) : Calls Tryd.prog 89 #[.pointer none] w fun e w' => ∃ bx, e = .returned (.func (.func 107) #[] #[.pointer (some ⟨bx, 0, none⟩)]) ∧ w.heap.size ≤ bx ∧ w'.cell? ⟨bx, 0, none⟩ = some (.pointer none) ∧ Below w.heap.size w w' := by
  go_enter Tryd.func89, Tryd.ntmps89
  go_wp2
  go_ret
  exact ⟨w.heap.size, rfl, Nat.le_refl _, by simp [go_sem], (Below.refl _ _).al (Nat.le_refl _) _⟩
set_option maxRecDepth 100000 in
set_option maxHeartbeats 4000000 in
theorem attrsIt_nil (w : World) : Calls Tryd.prog 71 #[.pointer none] w fun e w' => ∃ bx, e = .returned (.func (.func 88) #[] #[.pointer (some ⟨bx, 0, none⟩)]) ∧ w.heap.size ≤ bx ∧ w'.cell? ⟨bx, 0, none⟩ = some (.pointer none) ∧ Below w.heap.size w w' := by
  go_enter Tryd.func71, Tryd.ntmps71
  go_wp2
  go_ret
  exact ⟨w.heap.size, rfl, Nat.le_refl _, by simp [go_sem], (Below.refl _ _).al (Nat.le_refl _) _⟩
set_option maxRecDepth 100000 in
set_option maxHeartbeats 4000000 in
theorem cursor_nil (w : World) : Calls Tryd.prog 54 #[.pointer none] w fun e w' => e = .returned (.int .i64 0) ∧ Below w.heap.size w w' := by
  go_enter Tryd.func54, Tryd.ntmps54
  go_wp2
  go_ret
  exact ⟨rfl, Below.refl _ _⟩
set_option maxRecDepth 100000 in
set_option maxHeartbeats 4000000 in
theorem alternate_nil (w : World) : Calls Tryd.prog 12 #[.pointer none] w fun e w' => e = .returned (.bool false) ∧ Below w.heap.size w w' := by
  go_enter Tryd.func12, Tryd.ntmps12
  go_wp2
  go_ret
  exact ⟨rfl, Below.refl _ _⟩
set_option maxRecDepth 100000 in
set_option maxHeartbeats 4000000 in
theorem size_nil (w : World) : Calls Tryd.prog 41 #[.pointer none] w fun e w' => e = .returned (sizeV 0 0) ∧ Below w.heap.size w w' := by
  go_enter Tryd.func41, Tryd.ntmps41
  go_wp2
  exact bodyPost_ret (v := sizeV 0 0) (by simp [results, Tryd.results41, go_sem]) rfl ⟨rfl, (Below.refl _ _).al (Nat.le_refl _) _⟩
set_option maxRecDepth 100000 in
set_option maxHeartbeats 4000000 in
theorem at_nil (n : Int) (w : World) : Calls Tryd.prog 14 #[.pointer none, .int .i64 n] w fun e w' => e = .returned cel0.v ∧ Below w.heap.size w w' := by
  go_enter Tryd.func14, Tryd.ntmps14
  go_wp2
  exact bodyPost_ret (v := cel0.v) (by simp [results, Tryd.results14, go_sem, cel0]) rfl ⟨rfl, (Below.refl _ _).al (Nat.le_refl _) _⟩
set_option maxRecDepth 100000 in
set_option maxHeartbeats 4000000 in
theorem set_nil (n : Int) (c : Cel) (w : World) : Calls Tryd.prog 29 #[.pointer none, .int .i64 n, c.v] w fun e w' => (∃ v, e = .returned v) ∧ Below w.heap.size w w' := by
  obtain ⟨x0, x1, x2, x3, x4, x5⟩ := c
  go_enter Tryd.func29, Tryd.ntmps29
  go_wp2
  exact bodyPost_ret (results_none rfl _ _ _) rfl ⟨⟨_, rfl⟩, (Below.refl _ _).al (Nat.le_refl _) _⟩
set_option maxRecDepth 100000 in
set_option maxHeartbeats 4000000 in
theorem place_nil (n : Int) (w : World) : Calls Tryd.prog 30 #[.pointer none, .int .i64 n] w fun e w' => (∃ v, e = .returned v) ∧ Below w.heap.size w w' := by
  go_enter Tryd.func30, Tryd.ntmps30
  go_wp2
  go_end0
  exact ⟨⟨_, rfl⟩, Below.refl _ _⟩
set_option maxRecDepth 100000 in
set_option maxHeartbeats 4000000 in
theorem clear_nil (al : Bool) (w : World) : Calls Tryd.prog 28 #[.pointer none, .bool al] w fun e w' => (∃ v, e = .returned v) ∧ Below w.heap.size w w' := by
  go_enter Tryd.func28, Tryd.ntmps28
  go_wp2
  exact bodyPost_ret (results_none rfl _ _ _) rfl ⟨⟨_, rfl⟩, Below.refl _ _⟩
set_option maxRecDepth 100000 in
set_option maxHeartbeats 4000000 in
theorem put_nil (n : Int) (k : Int) (w : World) : Calls Tryd.prog 75 #[.pointer none, .int .i64 n, .int .u8 k] w fun e w' => (∃ v, e = .returned v) ∧ Below w.heap.size w w' := by
  have HA := hid (fun W => at_nil n W)
  have HS := hid (fun W => (show Calls Tryd.prog 29 #[.pointer none, .int .i64 n, .agg #[.int .u8 k, .bool false, .int .u8 0, .int .u8 0, .int .u8 0, .int .u8 0]] W _ from set_nil n ⟨k, false, 0, 0, 0, 0⟩ W))
  go_enter Tryd.func75, Tryd.ntmps75
  go_wp2_with fail
  with_reducible refine (HA.out _).mono ?_
  rintro e w1 ⟨rfl, hb1⟩
  have HB1 := hid hb1
  clear hb1
  rw [show cel0.v = .agg #[.int .u8 0, .bool false, .int .u8 0, .int .u8 0, .int .u8 0, .int .u8 0] from rfl]
  go_wp2_with fail
  with_reducible refine (HS.out _).mono ?_
  rintro e w2 ⟨⟨v, rfl⟩, hb2⟩
  have HB2 := hid hb2
  clear hb2
  go_wp2
  go_end0
  refine ⟨⟨_, rfl⟩, ?_⟩
  exact below_t (below_t HB1.out ((Below.refl _ _).al (Nat.le_refl _) _)) HB2.out
def RN (bx : Nat) (V : World) : Prop := V.cell? ⟨bx, 0, none⟩ = some (.pointer none)
set_option maxRecDepth 100000 in
set_option maxHeartbeats 4000000 in
theorem all_nil_seq (n : Nat) (_hn : 1 ≤ n) (bx : Nat) (W : World) : SeqF Fence.wide n Tryd.prog 107 #[.pointer (some ⟨bx, 0, none⟩)] encA (fun _ _ _ => False) 0 (RN bx) W := fun l I Ix _ _ hR h0 hY => by
  have hb : W.cell? ⟨bx, 0, none⟩ = some (.pointer none) := hR _ _ _ h0
  have hlt : bx < W.heap.size := World.block_lt_of_cell? W _ hb
  have H0 := hid h0
  clear hY hR h0
  refine callsIn_of_wp Tryd.func107 rfl trivial ?_ rfl
  simp only [Tryd.ntmps107, List.size_toArray, List.length_cons, List.length_nil, Nat.reduceAdd, Nat.reduceSub, Array.replicate_succ, Array.replicate_zero, List.push_toArray, List.append_toArray, List.nil_append, List.cons_append]
  gi_wp2
  refine bodyPost_ret (results_none rfl _ _ _) rfl ?_
  exact ⟨⟨_, rfl⟩, .inl ⟨_, H0.out⟩⟩
set_option maxRecDepth 100000 in
set_option maxHeartbeats 4000000 in
theorem attrs_nil_seq (n : Nat) (hn : 4 ≤ n) (bx : Nat) (W : World) : SeqF Fence.wide n Tryd.prog 88 #[.pointer (some ⟨bx, 0, none⟩)] encI (fun _ _ _ => False) 0 (RN bx) W := fun l I Ix hI hIx hR h0 hY => by
  have hb : W.cell? ⟨bx, 0, none⟩ = some (.pointer none) := hR _ _ _ h0
  have hlt : bx < W.heap.size := World.block_lt_of_cell? W _ hb
  have H0 := hid h0
  clear hY hR h0
  refine callsIn_of_wp_marks Tryd.func88 rfl trivial ?_ rfl
  simp only [Tryd.ntmps88, List.size_toArray, List.length_cons, List.length_nil, Nat.reduceAdd, Nat.reduceSub, Array.replicate_succ, Array.replicate_zero, List.push_toArray, List.append_toArray, List.nil_append, List.cons_append]
  gi_wp2
  refine ⟨trivial, fun _ => (by omega), ?_⟩
  refine (callsIn_wide.2 (all_nil _)).mono ?_
  rintro e w1 ⟨bs, rfl, hbs, hcs, hb1⟩
  have hg1 : Grow W.heap.size W w1 := (Grow.alloc W _ _).trans (Grow.below hb1 _)
  have hz1 : W.heap.size ≤ w1.heap.size := hg1.size
  have HI0 := hid (show I 0 [] w1 ∧ RN bs w1 from ⟨hI _ _ _ _ hg1 H0.out, hcs⟩)
  clear hb1 hg1 hcs hbs hb hlt
  gi_wp2
  refine rangeFunc_none (n := n) (w := w1) rfl (by omega) (gf := 107) (lb := #[.pointer (some ⟨bs, 0, none⟩)]) rfl trivial (enters_of Tryd.func107 (by kernel_rfl) rfl)
    (encs := encA) (fun _ => rfl) (R := RN bs) (fun V => I 0 [] V ∧ RN bs V) (fun A C hg h => ⟨hI _ _ _ _ (hg.mono hz1) h.1, cell_grow hg h.2⟩) (fun V h => h.2) HI0.out (fun V => all_nil_seq (n - 1) (by omega) bs V) ?done
  case done =>
    rintro D V hD hi hK
    have HK := hid hK
    have HI := hid hi
    clear hi hK
    gi_wp2
    refine ⟨by simp, .inl ⟨_, _, rfl, run_takeDeferred HK.out, ?_⟩⟩
    exact ⟨_, results_none rfl _ _ _, ⟨_, rfl⟩, .inl ⟨[], hI _ _ _ _ (Grow.put _ (by omega) HK.out rfl) HI.out.1⟩⟩
section
attribute [local go_sem] Oper.semAt_some
end
end Go.Proofs.YtdampfngdnicoaaDoor
namespace Go.Proofs.YtdampfngdnicoaaDoor
open Go.RowKit Go.Lib Go.Deep

/-- The widest fence, no round: a plain walk serves. -/
theorem wpIn_of_wp {n : Nat} {P : Program} {c : Code} {Q : Exit → Act → World → Prop} {a : Act} {w : World} (h : c.wp P Q a w) : c.wpIn Fence.wide n P Q a w := fun b k cs hro _ _ => by
  have hro : b.roundOf = none := hro
  obtain ⟨e, a', w', q, r⟩ := h b k cs
  refine ⟨e, a', w', q, ?_⟩
  rw [Frame.atR_of_none hro]
  cases e with
  | normal => show StepsIn _ _ _ _; rw [Frame.atR_of_none hro]; exact stepsIn_wide.2 r
  | exit id => exact ⟨fun k' hk => by rw [Frame.atR_of_none hro]; exact stepsIn_wide.2 (r k' hk), fun h => by rw [hro] at h; cases h⟩
  | goto l => exact ⟨fun k' hk => by rw [Frame.atR_of_none hro]; exact stepsIn_wide.2 (r k' hk), fun h => by rw [hro] at h; cases h⟩
  | ret =>
    obtain ⟨todo, hs⟩ := r
    exact ⟨fun _ => ⟨todo, by rw [Frame.atR_of_none hro]; exact stepsIn_wide.2 hs⟩, fun h => by rw [hro] at h; cases h⟩
  | panic chain =>
    obtain ⟨todo, hs⟩ := r
    exact ⟨todo, by rw [Frame.atR_of_none hro]; exact stepsIn_wide.2 hs⟩
  | outgrown => exact r
def OnlyN (Q : Exit → Act → World → Prop) : Exit → Act → World → Prop
  | .normal, a, w => Q .normal a w
  | _, _, _ => False
theorem wpIn_of_wpN {n : Nat} {P : Program} {c : Code} {Q : Exit → Act → World → Prop} {a : Act} {w : World} (h : c.wp P (OnlyN Q) a w) : c.wpIn Fence.wide n P Q a w :=
  wpIn_of_wp (wp_mono h (fun e a w q => by cases e <;> first | exact q | exact q.elim))
end Go.Proofs.YtdampfngdnicoaaDoor
