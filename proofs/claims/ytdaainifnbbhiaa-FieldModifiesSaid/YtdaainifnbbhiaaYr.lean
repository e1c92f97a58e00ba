/-
  A copy; two that are the same; what a nil space answers.
-/
import Derived.Test.YtdaainifnbbhiaaYq
import Derived.Lib.LazyBuf
namespace Go.Proofs.Ytdaainifnbbhiaa
open Go.RowKit Go.Lib Go.Deep

theorem cellsV_len (L : List Cel) : (cellsV L).length = L.length * 6 := by
  induction L with
  | nil => rfl
  | cons c L ih =>
    show (c.cs ++ cellsV L).length = _
    rw [List.length_append, ih, List.length_cons]
    show 6 + _ = _
    omega
theorem cellsV_one (L : List Cel) : ∀ u ∈ cellsV L, u.oneCell' = true := fun u hu => by
  obtain ⟨c, _, hc⟩ := List.mem_flatMap.1 hu
  simp only [Cel.cs, List.mem_cons, List.not_mem_nil, or_false] at hc
  rcases hc with rfl | rfl | rfl | rfl | rfl | rfl <;> rfl
theorem cells_src {w : World} {g : Nat} {L : List Cel} (h : CellsM w g L) : ∀ j u, (cellsV L)[j]? = some u → w.cell? ((⟨g, 0, none⟩ : Addr).add j) = some u := fun j u hu => by
  have hj : j < L.length * 6 := by
    have := (List.getElem?_eq_some_iff.1 hu).1
    rwa [cellsV_len] at this
  have e : j = j / 6 * 6 + j % 6 := by omega
  have h6 : j % 6 < 6 := Nat.mod_lt _ (by omega)
  have hq : j / 6 < L.length := by omega
  rw [addr_addS, Nat.zero_add]
  rw [e] at hu ⊢
  rw [cellsV_at L _ _ hq h6] at hu
  rw [h.at_ _ hq _ h6]
  exact hu
/-- Cells that were made are cells that lie there. -/
theorem cells_own {w : World} {b : Nat} {v : Value} {L : List Cel} (h : w.ownsRow b 31 6 v L.length (cellsV L)) (hl : 0 < L.length) : ∃ g ex, v = .slice (some ⟨g, 0, none⟩) L.length (L.length + ex) ∧ b ≤ g ∧ CellsM w g L := by
  have hr := h
  rcases h.2 with ⟨rfl, e⟩ | ⟨g, cap, cur, rfl, hb, hh, h1, h2, h3, h4⟩
  · omega
  · refine ⟨g, cap - L.length, by rw [Nat.add_sub_cancel' h1], hb, fun i hi j hj => ?_, fun o => frozen_of_heap hh, (Array.getElem?_eq_some_iff.1 hh).1⟩
    rw [World.ownsRow.cellAt hr (i * 6 + j) (by omega), cellsV_at L i j hi hj]
set_option maxRecDepth 100000 in
set_option maxHeartbeats 4000000 in
theorem sclone_any (g c : Nat) (L : List Cel) (w : World) (h : CellsM w g L) (hl : 0 < L.length) (hu : L.length ≤ 3564) : Calls Try.prog 75 #[.slice (some ⟨g, 0, none⟩) L.length c] w fun e w' => ∃ g' ex, e = .returned (.slice (some ⟨g', 0, none⟩) L.length (L.length + ex)) ∧ w.heap.size ≤ g' ∧ CellsM w' g' L ∧ Below w.heap.size w w' := by
  obtain ⟨i0, hi, hz0, hz1, hz2⟩ := info_parts infoC
  have HC := hid (cells_src (h.block (((Below.refl w.heap.size w).alloc (Nat.le_refl _) (.cells #[] 31)).block g h.lt)))
  have HM : Hid (0 + L.length ≤ maxLen) := by show _ ≤ _; unfold maxLen; omega
  have HL : Hid ((0 + L.length) * 6 ≤ 140737488355328) := by show _ ≤ _; omega
  have HLL : Hid ((cellsV L).length = L.length * 6) := cellsV_len L
  obtain ⟨N, hN⟩ : ∃ N, N = L.length := ⟨_, rfl⟩
  rw [← hN] at HM HL HLL ⊢
  have HN := hid hN
  have HP := hid hl
  clear hN h hl hu
  have hnil := fun w' => run_eql_slice_nil (P := Try.prog) w' 41 31 (some ⟨g, 0, none⟩) N c Try.underlying41
  go_enter Try.func75, Try.ntmps75
  go_wp2_with (first
    | (at_builtin; refine wpList_append_own _ rfl _ _ 41 rfl w.heap.size 31 i0 (.agg z6) 6 6 Try.underlying41 hi hz0 hz1 hz2 rfl (by decide) _ 0 [] rfl (World.ownsRow_lit _ #[] 0 (Nat.le_refl _) (Nat.zero_le _) rfl) ⟨g, 0, none⟩ N c (cellsV L) rfl HLL.out HC.out (cellsV_one L) HM.out HL.out (by simp) ?_; intro v1 w1 hown1 hgrow1 hnil1; have HO := hid hown1; have HG := hid hgrow1; clear hown1 hgrow1 hnil1))
  have ho := HO.out
  rw [Nat.zero_add, List.nil_append, HN.out] at ho
  obtain ⟨g', ex, rfl, hg', hc⟩ := cells_own ho HP.out
  have HCC := hid hc
  have HGG := hid hg'
  clear ho hc hg' HO
  go_wp2
  go_ret
  exact ⟨g', ex, by rw [HN.out]; rfl, HGG.out, HCC.out, ((Below.refl _ _).alloc (Nat.le_refl _) _).grown HG.out (by simp) (fun k hk => by have e : w.heap.size = k := Option.some.inj hk; omega)⟩
def CopyD (s : Spc) (w : World) (e : Ending) (w' : World) : Prop := ∃ b' g' ex, e = .returned (.pointer (some ⟨b', 0, none⟩)) ∧ w.heap.size ≤ b' ∧ w.heap.size ≤ g' ∧ SpM w' b' g' { s with ex := ex } ∧ Below w.heap.size w w'
set_option maxRecDepth 100000 in
set_option maxHeartbeats 4000000 in
theorem copy_any {b g : Nat} {s : Spc} (w : World) (h : SpM w b g s) : Calls Try.prog 28 #[.pointer (some ⟨b, 0, none⟩)] w (CopyD s w) := by
  have hok := h.ok
  have hlt := h.lt.1
  obtain ⟨h0, h1, h2, h3⟩ : w.cell? ⟨b, 0, none⟩ = some (.int .i64 s.mo) ∧ w.cell? ⟨b, 1, none⟩ = some (.bool s.alt) ∧ w.cell? ⟨b, 2, none⟩ = some (.slice (some ⟨g, 0, none⟩) s.L.length (s.L.length + s.ex)) ∧ w.cell? ⟨b, 3, none⟩ = some (.int .i64 s.cu) := ⟨h.h0, h.h1, h.h2, h.h3⟩
  obtain ⟨W0, hW0⟩ : ∃ W0, w.alloc (.cells #[.int .i64 s.mo, .bool s.alt, .slice (some ⟨g, 0, none⟩) s.L.length (s.L.length + s.ex), .int .i64 s.cu] 101) = W0 := ⟨_, rfl⟩
  have hb0 : Below w.heap.size w W0 := by rw [← hW0]; exact bal (Below.refl _ _) _
  have HCL := hid (sclone_any g (s.L.length + s.ex) s.L W0 (h.below hb0).row hok.pos.1 hok.pos.2)
  have HH := hid (show HdM W0 w.heap.size s.mo s.alt (.slice (some ⟨g, 0, none⟩) s.L.length (s.L.length + s.ex)) s.cu by
    rw [← hW0]
    exact ⟨by simp [go_sem], by simp [go_sem], by simp [go_sem], by simp [go_sem], fun o => by simp [go_sem]⟩)
  have HB := hid (h.below hb0).h2
  have HB0 := hid hb0
  have HW := hid hW0
  have HOK := hid hok
  have hz0 : W0.heap.size = w.heap.size + 1 := by rw [← hW0]; simp
  have HZ := hid hz0
  clear h hok hb0 hW0 hz0
  have hq2 := HB.out
  go_enter Try.func28, Try.ntmps28
  go_wp2_with fail
  simp only [HW.out]
  with_reducible refine HCL.out.mono ?_
  rintro e w1 ⟨g', ex, rfl, hg', hc, hb1⟩
  have HH1 := hid (HH.out.below hb1)
  have HC1 := hid hc
  have HG1 := hid (show w.heap.size + 1 ≤ g' by rw [← HZ.out]; exact hg')
  have HB1 := hid hb1
  have k2 := HH1.out.h2
  have k3 := HH1.out.fr 2
  have hl1 := HH1.out.lt
  clear hc hg' hb1
  go_wp2
  go_ret
  have hne : w.heap.size ≠ g' := by have := HG1.out; omega
  have hb2 : Below w.heap.size w w1 := HB0.out.trans (HB1.out.mono (by rw [HZ.out]; omega))
  refine ⟨w.heap.size, g', ex, rfl, Nat.le_refl _, Nat.le_of_lt HG1.out, ?_, hb2.sc _ _ _ (Nat.le_refl _)⟩
  have hd := HH1.out.row' (.slice (some ⟨g', 0, none⟩) s.L.length (s.L.length + ex))
  exact ⟨hd.h0, hd.h1, hd.h2, hd.h3, hd.fr, HC1.out.block (Go.heap_setCell_other w1 ⟨w.heap.size, 2, none⟩ g' _ (fun q => hne (by simpa using q.symm))), hne, ⟨HOK.out.m1, HOK.out.m2, HOK.out.len, HOK.out.cells, HOK.out.cu1, HOK.out.cu2⟩⟩
set_option maxRecDepth 100000 in
set_option maxHeartbeats 4000000 in
/-- Two that are alike. -/
theorem same_yes {b g b' g' : Nat} {s t : Spc} (w : World) (h : SpM w b g s) (k : SpM w b' g' t) (e0 : t.mo = s.mo) (e1 : t.alt = s.alt) (e2 : t.L = s.L) (e3 : t.cu = s.cu) : Calls Try.prog 29 #[.pointer (some ⟨b, 0, none⟩), .pointer (some ⟨b', 0, none⟩)] w fun e w' => e = .returned (.bool true) ∧ Below w.heap.size w w' := by
  obtain ⟨c0, c1, c2, c3⟩ : w.cell? ⟨b, 0, none⟩ = some (.int .i64 s.mo) ∧ w.cell? ⟨b, 1, none⟩ = some (.bool s.alt) ∧ w.cell? ⟨b, 2, none⟩ = some (.slice (some ⟨g, 0, none⟩) s.L.length (s.L.length + s.ex)) ∧ w.cell? ⟨b, 3, none⟩ = some (.int .i64 s.cu) := ⟨h.h0, h.h1, h.h2, h.h3⟩
  obtain ⟨d0, d1, d2, d3⟩ : w.cell? ⟨b', 0, none⟩ = some (.int .i64 s.mo) ∧ w.cell? ⟨b', 1, none⟩ = some (.bool s.alt) ∧ w.cell? ⟨b', 2, none⟩ = some (.slice (some ⟨g', 0, none⟩) s.L.length (s.L.length + t.ex)) ∧ w.cell? ⟨b', 3, none⟩ = some (.int .i64 s.cu) := ⟨by rw [← e0]; exact k.h0, by rw [← e1]; exact k.h1, by rw [← e2]; exact k.h2, by rw [← e3]; exact k.h3⟩
  have hN := h.ok.pos
  have HA := hid (fun W (hb : Below w.heap.size w W) => (h.below hb).row.at_)
  have HA' := hid (fun W (hb : Below w.heap.size w W) => (show ∀ i, i < s.L.length → ∀ j, j < 6 → W.cell? ⟨g', i * 6 + j, none⟩ = (s.L.getD i cel0).cs[j]? from by rw [← e2]; exact (k.below hb).row.at_))
  have HEC := hid (fun W => equalC_row g g' s.L.length (s.L.length + s.ex) (s.L.length + t.ex) s.L rfl (by omega) W)
  have hl := h.lt.1
  have hl' := k.lt.1
  have HC0 := hid (show w.cell? ⟨b, 0, none⟩ = some (.int .i64 s.mo) ∧ w.cell? ⟨b, 1, none⟩ = some (.bool s.alt) ∧ w.cell? ⟨b, 2, none⟩ = some (.slice (some ⟨g, 0, none⟩) s.L.length (s.L.length + s.ex)) ∧ w.cell? ⟨b, 3, none⟩ = some (.int .i64 s.cu) ∧ w.cell? ⟨b', 0, none⟩ = some (.int .i64 s.mo) ∧ w.cell? ⟨b', 1, none⟩ = some (.bool s.alt) ∧ w.cell? ⟨b', 2, none⟩ = some ((.slice (some ⟨g', 0, none⟩) s.L.length (s.L.length + t.ex))) ∧ w.cell? ⟨b', 3, none⟩ = some (.int .i64 s.cu) ∧ Below w.heap.size w w from ⟨c0, c1, c2, c3, d0, d1, d2, d3, Below.refl _ _⟩)
  clear h k e0 e1 e2 e3 c0 c1 c2 c3 d0 d1 d2 d3
  go_enter Try.func29, Try.ntmps29
  go_wp2_with fail
  refine wp_region_held_drew (S := fun V => V.cell? ⟨b, 0, none⟩ = some (.int .i64 s.mo) ∧ V.cell? ⟨b, 1, none⟩ = some (.bool s.alt) ∧ V.cell? ⟨b, 2, none⟩ = some (.slice (some ⟨g, 0, none⟩) s.L.length (s.L.length + s.ex)) ∧ V.cell? ⟨b, 3, none⟩ = some (.int .i64 s.cu) ∧ V.cell? ⟨b', 0, none⟩ = some (.int .i64 s.mo) ∧ V.cell? ⟨b', 1, none⟩ = some (.bool s.alt) ∧ V.cell? ⟨b', 2, none⟩ = some ((.slice (some ⟨g', 0, none⟩) s.L.length (s.L.length + t.ex))) ∧ V.cell? ⟨b', 3, none⟩ = some (.int .i64 s.cu) ∧ Below w.heap.size w V) (by kernel_rfl) ?_ (fun hHeld => ?_)
  · have hdr : Below w.heap.size w w.drew := (Below.refl _ _).drew
    exact ⟨keepc hdr HC0.out.1, keepc hdr HC0.out.2.1, keepc hdr HC0.out.2.2.1, keepc hdr HC0.out.2.2.2.1, keepc hdr HC0.out.2.2.2.2.1, keepc hdr HC0.out.2.2.2.2.2.1, keepc hdr HC0.out.2.2.2.2.2.2.1, keepc hdr HC0.out.2.2.2.2.2.2.2.1, below_t HC0.out.2.2.2.2.2.2.2.2 hdr⟩
  refine takeD (i := 0) (v := ?_) 14 rfl rfl (by kernel_rfl) (by kernel_rfl) (by kernel_rfl) (fun _ _ _ h => h) (by assumption) (Or.inl ⟨by rfl, ?_⟩) ?_
  rotate_left
  · intro w hSw
    (try dsimp only at hSw)
    go_simp
    try with_reducible rfl
  simp only [List.setIfInBounds_toArray, List.set_cons_zero, List.set_cons_succ]
  refine takeD (i := 1) (v := ?_) 15 rfl rfl (by kernel_rfl) (by kernel_rfl) (by kernel_rfl) (fun _ _ _ h => h) (by assumption) (Or.inl ⟨by rfl, ?_⟩) ?_
  rotate_left
  · intro w hSw
    (try dsimp only at hSw)
    go_simp
    try with_reducible rfl
  simp only [List.setIfInBounds_toArray, List.set_cons_zero, List.set_cons_succ]
  refine takeD (i := 2) (v := ?_) 16 rfl rfl (by kernel_rfl) (by kernel_rfl) (by kernel_rfl) (fun _ _ _ h => h) (by assumption) (Or.inl ⟨by rfl, ?_⟩) ?_
  rotate_left
  · intro w hSw
    (try dsimp only at hSw)
    go_simp
    try with_reducible rfl
  simp only [List.setIfInBounds_toArray, List.set_cons_zero, List.set_cons_succ]
  refine takeD (i := 3) (v := ?_) 17 rfl rfl (by kernel_rfl) (by kernel_rfl) (by kernel_rfl) (fun _ _ _ h => h) (by assumption) (Or.inl ⟨by rfl, ?_⟩) ?_
  rotate_left
  · intro w hSw
    (try dsimp only at hSw)
    go_simp
    try with_reducible rfl
  simp only [List.setIfInBounds_toArray, List.set_cons_zero, List.set_cons_succ]
  refine takeD (i := 4) (v := ?_) 18 rfl rfl (by kernel_rfl) (by kernel_rfl) (by kernel_rfl) (fun _ _ _ h => h) (by assumption) (Or.inl ⟨by rfl, ?_⟩) ?_
  rotate_left
  · intro w hSw
    (try dsimp only at hSw)
    go_simp
    try with_reducible rfl
  simp only [List.setIfInBounds_toArray, List.set_cons_zero, List.set_cons_succ]
  refine takeD (i := 5) (v := ?_) 19 rfl rfl (by kernel_rfl) (by kernel_rfl) (by kernel_rfl) (fun _ _ _ h => h) (by assumption) (Or.inl ⟨by rfl, ?_⟩) ?_
  rotate_left
  · intro w hSw
    (try dsimp only at hSw)
    go_simp
    try with_reducible rfl
  simp only [List.setIfInBounds_toArray, List.set_cons_zero, List.set_cons_succ]
  refine takeD (i := 6) (v := ?_) 20 rfl rfl (by kernel_rfl) (by kernel_rfl) (by kernel_rfl) (fun _ _ _ h => h) (by assumption) (Or.inl ⟨by rfl, ?_⟩) ?_
  rotate_left
  · intro w hSw
    (try dsimp only at hSw)
    go_simp
    try with_reducible rfl
  simp only [List.setIfInBounds_toArray, List.set_cons_zero, List.set_cons_succ]
  refine takeD (i := 7) (v := ?_) 21 rfl rfl (by kernel_rfl) (by kernel_rfl) (by kernel_rfl) (fun _ _ _ h => h) (by assumption) (Or.inl ⟨by rfl, ?_⟩) ?_
  rotate_left
  · intro w hSw
    (try dsimp only at hSw)
    go_simp
    try with_reducible rfl
  simp only [List.setIfInBounds_toArray, List.set_cons_zero, List.set_cons_succ]
  refine takeD (i := 8) (v := ?_) 22 rfl rfl (by kernel_rfl) (by kernel_rfl) (by kernel_rfl) (fun _ _ _ h => h) (by assumption) (Or.inl ⟨by rfl, ?_⟩) ?_
  rotate_left
  · intro w hSw
    (try dsimp only at hSw)
    go_simp
    try with_reducible rfl
  simp only [List.setIfInBounds_toArray, List.set_cons_zero, List.set_cons_succ]
  refine takeD (i := 9) (v := ?_) 23 rfl rfl (by kernel_rfl) (by kernel_rfl) (by kernel_rfl) (fun _ _ _ h => h) (by assumption) (Or.inl ⟨by rfl, ?_⟩) ?_
  rotate_left
  · intro w hSw
    (try dsimp only at hSw)
    go_simp
    try with_reducible rfl
  simp only [List.setIfInBounds_toArray, List.set_cons_zero, List.set_cons_succ]
  refine takeD (i := 10) (v := ?_) 24 rfl rfl (by kernel_rfl) (by kernel_rfl) (by kernel_rfl) (fun _ _ _ h => h) (by assumption) (Or.inl ⟨by rfl, ?_⟩) ?_
  rotate_left
  · intro w hSw
    (try dsimp only at hSw)
    go_simp
    try with_reducible rfl
  simp only [List.setIfInBounds_toArray, List.set_cons_zero, List.set_cons_succ]
  refine takeD (i := 11) (v := ?_) 25 rfl rfl (by kernel_rfl) (by kernel_rfl) (by kernel_rfl) (fun _ _ _ h => h) (by assumption) (Or.inl ⟨by rfl, ?_⟩) ?_
  rotate_left
  · intro w hSw
    (try dsimp only at hSw)
    go_simp
    try with_reducible rfl
  simp only [List.setIfInBounds_toArray, List.set_cons_zero, List.set_cons_succ]
  refine takeD (i := 12) (v := ?_) 26 rfl rfl (by kernel_rfl) (by kernel_rfl) (by kernel_rfl) (fun _ _ _ h => h) (by assumption) (Or.inl ⟨by rfl, ?_⟩) ?_
  rotate_left
  · intro w hSw
    (try dsimp only at hSw)
    go_simp
    try with_reducible rfl
  simp only [List.setIfInBounds_toArray, List.set_cons_zero, List.set_cons_succ]
  refine takeD (i := 13) (v := ?_) 27 rfl rfl (by kernel_rfl) (by kernel_rfl) (by kernel_rfl) (fun _ _ _ h => h) (by assumption) (Or.inl ⟨by rfl, ?_⟩) ?_
  rotate_left
  · intro w hSw
    (try dsimp only at hSw)
    go_simp
    try with_reducible rfl
  simp only [List.setIfInBounds_toArray, List.set_cons_zero, List.set_cons_succ]
  refine takeD (i := 14) (v := ?_) 28 rfl rfl (by kernel_rfl) (by kernel_rfl) (by kernel_rfl) (fun _ _ _ h => h) (by assumption) (Or.inl ⟨by rfl, ?_⟩) ?_
  rotate_left
  · intro w hSw
    (try dsimp only at hSw)
    go_simp
    try with_reducible rfl
  simp only [List.setIfInBounds_toArray, List.set_cons_zero, List.set_cons_succ]
  refine takeD (i := 15) (v := ?_) 29 rfl rfl (by kernel_rfl) (by kernel_rfl) (by kernel_rfl) (fun _ _ _ h => h) (by assumption) (Or.inl ⟨by rfl, ?_⟩) ?_
  rotate_left
  · intro w hSw
    (try dsimp only at hSw)
    go_simp
    try with_reducible rfl
  simp only [List.setIfInBounds_toArray, List.set_cons_zero, List.set_cons_succ]
  refine takeD (i := 16) (v := ?_) 30 rfl rfl (by kernel_rfl) (by kernel_rfl) (by kernel_rfl) (fun _ _ _ h => h) (by assumption) (Or.inl ⟨by rfl, ?_⟩) ?_
  rotate_left
  · intro w hSw
    (try dsimp only at hSw)
    go_simp
    try with_reducible rfl
  simp only [List.setIfInBounds_toArray, List.set_cons_zero, List.set_cons_succ]
  refine takeD (i := 17) (v := ?_) 31 rfl rfl (by kernel_rfl) (by kernel_rfl) (by kernel_rfl) (fun _ _ _ h => h) (by assumption) (Or.inl ⟨by rfl, ?_⟩) ?_
  rotate_left
  · intro w hSw
    (try dsimp only at hSw)
    go_simp
    try with_reducible rfl
  simp only [List.setIfInBounds_toArray, List.set_cons_zero, List.set_cons_succ]
  refine takeD (i := 18) (v := ?_) 32 rfl rfl (by kernel_rfl) (by kernel_rfl) (by kernel_rfl) (fun _ _ _ h => h) (by assumption) (Or.inl ⟨by rfl, ?_⟩) ?_
  rotate_left
  · intro w hSw
    (try dsimp only at hSw)
    go_simp
    try with_reducible rfl
  simp only [List.setIfInBounds_toArray, List.set_cons_zero, List.set_cons_succ]
  refine takeD (i := 19) (v := ?_) 33 rfl rfl (by kernel_rfl) (by kernel_rfl) (by kernel_rfl) (fun _ _ _ h => h) (by assumption) (Or.inl ⟨by rfl, ?_⟩) ?_
  rotate_left
  · intro w hSw
    (try dsimp only at hSw)
    go_simp
    try with_reducible rfl
  simp only [List.setIfInBounds_toArray, List.set_cons_zero, List.set_cons_succ]
  refine takeD (i := 20) (v := ?_) 34 rfl rfl (by kernel_rfl) (by kernel_rfl) (by kernel_rfl) (fun _ _ _ h => h) (by assumption) (Or.inl ⟨by rfl, ?_⟩) ?_
  rotate_left
  · intro w hSw
    (try dsimp only at hSw)
    go_simp
    try with_reducible rfl
  simp only [List.setIfInBounds_toArray, List.set_cons_zero, List.set_cons_succ]
  refine takeD (i := 21) (v := ?_) 35 rfl rfl (by kernel_rfl) (by kernel_rfl) (by kernel_rfl) (fun _ _ _ h => h) (by assumption) (Or.inl ⟨by rfl, ?_⟩) ?_
  rotate_left
  · intro w hSw
    (try dsimp only at hSw)
    go_simp
    try with_reducible rfl
  simp only [List.setIfInBounds_toArray, List.set_cons_zero, List.set_cons_succ]
  refine takeD (i := 22) (v := ?_) 36 rfl rfl (by kernel_rfl) (by kernel_rfl) (by kernel_rfl) (fun _ _ _ h => h) (by assumption) (Or.inl ⟨by rfl, ?_⟩) ?_
  rotate_left
  · intro w hSw
    (try dsimp only at hSw)
    go_simp
    try with_reducible rfl
  simp only [List.setIfInBounds_toArray, List.set_cons_zero, List.set_cons_succ]
  refine takeD (i := 23) (v := ?_) 37 rfl rfl (by kernel_rfl) (by kernel_rfl) (by kernel_rfl) (fun _ _ _ h => h) (by assumption) (Or.inl ⟨by rfl, ?_⟩) ?_
  rotate_left
  · intro w hSw
    (try dsimp only at hSw)
    go_simp
    try with_reducible rfl
  simp only [List.setIfInBounds_toArray, List.set_cons_zero, List.set_cons_succ]
  refine takeD (i := 24) (v := ?_) 38 rfl rfl (by kernel_rfl) (by kernel_rfl) (by kernel_rfl) (fun _ _ _ h => h) (by assumption) (Or.inl ⟨by rfl, ?_⟩) ?_
  rotate_left
  · intro w hSw
    (try dsimp only at hSw)
    go_simp
    try with_reducible rfl
  simp only [List.setIfInBounds_toArray, List.set_cons_zero, List.set_cons_succ]
  refine takeD (i := 25) (v := ?_) 39 rfl rfl (by kernel_rfl) (by kernel_rfl) (by kernel_rfl) (fun _ _ _ h => h) (by assumption) (Or.inl ⟨by rfl, ?_⟩) ?_
  rotate_left
  · intro w hSw
    (try dsimp only at hSw)
    go_simp
    try with_reducible rfl
  simp only [List.setIfInBounds_toArray, List.set_cons_zero, List.set_cons_succ]
  refine takeD (i := 26) (v := ?_) 40 rfl rfl (by kernel_rfl) (by kernel_rfl) (by kernel_rfl) (fun _ _ _ h => h) (by assumption) (Or.inl ⟨by rfl, ?_⟩) ?_
  rotate_left
  · intro w hSw
    (try dsimp only at hSw)
    go_simp
    try with_reducible rfl
  simp only [List.setIfInBounds_toArray, List.set_cons_zero, List.set_cons_succ]
  refine takeD (i := 27) (v := ?_) 41 rfl rfl (by kernel_rfl) (by kernel_rfl) (by kernel_rfl) (fun _ _ _ h => h) (by assumption) (Or.inl ⟨by rfl, ?_⟩) ?_
  rotate_left
  · intro w hSw
    (try dsimp only at hSw)
    go_simp
    try with_reducible rfl
  simp only [List.setIfInBounds_toArray, List.set_cons_zero, List.set_cons_succ]
  refine takeD (i := 28) (v := ?_) 42 rfl rfl (by kernel_rfl) (by kernel_rfl) (by kernel_rfl) (fun _ _ _ h => h) (by assumption) (Or.inl ⟨by rfl, ?_⟩) ?_
  rotate_left
  · intro w hSw
    (try dsimp only at hSw)
    go_simp
    try with_reducible rfl
  simp only [List.setIfInBounds_toArray, List.set_cons_zero, List.set_cons_succ]
  refine takeD (i := 29) (v := ?_) 43 rfl rfl (by kernel_rfl) (by kernel_rfl) (by kernel_rfl) (fun _ _ _ h => h) (by assumption) (Or.inl ⟨by rfl, ?_⟩) ?_
  rotate_left
  · intro w hSw
    (try dsimp only at hSw)
    go_simp
    try with_reducible rfl
  simp only [List.setIfInBounds_toArray, List.set_cons_zero, List.set_cons_succ]
  refine takeD (i := 30) (v := ?_) 44 rfl rfl (by kernel_rfl) (by kernel_rfl) (by kernel_rfl) (fun _ _ _ h => h) (by assumption) (Or.inl ⟨by rfl, ?_⟩) ?_
  rotate_left
  · intro w hSw
    (try dsimp only at hSw)
    go_simp
    try with_reducible rfl
  simp only [List.setIfInBounds_toArray, List.set_cons_zero, List.set_cons_succ]
  refine takeD (i := 31) (v := ?_) 45 rfl rfl (by kernel_rfl) (by kernel_rfl) (by kernel_rfl) (fun _ _ _ h => h) (by assumption) (Or.inl ⟨by rfl, ?_⟩) ?_
  rotate_left
  · intro w hSw
    (try dsimp only at hSw)
    go_simp
    try with_reducible rfl
  simp only [List.setIfInBounds_toArray, List.set_cons_zero, List.set_cons_succ]
  refine takeD (i := 32) (v := ?_) 46 rfl rfl (by kernel_rfl) (by kernel_rfl) (by kernel_rfl) (fun _ _ _ h => h) (by assumption) (Or.inl ⟨by rfl, ?_⟩) ?_
  rotate_left
  · intro w hSw
    (try dsimp only at hSw)
    go_simp
    try with_reducible rfl
  simp only [List.setIfInBounds_toArray, List.set_cons_zero, List.set_cons_succ]
  refine takeD (i := 33) (v := ?_) 47 rfl rfl (by kernel_rfl) (by kernel_rfl) (by kernel_rfl) (fun _ _ _ h => h) (by assumption) (Or.inl ⟨by rfl, ?_⟩) ?_
  rotate_left
  · intro w hSw
    (try dsimp only at hSw)
    go_simp
    try with_reducible rfl
  simp only [List.setIfInBounds_toArray, List.set_cons_zero, List.set_cons_succ]
  refine takeD (i := 34) (v := ?_) 48 rfl rfl (by kernel_rfl) (by kernel_rfl) (by kernel_rfl) (fun _ _ _ h => h) (by assumption) (Or.inl ⟨by rfl, ?_⟩) ?_
  rotate_left
  · intro w hSw
    (try dsimp only at hSw)
    go_simp
    try with_reducible rfl
  simp only [List.setIfInBounds_toArray, List.set_cons_zero, List.set_cons_succ]
  refine takeD (i := 35) (v := ?_) 49 rfl rfl (by kernel_rfl) (by kernel_rfl) (by kernel_rfl) (fun _ _ _ h => h) (by assumption) (Or.inl ⟨by rfl, ?_⟩) ?_
  rotate_left
  · intro w hSw
    (try dsimp only at hSw)
    go_simp
    try with_reducible rfl
  simp only [List.setIfInBounds_toArray, List.set_cons_zero, List.set_cons_succ]
  refine takeD (i := 36) (v := ?_) 50 rfl rfl (by kernel_rfl) (by kernel_rfl) (by kernel_rfl) (fun _ _ _ h => h) (by assumption) (Or.inl ⟨by rfl, ?_⟩) ?_
  rotate_left
  · intro w hSw
    (try dsimp only at hSw)
    go_simp
    try with_reducible rfl
  simp only [List.setIfInBounds_toArray, List.set_cons_zero, List.set_cons_succ]
  refine takeD (i := 37) (v := ?_) 51 rfl rfl (by kernel_rfl) (by kernel_rfl) (by kernel_rfl) (fun _ _ _ h => h) (by assumption) (Or.inl ⟨by rfl, ?_⟩) ?_
  rotate_left
  · intro w hSw
    (try dsimp only at hSw)
    go_simp
    try with_reducible rfl
  simp only [List.setIfInBounds_toArray, List.set_cons_zero, List.set_cons_succ]
  refine takeD (i := 38) (v := ?_) 52 rfl rfl (by kernel_rfl) (by kernel_rfl) (by kernel_rfl) (fun _ _ _ h => h) (by assumption) (Or.inl ⟨by rfl, ?_⟩) ?_
  rotate_left
  · intro w hSw
    (try dsimp only at hSw)
    go_simp
    try with_reducible rfl
  simp only [List.setIfInBounds_toArray, List.set_cons_zero, List.set_cons_succ]
  refine takeD (i := 39) (v := ?_) 53 rfl rfl (by kernel_rfl) (by kernel_rfl) (by kernel_rfl) (fun _ _ _ h => h) (by assumption) (Or.inl ⟨by rfl, ?_⟩) ?_
  rotate_left
  · intro w hSw
    (try dsimp only at hSw)
    go_simp
    try with_reducible rfl
  simp only [List.setIfInBounds_toArray, List.set_cons_zero, List.set_cons_succ]
  refine wpAnyH_ready (rs := [40]) (by kernel_rfl) (by simp) ?_
  refine AllReadyH.cons (by simp only [List.getElem?_toArray, List.getElem?_cons_succ, List.getElem?_cons_zero]; rfl) (fun K hK => ?_) AllReadyH.nil
  go_simp
  go_at_call 32; (with_reducible refine (HEC.out _ (HA.out _ hHeld.2.2.2.2.2.2.2.2) (HA'.out _ hHeld.2.2.2.2.2.2.2.2)).mono ?_); rintro e w1 ⟨rfl, hb1⟩
  refine hK.out _ _ ?_ (fun hHeldN => ?_)
  · exact ⟨keepc hb1 hHeld.1, keepc hb1 hHeld.2.1, keepc hb1 hHeld.2.2.1, keepc hb1 hHeld.2.2.2.1, keepc hb1 hHeld.2.2.2.2.1, keepc hb1 hHeld.2.2.2.2.2.1, keepc hb1 hHeld.2.2.2.2.2.2.1, keepc hb1 hHeld.2.2.2.2.2.2.2.1, below_t hHeld.2.2.2.2.2.2.2.2 hb1⟩
  clear hK K hHeld
  have hHeld := hHeldN
  clear hHeldN
  (try simp only [Act.put, List.setIfInBounds_toArray, List.set_cons_zero, List.set_cons_succ])
  refine takeD (i := 41) (v := ?_) 55 rfl rfl (by kernel_rfl) (by kernel_rfl) (by kernel_rfl) (fun _ _ _ h => h) (by assumption) (Or.inl ⟨by rfl, ?_⟩) ?_
  rotate_left
  · intro w hSw
    (try dsimp only at hSw)
    go_simp
    try with_reducible rfl
  simp only [List.setIfInBounds_toArray, List.set_cons_zero, List.set_cons_succ]
  refine takeD (i := 42) (v := ?_) 4 rfl rfl (by kernel_rfl) (by kernel_rfl) (by kernel_rfl) (fun _ _ _ h => h) (by assumption) (Or.inl ⟨by rfl, ?_⟩) ?_
  rotate_left
  · intro w hSw
    (try dsimp only at hSw)
    go_simp
    try with_reducible rfl
  simp only [List.setIfInBounds_toArray, List.set_cons_zero, List.set_cons_succ]
  refine wpAnyH_done (by kernel_rfl) ?_ _
  have HE := hid hHeld
  clear hHeld
  go_wp2
  go_ret
  exact ⟨rfl, HE.out.2.2.2.2.2.2.2.2⟩
set_option maxRecDepth 100000 in
theorem same_nil (w : World) : Calls Try.prog 29 #[.pointer none, .pointer none] w fun e w' => e = .returned (.bool true) ∧ Below w.heap.size w w' := by
  go_enter Try.func29, Try.ntmps29
  go_wp2
  go_ret
  exact ⟨rfl, Below.refl _ _⟩
set_option maxRecDepth 100000 in
theorem same_nil2 (b : Nat) (w : World) : Calls Try.prog 29 #[.pointer none, .pointer (some ⟨b, 0, none⟩)] w fun e w' => e = .returned (.bool false) ∧ Below w.heap.size w w' := by
  have heq : ∀ W : World, Sem.run Try.prog (binOp .eql 24 (.pointer none) (.pointer (some ⟨b, 0, none⟩))) W = .ok (.bool false) W := fun _ => by kernel_rfl
  go_enter Try.func29, Try.ntmps29
  go_wp2
  go_ret
  exact ⟨rfl, Below.refl _ _⟩
set_option maxRecDepth 100000 in
theorem same_no (a : Addr) (w : World) : Calls Try.prog 29 #[.pointer (some a), .pointer none] w fun e w' => e = .returned (.bool false) ∧ Below w.heap.size w w' := by
  go_enter Try.func29, Try.ntmps29
  go_wp2
  go_ret
  exact ⟨rfl, Below.refl _ _⟩
end Go.Proofs.Ytdaainifnbbhiaa
