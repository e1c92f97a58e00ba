/-
  The law's example; a space that is the document's.
  SpacePlays: the law's own walk.
  A copy; two that are the same; what a nil space answers.
  SpaceRound: the law's own walk.
  What a nil space answers.
  What differs from a nil space: nothing. A plain walk inside the widest fence.
  SpaceTold: the law's own walk.
-/
import Derived.Test.YtpehhinpohmpiaaFe
import Derived.Lib.LazyBuf
namespace Go.Proofs.Ytpehhinpohmpiaa
open Go.RowKit Go.Lib Go.Deep

theorem fld0 (x y : Int) (w : World) : (Instr.field 107 (.agg #[.int .i64 x, .int .i64 y]) 0).run Try.prog w = .ok (.int .i64 x) w := by kernel_rfl
theorem fld1 (x y : Int) (w : World) : (Instr.field 107 (.agg #[.int .i64 x, .int .i64 y]) 1).run Try.prog w = .ok (.int .i64 y) w := by kernel_rfl
theorem cellsV_at : ∀ (L : List Cel) (i j : Nat), i < L.length → j < 6 → (cellsV L)[i * 6 + j]? = (L.getD i cel0).cs[j]?
  | [], i, _, hi, _ => absurd hi (Nat.not_lt_zero i)
  | c :: L, 0, j, _, hj => by
    show (c.cs ++ cellsV L)[0 * 6 + j]? = _
    rw [Nat.zero_mul, Nat.zero_add, List.getElem?_append_left (by simpa [Cel.cs] using hj)]
    rfl
  | c :: L, i + 1, j, hi, hj => by
    show (c.cs ++ cellsV L)[(i + 1) * 6 + j]? = _
    have e : c.cs.length = 6 := rfl
    rw [List.getElem?_append_right (by omega), show (i + 1) * 6 + j - c.cs.length = i * 6 + j by omega, cellsV_at L i j (by simpa using hi) hj]
    rfl
theorem own_below {A B : World} {t : TypeId} {sz n : Nat} {v : Value} {cs : List Value} (h : A.ownsRow 0 t sz v n cs) (hb : Below A.heap.size A B) : B.ownsRow 0 t sz v n cs := own_grow h (Grow.below hb 0)
/-- Of a list of cells, made: what lies there. -/
theorem cells_row {w : World} {v : Value} {L : List Cel} (h : w.ownsRow 0 30 6 v L.length (cellsV L)) (hl : 0 < L.length) : ∃ g c, v = .slice (some ⟨g, 0, none⟩) L.length c ∧ ∀ i, i < L.length → ∀ j, j < 6 → w.cell? ⟨g, i * 6 + j, none⟩ = (L.getD i cel0).cs[j]? := by
  rcases h.2 with ⟨rfl, e⟩ | ⟨g, cap, cur, rfl, hb, hh, h1, h2, h3, h4⟩
  · omega
  · refine ⟨g, cap, rfl, fun i hi j hj => ?_⟩
    rw [World.ownsRow.cellAt h (i * 6 + j) (by omega), cellsV_at L i j hi hj]
/-- slices.Collect over the attributes. -/
theorem collectA (b g : Nat) (s : Spc) (bx : Nat) (w : World) (h : SpM w b g s) (hb : w.cell? ⟨bx, 0, none⟩ = some (.pointer (some ⟨b, 0, none⟩))) : Calls Try.prog 25 #[.func (.func 154) #[] #[.pointer (some ⟨bx, 0, none⟩)]] w (ListD 3 1 (s.iA s.A.length) s.A.length w) := by
  have hN := h.ok.pos.2
  have hA : s.A.length ≤ 3564 := Nat.le_trans (attP_len _ _) hN
  have e1 : s.iA s.A.length = intsV (s.A.map Int.ofNat) := by unfold Spc.iA; rw [List.take_length]
  have e2 : (s.A.map Int.ofNat).length = s.A.length := by simp
  have q := collect_any 154 #[.pointer (some ⟨bx, 0, none⟩)] s.A (by omega) (RP bx b s.L.length s.P) (enters_of Try.func154 (by kernel_rfl) rfl)
    (fun V => attrs_seq 7 (by omega) bx b s.L.length s.P hN V) w (fun V hV => ⟨keepc hV hb, (h.below hV).spP⟩)
  unfold IntsD at q
  rw [e2, ← e1] at q
  exact q
theorem equalA (s : Spc) (hA : s.A.length ≤ 3564) (u v : Value) (w : World) (hu : w.ownsRow 0 3 1 u s.A.length (s.iA s.A.length)) (hv : w.ownsRow 0 3 1 v s.A.length (s.iA s.A.length)) : Calls Try.prog 24 #[u, v] w fun e w' => e = .returned (.bool true) ∧ Below w.heap.size w w' := by
  have e1 : s.iA s.A.length = intsV (s.A.map Int.ofNat) := by unfold Spc.iA; rw [List.take_length]
  have e2 : (s.A.map Int.ofNat).length = s.A.length := by simp
  exact equalI_any u v (s.A.map Int.ofNat) w (by rw [e2, ← e1]; exact hu) (by rw [e2, ← e1]; exact hv) (by omega)
end Go.Proofs.Ytpehhinpohmpiaa
namespace Go.Proofs.Ytpehhinpohmpiaa
open Go.RowKit Go.Lib Go.Deep

/-- What a round begins with: two that are alike, made here. -/
structure Pair (w W : World) (b1 b2 : Nat) (g1 g2 : Nat) (s : Spc) : Prop where
  two : Two W b1 g1 b2 g2 s
  bel : Below w.heap.size w W
  lb : ∀ k ∈ [b1, g1, b2, g2], w.heap.size ≤ k
theorem Pair.below {w A C : World} {b1 b2 g1 g2 : Nat} {s : Spc} (h : Pair w A b1 b2 g1 g2 s) (hb : Below A.heap.size A C) : Pair w C b1 b2 g1 g2 s := ⟨h.two.below hb, below_t h.bel hb, h.lb⟩
theorem Pair.step {w A C : World} {b1 b2 g1 g2 g1' g2' : Nat} {s s' : Spc} (h : Pair w A b1 b2 g1 g2 s) (ht : Two C b1 g1' b2 g2' s') (m : Moved A C [b1, g1, b2, g2] [b1, g1', b2, g2']) : Pair w C b1 b2 g1' g2' s' :=
  ⟨ht, h.bel.trans (m.toBelow h.bel.size h.lb), fun k hk => by
    rcases m.from' k hk with q | q
    · exact h.lb k q
    · exact Nat.le_trans h.bel.size q⟩
theorem Pair.lt {w W : World} {b1 b2 g1 g2 : Nat} {s : Spc} (h : Pair w W b1 b2 g1 g2 s) : ∀ k ∈ [b1, g1, b2, g2], k < W.heap.size := fun k hk => by
  have h1 := h.two.sp.lt
  have h2 := h.two.rf.lt
  simp at hk
  omega
end Go.Proofs.Ytpehhinpohmpiaa
namespace Go.Proofs.Ytpehhinpohmpiaa
open Go.RowKit Go.Lib Go.Deep

theorem cellsV_len (L : List Cel) : (cellsV L).length = L.length * 6 := by
  induction L with
  | nil => rfl
  | cons c L ih =>
    show (c.cs ++ cellsV L).length = _
    rw [List.length_append, ih, List.length_cons]
    show 6 + _ = _
    omega
theorem cellsV_one (L : List Cel) : ∀ u ∈ cellsV L, u.oneCell' = true := fun u hu => by
  obtain ⟨c, _, hc⟩ := List.mem_flatMap.1 hu
  simp only [Cel.cs, List.mem_cons, List.not_mem_nil, or_false] at hc
  rcases hc with rfl | rfl | rfl | rfl | rfl | rfl <;> rfl
theorem cells_src {w : World} {g : Nat} {L : List Cel} (h : CellsM w g L) : ∀ j u, (cellsV L)[j]? = some u → w.cell? ((⟨g, 0, none⟩ : Addr).add j) = some u := fun j u hu => by
  have hj : j < L.length * 6 := by
    have := (List.getElem?_eq_some_iff.1 hu).1
    rwa [cellsV_len] at this
  have e : j = j / 6 * 6 + j % 6 := by omega
  have h6 : j % 6 < 6 := Nat.mod_lt _ (by omega)
  have hq : j / 6 < L.length := by omega
  rw [addr_addS, Nat.zero_add]
  rw [e] at hu ⊢
  rw [cellsV_at L _ _ hq h6] at hu
  rw [h.at_ _ hq _ h6]
  exact hu
/-- Cells that were made are cells that lie there. -/
theorem cells_own {w : World} {b : Nat} {v : Value} {L : List Cel} (h : w.ownsRow b 30 6 v L.length (cellsV L)) (hl : 0 < L.length) : ∃ g ex, v = .slice (some ⟨g, 0, none⟩) L.length (L.length + ex) ∧ b ≤ g ∧ CellsM w g L := by
  have hr := h
  rcases h.2 with ⟨rfl, e⟩ | ⟨g, cap, cur, rfl, hb, hh, h1, h2, h3, h4⟩
  · omega
  · refine ⟨g, cap - L.length, by rw [Nat.add_sub_cancel' h1], hb, fun i hi j hj => ?_, fun o => frozen_of_heap hh, (Array.getElem?_eq_some_iff.1 hh).1⟩
    rw [World.ownsRow.cellAt hr (i * 6 + j) (by omega), cellsV_at L i j hi hj]
set_option maxRecDepth 100000 in
set_option maxHeartbeats 4000000 in
theorem sclone_any (g c : Nat) (L : List Cel) (w : World) (h : CellsM w g L) (hl : 0 < L.length) (hu : L.length ≤ 3564) : Calls Try.prog 99 #[.slice (some ⟨g, 0, none⟩) L.length c] w fun e w' => ∃ g' ex, e = .returned (.slice (some ⟨g', 0, none⟩) L.length (L.length + ex)) ∧ w.heap.size ≤ g' ∧ CellsM w' g' L ∧ Below w.heap.size w w' := by
  obtain ⟨i0, hi, hz0, hz1, hz2⟩ := info_parts infoC
  have HC := hid (cells_src (h.block (((Below.refl w.heap.size w).alloc (Nat.le_refl _) (.cells #[] 30)).block g h.lt)))
  have HM : Hid (0 + L.length ≤ maxLen) := by show _ ≤ _; unfold maxLen; omega
  have HL : Hid ((0 + L.length) * 6 ≤ 140737488355328) := by show _ ≤ _; omega
  have HLL : Hid ((cellsV L).length = L.length * 6) := cellsV_len L
  obtain ⟨N, hN⟩ : ∃ N, N = L.length := ⟨_, rfl⟩
  rw [← hN] at HM HL HLL ⊢
  have HN := hid hN
  have HP := hid hl
  clear hN h hl hu
  have hnil := fun w' => run_eql_slice_nil (P := Try.prog) w' 42 30 (some ⟨g, 0, none⟩) N c Try.underlying42
  go_enter Try.func99, Try.ntmps99
  go_wp2_with (first
    | (at_builtin; refine wpList_append_own _ rfl _ _ 42 rfl w.heap.size 30 i0 (.agg z6) 6 6 Try.underlying42 hi hz0 hz1 hz2 rfl (by decide) _ 0 [] rfl (World.ownsRow_lit _ #[] 0 (Nat.le_refl _) (Nat.zero_le _) rfl) ⟨g, 0, none⟩ N c (cellsV L) rfl HLL.out HC.out (cellsV_one L) HM.out HL.out (by simp) ?_; intro v1 w1 hown1 hgrow1 hnil1; have HO := hid hown1; have HG := hid hgrow1; clear hown1 hgrow1 hnil1))
  have ho := HO.out
  rw [Nat.zero_add, List.nil_append, HN.out] at ho
  obtain ⟨g', ex, rfl, hg', hc⟩ := cells_own ho HP.out
  have HCC := hid hc
  have HGG := hid hg'
  clear ho hc hg' HO
  go_wp2
  go_ret
  exact ⟨g', ex, by rw [HN.out]; rfl, HGG.out, HCC.out, ((Below.refl _ _).alloc (Nat.le_refl _) _).grown HG.out (by simp) (fun k hk => by have e : w.heap.size = k := Option.some.inj hk; omega)⟩
def CopyD (s : Spc) (w : World) (e : Ending) (w' : World) : Prop := ∃ b' g' ex, e = .returned (.pointer (some ⟨b', 0, none⟩)) ∧ w.heap.size ≤ b' ∧ w.heap.size ≤ g' ∧ SpM w' b' g' { s with ex := ex } ∧ Below w.heap.size w w'
set_option maxRecDepth 100000 in
set_option maxHeartbeats 4000000 in
theorem copy_any {b g : Nat} {s : Spc} (w : World) (h : SpM w b g s) : Calls Try.prog 40 #[.pointer (some ⟨b, 0, none⟩)] w (CopyD s w) := by
  have hok := h.ok
  have hlt := h.lt.1
  obtain ⟨h0, h1, h2, h3⟩ : w.cell? ⟨b, 0, none⟩ = some (.int .i64 s.mo) ∧ w.cell? ⟨b, 1, none⟩ = some (.bool s.alt) ∧ w.cell? ⟨b, 2, none⟩ = some (.slice (some ⟨g, 0, none⟩) s.L.length (s.L.length + s.ex)) ∧ w.cell? ⟨b, 3, none⟩ = some (.int .i64 s.cu) := ⟨h.h0, h.h1, h.h2, h.h3⟩
  obtain ⟨W0, hW0⟩ : ∃ W0, w.alloc (.cells #[.int .i64 s.mo, .bool s.alt, .slice (some ⟨g, 0, none⟩) s.L.length (s.L.length + s.ex), .int .i64 s.cu] 102) = W0 := ⟨_, rfl⟩
  have hb0 : Below w.heap.size w W0 := by rw [← hW0]; exact bal (Below.refl _ _) _
  have HCL := hid (sclone_any g (s.L.length + s.ex) s.L W0 (h.below hb0).row hok.pos.1 hok.pos.2)
  have HH := hid (show HdM W0 w.heap.size s.mo s.alt (.slice (some ⟨g, 0, none⟩) s.L.length (s.L.length + s.ex)) s.cu by
    rw [← hW0]
    exact ⟨by simp [go_sem], by simp [go_sem], by simp [go_sem], by simp [go_sem], fun o => by simp [go_sem]⟩)
  have HB := hid (h.below hb0).h2
  have HB0 := hid hb0
  have HW := hid hW0
  have HOK := hid hok
  have hz0 : W0.heap.size = w.heap.size + 1 := by rw [← hW0]; simp
  have HZ := hid hz0
  clear h hok hb0 hW0 hz0
  have hq2 := HB.out
  go_enter Try.func40, Try.ntmps40
  go_wp2_with fail
  simp only [HW.out]
  with_reducible refine HCL.out.mono ?_
  rintro e w1 ⟨g', ex, rfl, hg', hc, hb1⟩
  have HH1 := hid (HH.out.below hb1)
  have HC1 := hid hc
  have HG1 := hid (show w.heap.size + 1 ≤ g' by rw [← HZ.out]; exact hg')
  have HB1 := hid hb1
  have k2 := HH1.out.h2
  have k3 := HH1.out.fr 2
  have hl1 := HH1.out.lt
  clear hc hg' hb1
  go_wp2
  go_ret
  have hne : w.heap.size ≠ g' := by have := HG1.out; omega
  have hb2 : Below w.heap.size w w1 := HB0.out.trans (HB1.out.mono (by rw [HZ.out]; omega))
  refine ⟨w.heap.size, g', ex, rfl, Nat.le_refl _, Nat.le_of_lt HG1.out, ?_, hb2.sc _ _ _ (Nat.le_refl _)⟩
  have hd := HH1.out.row' (.slice (some ⟨g', 0, none⟩) s.L.length (s.L.length + ex))
  exact ⟨hd.h0, hd.h1, hd.h2, hd.h3, hd.fr, HC1.out.block (Go.heap_setCell_other w1 ⟨w.heap.size, 2, none⟩ g' _ (fun q => hne (by simpa using q.symm))), hne, ⟨HOK.out.m1, HOK.out.m2, HOK.out.len, HOK.out.cells, HOK.out.cu1, HOK.out.cu2⟩⟩
set_option maxRecDepth 100000 in
set_option maxHeartbeats 4000000 in
/-- Two that are alike. -/
theorem same_yes {b g b' g' : Nat} {s t : Spc} (w : World) (h : SpM w b g s) (k : SpM w b' g' t) (e0 : t.mo = s.mo) (e1 : t.alt = s.alt) (e2 : t.L = s.L) (e3 : t.cu = s.cu) : Calls Try.prog 41 #[.pointer (some ⟨b, 0, none⟩), .pointer (some ⟨b', 0, none⟩)] w fun e w' => e = .returned (.bool true) ∧ Below w.heap.size w w' := by
  obtain ⟨c0, c1, c2, c3⟩ : w.cell? ⟨b, 0, none⟩ = some (.int .i64 s.mo) ∧ w.cell? ⟨b, 1, none⟩ = some (.bool s.alt) ∧ w.cell? ⟨b, 2, none⟩ = some (.slice (some ⟨g, 0, none⟩) s.L.length (s.L.length + s.ex)) ∧ w.cell? ⟨b, 3, none⟩ = some (.int .i64 s.cu) := ⟨h.h0, h.h1, h.h2, h.h3⟩
  obtain ⟨d0, d1, d2, d3⟩ : w.cell? ⟨b', 0, none⟩ = some (.int .i64 s.mo) ∧ w.cell? ⟨b', 1, none⟩ = some (.bool s.alt) ∧ w.cell? ⟨b', 2, none⟩ = some (.slice (some ⟨g', 0, none⟩) s.L.length (s.L.length + t.ex)) ∧ w.cell? ⟨b', 3, none⟩ = some (.int .i64 s.cu) := ⟨by rw [← e0]; exact k.h0, by rw [← e1]; exact k.h1, by rw [← e2]; exact k.h2, by rw [← e3]; exact k.h3⟩
  have hN := h.ok.pos
  have HA := hid (fun W (hb : Below w.heap.size w W) => (h.below hb).row.at_)
  have HA' := hid (fun W (hb : Below w.heap.size w W) => (show ∀ i, i < s.L.length → ∀ j, j < 6 → W.cell? ⟨g', i * 6 + j, none⟩ = (s.L.getD i cel0).cs[j]? from by rw [← e2]; exact (k.below hb).row.at_))
  have HEC := hid (fun W => equalC_row g g' s.L.length (s.L.length + s.ex) (s.L.length + t.ex) s.L rfl (by omega) W)
  have hl := h.lt.1
  have hl' := k.lt.1
  have HC0 := hid (show w.cell? ⟨b, 0, none⟩ = some (.int .i64 s.mo) ∧ w.cell? ⟨b, 1, none⟩ = some (.bool s.alt) ∧ w.cell? ⟨b, 2, none⟩ = some (.slice (some ⟨g, 0, none⟩) s.L.length (s.L.length + s.ex)) ∧ w.cell? ⟨b, 3, none⟩ = some (.int .i64 s.cu) ∧ w.cell? ⟨b', 0, none⟩ = some (.int .i64 s.mo) ∧ w.cell? ⟨b', 1, none⟩ = some (.bool s.alt) ∧ w.cell? ⟨b', 2, none⟩ = some ((.slice (some ⟨g', 0, none⟩) s.L.length (s.L.length + t.ex))) ∧ w.cell? ⟨b', 3, none⟩ = some (.int .i64 s.cu) ∧ Below w.heap.size w w from ⟨c0, c1, c2, c3, d0, d1, d2, d3, Below.refl _ _⟩)
  clear h k e0 e1 e2 e3 c0 c1 c2 c3 d0 d1 d2 d3
  go_enter Try.func41, Try.ntmps41
  go_wp2_with fail
  refine wp_region_held_drew (S := fun V => V.cell? ⟨b, 0, none⟩ = some (.int .i64 s.mo) ∧ V.cell? ⟨b, 1, none⟩ = some (.bool s.alt) ∧ V.cell? ⟨b, 2, none⟩ = some (.slice (some ⟨g, 0, none⟩) s.L.length (s.L.length + s.ex)) ∧ V.cell? ⟨b, 3, none⟩ = some (.int .i64 s.cu) ∧ V.cell? ⟨b', 0, none⟩ = some (.int .i64 s.mo) ∧ V.cell? ⟨b', 1, none⟩ = some (.bool s.alt) ∧ V.cell? ⟨b', 2, none⟩ = some ((.slice (some ⟨g', 0, none⟩) s.L.length (s.L.length + t.ex))) ∧ V.cell? ⟨b', 3, none⟩ = some (.int .i64 s.cu) ∧ Below w.heap.size w V) (by kernel_rfl) ?_ (fun hHeld => ?_)
  · have hdr : Below w.heap.size w w.drew := (Below.refl _ _).drew
    exact ⟨keepc hdr HC0.out.1, keepc hdr HC0.out.2.1, keepc hdr HC0.out.2.2.1, keepc hdr HC0.out.2.2.2.1, keepc hdr HC0.out.2.2.2.2.1, keepc hdr HC0.out.2.2.2.2.2.1, keepc hdr HC0.out.2.2.2.2.2.2.1, keepc hdr HC0.out.2.2.2.2.2.2.2.1, below_t HC0.out.2.2.2.2.2.2.2.2 hdr⟩
  refine takeD (i := 0) (v := ?_) 14 rfl rfl (by kernel_rfl) (by kernel_rfl) (by kernel_rfl) (fun _ _ _ h => h) (by assumption) (Or.inl ⟨by rfl, ?_⟩) ?_
  rotate_left
  · intro w hSw
    (try dsimp only at hSw)
    go_simp
    try with_reducible rfl
  simp only [List.setIfInBounds_toArray, List.set_cons_zero, List.set_cons_succ]
  refine takeD (i := 1) (v := ?_) 15 rfl rfl (by kernel_rfl) (by kernel_rfl) (by kernel_rfl) (fun _ _ _ h => h) (by assumption) (Or.inl ⟨by rfl, ?_⟩) ?_
  rotate_left
  · intro w hSw
    (try dsimp only at hSw)
    go_simp
    try with_reducible rfl
  simp only [List.setIfInBounds_toArray, List.set_cons_zero, List.set_cons_succ]
  refine takeD (i := 2) (v := ?_) 16 rfl rfl (by kernel_rfl) (by kernel_rfl) (by kernel_rfl) (fun _ _ _ h => h) (by assumption) (Or.inl ⟨by rfl, ?_⟩) ?_
  rotate_left
  · intro w hSw
    (try dsimp only at hSw)
    go_simp
    try with_reducible rfl
  simp only [List.setIfInBounds_toArray, List.set_cons_zero, List.set_cons_succ]
  refine takeD (i := 3) (v := ?_) 17 rfl rfl (by kernel_rfl) (by kernel_rfl) (by kernel_rfl) (fun _ _ _ h => h) (by assumption) (Or.inl ⟨by rfl, ?_⟩) ?_
  rotate_left
  · intro w hSw
    (try dsimp only at hSw)
    go_simp
    try with_reducible rfl
  simp only [List.setIfInBounds_toArray, List.set_cons_zero, List.set_cons_succ]
  refine takeD (i := 4) (v := ?_) 18 rfl rfl (by kernel_rfl) (by kernel_rfl) (by kernel_rfl) (fun _ _ _ h => h) (by assumption) (Or.inl ⟨by rfl, ?_⟩) ?_
  rotate_left
  · intro w hSw
    (try dsimp only at hSw)
    go_simp
    try with_reducible rfl
  simp only [List.setIfInBounds_toArray, List.set_cons_zero, List.set_cons_succ]
  refine takeD (i := 5) (v := ?_) 19 rfl rfl (by kernel_rfl) (by kernel_rfl) (by kernel_rfl) (fun _ _ _ h => h) (by assumption) (Or.inl ⟨by rfl, ?_⟩) ?_
  rotate_left
  · intro w hSw
    (try dsimp only at hSw)
    go_simp
    try with_reducible rfl
  simp only [List.setIfInBounds_toArray, List.set_cons_zero, List.set_cons_succ]
  refine takeD (i := 6) (v := ?_) 20 rfl rfl (by kernel_rfl) (by kernel_rfl) (by kernel_rfl) (fun _ _ _ h => h) (by assumption) (Or.inl ⟨by rfl, ?_⟩) ?_
  rotate_left
  · intro w hSw
    (try dsimp only at hSw)
    go_simp
    try with_reducible rfl
  simp only [List.setIfInBounds_toArray, List.set_cons_zero, List.set_cons_succ]
  refine takeD (i := 7) (v := ?_) 21 rfl rfl (by kernel_rfl) (by kernel_rfl) (by kernel_rfl) (fun _ _ _ h => h) (by assumption) (Or.inl ⟨by rfl, ?_⟩) ?_
  rotate_left
  · intro w hSw
    (try dsimp only at hSw)
    go_simp
    try with_reducible rfl
  simp only [List.setIfInBounds_toArray, List.set_cons_zero, List.set_cons_succ]
  refine takeD (i := 8) (v := ?_) 22 rfl rfl (by kernel_rfl) (by kernel_rfl) (by kernel_rfl) (fun _ _ _ h => h) (by assumption) (Or.inl ⟨by rfl, ?_⟩) ?_
  rotate_left
  · intro w hSw
    (try dsimp only at hSw)
    go_simp
    try with_reducible rfl
  simp only [List.setIfInBounds_toArray, List.set_cons_zero, List.set_cons_succ]
  refine takeD (i := 9) (v := ?_) 23 rfl rfl (by kernel_rfl) (by kernel_rfl) (by kernel_rfl) (fun _ _ _ h => h) (by assumption) (Or.inl ⟨by rfl, ?_⟩) ?_
  rotate_left
  · intro w hSw
    (try dsimp only at hSw)
    go_simp
    try with_reducible rfl
  simp only [List.setIfInBounds_toArray, List.set_cons_zero, List.set_cons_succ]
  refine takeD (i := 10) (v := ?_) 24 rfl rfl (by kernel_rfl) (by kernel_rfl) (by kernel_rfl) (fun _ _ _ h => h) (by assumption) (Or.inl ⟨by rfl, ?_⟩) ?_
  rotate_left
  · intro w hSw
    (try dsimp only at hSw)
    go_simp
    try with_reducible rfl
  simp only [List.setIfInBounds_toArray, List.set_cons_zero, List.set_cons_succ]
  refine takeD (i := 11) (v := ?_) 25 rfl rfl (by kernel_rfl) (by kernel_rfl) (by kernel_rfl) (fun _ _ _ h => h) (by assumption) (Or.inl ⟨by rfl, ?_⟩) ?_
  rotate_left
  · intro w hSw
    (try dsimp only at hSw)
    go_simp
    try with_reducible rfl
  simp only [List.setIfInBounds_toArray, List.set_cons_zero, List.set_cons_succ]
  refine takeD (i := 12) (v := ?_) 26 rfl rfl (by kernel_rfl) (by kernel_rfl) (by kernel_rfl) (fun _ _ _ h => h) (by assumption) (Or.inl ⟨by rfl, ?_⟩) ?_
  rotate_left
  · intro w hSw
    (try dsimp only at hSw)
    go_simp
    try with_reducible rfl
  simp only [List.setIfInBounds_toArray, List.set_cons_zero, List.set_cons_succ]
  refine takeD (i := 13) (v := ?_) 27 rfl rfl (by kernel_rfl) (by kernel_rfl) (by kernel_rfl) (fun _ _ _ h => h) (by assumption) (Or.inl ⟨by rfl, ?_⟩) ?_
  rotate_left
  · intro w hSw
    (try dsimp only at hSw)
    go_simp
    try with_reducible rfl
  simp only [List.setIfInBounds_toArray, List.set_cons_zero, List.set_cons_succ]
  refine takeD (i := 14) (v := ?_) 28 rfl rfl (by kernel_rfl) (by kernel_rfl) (by kernel_rfl) (fun _ _ _ h => h) (by assumption) (Or.inl ⟨by rfl, ?_⟩) ?_
  rotate_left
  · intro w hSw
    (try dsimp only at hSw)
    go_simp
    try with_reducible rfl
  simp only [List.setIfInBounds_toArray, List.set_cons_zero, List.set_cons_succ]
  refine takeD (i := 15) (v := ?_) 29 rfl rfl (by kernel_rfl) (by kernel_rfl) (by kernel_rfl) (fun _ _ _ h => h) (by assumption) (Or.inl ⟨by rfl, ?_⟩) ?_
  rotate_left
  · intro w hSw
    (try dsimp only at hSw)
    go_simp
    try with_reducible rfl
  simp only [List.setIfInBounds_toArray, List.set_cons_zero, List.set_cons_succ]
  refine takeD (i := 16) (v := ?_) 30 rfl rfl (by kernel_rfl) (by kernel_rfl) (by kernel_rfl) (fun _ _ _ h => h) (by assumption) (Or.inl ⟨by rfl, ?_⟩) ?_
  rotate_left
  · intro w hSw
    (try dsimp only at hSw)
    go_simp
    try with_reducible rfl
  simp only [List.setIfInBounds_toArray, List.set_cons_zero, List.set_cons_succ]
  refine takeD (i := 17) (v := ?_) 31 rfl rfl (by kernel_rfl) (by kernel_rfl) (by kernel_rfl) (fun _ _ _ h => h) (by assumption) (Or.inl ⟨by rfl, ?_⟩) ?_
  rotate_left
  · intro w hSw
    (try dsimp only at hSw)
    go_simp
    try with_reducible rfl
  simp only [List.setIfInBounds_toArray, List.set_cons_zero, List.set_cons_succ]
  refine takeD (i := 18) (v := ?_) 32 rfl rfl (by kernel_rfl) (by kernel_rfl) (by kernel_rfl) (fun _ _ _ h => h) (by assumption) (Or.inl ⟨by rfl, ?_⟩) ?_
  rotate_left
  · intro w hSw
    (try dsimp only at hSw)
    go_simp
    try with_reducible rfl
  simp only [List.setIfInBounds_toArray, List.set_cons_zero, List.set_cons_succ]
  refine takeD (i := 19) (v := ?_) 33 rfl rfl (by kernel_rfl) (by kernel_rfl) (by kernel_rfl) (fun _ _ _ h => h) (by assumption) (Or.inl ⟨by rfl, ?_⟩) ?_
  rotate_left
  · intro w hSw
    (try dsimp only at hSw)
    go_simp
    try with_reducible rfl
  simp only [List.setIfInBounds_toArray, List.set_cons_zero, List.set_cons_succ]
  refine takeD (i := 20) (v := ?_) 34 rfl rfl (by kernel_rfl) (by kernel_rfl) (by kernel_rfl) (fun _ _ _ h => h) (by assumption) (Or.inl ⟨by rfl, ?_⟩) ?_
  rotate_left
  · intro w hSw
    (try dsimp only at hSw)
    go_simp
    try with_reducible rfl
  simp only [List.setIfInBounds_toArray, List.set_cons_zero, List.set_cons_succ]
  refine takeD (i := 21) (v := ?_) 35 rfl rfl (by kernel_rfl) (by kernel_rfl) (by kernel_rfl) (fun _ _ _ h => h) (by assumption) (Or.inl ⟨by rfl, ?_⟩) ?_
  rotate_left
  · intro w hSw
    (try dsimp only at hSw)
    go_simp
    try with_reducible rfl
  simp only [List.setIfInBounds_toArray, List.set_cons_zero, List.set_cons_succ]
  refine takeD (i := 22) (v := ?_) 36 rfl rfl (by kernel_rfl) (by kernel_rfl) (by kernel_rfl) (fun _ _ _ h => h) (by assumption) (Or.inl ⟨by rfl, ?_⟩) ?_
  rotate_left
  · intro w hSw
    (try dsimp only at hSw)
    go_simp
    try with_reducible rfl
  simp only [List.setIfInBounds_toArray, List.set_cons_zero, List.set_cons_succ]
  refine takeD (i := 23) (v := ?_) 37 rfl rfl (by kernel_rfl) (by kernel_rfl) (by kernel_rfl) (fun _ _ _ h => h) (by assumption) (Or.inl ⟨by rfl, ?_⟩) ?_
  rotate_left
  · intro w hSw
    (try dsimp only at hSw)
    go_simp
    try with_reducible rfl
  simp only [List.setIfInBounds_toArray, List.set_cons_zero, List.set_cons_succ]
  refine takeD (i := 24) (v := ?_) 38 rfl rfl (by kernel_rfl) (by kernel_rfl) (by kernel_rfl) (fun _ _ _ h => h) (by assumption) (Or.inl ⟨by rfl, ?_⟩) ?_
  rotate_left
  · intro w hSw
    (try dsimp only at hSw)
    go_simp
    try with_reducible rfl
  simp only [List.setIfInBounds_toArray, List.set_cons_zero, List.set_cons_succ]
  refine takeD (i := 25) (v := ?_) 39 rfl rfl (by kernel_rfl) (by kernel_rfl) (by kernel_rfl) (fun _ _ _ h => h) (by assumption) (Or.inl ⟨by rfl, ?_⟩) ?_
  rotate_left
  · intro w hSw
    (try dsimp only at hSw)
    go_simp
    try with_reducible rfl
  simp only [List.setIfInBounds_toArray, List.set_cons_zero, List.set_cons_succ]
  refine takeD (i := 26) (v := ?_) 40 rfl rfl (by kernel_rfl) (by kernel_rfl) (by kernel_rfl) (fun _ _ _ h => h) (by assumption) (Or.inl ⟨by rfl, ?_⟩) ?_
  rotate_left
  · intro w hSw
    (try dsimp only at hSw)
    go_simp
    try with_reducible rfl
  simp only [List.setIfInBounds_toArray, List.set_cons_zero, List.set_cons_succ]
  refine takeD (i := 27) (v := ?_) 41 rfl rfl (by kernel_rfl) (by kernel_rfl) (by kernel_rfl) (fun _ _ _ h => h) (by assumption) (Or.inl ⟨by rfl, ?_⟩) ?_
  rotate_left
  · intro w hSw
    (try dsimp only at hSw)
    go_simp
    try with_reducible rfl
  simp only [List.setIfInBounds_toArray, List.set_cons_zero, List.set_cons_succ]
  refine takeD (i := 28) (v := ?_) 42 rfl rfl (by kernel_rfl) (by kernel_rfl) (by kernel_rfl) (fun _ _ _ h => h) (by assumption) (Or.inl ⟨by rfl, ?_⟩) ?_
  rotate_left
  · intro w hSw
    (try dsimp only at hSw)
    go_simp
    try with_reducible rfl
  simp only [List.setIfInBounds_toArray, List.set_cons_zero, List.set_cons_succ]
  refine takeD (i := 29) (v := ?_) 43 rfl rfl (by kernel_rfl) (by kernel_rfl) (by kernel_rfl) (fun _ _ _ h => h) (by assumption) (Or.inl ⟨by rfl, ?_⟩) ?_
  rotate_left
  · intro w hSw
    (try dsimp only at hSw)
    go_simp
    try with_reducible rfl
  simp only [List.setIfInBounds_toArray, List.set_cons_zero, List.set_cons_succ]
  refine takeD (i := 30) (v := ?_) 44 rfl rfl (by kernel_rfl) (by kernel_rfl) (by kernel_rfl) (fun _ _ _ h => h) (by assumption) (Or.inl ⟨by rfl, ?_⟩) ?_
  rotate_left
  · intro w hSw
    (try dsimp only at hSw)
    go_simp
    try with_reducible rfl
  simp only [List.setIfInBounds_toArray, List.set_cons_zero, List.set_cons_succ]
  refine takeD (i := 31) (v := ?_) 45 rfl rfl (by kernel_rfl) (by kernel_rfl) (by kernel_rfl) (fun _ _ _ h => h) (by assumption) (Or.inl ⟨by rfl, ?_⟩) ?_
  rotate_left
  · intro w hSw
    (try dsimp only at hSw)
    go_simp
    try with_reducible rfl
  simp only [List.setIfInBounds_toArray, List.set_cons_zero, List.set_cons_succ]
  refine takeD (i := 32) (v := ?_) 46 rfl rfl (by kernel_rfl) (by kernel_rfl) (by kernel_rfl) (fun _ _ _ h => h) (by assumption) (Or.inl ⟨by rfl, ?_⟩) ?_
  rotate_left
  · intro w hSw
    (try dsimp only at hSw)
    go_simp
    try with_reducible rfl
  simp only [List.setIfInBounds_toArray, List.set_cons_zero, List.set_cons_succ]
  refine takeD (i := 33) (v := ?_) 47 rfl rfl (by kernel_rfl) (by kernel_rfl) (by kernel_rfl) (fun _ _ _ h => h) (by assumption) (Or.inl ⟨by rfl, ?_⟩) ?_
  rotate_left
  · intro w hSw
    (try dsimp only at hSw)
    go_simp
    try with_reducible rfl
  simp only [List.setIfInBounds_toArray, List.set_cons_zero, List.set_cons_succ]
  refine takeD (i := 34) (v := ?_) 48 rfl rfl (by kernel_rfl) (by kernel_rfl) (by kernel_rfl) (fun _ _ _ h => h) (by assumption) (Or.inl ⟨by rfl, ?_⟩) ?_
  rotate_left
  · intro w hSw
    (try dsimp only at hSw)
    go_simp
    try with_reducible rfl
  simp only [List.setIfInBounds_toArray, List.set_cons_zero, List.set_cons_succ]
  refine takeD (i := 35) (v := ?_) 49 rfl rfl (by kernel_rfl) (by kernel_rfl) (by kernel_rfl) (fun _ _ _ h => h) (by assumption) (Or.inl ⟨by rfl, ?_⟩) ?_
  rotate_left
  · intro w hSw
    (try dsimp only at hSw)
    go_simp
    try with_reducible rfl
  simp only [List.setIfInBounds_toArray, List.set_cons_zero, List.set_cons_succ]
  refine takeD (i := 36) (v := ?_) 50 rfl rfl (by kernel_rfl) (by kernel_rfl) (by kernel_rfl) (fun _ _ _ h => h) (by assumption) (Or.inl ⟨by rfl, ?_⟩) ?_
  rotate_left
  · intro w hSw
    (try dsimp only at hSw)
    go_simp
    try with_reducible rfl
  simp only [List.setIfInBounds_toArray, List.set_cons_zero, List.set_cons_succ]
  refine takeD (i := 37) (v := ?_) 51 rfl rfl (by kernel_rfl) (by kernel_rfl) (by kernel_rfl) (fun _ _ _ h => h) (by assumption) (Or.inl ⟨by rfl, ?_⟩) ?_
  rotate_left
  · intro w hSw
    (try dsimp only at hSw)
    go_simp
    try with_reducible rfl
  simp only [List.setIfInBounds_toArray, List.set_cons_zero, List.set_cons_succ]
  refine takeD (i := 38) (v := ?_) 52 rfl rfl (by kernel_rfl) (by kernel_rfl) (by kernel_rfl) (fun _ _ _ h => h) (by assumption) (Or.inl ⟨by rfl, ?_⟩) ?_
  rotate_left
  · intro w hSw
    (try dsimp only at hSw)
    go_simp
    try with_reducible rfl
  simp only [List.setIfInBounds_toArray, List.set_cons_zero, List.set_cons_succ]
  refine takeD (i := 39) (v := ?_) 53 rfl rfl (by kernel_rfl) (by kernel_rfl) (by kernel_rfl) (fun _ _ _ h => h) (by assumption) (Or.inl ⟨by rfl, ?_⟩) ?_
  rotate_left
  · intro w hSw
    (try dsimp only at hSw)
    go_simp
    try with_reducible rfl
  simp only [List.setIfInBounds_toArray, List.set_cons_zero, List.set_cons_succ]
  refine wpAnyH_ready (rs := [40]) (by kernel_rfl) (by simp) ?_
  refine AllReadyH.cons (by simp only [List.getElem?_toArray, List.getElem?_cons_succ, List.getElem?_cons_zero]; rfl) (fun K hK => ?_) AllReadyH.nil
  go_simp
  go_at_call 100; (with_reducible refine (HEC.out _ (HA.out _ hHeld.2.2.2.2.2.2.2.2) (HA'.out _ hHeld.2.2.2.2.2.2.2.2)).mono ?_); rintro e w1 ⟨rfl, hb1⟩
  refine hK.out _ _ ?_ (fun hHeldN => ?_)
  · exact ⟨keepc hb1 hHeld.1, keepc hb1 hHeld.2.1, keepc hb1 hHeld.2.2.1, keepc hb1 hHeld.2.2.2.1, keepc hb1 hHeld.2.2.2.2.1, keepc hb1 hHeld.2.2.2.2.2.1, keepc hb1 hHeld.2.2.2.2.2.2.1, keepc hb1 hHeld.2.2.2.2.2.2.2.1, below_t hHeld.2.2.2.2.2.2.2.2 hb1⟩
  clear hK K hHeld
  have hHeld := hHeldN
  clear hHeldN
  (try simp only [Act.put, List.setIfInBounds_toArray, List.set_cons_zero, List.set_cons_succ])
  refine takeD (i := 41) (v := ?_) 55 rfl rfl (by kernel_rfl) (by kernel_rfl) (by kernel_rfl) (fun _ _ _ h => h) (by assumption) (Or.inl ⟨by rfl, ?_⟩) ?_
  rotate_left
  · intro w hSw
    (try dsimp only at hSw)
    go_simp
    try with_reducible rfl
  simp only [List.setIfInBounds_toArray, List.set_cons_zero, List.set_cons_succ]
  refine takeD (i := 42) (v := ?_) 4 rfl rfl (by kernel_rfl) (by kernel_rfl) (by kernel_rfl) (fun _ _ _ h => h) (by assumption) (Or.inl ⟨by rfl, ?_⟩) ?_
  rotate_left
  · intro w hSw
    (try dsimp only at hSw)
    go_simp
    try with_reducible rfl
  simp only [List.setIfInBounds_toArray, List.set_cons_zero, List.set_cons_succ]
  refine wpAnyH_done (by kernel_rfl) ?_ _
  have HE := hid hHeld
  clear hHeld
  go_wp2
  go_ret
  exact ⟨rfl, HE.out.2.2.2.2.2.2.2.2⟩
set_option maxRecDepth 100000 in
theorem same_nil (w : World) : Calls Try.prog 41 #[.pointer none, .pointer none] w fun e w' => e = .returned (.bool true) ∧ Below w.heap.size w w' := by
  go_enter Try.func41, Try.ntmps41
  go_wp2
  go_ret
  exact ⟨rfl, Below.refl _ _⟩
set_option maxRecDepth 100000 in
theorem same_nil2 (b : Nat) (w : World) : Calls Try.prog 41 #[.pointer none, .pointer (some ⟨b, 0, none⟩)] w fun e w' => e = .returned (.bool false) ∧ Below w.heap.size w w' := by
  have heq : ∀ W : World, Sem.run Try.prog (binOp .eql 25 (.pointer none) (.pointer (some ⟨b, 0, none⟩))) W = .ok (.bool false) W := fun _ => by kernel_rfl
  go_enter Try.func41, Try.ntmps41
  go_wp2
  go_ret
  exact ⟨rfl, Below.refl _ _⟩
set_option maxRecDepth 100000 in
theorem same_no (a : Addr) (w : World) : Calls Try.prog 41 #[.pointer (some a), .pointer none] w fun e w' => e = .returned (.bool false) ∧ Below w.heap.size w w' := by
  go_enter Try.func41, Try.ntmps41
  go_wp2
  go_ret
  exact ⟨rfl, Below.refl _ _⟩
end Go.Proofs.Ytpehhinpohmpiaa
namespace Go.Proofs.Ytpehhinpohmpiaa
open Go.RowKit Go.Lib Go.Deep

theorem fit_again {c : Cel} (h : (fit c).at_ = false) : fit { fit c with ch := c.ch } = fit c := by
  by_cases hc : c.at_ = true
  · have e : fit c = { c with ch := 0, fa := sixB c.fa } := by unfold fit; rw [if_pos hc]
    rw [e] at h
    exact absurd h (by rw [show ({ c with ch := 0, fa := sixB c.fa } : Cel).at_ = true from hc]; simp)
  · have hc' : c.at_ = false := by simpa using hc
    have e : fit c = { c with fa := 0 } := by unfold fit; rw [if_neg hc]
    rw [e]
    unfold fit
    rw [if_neg (by simp [hc'])]
/-- What a cell's own character does behind the cell: nothing. -/
theorem round_put {s : Spc} (h : s.OK) (far : Int) (c : Cel) (ex : Nat) : ({ ((s.setC far c).place far) with ex := ex } : Spc).putC far c.ch = { ((s.setC far c).place far) with ex := ex } := by
  have hl := h.wr_lt far
  have hwr : ({ ((s.setC far c).place far) with ex := ex } : Spc).wr far = s.wr far := by
    show (far % (((s.setC far c).L.length : Nat) : Int)).toNat = _
    rw [setC_len]
    rfl
  have hat : ({ ((s.setC far c).place far) with ex := ex } : Spc).atC far = fit c := by
    unfold Spc.atC
    rw [hwr]
    show (s.put1 (s.wr far) (fit c)).cel (s.wr far) = _
    rw [Spc.put1_cel, if_pos ⟨rfl, hl⟩]
  unfold Spc.putC
  rw [hat]
  by_cases ha : (fit c).at_ = true
  · rw [if_pos ha]
  · rw [if_neg ha]
    show ({ ((s.setC far c).place far) with ex := ex } : Spc).put1 (({ ((s.setC far c).place far) with ex := ex } : Spc).wr far) (fit { fit c with ch := c.ch }) = _
    rw [hwr, fit_again (by simpa using ha)]
    show ({ ((s.setC far c).place far) with ex := ex, L := ((s.L.set (s.wr far) (fit c))).set (s.wr far) (fit c) } : Spc) = _
    rw [List.set_set]
    rfl
theorem round_at {s : Spc} (h : s.OK) (far n : Int) (c : Cel) (e : s.wr n = s.wr far) : ((s.setC far c).place far).atC n = fit c := by
  have hwr : ((s.setC far c).place far).wr n = s.wr far := by
    rw [← e]
    show (n % (((s.setC far c).L.length : Nat) : Int)).toNat = _
    rw [setC_len]
    rfl
  unfold Spc.atC
  rw [hwr]
  show (s.put1 (s.wr far) (fit c)).cel (s.wr far) = _
  rw [Spc.put1_cel, if_pos ⟨rfl, h.wr_lt far⟩]
end Go.Proofs.Ytpehhinpohmpiaa
namespace Go.Proofs.Ytpehhinpohmpiaa
open Go.RowKit Go.Lib Go.Deep

section
variable {F : Fence} {n : Nat} {P : Program}
/-- A loop over an iterator that tells nothing. -/
theorem rangeFunc_none {α : Type} {g : Operand} {ps : Array Tmp} {assign body : Code} {Q : Exit → Act → World → Prop} {a : Act} {w : World}
    (hro : F.round = none) (h1 : 1 ≤ n) {gf : Nat} {lb : Array Value} (hg : a.eval g = .func (.func gf) #[] lb) (hFg : F.fn gf) (eg : ∀ args w, (callFunc gf args).run P w = .ok (.enter gf args) w)
    {encs : α → Array Value} (hps : ∀ x, (encs x).size = ps.size) {R : World → Prop} (J : World → Prop) (hJ : Abides w.heap.size J) (hR : ∀ V, J V → R V) (h0 : J w)
    (hiter : ∀ W, SeqF F (n - 1) P gf lb encs (fun _ _ _ => False) 0 R W)
    (hdone : ∀ (D : Nat) (W : World), w.heap.size ≤ D → J W → W.heap[D]? = some (.deferred (some [])) → Q .normal { a with defers := { target := .collected D, args := #[] } :: a.defers } W) :
    (Code.rangeFunc g ps assign body).wpIn F n P Q a w :=
  rangeFunc_seq hro h1 hg hFg eg hps (fun _ _ => J) (fun _ _ _ _ => False) (fun _ _ => hJ) (fun _ _ _ _ _ _ h => h.elim) (fun _ _ V h => hR V h) h0 (fun _ _ _ _ _ => False) (fun _ _ _ _ _ _ _ h => h.elim)
    (fun _ _ _ _ _ _ h => absurd h (Nat.not_lt_zero _)) (fun _ _ _ _ _ _ h => absurd h (Nat.not_lt_zero _)) (fun _ _ _ _ => hiter _) (fun D _ W hD h hK => hdone D W hD h hK) (fun _ _ _ _ _ _ h => absurd h (Nat.not_lt_zero _))
end
set_option maxRecDepth 100000 in
set_option maxHeartbeats 4000000 in
theorem all_nil (w : World) : Calls Try.prog 104 #[.pointer none] w fun e w' => ∃ bx, e = .returned (.func (.func 141) #[] #[.pointer (some ⟨bx, 0, none⟩)]) ∧ w.heap.size ≤ bx ∧ w'.cell? ⟨bx, 0, none⟩ = some (.pointer none) ∧ Below w.heap.size w w' := by
  go_enter Try.func104, Try.ntmps104
  go_wp2
  go_ret
  exact ⟨w.heap.size, rfl, Nat.le_refl _, by simp [go_sem], (Below.refl _ _).al (Nat.le_refl _) _⟩
set_option maxRecDepth 100000 in
set_option maxHeartbeats 4000000 in
theorem attrsIt_nil (w : World) : Calls Try.prog 133 #[.pointer none] w fun e w' => ∃ bx, e = .returned (.func (.func 154) #[] #[.pointer (some ⟨bx, 0, none⟩)]) ∧ w.heap.size ≤ bx ∧ w'.cell? ⟨bx, 0, none⟩ = some (.pointer none) ∧ Below w.heap.size w w' := by
  go_enter Try.func133, Try.ntmps133
  go_wp2
  go_ret
  exact ⟨w.heap.size, rfl, Nat.le_refl _, by simp [go_sem], (Below.refl _ _).al (Nat.le_refl _) _⟩
set_option maxRecDepth 100000 in
set_option maxHeartbeats 4000000 in
theorem cursor_nil (w : World) : Calls Try.prog 22 #[.pointer none] w fun e w' => e = .returned (.int .i64 0) ∧ Below w.heap.size w w' := by
  go_enter Try.func22, Try.ntmps22
  go_wp2
  go_ret
  exact ⟨rfl, Below.refl _ _⟩
set_option maxRecDepth 100000 in
set_option maxHeartbeats 4000000 in
theorem alternate_nil (w : World) : Calls Try.prog 73 #[.pointer none] w fun e w' => e = .returned (.bool false) ∧ Below w.heap.size w w' := by
  go_enter Try.func73, Try.ntmps73
  go_wp2
  go_ret
  exact ⟨rfl, Below.refl _ _⟩
set_option maxRecDepth 100000 in
set_option maxHeartbeats 4000000 in
theorem copy_nil (w : World) : Calls Try.prog 40 #[.pointer none] w fun e w' => e = .returned (.pointer none) ∧ Below w.heap.size w w' := by
  go_enter Try.func40, Try.ntmps40
  go_wp2
  go_ret
  exact ⟨rfl, Below.refl _ _⟩
set_option maxRecDepth 100000 in
set_option maxHeartbeats 4000000 in
theorem size_nil (w : World) : Calls Try.prog 79 #[.pointer none] w fun e w' => e = .returned (sizeV 0 0) ∧ Below w.heap.size w w' := by
  go_enter Try.func79, Try.ntmps79
  go_wp2
  exact bodyPost_ret (v := sizeV 0 0) (by simp [results, Try.results79, go_sem]) rfl ⟨rfl, (Below.refl _ _).al (Nat.le_refl _) _⟩
set_option maxRecDepth 100000 in
set_option maxHeartbeats 4000000 in
theorem at_nil (n : Int) (w : World) : Calls Try.prog 20 #[.pointer none, .int .i64 n] w fun e w' => e = .returned cel0.v ∧ Below w.heap.size w w' := by
  go_enter Try.func20, Try.ntmps20
  go_wp2
  exact bodyPost_ret (v := cel0.v) (by simp [results, Try.results20, go_sem, cel0]) rfl ⟨rfl, (Below.refl _ _).al (Nat.le_refl _) _⟩
set_option maxRecDepth 100000 in
set_option maxHeartbeats 4000000 in
theorem set_nil (n : Int) (c : Cel) (w : World) : Calls Try.prog 66 #[.pointer none, .int .i64 n, c.v] w fun e w' => (∃ v, e = .returned v) ∧ Below w.heap.size w w' := by
  obtain ⟨x0, x1, x2, x3, x4, x5⟩ := c
  go_enter Try.func66, Try.ntmps66
  go_wp2
  exact bodyPost_ret (results_none rfl _ _ _) rfl ⟨⟨_, rfl⟩, (Below.refl _ _).al (Nat.le_refl _) _⟩
set_option maxRecDepth 100000 in
set_option maxHeartbeats 4000000 in
theorem place_nil (n : Int) (w : World) : Calls Try.prog 53 #[.pointer none, .int .i64 n] w fun e w' => (∃ v, e = .returned v) ∧ Below w.heap.size w w' := by
  go_enter Try.func53, Try.ntmps53
  go_wp2
  go_end0
  exact ⟨⟨_, rfl⟩, Below.refl _ _⟩
set_option maxRecDepth 100000 in
set_option maxHeartbeats 4000000 in
theorem clear_nil (al : Bool) (w : World) : Calls Try.prog 65 #[.pointer none, .bool al] w fun e w' => (∃ v, e = .returned v) ∧ Below w.heap.size w w' := by
  go_enter Try.func65, Try.ntmps65
  go_wp2
  exact bodyPost_ret (results_none rfl _ _ _) rfl ⟨⟨_, rfl⟩, Below.refl _ _⟩
set_option maxRecDepth 100000 in
set_option maxHeartbeats 4000000 in
theorem put_nil (n : Int) (k : Int) (w : World) : Calls Try.prog 85 #[.pointer none, .int .i64 n, .int .u8 k] w fun e w' => (∃ v, e = .returned v) ∧ Below w.heap.size w w' := by
  have HA := hid (fun W => at_nil n W)
  have HS := hid (fun W => (show Calls Try.prog 66 #[.pointer none, .int .i64 n, .agg #[.int .u8 k, .bool false, .int .u8 0, .int .u8 0, .int .u8 0, .int .u8 0]] W _ from set_nil n ⟨k, false, 0, 0, 0, 0⟩ W))
  go_enter Try.func85, Try.ntmps85
  go_wp2_with fail
  with_reducible refine (HA.out _).mono ?_
  rintro e w1 ⟨rfl, hb1⟩
  have HB1 := hid hb1
  clear hb1
  rw [show cel0.v = .agg #[.int .u8 0, .bool false, .int .u8 0, .int .u8 0, .int .u8 0, .int .u8 0] from rfl]
  go_wp2_with fail
  with_reducible refine (HS.out _).mono ?_
  rintro e w2 ⟨⟨v, rfl⟩, hb2⟩
  have HB2 := hid hb2
  clear hb2
  go_wp2
  go_end0
  refine ⟨⟨_, rfl⟩, ?_⟩
  exact below_t (below_t HB1.out ((Below.refl _ _).al (Nat.le_refl _) _)) HB2.out
def RN (bx : Nat) (V : World) : Prop := V.cell? ⟨bx, 0, none⟩ = some (.pointer none)
set_option maxRecDepth 100000 in
set_option maxHeartbeats 4000000 in
theorem all_nil_seq (n : Nat) (_hn : 1 ≤ n) (bx : Nat) (W : World) : SeqF Fence.wide n Try.prog 141 #[.pointer (some ⟨bx, 0, none⟩)] encA (fun _ _ _ => False) 0 (RN bx) W := fun l I Ix _ _ hR h0 hY => by
  have hb : W.cell? ⟨bx, 0, none⟩ = some (.pointer none) := hR _ _ _ h0
  have hlt : bx < W.heap.size := World.block_lt_of_cell? W _ hb
  have H0 := hid h0
  clear hY hR h0
  refine callsIn_of_wp Try.func141 rfl trivial ?_ rfl
  simp only [Try.ntmps141, List.size_toArray, List.length_cons, List.length_nil, Nat.reduceAdd, Nat.reduceSub, Array.replicate_succ, Array.replicate_zero, List.push_toArray, List.append_toArray, List.nil_append, List.cons_append]
  gi_wp2
  refine bodyPost_ret (results_none rfl _ _ _) rfl ?_
  exact ⟨⟨_, rfl⟩, .inl ⟨_, H0.out⟩⟩
set_option maxRecDepth 100000 in
set_option maxHeartbeats 4000000 in
theorem attrs_nil_seq (n : Nat) (hn : 4 ≤ n) (bx : Nat) (W : World) : SeqF Fence.wide n Try.prog 154 #[.pointer (some ⟨bx, 0, none⟩)] encI (fun _ _ _ => False) 0 (RN bx) W := fun l I Ix hI hIx hR h0 hY => by
  have hb : W.cell? ⟨bx, 0, none⟩ = some (.pointer none) := hR _ _ _ h0
  have hlt : bx < W.heap.size := World.block_lt_of_cell? W _ hb
  have H0 := hid h0
  clear hY hR h0
  refine callsIn_of_wp_marks Try.func154 rfl trivial ?_ rfl
  simp only [Try.ntmps154, List.size_toArray, List.length_cons, List.length_nil, Nat.reduceAdd, Nat.reduceSub, Array.replicate_succ, Array.replicate_zero, List.push_toArray, List.append_toArray, List.nil_append, List.cons_append]
  gi_wp2
  refine ⟨trivial, fun _ => (by omega), ?_⟩
  refine (callsIn_wide.2 (all_nil _)).mono ?_
  rintro e w1 ⟨bs, rfl, hbs, hcs, hb1⟩
  have hg1 : Grow W.heap.size W w1 := (Grow.alloc W _ _).trans (Grow.below hb1 _)
  have hz1 : W.heap.size ≤ w1.heap.size := hg1.size
  have HI0 := hid (show I 0 [] w1 ∧ RN bs w1 from ⟨hI _ _ _ _ hg1 H0.out, hcs⟩)
  clear hb1 hg1 hcs hbs hb hlt
  gi_wp2
  refine rangeFunc_none (n := n) (w := w1) rfl (by omega) (gf := 141) (lb := #[.pointer (some ⟨bs, 0, none⟩)]) rfl trivial (enters_of Try.func141 (by kernel_rfl) rfl)
    (encs := encA) (fun _ => rfl) (R := RN bs) (fun V => I 0 [] V ∧ RN bs V) (fun A C hg h => ⟨hI _ _ _ _ (hg.mono hz1) h.1, cell_grow hg h.2⟩) (fun V h => h.2) HI0.out (fun V => all_nil_seq (n - 1) (by omega) bs V) ?done
  case done =>
    rintro D V hD hi hK
    have HK := hid hK
    have HI := hid hi
    clear hi hK
    gi_wp2
    refine ⟨by simp, .inl ⟨_, _, rfl, run_takeDeferred HK.out, ?_⟩⟩
    exact ⟨_, results_none rfl _ _ _, ⟨_, rfl⟩, .inl ⟨[], hI _ _ _ _ (Grow.put _ (by omega) HK.out rfl) HI.out.1⟩⟩
section
attribute [local go_sem] Oper.semAt_some
set_option maxRecDepth 100000 in
set_option maxHeartbeats 4000000 in
theorem formatted_nil (n : Nat) (hn : 6 ≤ n) (w : World) :
    CallsIn Fence.wide n Try.prog 89 #[.pointer none] w fun e w' => e = .returned (.bool false) ∧ Below w.heap.size w w' := by
  refine callsIn_of_wp_marks Try.func89 rfl trivial ?_ rfl
  simp only [Try.ntmps89, List.size_toArray, List.length_cons, List.length_nil, Nat.reduceAdd, Nat.reduceSub, Array.replicate_succ, Array.replicate_zero, List.push_toArray, List.append_toArray, List.nil_append, List.cons_append]
  gi_wp2
  refine ⟨trivial, fun _ => (by omega), ?_⟩
  refine (callsIn_wide.2 (attrsIt_nil _)).mono ?_
  rintro e w1 ⟨bs, rfl, hbs, hcs, hb1⟩
  have o1 : w1.cell? ⟨w.heap.size, 0, none⟩ = some (.bool false) := keepc hb1 (by simp [go_sem])
  have f1 : w1.frozen? ⟨w.heap.size, 0, none⟩ = false := (hb1.frozen (p := ⟨w.heap.size, 0, none⟩) (by simp)).trans (by simp [go_sem])
  have hb2 : Below w.heap.size w w1 := blw hb1
  have HI0 := hid (show RN bs w1 ∧ w1.cell? ⟨w.heap.size, 0, none⟩ = some (.bool false) ∧ w1.frozen? ⟨w.heap.size, 0, none⟩ = false ∧ Below w.heap.size w w1 from ⟨hcs, o1, f1, hb2⟩)
  have hlz : w.heap.size ≤ w1.heap.size := hb2.size
  have hlz' : w.heap.size + 1 ≤ w1.heap.size := by have := hb1.size; simp at this; omega
  clear hb1 hb2 hcs o1 f1
  gi_wp2
  refine rangeFunc_none (n := n) (w := w1) rfl (by omega) (gf := 154) (lb := #[.pointer (some ⟨bs, 0, none⟩)]) rfl trivial (enters_of Try.func154 (by kernel_rfl) rfl)
    (encs := encI) (fun _ => rfl) (R := RN bs) (fun V => RN bs V ∧ V.cell? ⟨w.heap.size, 0, none⟩ = some (.bool false) ∧ V.frozen? ⟨w.heap.size, 0, none⟩ = false ∧ Below w.heap.size w V) (fun A C hg h => ⟨cell_grow hg h.1, cell_grow hg h.2.1, frozen_grow hg h.2.1 h.2.2.1, below_grow h.2.2.2 hg hlz (Nat.le_refl _)⟩) (fun V h => h.1) HI0.out (fun V => attrs_nil_seq (n - 1) (by omega) bs V) ?done
  case done =>
    rintro D V hD ⟨_, h2, h3, h4⟩ hK
    have hlt := World.block_lt_of_cell? V _ h2
    have HK := hid hK
    have HB := hid h4
    clear hK h4
    gi_wp2
    refine ⟨by simp, .inl ⟨_, _, rfl, run_takeDeferred ((Go.heap_setCell_other V ⟨w.heap.size, 0, none⟩ D _ (by simp; omega)).trans HK.out), ?_⟩⟩
    have e1 : (V.setCell ⟨w.heap.size, 0, none⟩ (.bool false)).heap[D]? = V.heap[D]? := Go.heap_setCell_other V _ D _ (by simp; omega)
    have hg := Grow.put (m := w1.heap.size) (.deferred none) hD (e1.trans HK.out) rfl
    have e2 := cell_grow hg (sc_same (v := .bool false) h2)
    exact ⟨.bool false, by simp [results, Try.f89, go_sem, e2], rfl, below_grow (HB.out.sc _ _ _ (Nat.le_refl _)) hg hlz (Nat.le_refl _)⟩
end
end Go.Proofs.Ytpehhinpohmpiaa
namespace Go.Proofs.Ytpehhinpohmpiaa
open Go.RowKit Go.Lib Go.Deep

/-- The widest fence, no round: a plain walk serves. -/
theorem wpIn_of_wp {n : Nat} {P : Program} {c : Code} {Q : Exit → Act → World → Prop} {a : Act} {w : World} (h : c.wp P Q a w) : c.wpIn Fence.wide n P Q a w := fun b k cs hro _ _ => by
  have hro : b.roundOf = none := hro
  obtain ⟨e, a', w', q, r⟩ := h b k cs
  refine ⟨e, a', w', q, ?_⟩
  rw [Frame.atR_of_none hro]
  cases e with
  | normal => show StepsIn _ _ _ _; rw [Frame.atR_of_none hro]; exact stepsIn_wide.2 r
  | exit id => exact ⟨fun k' hk => by rw [Frame.atR_of_none hro]; exact stepsIn_wide.2 (r k' hk), fun h => by rw [hro] at h; cases h⟩
  | goto l => exact ⟨fun k' hk => by rw [Frame.atR_of_none hro]; exact stepsIn_wide.2 (r k' hk), fun h => by rw [hro] at h; cases h⟩
  | ret =>
    obtain ⟨todo, hs⟩ := r
    exact ⟨fun _ => ⟨todo, by rw [Frame.atR_of_none hro]; exact stepsIn_wide.2 hs⟩, fun h => by rw [hro] at h; cases h⟩
  | panic chain =>
    obtain ⟨todo, hs⟩ := r
    exact ⟨todo, by rw [Frame.atR_of_none hro]; exact stepsIn_wide.2 hs⟩
  | outgrown => exact r
def OnlyN (Q : Exit → Act → World → Prop) : Exit → Act → World → Prop
  | .normal, a, w => Q .normal a w
  | _, _, _ => False
theorem wpIn_of_wpN {n : Nat} {P : Program} {c : Code} {Q : Exit → Act → World → Prop} {a : Act} {w : World} (h : c.wp P (OnlyN Q) a w) : c.wpIn Fence.wide n P Q a w :=
  wpIn_of_wp (wp_mono h (fun e a w q => by cases e <;> first | exact q | exact q.elim))
set_option maxRecDepth 100000 in
set_option maxHeartbeats 4000000 in
theorem diff_nil (n : Nat) (hn : 6 ≤ n)  (w : World) (HSO : ∀ W, Below w.heap.size w W → Calls Try.prog 79 #[.pointer none] W fun e w' => e = .returned (sizeV 0 0) ∧ Below W.heap.size W w') :
    CallsIn Fence.wide n Try.prog 46 #[.pointer none, .pointer none] w fun e w' => e = .returned (.slice none 0 0) ∧ Below w.heap.size w w' := by
  have HSZ := hid HSO
  have HSN := hid (fun W => size_nil W)
  clear HSO
  refine callsIn_of_wp_marks Try.func46 rfl trivial ?_ rfl
  simp only [Try.ntmps46, List.size_toArray, List.length_cons, List.length_nil, Nat.reduceAdd, Nat.reduceSub, Array.replicate_succ, Array.replicate_zero, List.push_toArray, List.append_toArray, List.nil_append, List.cons_append]
  gi_wp2
  obtain ⟨w0, hw0⟩ : ∃ w0, w.alloc (.cells #[.pointer none] 25) = w0 := ⟨_, rfl⟩
  have hz : w0.heap.size = w.heap.size + 1 := by rw [← hw0]; simp
  have hb0 : Below w.heap.size w w0 := by rw [← hw0]; exact bal (Below.refl _ _) _
  have hc0 : w0.cell? ⟨w.heap.size, 0, none⟩ = some (.pointer none) := by rw [← hw0]; simp [go_sem]
  rw [hw0]
  have HC := hid hc0
  have HB0 := hid hb0
  have HZ := hid hz
  have hl0 : w.heap.size < w0.heap.size := World.block_lt_of_cell? w0 _ hc0
  clear hz hb0 hw0 hc0
  refine wpIn_of_wpN ?_
  refine wp_region_held_drew (S := fun V => V.cell? ⟨w.heap.size, 0, none⟩ = some (.pointer none) ∧ Below w0.heap.size w0 V) (by kernel_rfl) ?_ (fun hHeld => ?_)
  · have hdr : Below w0.heap.size w0 w0.drew := (Below.refl _ _).drew
    exact ⟨keepc hdr HC.out, hdr⟩
  refine takeD (i := 0) (v := ?_) 9 rfl rfl (by kernel_rfl) (by kernel_rfl) (by kernel_rfl) (fun _ _ _ h => h) (by assumption) (Or.inl ⟨by rfl, ?_⟩) ?_
  rotate_left
  · intro w hSw
    (try dsimp only at hSw)
    go_simp
    try with_reducible rfl
  simp only [List.setIfInBounds_toArray, List.set_cons_zero, List.set_cons_succ]
  refine takeD (i := 2) (v := ?_) 11 rfl rfl (by kernel_rfl) (by kernel_rfl) (by kernel_rfl) (fun _ _ _ h => h) (by assumption) (Or.inl ⟨by rfl, ?_⟩) ?_
  rotate_left
  · intro w hSw
    (try dsimp only at hSw)
    go_simp
    try with_reducible rfl
  simp only [List.setIfInBounds_toArray, List.set_cons_zero, List.set_cons_succ]
  refine wpAnyH_ready (rs := [1, 5]) (by kernel_rfl) (by simp) ?_
  refine AllReadyH.cons (by simp only [List.getElem?_toArray, List.getElem?_cons_succ, List.getElem?_cons_zero]; rfl) (fun K hK => ?_) <| AllReadyH.cons (by simp only [List.getElem?_toArray, List.getElem?_cons_succ, List.getElem?_cons_zero]; rfl) (fun K hK => ?_) <| AllReadyH.nil
  · go_simp
    go_at_call 79; (with_reducible refine (HSN.out _).mono ?_); rintro e w1 ⟨rfl, hb1⟩
    refine hK.out _ _ ?_ (fun hHeldN => ?_)
    · exact ⟨keepc hb1 hHeld.1, below_t hHeld.2 hb1⟩
    clear hK K hHeld
    have hHeld := hHeldN
    clear hHeldN
    (try simp only [Act.put, List.setIfInBounds_toArray, List.set_cons_zero, List.set_cons_succ])
    have hs1 : w0.heap.size ≤ w1.heap.size := hHeld.2.size
    refine wpAnyH_ready (rs := [3, 5]) (by kernel_rfl) (by simp) ?_
    refine AllReadyH.cons (by simp only [List.getElem?_toArray, List.getElem?_cons_succ, List.getElem?_cons_zero]; rfl) (fun K hK => ?_) <| AllReadyH.cons (by simp only [List.getElem?_toArray, List.getElem?_cons_succ, List.getElem?_cons_zero]; rfl) (fun K hK => ?_) <| AllReadyH.nil
    · go_simp
      go_at_call 79; (with_reducible refine (HSZ.out _ (below_t HB0.out hHeld.2)).mono ?_); rintro e w2 ⟨rfl, hb2⟩
      refine hK.out _ _ ?_ (fun hHeldN => ?_)
      · exact ⟨keepc hb2 hHeld.1, below_t hHeld.2 hb2⟩
      clear hK K hHeld
      have hHeld := hHeldN
      clear hHeldN
      (try simp only [Act.put, List.setIfInBounds_toArray, List.set_cons_zero, List.set_cons_succ])
      refine takeD (i := 4) (v := ?_) 13 rfl rfl (by kernel_rfl) (by kernel_rfl) (by kernel_rfl) (fun _ _ _ h => h) (by assumption) (Or.inl ⟨by rfl, ?_⟩) ?_
      rotate_left
      · intro w hSw
        (try dsimp only at hSw)
        go_simp
        try with_reducible rfl
      simp only [List.setIfInBounds_toArray, List.set_cons_zero, List.set_cons_succ]
      refine wpAnyH_ready (rs := [5]) (by kernel_rfl) (by simp) ?_
      refine AllReadyH.cons (by simp only [List.getElem?_toArray, List.getElem?_cons_succ, List.getElem?_cons_zero]; rfl) (fun K hK => ?_) <| AllReadyH.nil
      have hH0 := hHeld
      go_simp
      refine hK.out _ _ ?_ (fun hHeldN => ?_)
      · exact ⟨keepc (bal (Below.refl _ _) _) hHeld.1, bal hHeld.2 _⟩
      clear hK K hHeld
      have hHeld := hHeldN
      clear hHeldN
      (try simp only [Act.put, List.setIfInBounds_toArray, List.set_cons_zero, List.set_cons_succ])
      have hA : (w2.alloc (.cells #[.bool false] 4)).cell? ⟨w2.heap.size, 0, none⟩ = some (.bool false) := by simp [go_sem]
      have hlA := World.block_lt_of_cell? _ _ hA
      have hF : (w2.alloc (.cells #[.bool false] 4)).frozen? ⟨w2.heap.size, 0, none⟩ = false := by simp [go_sem]
      refine wpAnyH_ready (rs := [6]) (by kernel_rfl) (by simp) ?_
      refine AllReadyH.cons (by simp only [List.getElem?_toArray, List.getElem?_cons_succ, List.getElem?_cons_zero]; rfl) (fun K hK => ?_) AllReadyH.nil
      go_simp
      refine hK.out _ _ ?_ (fun hHeldN => ?_)
      · exact ⟨keepc (bal (Below.refl _ _) _) hH0.1, bal hH0.2 _⟩
      clear hK K hHeld
      have hHeld := hHeldN
      clear hHeldN
      (try simp only [Act.put, List.setIfInBounds_toArray, List.set_cons_zero, List.set_cons_succ])
      refine wpAnyH_done (by kernel_rfl) ?_ _
      have HE := hid hHeld
      clear hHeld
      dsimp only [OnlyN]
      generalize (w2.alloc (.cells #[.bool false] 4)) = X at HE ⊢
      have HX := hid (show Below w.heap.size w X from HB0.out.trans (HE.out.2.mono HB0.out.size))
      clear HE
      gi_wp2
      refine ⟨trivial, fun _ => (by omega), ?_⟩
      refine (callsIn_wide.2 (all_nil _)).mono ?_
      rintro e w3 ⟨bs, rfl, hbs, hcs, hb3⟩
      have o1 : w3.cell? ⟨X.heap.size, 0, none⟩ = some (.slice none 0 0) := keepc hb3 (by simp [go_sem])
      have hb4 : Below X.heap.size X w3 := blw hb3
      have HI0 := hid (show RN bs w3 ∧ w3.cell? ⟨X.heap.size, 0, none⟩ = some (.slice none 0 0) ∧ Below w.heap.size w w3 from ⟨hcs, o1, below_t HX.out hb4⟩)
      have hlz : w.heap.size ≤ w3.heap.size := HI0.out.2.2.size
      clear hb3 hb4 hcs o1 hbs
      gi_wp2
      refine rangeFunc_none (n := n) (w := w3) rfl (by omega) (gf := 141) (lb := #[.pointer (some ⟨bs, 0, none⟩)]) rfl trivial (enters_of Try.func141 (by kernel_rfl) rfl)
        (encs := encA) (fun _ => rfl) (R := RN bs) (fun V => RN bs V ∧ V.cell? ⟨X.heap.size, 0, none⟩ = some (.slice none 0 0) ∧ Below w.heap.size w V) (fun A C hg h => ⟨cell_grow hg h.1, cell_grow hg h.2.1, below_grow h.2.2 hg hlz (Nat.le_refl _)⟩) (fun V h => h.1) HI0.out (fun V => all_nil_seq (n - 1) (by omega) bs V) ?done
      case done =>
        rintro D V hD ⟨_, h2, h3⟩ hK
        have hlt := World.block_lt_of_cell? V _ h2
        have HK := hid hK
        have HB := hid h3
        clear hK h3
        gi_wp2
        refine ⟨by simp, .inl ⟨_, _, rfl, run_takeDeferred HK.out, ?_⟩⟩
        have hg := Grow.put (m := w3.heap.size) (.deferred none) hD HK.out rfl
        exact ⟨.slice none 0 0, by simp [results, Try.f46, go_sem], rfl, below_grow HB.out hg hlz (Nat.le_refl _)⟩
    · go_simp
      refine hK.out _ _ ?_ (fun hHeldN => ?_)
      · exact ⟨keepc (bal (Below.refl _ _) _) hHeld.1, bal hHeld.2 _⟩
      clear hK K hHeld
      have hHeld := hHeldN
      clear hHeldN
      (try simp only [Act.put, List.setIfInBounds_toArray, List.set_cons_zero, List.set_cons_succ])
      have hA : (w1.alloc (.cells #[.bool false] 4)).cell? ⟨w1.heap.size, 0, none⟩ = some (.bool false) := by simp [go_sem]
      have hlA := World.block_lt_of_cell? _ _ hA
      have hF : (w1.alloc (.cells #[.bool false] 4)).frozen? ⟨w1.heap.size, 0, none⟩ = false := by simp [go_sem]
      refine wpAnyH_ready (rs := [3]) (by kernel_rfl) (by simp) ?_
      refine AllReadyH.cons (by simp only [List.getElem?_toArray, List.getElem?_cons_succ, List.getElem?_cons_zero]; rfl) (fun K hK => ?_) <| AllReadyH.nil
      go_simp
      go_at_call 79; (with_reducible refine (HSZ.out _ (below_t HB0.out hHeld.2)).mono ?_); rintro e w2 ⟨rfl, hb2⟩
      refine hK.out _ _ ?_ (fun hHeldN => ?_)
      · exact ⟨keepc hb2 hHeld.1, below_t hHeld.2 hb2⟩
      clear hK K hHeld
      have hHeld := hHeldN
      clear hHeldN
      (try simp only [Act.put, List.setIfInBounds_toArray, List.set_cons_zero, List.set_cons_succ])
      have hA2 := keepc hb2 hA
      have hF2 := (hb2.frozen hlA).trans hF
      clear hA hF
      have hl2 := World.block_lt_of_cell? _ _ hA2
      refine takeD (i := 4) (v := ?_) 13 rfl rfl (by kernel_rfl) (by kernel_rfl) (by kernel_rfl) (fun _ _ _ h => h) (by assumption) (Or.inl ⟨by rfl, ?_⟩) ?_
      rotate_left
      · intro w hSw
        (try dsimp only at hSw)
        go_simp
        try with_reducible rfl
      simp only [List.setIfInBounds_toArray, List.set_cons_zero, List.set_cons_succ]
      refine wpAnyH_ready (rs := [6]) (by kernel_rfl) (by simp) ?_
      refine AllReadyH.cons (by simp only [List.getElem?_toArray, List.getElem?_cons_succ, List.getElem?_cons_zero]; rfl) (fun K hK => ?_) AllReadyH.nil
      go_simp
      refine hK.out _ _ ?_ (fun hHeldN => ?_)
      · exact ⟨(World.cell?_setCell_far _ _ _ _ (by simp; omega)).trans hHeld.1, hHeld.2.sc _ _ _ (by omega)⟩
      clear hK K hHeld
      have hHeld := hHeldN
      clear hHeldN
      (try simp only [Act.put, List.setIfInBounds_toArray, List.set_cons_zero, List.set_cons_succ])
      refine wpAnyH_done (by kernel_rfl) ?_ _
      have HE := hid hHeld
      clear hHeld
      dsimp only [OnlyN]
      generalize (w2.setCell ⟨w1.heap.size, 0, none⟩ (.bool false)) = X at HE ⊢
      have HX := hid (show Below w.heap.size w X from HB0.out.trans (HE.out.2.mono HB0.out.size))
      clear HE
      gi_wp2
      refine ⟨trivial, fun _ => (by omega), ?_⟩
      refine (callsIn_wide.2 (all_nil _)).mono ?_
      rintro e w3 ⟨bs, rfl, hbs, hcs, hb3⟩
      have o1 : w3.cell? ⟨X.heap.size, 0, none⟩ = some (.slice none 0 0) := keepc hb3 (by simp [go_sem])
      have hb4 : Below X.heap.size X w3 := blw hb3
      have HI0 := hid (show RN bs w3 ∧ w3.cell? ⟨X.heap.size, 0, none⟩ = some (.slice none 0 0) ∧ Below w.heap.size w w3 from ⟨hcs, o1, below_t HX.out hb4⟩)
      have hlz : w.heap.size ≤ w3.heap.size := HI0.out.2.2.size
      clear hb3 hb4 hcs o1 hbs
      gi_wp2
      refine rangeFunc_none (n := n) (w := w3) rfl (by omega) (gf := 141) (lb := #[.pointer (some ⟨bs, 0, none⟩)]) rfl trivial (enters_of Try.func141 (by kernel_rfl) rfl)
        (encs := encA) (fun _ => rfl) (R := RN bs) (fun V => RN bs V ∧ V.cell? ⟨X.heap.size, 0, none⟩ = some (.slice none 0 0) ∧ Below w.heap.size w V) (fun A C hg h => ⟨cell_grow hg h.1, cell_grow hg h.2.1, below_grow h.2.2 hg hlz (Nat.le_refl _)⟩) (fun V h => h.1) HI0.out (fun V => all_nil_seq (n - 1) (by omega) bs V) ?done
      case done =>
        rintro D V hD ⟨_, h2, h3⟩ hK
        have hlt := World.block_lt_of_cell? V _ h2
        have HK := hid hK
        have HB := hid h3
        clear hK h3
        gi_wp2
        refine ⟨by simp, .inl ⟨_, _, rfl, run_takeDeferred HK.out, ?_⟩⟩
        have hg := Grow.put (m := w3.heap.size) (.deferred none) hD HK.out rfl
        exact ⟨.slice none 0 0, by simp [results, Try.f46, go_sem], rfl, below_grow HB.out hg hlz (Nat.le_refl _)⟩
  · go_simp
    refine hK.out _ _ ?_ (fun hHeldN => ?_)
    · exact ⟨keepc (bal (Below.refl _ _) _) hHeld.1, bal hHeld.2 _⟩
    clear hK K hHeld
    have hHeld := hHeldN
    clear hHeldN
    (try simp only [Act.put, List.setIfInBounds_toArray, List.set_cons_zero, List.set_cons_succ])
    have hA : (w0.drew.alloc (.cells #[.bool false] 4)).cell? ⟨w0.heap.size, 0, none⟩ = some (.bool false) := by simp [go_sem]
    have hlA := World.block_lt_of_cell? _ _ hA
    have hF : (w0.drew.alloc (.cells #[.bool false] 4)).frozen? ⟨w0.heap.size, 0, none⟩ = false := by simp [go_sem]
    refine wpAnyH_ready (rs := [1]) (by kernel_rfl) (by simp) ?_
    refine AllReadyH.cons (by simp only [List.getElem?_toArray, List.getElem?_cons_succ, List.getElem?_cons_zero]; rfl) (fun K hK => ?_) <| AllReadyH.nil
    go_simp
    go_at_call 79; (with_reducible refine (HSN.out _).mono ?_); rintro e w1 ⟨rfl, hb1⟩
    refine hK.out _ _ ?_ (fun hHeldN => ?_)
    · exact ⟨keepc hb1 hHeld.1, below_t hHeld.2 hb1⟩
    clear hK K hHeld
    have hHeld := hHeldN
    clear hHeldN
    (try simp only [Act.put, List.setIfInBounds_toArray, List.set_cons_zero, List.set_cons_succ])
    have hs1 : w0.heap.size ≤ w1.heap.size := hHeld.2.size
    have hA1 := keepc hb1 hA
    have hF1 := (hb1.frozen hlA).trans hF
    have hl1 := World.block_lt_of_cell? _ _ hA1
    clear hA hF
    refine wpAnyH_ready (rs := [3]) (by kernel_rfl) (by simp) ?_
    refine AllReadyH.cons (by simp only [List.getElem?_toArray, List.getElem?_cons_succ, List.getElem?_cons_zero]; rfl) (fun K hK => ?_) <| AllReadyH.nil
    go_simp
    go_at_call 79; (with_reducible refine (HSZ.out _ (below_t HB0.out hHeld.2)).mono ?_); rintro e w2 ⟨rfl, hb2⟩
    refine hK.out _ _ ?_ (fun hHeldN => ?_)
    · exact ⟨keepc hb2 hHeld.1, below_t hHeld.2 hb2⟩
    clear hK K hHeld
    have hHeld := hHeldN
    clear hHeldN
    (try simp only [Act.put, List.setIfInBounds_toArray, List.set_cons_zero, List.set_cons_succ])
    have hA2 := keepc hb2 hA1
    have hF2 := (hb2.frozen hl1).trans hF1
    clear hA1 hF1
    have hl2 := World.block_lt_of_cell? _ _ hA2
    refine takeD (i := 4) (v := ?_) 13 rfl rfl (by kernel_rfl) (by kernel_rfl) (by kernel_rfl) (fun _ _ _ h => h) (by assumption) (Or.inl ⟨by rfl, ?_⟩) ?_
    rotate_left
    · intro w hSw
      (try dsimp only at hSw)
      go_simp
      try with_reducible rfl
    simp only [List.setIfInBounds_toArray, List.set_cons_zero, List.set_cons_succ]
    refine wpAnyH_ready (rs := [6]) (by kernel_rfl) (by simp) ?_
    refine AllReadyH.cons (by simp only [List.getElem?_toArray, List.getElem?_cons_succ, List.getElem?_cons_zero]; rfl) (fun K hK => ?_) AllReadyH.nil
    go_simp
    refine hK.out _ _ ?_ (fun hHeldN => ?_)
    · exact ⟨(World.cell?_setCell_far _ _ _ _ (by simp; omega)).trans hHeld.1, hHeld.2.sc _ _ _ (by omega)⟩
    clear hK K hHeld
    have hHeld := hHeldN
    clear hHeldN
    (try simp only [Act.put, List.setIfInBounds_toArray, List.set_cons_zero, List.set_cons_succ])
    refine wpAnyH_done (by kernel_rfl) ?_ _
    have HE := hid hHeld
    clear hHeld
    dsimp only [OnlyN]
    generalize (w2.setCell ⟨w0.heap.size, 0, none⟩ (.bool false)) = X at HE ⊢
    have HX := hid (show Below w.heap.size w X from HB0.out.trans (HE.out.2.mono HB0.out.size))
    clear HE
    gi_wp2
    refine ⟨trivial, fun _ => (by omega), ?_⟩
    refine (callsIn_wide.2 (all_nil _)).mono ?_
    rintro e w3 ⟨bs, rfl, hbs, hcs, hb3⟩
    have o1 : w3.cell? ⟨X.heap.size, 0, none⟩ = some (.slice none 0 0) := keepc hb3 (by simp [go_sem])
    have hb4 : Below X.heap.size X w3 := blw hb3
    have HI0 := hid (show RN bs w3 ∧ w3.cell? ⟨X.heap.size, 0, none⟩ = some (.slice none 0 0) ∧ Below w.heap.size w w3 from ⟨hcs, o1, below_t HX.out hb4⟩)
    have hlz : w.heap.size ≤ w3.heap.size := HI0.out.2.2.size
    clear hb3 hb4 hcs o1 hbs
    gi_wp2
    refine rangeFunc_none (n := n) (w := w3) rfl (by omega) (gf := 141) (lb := #[.pointer (some ⟨bs, 0, none⟩)]) rfl trivial (enters_of Try.func141 (by kernel_rfl) rfl)
      (encs := encA) (fun _ => rfl) (R := RN bs) (fun V => RN bs V ∧ V.cell? ⟨X.heap.size, 0, none⟩ = some (.slice none 0 0) ∧ Below w.heap.size w V) (fun A C hg h => ⟨cell_grow hg h.1, cell_grow hg h.2.1, below_grow h.2.2 hg hlz (Nat.le_refl _)⟩) (fun V h => h.1) HI0.out (fun V => all_nil_seq (n - 1) (by omega) bs V) ?done
    case done =>
      rintro D V hD ⟨_, h2, h3⟩ hK
      have hlt := World.block_lt_of_cell? V _ h2
      have HK := hid hK
      have HB := hid h3
      clear hK h3
      gi_wp2
      refine ⟨by simp, .inl ⟨_, _, rfl, run_takeDeferred HK.out, ?_⟩⟩
      have hg := Grow.put (m := w3.heap.size) (.deferred none) hD HK.out rfl
      exact ⟨.slice none 0 0, by simp [results, Try.f46, go_sem], rfl, below_grow HB.out hg hlz (Nat.le_refl _)⟩
set_option maxRecDepth 100000 in
set_option maxHeartbeats 4000000 in
theorem diff_nil2 (n : Nat) (hn : 6 ≤ n) (o : Option Addr) (r c : Int) (hr : ¬ (0 : Int) = r) (w : World) (HSO : ∀ W, Below w.heap.size w W → Calls Try.prog 79 #[.pointer o] W fun e w' => e = .returned (sizeV r c) ∧ Below W.heap.size W w') :
    CallsIn Fence.wide n Try.prog 46 #[.pointer none, .pointer o] w fun e w' => e = .returned (.slice none 0 0) ∧ Below w.heap.size w w' := by
  have HSZ := hid HSO
  have HSN := hid (fun W => size_nil W)
  clear HSO
  refine callsIn_of_wp_marks Try.func46 rfl trivial ?_ rfl
  simp only [Try.ntmps46, List.size_toArray, List.length_cons, List.length_nil, Nat.reduceAdd, Nat.reduceSub, Array.replicate_succ, Array.replicate_zero, List.push_toArray, List.append_toArray, List.nil_append, List.cons_append]
  gi_wp2
  obtain ⟨w0, hw0⟩ : ∃ w0, w.alloc (.cells #[.pointer o] 25) = w0 := ⟨_, rfl⟩
  have hz : w0.heap.size = w.heap.size + 1 := by rw [← hw0]; simp
  have hb0 : Below w.heap.size w w0 := by rw [← hw0]; exact bal (Below.refl _ _) _
  have hc0 : w0.cell? ⟨w.heap.size, 0, none⟩ = some (.pointer o) := by rw [← hw0]; simp [go_sem]
  rw [hw0]
  have HC := hid hc0
  have HB0 := hid hb0
  have HZ := hid hz
  have hl0 : w.heap.size < w0.heap.size := World.block_lt_of_cell? w0 _ hc0
  clear hz hb0 hw0 hc0
  refine wpIn_of_wpN ?_
  refine wp_region_held_drew (S := fun V => V.cell? ⟨w.heap.size, 0, none⟩ = some (.pointer o) ∧ Below w0.heap.size w0 V) (by kernel_rfl) ?_ (fun hHeld => ?_)
  · have hdr : Below w0.heap.size w0 w0.drew := (Below.refl _ _).drew
    exact ⟨keepc hdr HC.out, hdr⟩
  refine takeD (i := 0) (v := ?_) 9 rfl rfl (by kernel_rfl) (by kernel_rfl) (by kernel_rfl) (fun _ _ _ h => h) (by assumption) (Or.inl ⟨by rfl, ?_⟩) ?_
  rotate_left
  · intro w hSw
    (try dsimp only at hSw)
    go_simp
    try with_reducible rfl
  simp only [List.setIfInBounds_toArray, List.set_cons_zero, List.set_cons_succ]
  refine takeD (i := 2) (v := ?_) 11 rfl rfl (by kernel_rfl) (by kernel_rfl) (by kernel_rfl) (fun _ _ _ h => h) (by assumption) (Or.inl ⟨by rfl, ?_⟩) ?_
  rotate_left
  · intro w hSw
    (try dsimp only at hSw)
    go_simp
    try with_reducible rfl
  simp only [List.setIfInBounds_toArray, List.set_cons_zero, List.set_cons_succ]
  refine wpAnyH_ready (rs := [1, 5]) (by kernel_rfl) (by simp) ?_
  refine AllReadyH.cons (by simp only [List.getElem?_toArray, List.getElem?_cons_succ, List.getElem?_cons_zero]; rfl) (fun K hK => ?_) <| AllReadyH.cons (by simp only [List.getElem?_toArray, List.getElem?_cons_succ, List.getElem?_cons_zero]; rfl) (fun K hK => ?_) <| AllReadyH.nil
  · go_simp
    go_at_call 79; (with_reducible refine (HSN.out _).mono ?_); rintro e w1 ⟨rfl, hb1⟩
    refine hK.out _ _ ?_ (fun hHeldN => ?_)
    · exact ⟨keepc hb1 hHeld.1, below_t hHeld.2 hb1⟩
    clear hK K hHeld
    have hHeld := hHeldN
    clear hHeldN
    (try simp only [Act.put, List.setIfInBounds_toArray, List.set_cons_zero, List.set_cons_succ])
    have hs1 : w0.heap.size ≤ w1.heap.size := hHeld.2.size
    refine wpAnyH_ready (rs := [3, 5]) (by kernel_rfl) (by simp) ?_
    refine AllReadyH.cons (by simp only [List.getElem?_toArray, List.getElem?_cons_succ, List.getElem?_cons_zero]; rfl) (fun K hK => ?_) <| AllReadyH.cons (by simp only [List.getElem?_toArray, List.getElem?_cons_succ, List.getElem?_cons_zero]; rfl) (fun K hK => ?_) <| AllReadyH.nil
    · go_simp
      go_at_call 79; (with_reducible refine (HSZ.out _ (below_t HB0.out hHeld.2)).mono ?_); rintro e w2 ⟨rfl, hb2⟩
      refine hK.out _ _ ?_ (fun hHeldN => ?_)
      · exact ⟨keepc hb2 hHeld.1, below_t hHeld.2 hb2⟩
      clear hK K hHeld
      have hHeld := hHeldN
      clear hHeldN
      (try simp only [Act.put, List.setIfInBounds_toArray, List.set_cons_zero, List.set_cons_succ])
      refine takeD (i := 4) (v := ?_) 13 rfl rfl (by kernel_rfl) (by kernel_rfl) (by kernel_rfl) (fun _ _ _ h => h) (by assumption) (Or.inl ⟨by rfl, ?_⟩) ?_
      rotate_left
      · intro w hSw
        (try dsimp only at hSw)
        go_simp
        try with_reducible rfl
      simp only [List.setIfInBounds_toArray, List.set_cons_zero, List.set_cons_succ]
      refine wpAnyH_ready (rs := [5]) (by kernel_rfl) (by simp) ?_
      refine AllReadyH.cons (by simp only [List.getElem?_toArray, List.getElem?_cons_succ, List.getElem?_cons_zero]; rfl) (fun K hK => ?_) <| AllReadyH.nil
      have hH0 := hHeld
      go_simp
      refine hK.out _ _ ?_ (fun hHeldN => ?_)
      · exact ⟨keepc (bal (Below.refl _ _) _) hHeld.1, bal hHeld.2 _⟩
      clear hK K hHeld
      have hHeld := hHeldN
      clear hHeldN
      (try simp only [Act.put, List.setIfInBounds_toArray, List.set_cons_zero, List.set_cons_succ])
      have hA : (w2.alloc (.cells #[.bool false] 4)).cell? ⟨w2.heap.size, 0, none⟩ = some (.bool false) := by simp [go_sem]
      have hlA := World.block_lt_of_cell? _ _ hA
      have hF : (w2.alloc (.cells #[.bool false] 4)).frozen? ⟨w2.heap.size, 0, none⟩ = false := by simp [go_sem]
      refine wpAnyH_ready (rs := [6]) (by kernel_rfl) (by simp) ?_
      refine AllReadyH.cons (by simp only [List.getElem?_toArray, List.getElem?_cons_succ, List.getElem?_cons_zero]; rfl) (fun K hK => ?_) AllReadyH.nil
      go_simp
      refine hK.out _ _ ?_ (fun hHeldN => ?_)
      · exact ⟨keepc (bal (Below.refl _ _) _) hH0.1, bal hH0.2 _⟩
      clear hK K hHeld
      have hHeld := hHeldN
      clear hHeldN
      (try simp only [Act.put, List.setIfInBounds_toArray, List.set_cons_zero, List.set_cons_succ])
      refine wpAnyH_done (by kernel_rfl) ?_ _
      have HE := hid hHeld
      clear hHeld
      dsimp only [OnlyN]
      generalize (w2.alloc (.cells #[.bool true] 4)) = X at HE ⊢
      have HX := hid (show Below w.heap.size w X from HB0.out.trans (HE.out.2.mono HB0.out.size))
      clear HE
      gi_wp2
      refine ⟨trivial, fun _ => (by omega), ?_⟩
      refine (callsIn_wide.2 (all_nil _)).mono ?_
      rintro e w3 ⟨bs, rfl, hbs, hcs, hb3⟩
      have o1 : w3.cell? ⟨X.heap.size, 0, none⟩ = some (.slice none 0 0) := keepc hb3 (by simp [go_sem])
      have hb4 : Below X.heap.size X w3 := blw hb3
      have HI0 := hid (show RN bs w3 ∧ w3.cell? ⟨X.heap.size, 0, none⟩ = some (.slice none 0 0) ∧ Below w.heap.size w w3 from ⟨hcs, o1, below_t HX.out hb4⟩)
      have hlz : w.heap.size ≤ w3.heap.size := HI0.out.2.2.size
      clear hb3 hb4 hcs o1 hbs
      gi_wp2
      refine rangeFunc_none (n := n) (w := w3) rfl (by omega) (gf := 141) (lb := #[.pointer (some ⟨bs, 0, none⟩)]) rfl trivial (enters_of Try.func141 (by kernel_rfl) rfl)
        (encs := encA) (fun _ => rfl) (R := RN bs) (fun V => RN bs V ∧ V.cell? ⟨X.heap.size, 0, none⟩ = some (.slice none 0 0) ∧ Below w.heap.size w V) (fun A C hg h => ⟨cell_grow hg h.1, cell_grow hg h.2.1, below_grow h.2.2 hg hlz (Nat.le_refl _)⟩) (fun V h => h.1) HI0.out (fun V => all_nil_seq (n - 1) (by omega) bs V) ?done
      case done =>
        rintro D V hD ⟨_, h2, h3⟩ hK
        have hlt := World.block_lt_of_cell? V _ h2
        have HK := hid hK
        have HB := hid h3
        clear hK h3
        gi_wp2
        refine ⟨by simp, .inl ⟨_, _, rfl, run_takeDeferred HK.out, ?_⟩⟩
        have hg := Grow.put (m := w3.heap.size) (.deferred none) hD HK.out rfl
        exact ⟨.slice none 0 0, by simp [results, Try.f46, go_sem], rfl, below_grow HB.out hg hlz (Nat.le_refl _)⟩
    · go_simp
      refine hK.out _ _ ?_ (fun hHeldN => ?_)
      · exact ⟨keepc (bal (Below.refl _ _) _) hHeld.1, bal hHeld.2 _⟩
      clear hK K hHeld
      have hHeld := hHeldN
      clear hHeldN
      (try simp only [Act.put, List.setIfInBounds_toArray, List.set_cons_zero, List.set_cons_succ])
      have hA : (w1.alloc (.cells #[.bool false] 4)).cell? ⟨w1.heap.size, 0, none⟩ = some (.bool false) := by simp [go_sem]
      have hlA := World.block_lt_of_cell? _ _ hA
      have hF : (w1.alloc (.cells #[.bool false] 4)).frozen? ⟨w1.heap.size, 0, none⟩ = false := by simp [go_sem]
      refine wpAnyH_ready (rs := [3]) (by kernel_rfl) (by simp) ?_
      refine AllReadyH.cons (by simp only [List.getElem?_toArray, List.getElem?_cons_succ, List.getElem?_cons_zero]; rfl) (fun K hK => ?_) <| AllReadyH.nil
      go_simp
      go_at_call 79; (with_reducible refine (HSZ.out _ (below_t HB0.out hHeld.2)).mono ?_); rintro e w2 ⟨rfl, hb2⟩
      refine hK.out _ _ ?_ (fun hHeldN => ?_)
      · exact ⟨keepc hb2 hHeld.1, below_t hHeld.2 hb2⟩
      clear hK K hHeld
      have hHeld := hHeldN
      clear hHeldN
      (try simp only [Act.put, List.setIfInBounds_toArray, List.set_cons_zero, List.set_cons_succ])
      have hA2 := keepc hb2 hA
      have hF2 := (hb2.frozen hlA).trans hF
      clear hA hF
      have hl2 := World.block_lt_of_cell? _ _ hA2
      refine takeD (i := 4) (v := ?_) 13 rfl rfl (by kernel_rfl) (by kernel_rfl) (by kernel_rfl) (fun _ _ _ h => h) (by assumption) (Or.inl ⟨by rfl, ?_⟩) ?_
      rotate_left
      · intro w hSw
        (try dsimp only at hSw)
        go_simp
        try with_reducible rfl
      simp only [List.setIfInBounds_toArray, List.set_cons_zero, List.set_cons_succ]
      refine wpAnyH_ready (rs := [6]) (by kernel_rfl) (by simp) ?_
      refine AllReadyH.cons (by simp only [List.getElem?_toArray, List.getElem?_cons_succ, List.getElem?_cons_zero]; rfl) (fun K hK => ?_) AllReadyH.nil
      go_simp
      refine hK.out _ _ ?_ (fun hHeldN => ?_)
      · exact ⟨(World.cell?_setCell_far _ _ _ _ (by simp; omega)).trans hHeld.1, hHeld.2.sc _ _ _ (by omega)⟩
      clear hK K hHeld
      have hHeld := hHeldN
      clear hHeldN
      (try simp only [Act.put, List.setIfInBounds_toArray, List.set_cons_zero, List.set_cons_succ])
      refine wpAnyH_done (by kernel_rfl) ?_ _
      have HE := hid hHeld
      clear hHeld
      dsimp only [OnlyN]
      generalize (w2.setCell ⟨w1.heap.size, 0, none⟩ (.bool true)) = X at HE ⊢
      have HX := hid (show Below w.heap.size w X from HB0.out.trans (HE.out.2.mono HB0.out.size))
      clear HE
      gi_wp2
      refine ⟨trivial, fun _ => (by omega), ?_⟩
      refine (callsIn_wide.2 (all_nil _)).mono ?_
      rintro e w3 ⟨bs, rfl, hbs, hcs, hb3⟩
      have o1 : w3.cell? ⟨X.heap.size, 0, none⟩ = some (.slice none 0 0) := keepc hb3 (by simp [go_sem])
      have hb4 : Below X.heap.size X w3 := blw hb3
      have HI0 := hid (show RN bs w3 ∧ w3.cell? ⟨X.heap.size, 0, none⟩ = some (.slice none 0 0) ∧ Below w.heap.size w w3 from ⟨hcs, o1, below_t HX.out hb4⟩)
      have hlz : w.heap.size ≤ w3.heap.size := HI0.out.2.2.size
      clear hb3 hb4 hcs o1 hbs
      gi_wp2
      refine rangeFunc_none (n := n) (w := w3) rfl (by omega) (gf := 141) (lb := #[.pointer (some ⟨bs, 0, none⟩)]) rfl trivial (enters_of Try.func141 (by kernel_rfl) rfl)
        (encs := encA) (fun _ => rfl) (R := RN bs) (fun V => RN bs V ∧ V.cell? ⟨X.heap.size, 0, none⟩ = some (.slice none 0 0) ∧ Below w.heap.size w V) (fun A C hg h => ⟨cell_grow hg h.1, cell_grow hg h.2.1, below_grow h.2.2 hg hlz (Nat.le_refl _)⟩) (fun V h => h.1) HI0.out (fun V => all_nil_seq (n - 1) (by omega) bs V) ?done
      case done =>
        rintro D V hD ⟨_, h2, h3⟩ hK
        have hlt := World.block_lt_of_cell? V _ h2
        have HK := hid hK
        have HB := hid h3
        clear hK h3
        gi_wp2
        refine ⟨by simp, .inl ⟨_, _, rfl, run_takeDeferred HK.out, ?_⟩⟩
        have hg := Grow.put (m := w3.heap.size) (.deferred none) hD HK.out rfl
        exact ⟨.slice none 0 0, by simp [results, Try.f46, go_sem], rfl, below_grow HB.out hg hlz (Nat.le_refl _)⟩
  · go_simp
    refine hK.out _ _ ?_ (fun hHeldN => ?_)
    · exact ⟨keepc (bal (Below.refl _ _) _) hHeld.1, bal hHeld.2 _⟩
    clear hK K hHeld
    have hHeld := hHeldN
    clear hHeldN
    (try simp only [Act.put, List.setIfInBounds_toArray, List.set_cons_zero, List.set_cons_succ])
    have hA : (w0.drew.alloc (.cells #[.bool false] 4)).cell? ⟨w0.heap.size, 0, none⟩ = some (.bool false) := by simp [go_sem]
    have hlA := World.block_lt_of_cell? _ _ hA
    have hF : (w0.drew.alloc (.cells #[.bool false] 4)).frozen? ⟨w0.heap.size, 0, none⟩ = false := by simp [go_sem]
    refine wpAnyH_ready (rs := [1]) (by kernel_rfl) (by simp) ?_
    refine AllReadyH.cons (by simp only [List.getElem?_toArray, List.getElem?_cons_succ, List.getElem?_cons_zero]; rfl) (fun K hK => ?_) <| AllReadyH.nil
    go_simp
    go_at_call 79; (with_reducible refine (HSN.out _).mono ?_); rintro e w1 ⟨rfl, hb1⟩
    refine hK.out _ _ ?_ (fun hHeldN => ?_)
    · exact ⟨keepc hb1 hHeld.1, below_t hHeld.2 hb1⟩
    clear hK K hHeld
    have hHeld := hHeldN
    clear hHeldN
    (try simp only [Act.put, List.setIfInBounds_toArray, List.set_cons_zero, List.set_cons_succ])
    have hs1 : w0.heap.size ≤ w1.heap.size := hHeld.2.size
    have hA1 := keepc hb1 hA
    have hF1 := (hb1.frozen hlA).trans hF
    have hl1 := World.block_lt_of_cell? _ _ hA1
    clear hA hF
    refine wpAnyH_ready (rs := [3]) (by kernel_rfl) (by simp) ?_
    refine AllReadyH.cons (by simp only [List.getElem?_toArray, List.getElem?_cons_succ, List.getElem?_cons_zero]; rfl) (fun K hK => ?_) <| AllReadyH.nil
    go_simp
    go_at_call 79; (with_reducible refine (HSZ.out _ (below_t HB0.out hHeld.2)).mono ?_); rintro e w2 ⟨rfl, hb2⟩
    refine hK.out _ _ ?_ (fun hHeldN => ?_)
    · exact ⟨keepc hb2 hHeld.1, below_t hHeld.2 hb2⟩
    clear hK K hHeld
    have hHeld := hHeldN
    clear hHeldN
    (try simp only [Act.put, List.setIfInBounds_toArray, List.set_cons_zero, List.set_cons_succ])
    have hA2 := keepc hb2 hA1
    have hF2 := (hb2.frozen hl1).trans hF1
    clear hA1 hF1
    have hl2 := World.block_lt_of_cell? _ _ hA2
    refine takeD (i := 4) (v := ?_) 13 rfl rfl (by kernel_rfl) (by kernel_rfl) (by kernel_rfl) (fun _ _ _ h => h) (by assumption) (Or.inl ⟨by rfl, ?_⟩) ?_
    rotate_left
    · intro w hSw
      (try dsimp only at hSw)
      go_simp
      try with_reducible rfl
    simp only [List.setIfInBounds_toArray, List.set_cons_zero, List.set_cons_succ]
    refine wpAnyH_ready (rs := [6]) (by kernel_rfl) (by simp) ?_
    refine AllReadyH.cons (by simp only [List.getElem?_toArray, List.getElem?_cons_succ, List.getElem?_cons_zero]; rfl) (fun K hK => ?_) AllReadyH.nil
    go_simp
    refine hK.out _ _ ?_ (fun hHeldN => ?_)
    · exact ⟨(World.cell?_setCell_far _ _ _ _ (by simp; omega)).trans hHeld.1, hHeld.2.sc _ _ _ (by omega)⟩
    clear hK K hHeld
    have hHeld := hHeldN
    clear hHeldN
    (try simp only [Act.put, List.setIfInBounds_toArray, List.set_cons_zero, List.set_cons_succ])
    refine wpAnyH_done (by kernel_rfl) ?_ _
    have HE := hid hHeld
    clear hHeld
    dsimp only [OnlyN]
    generalize (w2.setCell ⟨w0.heap.size, 0, none⟩ (.bool true)) = X at HE ⊢
    have HX := hid (show Below w.heap.size w X from HB0.out.trans (HE.out.2.mono HB0.out.size))
    clear HE
    gi_wp2
    refine ⟨trivial, fun _ => (by omega), ?_⟩
    refine (callsIn_wide.2 (all_nil _)).mono ?_
    rintro e w3 ⟨bs, rfl, hbs, hcs, hb3⟩
    have o1 : w3.cell? ⟨X.heap.size, 0, none⟩ = some (.slice none 0 0) := keepc hb3 (by simp [go_sem])
    have hb4 : Below X.heap.size X w3 := blw hb3
    have HI0 := hid (show RN bs w3 ∧ w3.cell? ⟨X.heap.size, 0, none⟩ = some (.slice none 0 0) ∧ Below w.heap.size w w3 from ⟨hcs, o1, below_t HX.out hb4⟩)
    have hlz : w.heap.size ≤ w3.heap.size := HI0.out.2.2.size
    clear hb3 hb4 hcs o1 hbs
    gi_wp2
    refine rangeFunc_none (n := n) (w := w3) rfl (by omega) (gf := 141) (lb := #[.pointer (some ⟨bs, 0, none⟩)]) rfl trivial (enters_of Try.func141 (by kernel_rfl) rfl)
      (encs := encA) (fun _ => rfl) (R := RN bs) (fun V => RN bs V ∧ V.cell? ⟨X.heap.size, 0, none⟩ = some (.slice none 0 0) ∧ Below w.heap.size w V) (fun A C hg h => ⟨cell_grow hg h.1, cell_grow hg h.2.1, below_grow h.2.2 hg hlz (Nat.le_refl _)⟩) (fun V h => h.1) HI0.out (fun V => all_nil_seq (n - 1) (by omega) bs V) ?done
    case done =>
      rintro D V hD ⟨_, h2, h3⟩ hK
      have hlt := World.block_lt_of_cell? V _ h2
      have HK := hid hK
      have HB := hid h3
      clear hK h3
      gi_wp2
      refine ⟨by simp, .inl ⟨_, _, rfl, run_takeDeferred HK.out, ?_⟩⟩
      have hg := Grow.put (m := w3.heap.size) (.deferred none) hD HK.out rfl
      exact ⟨.slice none 0 0, by simp [results, Try.f46, go_sem], rfl, below_grow HB.out hg hlz (Nat.le_refl _)⟩
end Go.Proofs.Ytpehhinpohmpiaa
namespace Go.Proofs.Ytpehhinpohmpiaa
open Go.RowKit Go.Lib Go.Deep

/-- A part of a list of cells, at its head. -/
theorem take_at {g : Nat} {L : List Cel} {w : World} (h : CellsM w g L) (KS : Nat) : ∀ i, i < (L.take KS).length → ∀ j, j < 6 → w.cell? ⟨g, i * 6 + j, none⟩ = ((L.take KS).getD i cel0).cs[j]? := fun i hi j hj => by
  have h1 : i < L.length := by rw [List.length_take] at hi; omega
  have h2 : i < KS := by rw [List.length_take] at hi; omega
  rw [h.at_ i h1 j hj]
  congr 2
  simp [List.getD, h2]
/-- Ints that are the same, at the head of a list. -/
theorem equalI_pre (u : Value) (ga c : Nat) (xs ys : List Int) (w : World) (hu : w.ownsRow 0 3 1 u xs.length (intsV xs)) (hy : ∀ i, i < ys.length → w.cell? ⟨ga, 0 + i, none⟩ = some (.int .i64 (ys.getD i 0))) (hp : ∀ i, i < xs.length → xs.getD i 0 = ys.getD i 0) (hl : xs.length ≤ ys.length) (hm : ys.length ≤ 1000000) : Calls Try.prog 24 #[u, .slice (some ⟨ga, 0, none⟩) xs.length c] w fun e w' => e = .returned (.bool true) ∧ Below w.heap.size w w' := by
  rcases ints_cells hu with ⟨x, d, rfl, rfl⟩ | ⟨g, d, rfl, hc⟩
  · exact equalI_nil x _ d c w
  · exact equalI_row g 0 ga 0 xs.length d c xs rfl (by omega) w hc (fun i hi => by rw [hy i (by omega), hp i hi])
end Go.Proofs.Ytpehhinpohmpiaa
