/-
  The law's example; a space that is the document's.
-/
import Derived.Test.YtdaainifnbbhiaaYo
namespace Go.Proofs.Ytdaainifnbbhiaa
open Go.RowKit Go.Lib Go.Deep

theorem fld0 (x y : Int) (w : World) : (Instr.field 52 (.agg #[.int .i64 x, .int .i64 y]) 0).run Try.prog w = .ok (.int .i64 x) w := by kernel_rfl
theorem fld1 (x y : Int) (w : World) : (Instr.field 52 (.agg #[.int .i64 x, .int .i64 y]) 1).run Try.prog w = .ok (.int .i64 y) w := by kernel_rfl
set_option maxRecDepth 100000 in
set_option maxHeartbeats 4000000 in
theorem awake12 (w : World) : Calls Try.prog 11 #[] w fun e w' => e = .returned (.bool true) ∧ Below w.heap.size w w' := by
  have HN := hid (fun W => new_yes 5 (by decide) (by decide) W)
  have HS := hid (fun (b g : Nat) (s : Spc) W h => size_any (b := b) (g := g) (s := s) W h)
  have HC := hid (fun (b g : Nat) W h => clear_any (b := b) (g := g) (s := clearS 5 false) true W h)
  have hf0 := fld0
  have hf1 := fld1
  go_enter Try.func11, Try.ntmps11
  go_wp2_with fail
  with_reducible refine (HN.out _).mono ?_
  rintro e w1 ⟨b, g, rfl, hb, hg, hs, h1⟩
  have HH := hid hs
  have HB := hid h1
  clear hs h1
  go_wp2_with fail
  with_reducible refine (HS.out b g _ _ HH.out).mono ?_
  rintro e w2 ⟨rfl, h2⟩
  have HB2 := hid (below_t HB.out h2)
  have HH2 := hid (HH.out.below h2)
  clear h2 HH
  rw [show sizeV (clearS 5 false).r (clearS 5 false).c = .agg #[.int .i64 24, .int .i64 80] from rfl]
  go_wp2_with fail
  with_reducible refine (HS.out b g _ _ HH2.out).mono ?_
  rintro e w3 ⟨rfl, h3⟩
  have HB3 := hid (below_t HB2.out h3)
  have HH3 := hid (HH2.out.below h3)
  clear h3 HH2
  rw [show sizeV (clearS 5 false).r (clearS 5 false).c = .agg #[.int .i64 24, .int .i64 80] from rfl]
  go_wp2_with fail
  with_reducible refine (HC.out b g _ HH3.out).mono ?_
  rintro e w4 ⟨⟨v, rfl⟩, g', hg', hs, hm⟩
  have HH4 := hid hs
  have HB4 := hid (HB3.out.trans (hm.toBelow (B := w.heap.size) HB3.out.size (fun k hk => by simp at hk; omega)))
  clear hs hm HH3
  go_wp2_with fail
  with_reducible refine (HS.out b g' (clearS 5 true) _ HH4.out).mono ?_
  rintro e w5 ⟨rfl, h5⟩
  have HB5 := hid (below_t HB4.out h5)
  have HH5 := hid (HH4.out.below h5)
  clear h5 HH4
  rw [show sizeV (clearS 5 true).r (clearS 5 true).c = .agg #[.int .i64 27, .int .i64 132] from rfl]
  go_wp2_with fail
  with_reducible refine (HS.out b g' (clearS 5 true) _ HH5.out).mono ?_
  rintro e w6 ⟨rfl, h6⟩
  have HB6 := hid (below_t HB5.out h6)
  clear h6 HH5
  rw [show sizeV (clearS 5 true).r (clearS 5 true).c = .agg #[.int .i64 27, .int .i64 132] from rfl]
  go_wp2
  go_ret
  exact ⟨rfl, HB6.out⟩
theorem cellsV_at : ∀ (L : List Cel) (i j : Nat), i < L.length → j < 6 → (cellsV L)[i * 6 + j]? = (L.getD i cel0).cs[j]?
  | [], i, _, hi, _ => absurd hi (Nat.not_lt_zero i)
  | c :: L, 0, j, _, hj => by
    show (c.cs ++ cellsV L)[0 * 6 + j]? = _
    rw [Nat.zero_mul, Nat.zero_add, List.getElem?_append_left (by simpa [Cel.cs] using hj)]
    rfl
  | c :: L, i + 1, j, hi, hj => by
    show (c.cs ++ cellsV L)[(i + 1) * 6 + j]? = _
    have e : c.cs.length = 6 := rfl
    rw [List.getElem?_append_right (by omega), show (i + 1) * 6 + j - c.cs.length = i * 6 + j by omega, cellsV_at L i j (by simpa using hi) hj]
    rfl
theorem own_below {A B : World} {t : TypeId} {sz n : Nat} {v : Value} {cs : List Value} (h : A.ownsRow 0 t sz v n cs) (hb : Below A.heap.size A B) : B.ownsRow 0 t sz v n cs := own_grow h (Grow.below hb 0)
/-- Of a list of cells, made: what lies there. -/
theorem cells_row {w : World} {v : Value} {L : List Cel} (h : w.ownsRow 0 31 6 v L.length (cellsV L)) (hl : 0 < L.length) : ∃ g c, v = .slice (some ⟨g, 0, none⟩) L.length c ∧ ∀ i, i < L.length → ∀ j, j < 6 → w.cell? ⟨g, i * 6 + j, none⟩ = (L.getD i cel0).cs[j]? := by
  rcases h.2 with ⟨rfl, e⟩ | ⟨g, cap, cur, rfl, hb, hh, h1, h2, h3, h4⟩
  · omega
  · refine ⟨g, cap, rfl, fun i hi j hj => ?_⟩
    rw [World.ownsRow.cellAt h (i * 6 + j) (by omega), cellsV_at L i j hi hj]
/-- slices.Collect over the attributes. -/
theorem collectA (b g : Nat) (s : Spc) (bx : Nat) (w : World) (h : SpM w b g s) (hb : w.cell? ⟨bx, 0, none⟩ = some (.pointer (some ⟨b, 0, none⟩))) : Calls Try.prog 48 #[.func (.func 93) #[] #[.pointer (some ⟨bx, 0, none⟩)]] w (ListD 3 1 (s.iA s.A.length) s.A.length w) := by
  have hN := h.ok.pos.2
  have hA : s.A.length ≤ 3564 := Nat.le_trans (attP_len _ _) hN
  have e1 : s.iA s.A.length = intsV (s.A.map Int.ofNat) := by unfold Spc.iA; rw [List.take_length]
  have e2 : (s.A.map Int.ofNat).length = s.A.length := by simp
  have q := collect_any 93 #[.pointer (some ⟨bx, 0, none⟩)] s.A (by omega) (RP bx b s.L.length s.P) (enters_of Try.func93 (by kernel_rfl) rfl)
    (fun V => attrs_seq 7 (by omega) bx b s.L.length s.P hN V) w (fun V hV => ⟨keepc hV hb, (h.below hV).spP⟩)
  unfold IntsD at q
  rw [e2, ← e1] at q
  exact q
theorem equalA (s : Spc) (hA : s.A.length ≤ 3564) (u v : Value) (w : World) (hu : w.ownsRow 0 3 1 u s.A.length (s.iA s.A.length)) (hv : w.ownsRow 0 3 1 v s.A.length (s.iA s.A.length)) : Calls Try.prog 33 #[u, v] w fun e w' => e = .returned (.bool true) ∧ Below w.heap.size w w' := by
  have e1 : s.iA s.A.length = intsV (s.A.map Int.ofNat) := by unfold Spc.iA; rw [List.take_length]
  have e2 : (s.A.map Int.ofNat).length = s.A.length := by simp
  exact equalI_any u v (s.A.map Int.ofNat) w (by rw [e2, ← e1]; exact hu) (by rw [e2, ← e1]; exact hv) (by omega)
set_option maxRecDepth 100000 in
set_option maxHeartbeats 4000000 in
/-- A space is the document's. -/
theorem same12 (b1 g1 b2 g2 : Nat) (s : Spc) (w : World) (h : SpM w b1 g1 s) (hr : RfM w b2 g2 s) : Calls Try.prog 18 #[.pointer (some ⟨b1, 0, none⟩), .pointer (some ⟨b2, 0, none⟩)] w fun e w' => e = .returned (.bool true) ∧ Below w.heap.size w w' := by
  have HH := hid h
  have HR := hid hr
  have hN := h.ok.pos
  have hA : s.A.length ≤ 3564 := Nat.le_trans (attP_len _ _) hN.2
  have HMO := hid (fun W h => smodel_any (b := b1) (g := g1) (s := s) W h)
  have HAL := hid (fun W h => alternate_any (b := b1) (g := g1) (s := s) W h)
  have HSZ := hid (fun W h => size_any (b := b1) (g := g1) (s := s) W h)
  have HCU := hid (fun W h => cursor_any (b := b1) (g := g1) (s := s) W h)
  have HFO := hid (fun W (h : SpM W b1 g1 s) => callsIn_wide.1 (formatted_in 8 (by omega) b1 g1 s W h))
  have HRA := hid (fun W (h : RfM W b2 g2 s) => rattrs_any b2 g2 s W h)
  have HCE := hid (fun W (h : SpM W b1 g1 s) => (show Calls Try.prog 23 #[.pointer (some ⟨b1, 0, none⟩), .int .i64 100000] W _ from callsIn_wide.1 (cells_in 8 (by omega) b1 g1 100000 s (by omega) W h)))
  have e1 : min 100000 s.L.length = s.L.length := Nat.min_eq_right (by omega)
  have e2 : s.cA 100000 = cellsV s.L := by rw [cA_full (by omega)]; unfold Spc.cA; rw [List.take_length]
  rw [e1, e2] at HCE
  have HAT := hid (fun W => attrsIt_any b1 W)
  have HCO := hid (fun bx W (h : SpM W b1 g1 s) hb => collectA b1 g1 s bx W h hb)
  have HEC := hid (fun g c W => equalC_row g g2 s.L.length c s.L.length s.L rfl (by omega) W)
  have HEI := hid (fun u v W hu hv => equalA s hA u v W hu hv)
  have hd := hr.hd
  obtain ⟨c0, c1, c2, c3, c4, c5, _⟩ := hd
  have HC0 := hid (show w.cell? ⟨b2, 0, none⟩ = some (.int .i64 s.mo) ∧ w.cell? ⟨b2, 1, none⟩ = some (.bool s.alt) ∧ w.cell? ⟨b2, 2, none⟩ = some (.int .i64 s.r) ∧ w.cell? ⟨b2, 3, none⟩ = some (.int .i64 s.c) ∧ w.cell? ⟨b2, 4, none⟩ = some (.slice (some ⟨g2, 0, none⟩) s.L.length s.L.length) ∧ w.cell? ⟨b2, 5, none⟩ = some (.int .i64 s.cu) ∧ Below w.heap.size w w from ⟨c0, c1, c2, c3, c4, c5, Below.refl _ _⟩)
  have HRW := hid (fun W (hb : Below w.heap.size w W) => (hr.below hb).row.at_)
  clear h hr c0 c1 c2 c3 c4 c5 e1 e2 hA
  go_enter Try.func18, Try.ntmps18
  go_wp2_with fail
  refine wp_region_held_drew (S := fun V => V.cell? ⟨b2, 0, none⟩ = some (.int .i64 s.mo) ∧ V.cell? ⟨b2, 1, none⟩ = some (.bool s.alt) ∧ V.cell? ⟨b2, 2, none⟩ = some (.int .i64 s.r) ∧ V.cell? ⟨b2, 3, none⟩ = some (.int .i64 s.c) ∧ V.cell? ⟨b2, 4, none⟩ = some (.slice (some ⟨g2, 0, none⟩) s.L.length s.L.length) ∧ V.cell? ⟨b2, 5, none⟩ = some (.int .i64 s.cu) ∧ Below w.heap.size w V) (by kernel_rfl) ?_ (fun hHeld => ?_)
  · have hdr : Below w.heap.size w w.drew := (Below.refl _ _).drew
    exact ⟨keepc hdr HC0.out.1, keepc hdr HC0.out.2.1, keepc hdr HC0.out.2.2.1, keepc hdr HC0.out.2.2.2.1, keepc hdr HC0.out.2.2.2.2.1, keepc hdr HC0.out.2.2.2.2.2.1, below_t HC0.out.2.2.2.2.2.2 hdr⟩
  refine takeD (i := 0) (v := ?_) 5 rfl rfl (by kernel_rfl) (by kernel_rfl) (by kernel_rfl) (fun _ _ _ h => h) (by assumption) (Or.inl ⟨by rfl, ?_⟩) ?_
  rotate_left
  · intro w hSw
    (try dsimp only at hSw)
    go_simp
    try with_reducible rfl
  simp only [List.setIfInBounds_toArray, List.set_cons_zero, List.set_cons_succ]
  refine takeD (i := 2) (v := ?_) 7 rfl rfl (by kernel_rfl) (by kernel_rfl) (by kernel_rfl) (fun _ _ _ h => h) (by assumption) (Or.inl ⟨by rfl, ?_⟩) ?_
  rotate_left
  · intro w hSw
    (try dsimp only at hSw)
    go_simp
    try with_reducible rfl
  simp only [List.setIfInBounds_toArray, List.set_cons_zero, List.set_cons_succ]
  refine takeD (i := 3) (v := ?_) 8 rfl rfl (by kernel_rfl) (by kernel_rfl) (by kernel_rfl) (fun _ _ _ h => h) (by assumption) (Or.inl ⟨by rfl, ?_⟩) ?_
  rotate_left
  · intro w hSw
    (try dsimp only at hSw)
    go_simp
    try with_reducible rfl
  simp only [List.setIfInBounds_toArray, List.set_cons_zero, List.set_cons_succ]
  refine takeD (i := 4) (v := ?_) 9 rfl rfl (by kernel_rfl) (by kernel_rfl) (by kernel_rfl) (fun _ _ _ h => h) (by assumption) (Or.inl ⟨by rfl, ?_⟩) ?_
  rotate_left
  · intro w hSw
    (try dsimp only at hSw)
    go_simp
    try with_reducible rfl
  simp only [List.setIfInBounds_toArray, List.set_cons_zero, List.set_cons_succ]
  refine takeD (i := 5) (v := ?_) 10 rfl rfl (by kernel_rfl) (by kernel_rfl) (by kernel_rfl) (fun _ _ _ h => h) (by assumption) (Or.inl ⟨by rfl, ?_⟩) ?_
  rotate_left
  · intro w hSw
    (try dsimp only at hSw)
    go_simp
    try with_reducible rfl
  simp only [List.setIfInBounds_toArray, List.set_cons_zero, List.set_cons_succ]
  refine wpAnyH_ready (rs := [1]) (by kernel_rfl) (by simp) ?_
  refine AllReadyH.cons (by simp only [List.getElem?_toArray, List.getElem?_cons_succ, List.getElem?_cons_zero]; rfl) (fun K hK => ?_) AllReadyH.nil
  go_simp
  go_at_call 25; (with_reducible refine (HMO.out _ (HH.out.below hHeld.2.2.2.2.2.2)).mono ?_); rintro e w1 ⟨rfl, hb1⟩
  refine hK.out _ _ ?_ (fun hHeldN => ?_)
  · exact ⟨keepc hb1 hHeld.1, keepc hb1 hHeld.2.1, keepc hb1 hHeld.2.2.1, keepc hb1 hHeld.2.2.2.1, keepc hb1 hHeld.2.2.2.2.1, keepc hb1 hHeld.2.2.2.2.2.1, below_t hHeld.2.2.2.2.2.2 hb1⟩
  clear hK K hHeld
  have hHeld := hHeldN
  clear hHeldN
  (try simp only [Act.put, List.setIfInBounds_toArray, List.set_cons_zero, List.set_cons_succ])
  refine takeD (i := 6) (v := ?_) 11 rfl rfl (by kernel_rfl) (by kernel_rfl) (by kernel_rfl) (fun _ _ _ h => h) (by assumption) (Or.inl ⟨by rfl, ?_⟩) ?_
  rotate_left
  · intro w hSw
    (try dsimp only at hSw)
    go_simp
    try with_reducible rfl
  simp only [List.setIfInBounds_toArray, List.set_cons_zero, List.set_cons_succ]
  refine takeD (i := 7) (v := ?_) 12 rfl rfl (by kernel_rfl) (by kernel_rfl) (by kernel_rfl) (fun _ _ _ h => h) (by assumption) (Or.inl ⟨by rfl, ?_⟩) ?_
  rotate_left
  · intro w hSw
    (try dsimp only at hSw)
    go_simp
    try with_reducible rfl
  simp only [List.setIfInBounds_toArray, List.set_cons_zero, List.set_cons_succ]
  refine takeD (i := 8) (v := ?_) 13 rfl rfl (by kernel_rfl) (by kernel_rfl) (by kernel_rfl) (fun _ _ _ h => h) (by assumption) (Or.inl ⟨by rfl, ?_⟩) ?_
  rotate_left
  · intro w hSw
    (try dsimp only at hSw)
    go_simp
    try with_reducible rfl
  simp only [List.setIfInBounds_toArray, List.set_cons_zero, List.set_cons_succ]
  refine takeD (i := 10) (v := ?_) 15 rfl rfl (by kernel_rfl) (by kernel_rfl) (by kernel_rfl) (fun _ _ _ h => h) (by assumption) (Or.inl ⟨by rfl, ?_⟩) ?_
  rotate_left
  · intro w hSw
    (try dsimp only at hSw)
    go_simp
    try with_reducible rfl
  simp only [List.setIfInBounds_toArray, List.set_cons_zero, List.set_cons_succ]
  refine takeD (i := 11) (v := ?_) 16 rfl rfl (by kernel_rfl) (by kernel_rfl) (by kernel_rfl) (fun _ _ _ h => h) (by assumption) (Or.inl ⟨by rfl, ?_⟩) ?_
  rotate_left
  · intro w hSw
    (try dsimp only at hSw)
    go_simp
    try with_reducible rfl
  simp only [List.setIfInBounds_toArray, List.set_cons_zero, List.set_cons_succ]
  refine takeD (i := 12) (v := ?_) 17 rfl rfl (by kernel_rfl) (by kernel_rfl) (by kernel_rfl) (fun _ _ _ h => h) (by assumption) (Or.inl ⟨by rfl, ?_⟩) ?_
  rotate_left
  · intro w hSw
    (try dsimp only at hSw)
    go_simp
    try with_reducible rfl
  simp only [List.setIfInBounds_toArray, List.set_cons_zero, List.set_cons_succ]
  refine takeD (i := 13) (v := ?_) 18 rfl rfl (by kernel_rfl) (by kernel_rfl) (by kernel_rfl) (fun _ _ _ h => h) (by assumption) (Or.inl ⟨by rfl, ?_⟩) ?_
  rotate_left
  · intro w hSw
    (try dsimp only at hSw)
    go_simp
    try with_reducible rfl
  simp only [List.setIfInBounds_toArray, List.set_cons_zero, List.set_cons_succ]
  refine wpAnyH_ready (rs := [9]) (by kernel_rfl) (by simp) ?_
  refine AllReadyH.cons (by simp only [List.getElem?_toArray, List.getElem?_cons_succ, List.getElem?_cons_zero]; rfl) (fun K hK => ?_) AllReadyH.nil
  go_simp
  go_at_call 26; (with_reducible refine (HAL.out _ (HH.out.below hHeld.2.2.2.2.2.2)).mono ?_); rintro e w2 ⟨rfl, hb2⟩
  refine hK.out _ _ ?_ (fun hHeldN => ?_)
  · exact ⟨keepc hb2 hHeld.1, keepc hb2 hHeld.2.1, keepc hb2 hHeld.2.2.1, keepc hb2 hHeld.2.2.2.1, keepc hb2 hHeld.2.2.2.2.1, keepc hb2 hHeld.2.2.2.2.2.1, below_t hHeld.2.2.2.2.2.2 hb2⟩
  clear hK K hHeld
  have hHeld := hHeldN
  clear hHeldN
  (try simp only [Act.put, List.setIfInBounds_toArray, List.set_cons_zero, List.set_cons_succ])
  refine takeD (i := 14) (v := ?_) 19 rfl rfl (by kernel_rfl) (by kernel_rfl) (by kernel_rfl) (fun _ _ _ h => h) (by assumption) (Or.inl ⟨by rfl, ?_⟩) ?_
  rotate_left
  · intro w hSw
    (try dsimp only at hSw)
    go_simp
    try with_reducible rfl
  simp only [List.setIfInBounds_toArray, List.set_cons_zero, List.set_cons_succ]
  refine takeD (i := 15) (v := ?_) 20 rfl rfl (by kernel_rfl) (by kernel_rfl) (by kernel_rfl) (fun _ _ _ h => h) (by assumption) (Or.inl ⟨by rfl, ?_⟩) ?_
  rotate_left
  · intro w hSw
    (try dsimp only at hSw)
    go_simp
    try with_reducible rfl
  simp only [List.setIfInBounds_toArray, List.set_cons_zero, List.set_cons_succ]
  refine takeD (i := 16) (v := ?_) 21 rfl rfl (by kernel_rfl) (by kernel_rfl) (by kernel_rfl) (fun _ _ _ h => h) (by assumption) (Or.inl ⟨by rfl, ?_⟩) ?_
  rotate_left
  · intro w hSw
    (try dsimp only at hSw)
    go_simp
    try with_reducible rfl
  simp only [List.setIfInBounds_toArray, List.set_cons_zero, List.set_cons_succ]
  refine takeD (i := 17) (v := ?_) 22 rfl rfl (by kernel_rfl) (by kernel_rfl) (by kernel_rfl) (fun _ _ _ h => h) (by assumption) (Or.inl ⟨by rfl, ?_⟩) ?_
  rotate_left
  · intro w hSw
    (try dsimp only at hSw)
    go_simp
    try with_reducible rfl
  simp only [List.setIfInBounds_toArray, List.set_cons_zero, List.set_cons_succ]
  refine takeD (i := 19) (v := ?_) 24 rfl rfl (by kernel_rfl) (by kernel_rfl) (by kernel_rfl) (fun _ _ _ h => h) (by assumption) (Or.inl ⟨by rfl, ?_⟩) ?_
  rotate_left
  · intro w hSw
    (try dsimp only at hSw)
    go_simp
    try with_reducible rfl
  simp only [List.setIfInBounds_toArray, List.set_cons_zero, List.set_cons_succ]
  refine takeD (i := 20) (v := ?_) 25 rfl rfl (by kernel_rfl) (by kernel_rfl) (by kernel_rfl) (fun _ _ _ h => h) (by assumption) (Or.inl ⟨by rfl, ?_⟩) ?_
  rotate_left
  · intro w hSw
    (try dsimp only at hSw)
    go_simp
    try with_reducible rfl
  simp only [List.setIfInBounds_toArray, List.set_cons_zero, List.set_cons_succ]
  refine takeD (i := 21) (v := ?_) 26 rfl rfl (by kernel_rfl) (by kernel_rfl) (by kernel_rfl) (fun _ _ _ h => h) (by assumption) (Or.inl ⟨by rfl, ?_⟩) ?_
  rotate_left
  · intro w hSw
    (try dsimp only at hSw)
    go_simp
    try with_reducible rfl
  simp only [List.setIfInBounds_toArray, List.set_cons_zero, List.set_cons_succ]
  refine takeD (i := 22) (v := ?_) 27 rfl rfl (by kernel_rfl) (by kernel_rfl) (by kernel_rfl) (fun _ _ _ h => h) (by assumption) (Or.inl ⟨by rfl, ?_⟩) ?_
  rotate_left
  · intro w hSw
    (try dsimp only at hSw)
    go_simp
    try with_reducible rfl
  simp only [List.setIfInBounds_toArray, List.set_cons_zero, List.set_cons_succ]
  refine wpAnyH_ready (rs := [18]) (by kernel_rfl) (by simp) ?_
  refine AllReadyH.cons (by simp only [List.getElem?_toArray, List.getElem?_cons_succ, List.getElem?_cons_zero]; rfl) (fun K hK => ?_) AllReadyH.nil
  go_simp
  go_at_call 24; (with_reducible refine (HSZ.out _ (HH.out.below hHeld.2.2.2.2.2.2)).mono ?_); rintro e w3 ⟨rfl, hb3⟩
  refine hK.out _ _ ?_ (fun hHeldN => ?_)
  · exact ⟨keepc hb3 hHeld.1, keepc hb3 hHeld.2.1, keepc hb3 hHeld.2.2.1, keepc hb3 hHeld.2.2.2.1, keepc hb3 hHeld.2.2.2.2.1, keepc hb3 hHeld.2.2.2.2.2.1, below_t hHeld.2.2.2.2.2.2 hb3⟩
  clear hK K hHeld
  have hHeld := hHeldN
  clear hHeldN
  (try simp only [Act.put, List.setIfInBounds_toArray, List.set_cons_zero, List.set_cons_succ])
  refine takeD (i := 23) (v := ?_) 28 rfl rfl (by kernel_rfl) (by kernel_rfl) (by kernel_rfl) (fun _ _ _ h => h) (by assumption) (Or.inl ⟨by rfl, ?_⟩) ?_
  rotate_left
  · intro w hSw
    (try dsimp only at hSw)
    go_simp
    try with_reducible rfl
  simp only [List.setIfInBounds_toArray, List.set_cons_zero, List.set_cons_succ]
  refine takeD (i := 24) (v := ?_) 29 rfl rfl (by kernel_rfl) (by kernel_rfl) (by kernel_rfl) (fun _ _ _ h => h) (by assumption) (Or.inl ⟨by rfl, ?_⟩) ?_
  rotate_left
  · intro w hSw
    (try dsimp only at hSw)
    go_simp
    try with_reducible rfl
  simp only [List.setIfInBounds_toArray, List.set_cons_zero, List.set_cons_succ]
  refine takeD (i := 25) (v := ?_) 30 rfl rfl (by kernel_rfl) (by kernel_rfl) (by kernel_rfl) (fun _ _ _ h => h) (by assumption) (Or.inl ⟨by rfl, ?_⟩) ?_
  rotate_left
  · intro w hSw
    (try dsimp only at hSw)
    go_simp
    try with_reducible rfl
  simp only [List.setIfInBounds_toArray, List.set_cons_zero, List.set_cons_succ]
  refine takeD (i := 26) (v := ?_) 31 rfl rfl (by kernel_rfl) (by kernel_rfl) (by kernel_rfl) (fun _ _ _ h => h) (by assumption) (Or.inl ⟨by rfl, ?_⟩) ?_
  rotate_left
  · intro w hSw
    (try dsimp only at hSw)
    go_simp
    try with_reducible rfl
  simp only [List.setIfInBounds_toArray, List.set_cons_zero, List.set_cons_succ]
  refine takeD (i := 28) (v := ?_) 33 rfl rfl (by kernel_rfl) (by kernel_rfl) (by kernel_rfl) (fun _ _ _ h => h) (by assumption) (Or.inl ⟨by rfl, ?_⟩) ?_
  rotate_left
  · intro w hSw
    (try dsimp only at hSw)
    go_simp
    try with_reducible rfl
  simp only [List.setIfInBounds_toArray, List.set_cons_zero, List.set_cons_succ]
  refine takeD (i := 29) (v := ?_) 34 rfl rfl (by kernel_rfl) (by kernel_rfl) (by kernel_rfl) (fun _ _ _ h => h) (by assumption) (Or.inl ⟨by rfl, ?_⟩) ?_
  rotate_left
  · intro w hSw
    (try dsimp only at hSw)
    go_simp
    try with_reducible rfl
  simp only [List.setIfInBounds_toArray, List.set_cons_zero, List.set_cons_succ]
  refine takeD (i := 30) (v := ?_) 35 rfl rfl (by kernel_rfl) (by kernel_rfl) (by kernel_rfl) (fun _ _ _ h => h) (by assumption) (Or.inl ⟨by rfl, ?_⟩) ?_
  rotate_left
  · intro w hSw
    (try dsimp only at hSw)
    go_simp
    try with_reducible rfl
  simp only [List.setIfInBounds_toArray, List.set_cons_zero, List.set_cons_succ]
  refine takeD (i := 31) (v := ?_) 36 rfl rfl (by kernel_rfl) (by kernel_rfl) (by kernel_rfl) (fun _ _ _ h => h) (by assumption) (Or.inl ⟨by rfl, ?_⟩) ?_
  rotate_left
  · intro w hSw
    (try dsimp only at hSw)
    go_simp
    try with_reducible rfl
  simp only [List.setIfInBounds_toArray, List.set_cons_zero, List.set_cons_succ]
  refine wpAnyH_ready (rs := [27]) (by kernel_rfl) (by simp) ?_
  refine AllReadyH.cons (by simp only [List.getElem?_toArray, List.getElem?_cons_succ, List.getElem?_cons_zero]; rfl) (fun K hK => ?_) AllReadyH.nil
  go_simp
  go_at_call 17; (with_reducible refine (HCU.out _ (HH.out.below hHeld.2.2.2.2.2.2)).mono ?_); rintro e w4 ⟨rfl, hb4⟩
  refine hK.out _ _ ?_ (fun hHeldN => ?_)
  · exact ⟨keepc hb4 hHeld.1, keepc hb4 hHeld.2.1, keepc hb4 hHeld.2.2.1, keepc hb4 hHeld.2.2.2.1, keepc hb4 hHeld.2.2.2.2.1, keepc hb4 hHeld.2.2.2.2.2.1, below_t hHeld.2.2.2.2.2.2 hb4⟩
  clear hK K hHeld
  have hHeld := hHeldN
  clear hHeldN
  (try simp only [Act.put, List.setIfInBounds_toArray, List.set_cons_zero, List.set_cons_succ])
  refine takeD (i := 32) (v := ?_) 37 rfl rfl (by kernel_rfl) (by kernel_rfl) (by kernel_rfl) (fun _ _ _ h => h) (by assumption) (Or.inl ⟨by rfl, ?_⟩) ?_
  rotate_left
  · intro w hSw
    (try dsimp only at hSw)
    go_simp
    try with_reducible rfl
  simp only [List.setIfInBounds_toArray, List.set_cons_zero, List.set_cons_succ]
  refine takeD (i := 33) (v := ?_) 38 rfl rfl (by kernel_rfl) (by kernel_rfl) (by kernel_rfl) (fun _ _ _ h => h) (by assumption) (Or.inl ⟨by rfl, ?_⟩) ?_
  rotate_left
  · intro w hSw
    (try dsimp only at hSw)
    go_simp
    try with_reducible rfl
  simp only [List.setIfInBounds_toArray, List.set_cons_zero, List.set_cons_succ]
  refine takeD (i := 34) (v := ?_) 39 rfl rfl (by kernel_rfl) (by kernel_rfl) (by kernel_rfl) (fun _ _ _ h => h) (by assumption) (Or.inl ⟨by rfl, ?_⟩) ?_
  rotate_left
  · intro w hSw
    (try dsimp only at hSw)
    go_simp
    try with_reducible rfl
  simp only [List.setIfInBounds_toArray, List.set_cons_zero, List.set_cons_succ]
  refine takeD (i := 35) (v := ?_) 40 rfl rfl (by kernel_rfl) (by kernel_rfl) (by kernel_rfl) (fun _ _ _ h => h) (by assumption) (Or.inl ⟨by rfl, ?_⟩) ?_
  rotate_left
  · intro w hSw
    (try dsimp only at hSw)
    go_simp
    try with_reducible rfl
  simp only [List.setIfInBounds_toArray, List.set_cons_zero, List.set_cons_succ]
  refine takeD (i := 37) (v := ?_) 42 rfl rfl (by kernel_rfl) (by kernel_rfl) (by kernel_rfl) (fun _ _ _ h => h) (by assumption) (Or.inl ⟨by rfl, ?_⟩) ?_
  rotate_left
  · intro w hSw
    (try dsimp only at hSw)
    go_simp
    try with_reducible rfl
  simp only [List.setIfInBounds_toArray, List.set_cons_zero, List.set_cons_succ]
  refine wpAnyH_ready (rs := [36]) (by kernel_rfl) (by simp) ?_
  refine AllReadyH.cons (by simp only [List.getElem?_toArray, List.getElem?_cons_succ, List.getElem?_cons_zero]; rfl) (fun K hK => ?_) AllReadyH.nil
  go_simp
  go_at_call 27; (with_reducible refine (HFO.out _ (HH.out.below hHeld.2.2.2.2.2.2)).mono ?_); rintro e w5 ⟨rfl, hb5⟩
  refine hK.out _ _ ?_ (fun hHeldN => ?_)
  · exact ⟨keepc hb5 hHeld.1, keepc hb5 hHeld.2.1, keepc hb5 hHeld.2.2.1, keepc hb5 hHeld.2.2.2.1, keepc hb5 hHeld.2.2.2.2.1, keepc hb5 hHeld.2.2.2.2.2.1, below_t hHeld.2.2.2.2.2.2 hb5⟩
  clear hK K hHeld
  have hHeld := hHeldN
  clear hHeldN
  (try simp only [Act.put, List.setIfInBounds_toArray, List.set_cons_zero, List.set_cons_succ])
  refine wpAnyH_ready (rs := [38]) (by kernel_rfl) (by simp) ?_
  refine AllReadyH.cons (by simp only [List.getElem?_toArray, List.getElem?_cons_succ, List.getElem?_cons_zero]; rfl) (fun K hK => ?_) AllReadyH.nil
  go_simp
  go_at_call 31; (with_reducible refine (HRA.out _ (HR.out.below hHeld.2.2.2.2.2.2)).mono ?_); rintro e w6 ⟨v6, rfl, ho6, hk6, hb6⟩; obtain ⟨y6, cp6, rfl⟩ := row_any ho6
  refine hK.out _ _ ?_ (fun hHeldN => ?_)
  · exact ⟨keepc hb6 hHeld.1, keepc hb6 hHeld.2.1, keepc hb6 hHeld.2.2.1, keepc hb6 hHeld.2.2.2.1, keepc hb6 hHeld.2.2.2.2.1, keepc hb6 hHeld.2.2.2.2.2.1, below_t hHeld.2.2.2.2.2.2 hb6⟩
  clear hK K hHeld
  have hHeld := hHeldN
  clear hHeldN
  (try simp only [Act.put, List.setIfInBounds_toArray, List.set_cons_zero, List.set_cons_succ])
  refine takeD (i := 39) (v := ?_) 44 rfl rfl (by kernel_rfl) (by kernel_rfl) (by kernel_rfl) (fun _ _ _ h => h) (by assumption) (Or.inl ⟨by rfl, ?_⟩) ?_
  rotate_left
  · intro w hSw
    (try dsimp only at hSw)
    go_simp
    try with_reducible rfl
  simp only [List.setIfInBounds_toArray, List.set_cons_zero, List.set_cons_succ]
  refine takeD (i := 40) (v := ?_) 45 rfl rfl (by kernel_rfl) (by kernel_rfl) (by kernel_rfl) (fun _ _ _ h => h) (by assumption) (Or.inl ⟨by rfl, ?_⟩) ?_
  rotate_left
  · intro w hSw
    (try dsimp only at hSw)
    go_simp
    try with_reducible rfl
  simp only [List.setIfInBounds_toArray, List.set_cons_zero, List.set_cons_succ]
  refine takeD (i := 41) (v := ?_) 46 rfl rfl (by kernel_rfl) (by kernel_rfl) (by kernel_rfl) (fun _ _ _ h => h) (by assumption) (Or.inl ⟨by rfl, ?_⟩) ?_
  rotate_left
  · intro w hSw
    (try dsimp only at hSw)
    go_simp
    try with_reducible rfl
  simp only [List.setIfInBounds_toArray, List.set_cons_zero, List.set_cons_succ]
  refine takeD (i := 42) (v := ?_) 47 rfl rfl (by kernel_rfl) (by kernel_rfl) (by kernel_rfl) (fun _ _ _ h => h) (by assumption) (Or.inl ⟨by rfl, ?_⟩) ?_
  rotate_left
  · intro w hSw
    (try dsimp only at hSw)
    go_simp
    try with_reducible rfl
  simp only [List.setIfInBounds_toArray, List.set_cons_zero, List.set_cons_succ]
  refine wpAnyH_done (by kernel_rfl) ?_ _
  have HE1 := hid hHeld
  clear hHeld
  go_wp2_with fail
  refine wp_region_held_drew (S := fun V => V.cell? ⟨b2, 0, none⟩ = some (.int .i64 s.mo) ∧ V.cell? ⟨b2, 1, none⟩ = some (.bool s.alt) ∧ V.cell? ⟨b2, 2, none⟩ = some (.int .i64 s.r) ∧ V.cell? ⟨b2, 3, none⟩ = some (.int .i64 s.c) ∧ V.cell? ⟨b2, 4, none⟩ = some (.slice (some ⟨g2, 0, none⟩) s.L.length s.L.length) ∧ V.cell? ⟨b2, 5, none⟩ = some (.int .i64 s.cu) ∧ Below w.heap.size w V) (by kernel_rfl) ?_ (fun hHeld => ?_)
  · have hdr : Below w6.heap.size w6 w6.drew := (Below.refl _ _).drew
    exact ⟨keepc hdr HE1.out.1, keepc hdr HE1.out.2.1, keepc hdr HE1.out.2.2.1, keepc hdr HE1.out.2.2.2.1, keepc hdr HE1.out.2.2.2.2.1, keepc hdr HE1.out.2.2.2.2.2.1, below_t HE1.out.2.2.2.2.2.2 hdr⟩
  refine takeD (i := 0) (v := ?_) 48 rfl rfl (by kernel_rfl) (by kernel_rfl) (by kernel_rfl) (fun _ _ _ h => h) (by assumption) (Or.inl ⟨by rfl, ?_⟩) ?_
  rotate_left
  · intro w hSw
    (try dsimp only at hSw)
    go_simp
    try with_reducible rfl
  simp only [List.setIfInBounds_toArray, List.set_cons_zero, List.set_cons_succ]
  refine takeD (i := 2) (v := ?_) 50 rfl rfl (by kernel_rfl) (by kernel_rfl) (by kernel_rfl) (fun _ _ _ h => h) (by assumption) (Or.inl ⟨by rfl, ?_⟩) ?_
  rotate_left
  · intro w hSw
    (try dsimp only at hSw)
    go_simp
    try with_reducible rfl
  simp only [List.setIfInBounds_toArray, List.set_cons_zero, List.set_cons_succ]
  refine takeD (i := 3) (v := ?_) 51 rfl rfl (by kernel_rfl) (by kernel_rfl) (by kernel_rfl) (fun _ _ _ h => h) (by assumption) (Or.inl ⟨by rfl, ?_⟩) ?_
  rotate_left
  · intro w hSw
    (try dsimp only at hSw)
    go_simp
    try with_reducible rfl
  simp only [List.setIfInBounds_toArray, List.set_cons_zero, List.set_cons_succ]
  refine takeD (i := 4) (v := ?_) 52 rfl rfl (by kernel_rfl) (by kernel_rfl) (by kernel_rfl) (fun _ _ _ h => h) (by assumption) (Or.inl ⟨by rfl, ?_⟩) ?_
  rotate_left
  · intro w hSw
    (try dsimp only at hSw)
    go_simp
    try with_reducible rfl
  simp only [List.setIfInBounds_toArray, List.set_cons_zero, List.set_cons_succ]
  refine takeD (i := 5) (v := ?_) 53 rfl rfl (by kernel_rfl) (by kernel_rfl) (by kernel_rfl) (fun _ _ _ h => h) (by assumption) (Or.inl ⟨by rfl, ?_⟩) ?_
  rotate_left
  · intro w hSw
    (try dsimp only at hSw)
    go_simp
    try with_reducible rfl
  simp only [List.setIfInBounds_toArray, List.set_cons_zero, List.set_cons_succ]
  refine wpAnyH_ready (rs := [1]) (by kernel_rfl) (by simp) ?_
  refine AllReadyH.cons (by simp only [List.getElem?_toArray, List.getElem?_cons_succ, List.getElem?_cons_zero]; rfl) (fun K hK => ?_) AllReadyH.nil
  go_simp
  go_at_call 23; (with_reducible refine (HCE.out _ (HH.out.below hHeld.2.2.2.2.2.2)).mono ?_); rintro e w8 ⟨v8, rfl, ho8, hk8, hb8⟩; obtain ⟨gc, cc, rfl, hcc⟩ := cells_row ho8 hN.1; have HCC := hid hcc; clear ho8 hk8 hcc
  refine hK.out _ _ ?_ (fun hHeldN => ?_)
  · exact ⟨keepc hb8 hHeld.1, keepc hb8 hHeld.2.1, keepc hb8 hHeld.2.2.1, keepc hb8 hHeld.2.2.2.1, keepc hb8 hHeld.2.2.2.2.1, keepc hb8 hHeld.2.2.2.2.2.1, below_t hHeld.2.2.2.2.2.2 hb8⟩
  clear hK K hHeld
  have hHeld := hHeldN
  clear hHeldN
  (try simp only [Act.put, List.setIfInBounds_toArray, List.set_cons_zero, List.set_cons_succ])
  refine wpAnyH_ready (rs := [6]) (by kernel_rfl) (by simp) ?_
  refine AllReadyH.cons (by simp only [List.getElem?_toArray, List.getElem?_cons_succ, List.getElem?_cons_zero]; rfl) (fun K hK => ?_) AllReadyH.nil
  go_simp
  go_at_call 32; (with_reducible refine (HEC.out gc cc _ HCC.out (HRW.out _ hHeld.2.2.2.2.2.2)).mono ?_); rintro e w9 ⟨rfl, hb9⟩
  refine hK.out _ _ ?_ (fun hHeldN => ?_)
  · exact ⟨keepc hb9 hHeld.1, keepc hb9 hHeld.2.1, keepc hb9 hHeld.2.2.1, keepc hb9 hHeld.2.2.2.1, keepc hb9 hHeld.2.2.2.2.1, keepc hb9 hHeld.2.2.2.2.2.1, below_t hHeld.2.2.2.2.2.2 hb9⟩
  clear hK K hHeld
  have hHeld := hHeldN
  clear hHeldN
  (try simp only [Act.put, List.setIfInBounds_toArray, List.set_cons_zero, List.set_cons_succ])
  refine takeD (i := 7) (v := ?_) 55 rfl rfl (by kernel_rfl) (by kernel_rfl) (by kernel_rfl) (fun _ _ _ h => h) (by assumption) (Or.inl ⟨by rfl, ?_⟩) ?_
  rotate_left
  · intro w hSw
    (try dsimp only at hSw)
    go_simp
    try with_reducible rfl
  simp only [List.setIfInBounds_toArray, List.set_cons_zero, List.set_cons_succ]
  refine takeD (i := 8) (v := ?_) 56 rfl rfl (by kernel_rfl) (by kernel_rfl) (by kernel_rfl) (fun _ _ _ h => h) (by assumption) (Or.inl ⟨by rfl, ?_⟩) ?_
  rotate_left
  · intro w hSw
    (try dsimp only at hSw)
    go_simp
    try with_reducible rfl
  simp only [List.setIfInBounds_toArray, List.set_cons_zero, List.set_cons_succ]
  refine takeD (i := 11) (v := ?_) 59 rfl rfl (by kernel_rfl) (by kernel_rfl) (by kernel_rfl) (fun _ _ _ h => h) (by assumption) (Or.inl ⟨by rfl, ?_⟩) ?_
  rotate_left
  · intro w hSw
    (try dsimp only at hSw)
    go_simp
    try with_reducible rfl
  simp only [List.setIfInBounds_toArray, List.set_cons_zero, List.set_cons_succ]
  refine wpAnyH_ready (rs := [9]) (by kernel_rfl) (by simp) ?_
  refine AllReadyH.cons (by simp only [List.getElem?_toArray, List.getElem?_cons_succ, List.getElem?_cons_zero]; rfl) (fun K hK => ?_) AllReadyH.nil
  go_simp
  go_at_call 73; (with_reducible refine (HAT.out _).mono ?_); rintro e w10 ⟨bx, rfl, hbx, hcx, hb10⟩; have HCX := hid hcx; clear hbx hcx
  refine hK.out _ _ ?_ (fun hHeldN => ?_)
  · exact ⟨keepc hb10 hHeld.1, keepc hb10 hHeld.2.1, keepc hb10 hHeld.2.2.1, keepc hb10 hHeld.2.2.2.1, keepc hb10 hHeld.2.2.2.2.1, keepc hb10 hHeld.2.2.2.2.2.1, below_t hHeld.2.2.2.2.2.2 hb10⟩
  clear hK K hHeld
  have hHeld := hHeldN
  clear hHeldN
  (try simp only [Act.put, List.setIfInBounds_toArray, List.set_cons_zero, List.set_cons_succ])
  refine wpAnyH_ready (rs := [10]) (by kernel_rfl) (by simp) ?_
  refine AllReadyH.cons (by simp only [List.getElem?_toArray, List.getElem?_cons_succ, List.getElem?_cons_zero]; rfl) (fun K hK => ?_) AllReadyH.nil
  go_simp
  go_at_call 48; (with_reducible refine (HCO.out bx _ (HH.out.below hHeld.2.2.2.2.2.2) HCX.out).mono ?_); rintro e w11 ⟨v11, rfl, ho11, hk11, hb11⟩; obtain ⟨y11, cp11, rfl⟩ := row_any ho11; have HO11 := hid ho11; clear ho11 hk11 HCX
  refine hK.out _ _ ?_ (fun hHeldN => ?_)
  · exact ⟨keepc hb11 hHeld.1, keepc hb11 hHeld.2.1, keepc hb11 hHeld.2.2.1, keepc hb11 hHeld.2.2.2.1, keepc hb11 hHeld.2.2.2.2.1, keepc hb11 hHeld.2.2.2.2.2.1, below_t hHeld.2.2.2.2.2.2 hb11⟩
  clear hK K hHeld
  have hHeld := hHeldN
  clear hHeldN
  (try simp only [Act.put, List.setIfInBounds_toArray, List.set_cons_zero, List.set_cons_succ])
  refine wpAnyH_ready (rs := [12]) (by kernel_rfl) (by simp) ?_
  refine AllReadyH.cons (by simp only [List.getElem?_toArray, List.getElem?_cons_succ, List.getElem?_cons_zero]; rfl) (fun K hK => ?_) AllReadyH.nil
  go_simp
  go_at_call 31; (with_reducible refine (HRA.out _ (HR.out.below hHeld.2.2.2.2.2.2)).mono ?_); rintro e w12 ⟨v12, rfl, ho12, hk12, hb12⟩; obtain ⟨y12, cp12, rfl⟩ := row_any ho12; have HO12 := hid ho12; have HO11 := hid (own_below HO11.out hb12); clear ho12 hk12
  refine hK.out _ _ ?_ (fun hHeldN => ?_)
  · exact ⟨keepc hb12 hHeld.1, keepc hb12 hHeld.2.1, keepc hb12 hHeld.2.2.1, keepc hb12 hHeld.2.2.2.1, keepc hb12 hHeld.2.2.2.2.1, keepc hb12 hHeld.2.2.2.2.2.1, below_t hHeld.2.2.2.2.2.2 hb12⟩
  clear hK K hHeld
  have hHeld := hHeldN
  clear hHeldN
  (try simp only [Act.put, List.setIfInBounds_toArray, List.set_cons_zero, List.set_cons_succ])
  refine wpAnyH_ready (rs := [13]) (by kernel_rfl) (by simp) ?_
  refine AllReadyH.cons (by simp only [List.getElem?_toArray, List.getElem?_cons_succ, List.getElem?_cons_zero]; rfl) (fun K hK => ?_) AllReadyH.nil
  go_simp
  go_at_call 33; (with_reducible refine (HEI.out _ _ _ HO11.out HO12.out).mono ?_); rintro e w13 ⟨rfl, hb13⟩
  refine hK.out _ _ ?_ (fun hHeldN => ?_)
  · exact ⟨keepc hb13 hHeld.1, keepc hb13 hHeld.2.1, keepc hb13 hHeld.2.2.1, keepc hb13 hHeld.2.2.2.1, keepc hb13 hHeld.2.2.2.2.1, keepc hb13 hHeld.2.2.2.2.2.1, below_t hHeld.2.2.2.2.2.2 hb13⟩
  clear hK K hHeld
  have hHeld := hHeldN
  clear hHeldN
  (try simp only [Act.put, List.setIfInBounds_toArray, List.set_cons_zero, List.set_cons_succ])
  refine takeD (i := 14) (v := ?_) 62 rfl rfl (by kernel_rfl) (by kernel_rfl) (by kernel_rfl) (fun _ _ _ h => h) (by assumption) (Or.inl ⟨by rfl, ?_⟩) ?_
  rotate_left
  · intro w hSw
    (try dsimp only at hSw)
    go_simp
    try with_reducible rfl
  simp only [List.setIfInBounds_toArray, List.set_cons_zero, List.set_cons_succ]
  refine takeD (i := 15) (v := ?_) 4 rfl rfl (by kernel_rfl) (by kernel_rfl) (by kernel_rfl) (fun _ _ _ h => h) (by assumption) (Or.inl ⟨by rfl, ?_⟩) ?_
  rotate_left
  · intro w hSw
    (try dsimp only at hSw)
    go_simp
    try with_reducible rfl
  simp only [List.setIfInBounds_toArray, List.set_cons_zero, List.set_cons_succ]
  refine wpAnyH_done (by kernel_rfl) ?_ _
  have HE3 := hid hHeld
  clear hHeld
  go_wp2
  go_ret
  exact ⟨rfl, HE3.out.2.2.2.2.2.2⟩
end Go.Proofs.Ytdaainifnbbhiaa
