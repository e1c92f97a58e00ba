/-
  The reference's Modified; two that are alike, the law's way.
-/
import Derived.Test.YtdaainifnbbhiaaZz
namespace Go.Proofs.Ytdaainifnbbhiaa
open Go.RowKit Go.Lib Go.Deep

/-- Is it modified? -/
def Cel.modi (c : Cel) : Bool := ofM c.fa.toNat
/-- The modified ones, of some attributes. -/
def mdS (s : Spc) (l : List Nat) : List Nat := l.filter (fun a => (s.cel a).modi)
theorem mdS_add (s : Spc) (l : List Nat) (a : Nat) : mdS s (l ++ [a]) = mdS s l ++ (if (s.cel a).modi then [a] else []) := by
  unfold mdS
  rw [List.filter_append]
  congr 1
  cases h : (s.cel a).modi <;> simp [h]
theorem mdS_len (s : Spc) (l : List Nat) : (mdS s l).length ≤ l.length := List.length_filter_le _ _
section
variable {b g : Nat} {s : Spc}
set_option maxRecDepth 100000 in
set_option maxHeartbeats 8000000 in
theorem rmodified_any (w : World) (h : RfM w b g s) : Calls Try.prog 64 #[.pointer (some ⟨b, 0, none⟩)] w (ListD 3 1 (intsV ((mdS s s.A).map Int.ofNat)) (mdS s s.A).length w) := by
  obtain ⟨i0, hi, hz0, hz1, hz2⟩ := info_parts infoI
  have hN := h.ok.pos
  have HRA := hid (rattrs_any b g s w h)
  have HH := hid h
  obtain ⟨NA, hNA⟩ : ∃ NA : Nat, s.A.length = NA := ⟨_, rfl⟩
  have HAE := hid (show s.iA NA = intsV (s.A.map Int.ofNat) ∧ (s.A.map Int.ofNat).length = NA ∧ s.A.length = NA by
    exact ⟨by unfold Spc.iA; rw [← hNA, List.take_length], by rw [List.length_map]; exact hNA, hNA⟩)
  have hNA1 : NA ≤ 3564 := by rw [← hNA]; exact Nat.le_trans (attP_len _ _) hN.2
  have HMEM := hid (fun a (h : a ∈ s.A) => attP_mem (P := s.P) (N := s.L.length) h)
  rw [hNA] at HRA
  have HRF := hid (fun (a : Nat) (ha : a < s.L.length) W h => rfield_any (b := b) (g := g) (s := s) a ha W h)
  have hf3 := rattf3
  clear h hNA
  go_enter Try.func64, Try.ntmps64
  go_wp2_with fail
  with_reducible refine HRA.out.mono ?_
  rintro e w1 ⟨v1, rfl, ho1, hk1, hb1⟩
  rw [HAE.out.1] at ho1
  have hoc := ints_cells (xs := s.A.map Int.ofNat) (by rw [HAE.out.2.1]; exact ho1)
  rw [HAE.out.2.1] at hoc
  obtain ⟨y1, c1, rfl⟩ := row_any ho1
  have HOC := hid (show ∀ k, k < NA → ∃ gg, y1 = some ⟨gg, 0, none⟩ ∧ w.heap.size ≤ gg ∧ w1.cell? ⟨gg, k, none⟩ = some (.int .i64 (s.A.getD k 0 : Nat)) from fun k hk => by
    rcases hoc with ⟨x, c, e, hx⟩ | ⟨gg, c, e, hc⟩
    · have : NA = 0 := by rw [← HAE.out.2.1, hx]; rfl
      omega
    · injection e with e1
      refine ⟨gg, e1, hk1 gg (mem_blkV.2 (by rw [e1]; rfl)), ?_⟩
      have q := hc k hk
      rw [Nat.zero_add] at q
      refine q.trans ?_
      rw [List.getD_eq_getElem?_getD, List.getElem?_map, List.getD_eq_getElem?_getD, List.getElem?_eq_getElem (by rw [HAE.out.2.2]; exact hk)]
      rfl)
  have HB1 := hid hb1
  clear ho1 hk1 hb1 hoc
  go_wp2_with fail
  go_loopw [3, 9] (fun o i W => ∃ k : Nat, k ≤ NA ∧ i = .int .i64 k ∧ Hid (W.ownsRow 0 3 1 o (mdS s (s.A.take k)).length (intsV ((mdS s (s.A.take k)).map Int.ofNat))) ∧ Hid (∀ q ∈ blkV o, w1.heap.size ≤ q) ∧ Hid (Below w1.heap.size w1 W)) (fun _ i _ => NA - (intOf i).toNat)
  case atStart => exact ⟨0, by omega, rfl, World.ownsRow_nil _ _ _ _, fun q hq => (by cases hq), Below.refl _ _⟩
  case round =>
    obtain ⟨k, hk, rfl, HR, HBk, HB⟩ := hrel
    obtain ⟨y, cc, rfl⟩ := row_any HR.out
    by_cases hkN : k < NA
    · have hki : (k : Int) < NA := by omega
      obtain ⟨gg, rfl, -, hc0⟩ := HOC.out k hkN
      have hc := keepc HB.out hc0
      have hlc := World.block_lt_of_cell? wr _ hc
      have hget : s.A[k]? = some (s.A.getD k 0) := by rw [List.getD_eq_getElem?_getD, List.getElem?_eq_getElem (by rw [HAE.out.2.2]; exact hkN)]; rfl
      have hmem := HMEM.out _ (List.mem_of_getElem? hget)
      have hfl : mdS s (s.A.take (k + 1)) = mdS s (s.A.take k) ++ (if (s.cel (s.A.getD k 0)).modi then [s.A.getD k 0] else []) := by rw [take_one s.A k _ hget, mdS_add]
      have hfk : (mdS s (s.A.take k)).length ≤ 4000 := Nat.le_trans (mdS_len _ _) (by rw [List.length_take]; omega)
      generalize s.A.getD k 0 = a at hc hc0 hmem hfl
      generalize mdS s (s.A.take k) = fk at HR HBk hfl hfk
      clear hget hc0
      obtain ⟨haN, hPa⟩ := hmem
      have HRF1 := hid (fun W h => HRF.out a haN W h)
      obtain ⟨fp, fn, fd, fm, hfm, hf⟩ : ∃ p n' d m, m = (s.cel a).modi ∧ (s.cel a).fv = .agg #[.bool p, .bool n', .int .i64 d, .bool m] := ⟨_, _, _, _, rfl, rfl⟩
      rw [hf] at HRF1
      rw [← hfm] at hfl
      clear hfm hf hPa haN
      cases fm
      · have HFL := hid (show mdS s (s.A.take (k + 1)) = fk by rw [hfl]; simp)
        clear hfl
        go_wp2_with fail
        with_reducible refine (HRF1.out _ (HH.out.below (below_t HB1.out HB.out))).mono ?_
        rintro e w7 ⟨rfl, hb7⟩
        have HB7 := hid hb7
        clear hb7
        go_wp2
        go_roundw
        case rel => exact ⟨k + 1, by omega, by go_num, by rw [HFL.out]; exact own_below HR.out HB7.out, HBk.out, below_t HB.out HB7.out⟩
        case measure => simp [intOf]; omega
      · have HFL := hid (show mdS s (s.A.take (k + 1)) = fk ++ [a] by rw [hfl]; rfl)
        clear hfl
        go_wp2_with fail
        with_reducible refine (HRF1.out _ (HH.out.below (below_t HB1.out HB.out))).mono ?_
        rintro e w7 ⟨rfl, hb7⟩
        have HR7 := hid (own_below HR.out hb7)
        have HB7 := hid (below_t HB.out hb7)
        clear hb7
        go_wp2_with (first | (at_builtin; refine wpList_append_blk _ rfl _ _ 56 rfl 3 i0 _ 1 8 Try.underlying56 hi hz0 hz1 hz2 rfl (by decide) _ _ _ rfl (HR7.out.alloc _) ⟨w7.heap.size, 0, none⟩ 1 1 [.int .i64 a] rfl rfl (one_new _ _ _ _ (by simp)) (by simp [Value.oneCell']) (by unfold maxLen; omega) (by omega) ?_; intro v' W1 hown' hgrow _ hb'; obtain ⟨g', cap', rfl⟩ := row_any hown'; have H1 := hid hown'; have H2 := hid hgrow; have H3 := hid hb'; clear hown' hgrow hb') | fail)
        go_roundw
        case rel =>
          refine ⟨k + 1, by omega, by go_num, ?_, fun q hq => ?_, ?_⟩
          · have h1 := H1.out
            rw [HFL.out, List.map_append, List.length_append]
            unfold intsV at h1 ⊢
            rw [List.map_append]
            exact h1
          · rcases H3.out q hq with h | h
            · exact HBk.out q h
            · have := HB7.out.size
              simp at h
              omega
          · exact (HB7.out.al (Nat.le_refl _) _).grown H2.out (by have := HB7.out.size; simp; omega) (fun q e => HBk.out q (mem_blkV.2 e))
        case measure => simp [intOf]; omega
    · obtain rfl : k = NA := by omega
      go_wp2
      go_ret
      refine ⟨_, rfl, ?_, fun q hq => Nat.le_trans HB1.out.size (HBk.out q hq), below_t HB1.out HB.out⟩
      have e : mdS s (s.A.take k) = mdS s s.A := by
        congr 1
        exact List.take_of_length_le (by rw [HAE.out.2.2]; exact Nat.le_refl _)
      rw [← e]
      exact HR.out
end
set_option maxRecDepth 100000 in
set_option maxHeartbeats 8000000 in
theorem same13 (b1 g1 b2 g2 : Nat) (s : Spc) (w : World) (h : SpM w b1 g1 s) (hr : RfM w b2 g2 s) : Calls Try.prog 62 #[.pointer (some ⟨b1, 0, none⟩), .pointer (some ⟨b2, 0, none⟩)] w fun e w' => e = .returned (.bool true) ∧ Below w.heap.size w w' := by
  have HS := hid h
  have HRR := hid hr
  have hok := h.ok
  have hN := hok.pos
  have HCU := hid (fun W h => cursor_any (b := b1) (g := g1) (s := s) W h)
  have HAL := hid (fun W h => alternate_any (b := b1) (g := g1) (s := s) W h)
  have HAT := hid (fun (q : Nat) (hq : q < s.L.length) W h => (show Calls Try.prog 15 #[.pointer (some ⟨b1, 0, none⟩), .int .i64 q] W fun e w' => e = .returned (s.cel q).v ∧ Below W.heap.size W w' from by
    have q1 := at_any (b := b1) (g := g1) (s := s) (q : Int) (i64_small (by omega) (by omega)) W h
    unfold Spc.atC at q1
    rwa [wr_nat hq] at q1))
  obtain ⟨N, hNe⟩ : ∃ N : Nat, s.L.length = N := ⟨_, rfl⟩
  have HNE := hid hNe
  have c4 := hr.h4
  rw [hNe] at c4 HAT hN
  have hb2 := hr.lt.1
  clear h hr hok hNe
  go_enter Try.func62, Try.ntmps62
  go_wp2_with fail
  go_loopw [12] (fun i W => ∃ q : Nat, q ≤ N ∧ i = .int .i64 q ∧ Hid (Below w.heap.size w W)) (fun i _ => N - (intOf i).toNat)
  case atStart => exact ⟨0, by omega, rfl, Below.refl _ _⟩
  case round =>
    obtain ⟨q, hq, rfl, HB⟩ := hrel
    by_cases hqN : q < N
    · have hqi : (q : Int) < N := by omega
      obtain ⟨c, hc⟩ : ∃ c, s.cel q = c := ⟨_, rfl⟩
      obtain ⟨a0, a1, a2, a3, a4, a5⟩ := (HRR.out.below HB.out).row.six q (by rw [HNE.out]; exact hqN) c hc
      have hlg := World.block_lt_of_cell? wr _ a0
      have HA1 := hid (fun W h => HAT.out q hqN W h)
      rw [hc] at HA1
      clear hc
      obtain ⟨x0, x1, x2, x3, x4, x5⟩ := c
      dsimp only at a0 a1 a2 a3 a4 a5
      obtain ⟨WX, hWX⟩ : ∃ WX, wr.alloc (.cells #[.int .u8 x0, .bool x1, .int .u8 x2, .int .u8 x3, .int .u8 x4, .int .u8 x5] 31) = WX := ⟨_, rfl⟩
      have HBX := hid (show Below w.heap.size w WX by rw [← hWX]; exact bal HB.out _)
      have HC0 := hid (show WX.cell? ⟨wr.heap.size, 0, none⟩ = some (.int .u8 x0) ∧ WX.cell? ⟨wr.heap.size, 1, none⟩ = some (.bool x1) ∧ WX.cell? ⟨wr.heap.size, 2, none⟩ = some (.int .u8 x2) ∧ WX.cell? ⟨wr.heap.size, 3, none⟩ = some (.int .u8 x3) ∧ WX.cell? ⟨wr.heap.size, 4, none⟩ = some (.int .u8 x4) ∧ WX.cell? ⟨wr.heap.size, 5, none⟩ = some (.int .u8 x5) ∧ Below WX.heap.size WX WX by
        rw [← hWX]
        exact ⟨by simp [go_sem], by simp [go_sem], by simp [go_sem], by simp [go_sem], by simp [go_sem], by simp [go_sem], Below.refl _ _⟩)
      have HWX := hid hWX
      clear hWX HB
      go_wp2_with fail
      simp only [HWX.out]
      refine wp_region_held_drew (S := fun V => V.cell? ⟨wr.heap.size, 0, none⟩ = some (.int .u8 x0) ∧ V.cell? ⟨wr.heap.size, 1, none⟩ = some (.bool x1) ∧ V.cell? ⟨wr.heap.size, 2, none⟩ = some (.int .u8 x2) ∧ V.cell? ⟨wr.heap.size, 3, none⟩ = some (.int .u8 x3) ∧ V.cell? ⟨wr.heap.size, 4, none⟩ = some (.int .u8 x4) ∧ V.cell? ⟨wr.heap.size, 5, none⟩ = some (.int .u8 x5) ∧ Below WX.heap.size WX V) (by kernel_rfl) ?_ (fun hHeld => ?_)
      · have hdr : Below WX.heap.size WX WX.drew := (Below.refl _ _).drew
        exact ⟨keepc hdr HC0.out.1, keepc hdr HC0.out.2.1, keepc hdr HC0.out.2.2.1, keepc hdr HC0.out.2.2.2.1, keepc hdr HC0.out.2.2.2.2.1, keepc hdr HC0.out.2.2.2.2.2.1, hdr⟩
      refine takeD (i := 0) (v := ?_) 17 rfl rfl (by kernel_rfl) (by kernel_rfl) (by kernel_rfl) (fun _ _ _ h => h) (by assumption) (Or.inl ⟨by rfl, ?_⟩) ?_
      rotate_left
      · intro w hSw
        (try dsimp only at hSw)
        go_simp
        try with_reducible rfl
      simp only [List.setIfInBounds_toArray, List.set_cons_zero, List.set_cons_succ]
      refine takeD (i := 1) (v := ?_) 18 rfl rfl (by kernel_rfl) (by kernel_rfl) (by kernel_rfl) (fun _ _ _ h => h) (by assumption) (Or.inl ⟨by rfl, ?_⟩) ?_
      rotate_left
      · intro w hSw
        (try dsimp only at hSw)
        go_simp
        try with_reducible rfl
      simp only [List.setIfInBounds_toArray, List.set_cons_zero, List.set_cons_succ]
      refine takeD (i := 3) (v := ?_) 20 rfl rfl (by kernel_rfl) (by kernel_rfl) (by kernel_rfl) (fun _ _ _ h => h) (by assumption) (Or.inl ⟨by rfl, ?_⟩) ?_
      rotate_left
      · intro w hSw
        (try dsimp only at hSw)
        go_simp
        try with_reducible rfl
      simp only [List.setIfInBounds_toArray, List.set_cons_zero, List.set_cons_succ]
      refine wpAnyH_ready (rs := [2]) (by kernel_rfl) (by simp) ?_
      refine AllReadyH.cons (by simp only [List.getElem?_toArray, List.getElem?_cons_succ, List.getElem?_cons_zero]; rfl) (fun K hK => ?_) AllReadyH.nil
      go_simp
      go_at_call 15; (with_reducible refine (HA1.out _ (HS.out.below (below_t HBX.out hHeld.2.2.2.2.2.2))).mono ?_); rintro e w6 ⟨rfl, hb6⟩
      refine hK.out _ _ ?_ (fun hHeldN => ?_)
      · exact ⟨keepc hb6 hHeld.1, keepc hb6 hHeld.2.1, keepc hb6 hHeld.2.2.1, keepc hb6 hHeld.2.2.2.1, keepc hb6 hHeld.2.2.2.2.1, keepc hb6 hHeld.2.2.2.2.2.1, below_t hHeld.2.2.2.2.2.2 hb6⟩
      clear hK K hHeld
      have hHeld := hHeldN
      clear hHeldN
      (try simp only [Act.put, List.setIfInBounds_toArray, List.set_cons_zero, List.set_cons_succ])
      refine takeD (i := 4) (v := ?_) 21 rfl rfl (by kernel_rfl) (by kernel_rfl) (by kernel_rfl) (fun _ _ _ h => h) (by assumption) (Or.inl ⟨by rfl, ?_⟩) ?_
      rotate_left
      · intro w hSw
        (try dsimp only at hSw)
        go_simp
        try with_reducible rfl
      simp only [List.setIfInBounds_toArray, List.set_cons_zero, List.set_cons_succ]
      refine wpAnyH_done (by kernel_rfl) ?_ _
      have HE := hid hHeld
      clear hHeld
      have HBE := hid (below_t HBX.out HE.out.2.2.2.2.2.2)
      clear HE HC0 HBX
      go_wp2
      go_roundw
      case rel => exact ⟨q + 1, by omega, by go_num, HBE.out⟩
      case measure => simp [intOf]; omega
    · obtain rfl : q = N := by omega
      have HC1 := hid (show wr.cell? ⟨b2, 1, none⟩ = some (.bool s.alt) ∧ wr.cell? ⟨b2, 5, none⟩ = some (.int .i64 s.cu) from ⟨(HRR.out.below HB.out).h1, (HRR.out.below HB.out).h5⟩)
      have hlb := (HRR.out.below HB.out).lt.1
      go_wp2_with fail
      refine wp_region_held_drew (S := fun V => V.cell? ⟨b2, 1, none⟩ = some (.bool s.alt) ∧ V.cell? ⟨b2, 5, none⟩ = some (.int .i64 s.cu) ∧ Below wr.heap.size wr V) (by kernel_rfl) ?_ (fun hHeld => ?_)
      · have hdr : Below wr.heap.size wr wr.drew := (Below.refl _ _).drew
        exact ⟨keepc hdr HC1.out.1, keepc hdr HC1.out.2, hdr⟩
      refine takeD (i := 0) (v := ?_) 23 rfl rfl (by kernel_rfl) (by kernel_rfl) (by kernel_rfl) (fun _ _ _ h => h) (by assumption) (Or.inl ⟨by rfl, ?_⟩) ?_
      rotate_left
      · intro w hSw
        (try dsimp only at hSw)
        go_simp
        try with_reducible rfl
      simp only [List.setIfInBounds_toArray, List.set_cons_zero, List.set_cons_succ]
      refine takeD (i := 2) (v := ?_) 25 rfl rfl (by kernel_rfl) (by kernel_rfl) (by kernel_rfl) (fun _ _ _ h => h) (by assumption) (Or.inl ⟨by rfl, ?_⟩) ?_
      rotate_left
      · intro w hSw
        (try dsimp only at hSw)
        go_simp
        try with_reducible rfl
      simp only [List.setIfInBounds_toArray, List.set_cons_zero, List.set_cons_succ]
      refine takeD (i := 3) (v := ?_) 26 rfl rfl (by kernel_rfl) (by kernel_rfl) (by kernel_rfl) (fun _ _ _ h => h) (by assumption) (Or.inl ⟨by rfl, ?_⟩) ?_
      rotate_left
      · intro w hSw
        (try dsimp only at hSw)
        go_simp
        try with_reducible rfl
      simp only [List.setIfInBounds_toArray, List.set_cons_zero, List.set_cons_succ]
      refine takeD (i := 4) (v := ?_) 27 rfl rfl (by kernel_rfl) (by kernel_rfl) (by kernel_rfl) (fun _ _ _ h => h) (by assumption) (Or.inl ⟨by rfl, ?_⟩) ?_
      rotate_left
      · intro w hSw
        (try dsimp only at hSw)
        go_simp
        try with_reducible rfl
      simp only [List.setIfInBounds_toArray, List.set_cons_zero, List.set_cons_succ]
      refine takeD (i := 5) (v := ?_) 28 rfl rfl (by kernel_rfl) (by kernel_rfl) (by kernel_rfl) (fun _ _ _ h => h) (by assumption) (Or.inl ⟨by rfl, ?_⟩) ?_
      rotate_left
      · intro w hSw
        (try dsimp only at hSw)
        go_simp
        try with_reducible rfl
      simp only [List.setIfInBounds_toArray, List.set_cons_zero, List.set_cons_succ]
      refine wpAnyH_ready (rs := [1]) (by kernel_rfl) (by simp) ?_
      refine AllReadyH.cons (by simp only [List.getElem?_toArray, List.getElem?_cons_succ, List.getElem?_cons_zero]; rfl) (fun K hK => ?_) AllReadyH.nil
      go_simp
      go_at_call 17; (with_reducible refine (HCU.out _ (HS.out.below (below_t HB.out hHeld.2.2))).mono ?_); rintro e w7 ⟨rfl, hb7⟩
      refine hK.out _ _ ?_ (fun hHeldN => ?_)
      · exact ⟨keepc hb7 hHeld.1, keepc hb7 hHeld.2.1, below_t hHeld.2.2 hb7⟩
      clear hK K hHeld
      have hHeld := hHeldN
      clear hHeldN
      (try simp only [Act.put, List.setIfInBounds_toArray, List.set_cons_zero, List.set_cons_succ])
      refine takeD (i := 6) (v := ?_) 29 rfl rfl (by kernel_rfl) (by kernel_rfl) (by kernel_rfl) (fun _ _ _ h => h) (by assumption) (Or.inl ⟨by rfl, ?_⟩) ?_
      rotate_left
      · intro w hSw
        (try dsimp only at hSw)
        go_simp
        try with_reducible rfl
      simp only [List.setIfInBounds_toArray, List.set_cons_zero, List.set_cons_succ]
      refine takeD (i := 7) (v := ?_) 30 rfl rfl (by kernel_rfl) (by kernel_rfl) (by kernel_rfl) (fun _ _ _ h => h) (by assumption) (Or.inl ⟨by rfl, ?_⟩) ?_
      rotate_left
      · intro w hSw
        (try dsimp only at hSw)
        go_simp
        try with_reducible rfl
      simp only [List.setIfInBounds_toArray, List.set_cons_zero, List.set_cons_succ]
      refine takeD (i := 8) (v := ?_) 31 rfl rfl (by kernel_rfl) (by kernel_rfl) (by kernel_rfl) (fun _ _ _ h => h) (by assumption) (Or.inl ⟨by rfl, ?_⟩) ?_
      rotate_left
      · intro w hSw
        (try dsimp only at hSw)
        go_simp
        try with_reducible rfl
      simp only [List.setIfInBounds_toArray, List.set_cons_zero, List.set_cons_succ]
      refine takeD (i := 10) (v := ?_) 33 rfl rfl (by kernel_rfl) (by kernel_rfl) (by kernel_rfl) (fun _ _ _ h => h) (by assumption) (Or.inl ⟨by rfl, ?_⟩) ?_
      rotate_left
      · intro w hSw
        (try dsimp only at hSw)
        go_simp
        try with_reducible rfl
      simp only [List.setIfInBounds_toArray, List.set_cons_zero, List.set_cons_succ]
      refine takeD (i := 11) (v := ?_) 34 rfl rfl (by kernel_rfl) (by kernel_rfl) (by kernel_rfl) (fun _ _ _ h => h) (by assumption) (Or.inl ⟨by rfl, ?_⟩) ?_
      rotate_left
      · intro w hSw
        (try dsimp only at hSw)
        go_simp
        try with_reducible rfl
      simp only [List.setIfInBounds_toArray, List.set_cons_zero, List.set_cons_succ]
      refine takeD (i := 12) (v := ?_) 35 rfl rfl (by kernel_rfl) (by kernel_rfl) (by kernel_rfl) (fun _ _ _ h => h) (by assumption) (Or.inl ⟨by rfl, ?_⟩) ?_
      rotate_left
      · intro w hSw
        (try dsimp only at hSw)
        go_simp
        try with_reducible rfl
      simp only [List.setIfInBounds_toArray, List.set_cons_zero, List.set_cons_succ]
      refine takeD (i := 13) (v := ?_) 36 rfl rfl (by kernel_rfl) (by kernel_rfl) (by kernel_rfl) (fun _ _ _ h => h) (by assumption) (Or.inl ⟨by rfl, ?_⟩) ?_
      rotate_left
      · intro w hSw
        (try dsimp only at hSw)
        go_simp
        try with_reducible rfl
      simp only [List.setIfInBounds_toArray, List.set_cons_zero, List.set_cons_succ]
      refine wpAnyH_ready (rs := [9]) (by kernel_rfl) (by simp) ?_
      refine AllReadyH.cons (by simp only [List.getElem?_toArray, List.getElem?_cons_succ, List.getElem?_cons_zero]; rfl) (fun K hK => ?_) AllReadyH.nil
      go_simp
      go_at_call 26; (with_reducible refine (HAL.out _ (HS.out.below (below_t HB.out hHeld.2.2))).mono ?_); rintro e w8 ⟨rfl, hb8⟩
      refine hK.out _ _ ?_ (fun hHeldN => ?_)
      · exact ⟨keepc hb8 hHeld.1, keepc hb8 hHeld.2.1, below_t hHeld.2.2 hb8⟩
      clear hK K hHeld
      have hHeld := hHeldN
      clear hHeldN
      (try simp only [Act.put, List.setIfInBounds_toArray, List.set_cons_zero, List.set_cons_succ])
      refine takeD (i := 14) (v := ?_) 37 rfl rfl (by kernel_rfl) (by kernel_rfl) (by kernel_rfl) (fun _ _ _ h => h) (by assumption) (Or.inl ⟨by rfl, ?_⟩) ?_
      rotate_left
      · intro w hSw
        (try dsimp only at hSw)
        go_simp
        try with_reducible rfl
      simp only [List.setIfInBounds_toArray, List.set_cons_zero, List.set_cons_succ]
      refine takeD (i := 15) (v := ?_) 38 rfl rfl (by kernel_rfl) (by kernel_rfl) (by kernel_rfl) (fun _ _ _ h => h) (by assumption) (Or.inl ⟨by rfl, ?_⟩) ?_
      rotate_left
      · intro w hSw
        (try dsimp only at hSw)
        go_simp
        try with_reducible rfl
      simp only [List.setIfInBounds_toArray, List.set_cons_zero, List.set_cons_succ]
      refine takeD (i := 16) (v := ?_) 4 rfl rfl (by kernel_rfl) (by kernel_rfl) (by kernel_rfl) (fun _ _ _ h => h) (by assumption) (Or.inl ⟨by rfl, ?_⟩) ?_
      rotate_left
      · intro w hSw
        (try dsimp only at hSw)
        go_simp
        try with_reducible rfl
      simp only [List.setIfInBounds_toArray, List.set_cons_zero, List.set_cons_succ]
      refine wpAnyH_done (by kernel_rfl) ?_ _
      have HE := hid hHeld
      clear hHeld
      have HBE := hid (below_t HB.out HE.out.2.2)
      clear HE
      go_wp2
      go_ret
      exact ⟨rfl, HBE.out⟩
end Go.Proofs.Ytdaainifnbbhiaa
