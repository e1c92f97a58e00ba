/-
  SpacePlays: the law's own walk.
-/
import Derived.Test.YtdaainifnbbhiaaYp
namespace Go.Proofs.Ytdaainifnbbhiaa
open Go.RowKit Go.Lib Go.Deep

/-- What a round begins with: two that are alike, made here. -/
structure Pair (w W : World) (b1 b2 : Nat) (g1 g2 : Nat) (s : Spc) : Prop where
  two : Two W b1 g1 b2 g2 s
  bel : Below w.heap.size w W
  lb : ∀ k ∈ [b1, g1, b2, g2], w.heap.size ≤ k
theorem Pair.below {w A C : World} {b1 b2 g1 g2 : Nat} {s : Spc} (h : Pair w A b1 b2 g1 g2 s) (hb : Below A.heap.size A C) : Pair w C b1 b2 g1 g2 s := ⟨h.two.below hb, below_t h.bel hb, h.lb⟩
theorem Pair.step {w A C : World} {b1 b2 g1 g2 g1' g2' : Nat} {s s' : Spc} (h : Pair w A b1 b2 g1 g2 s) (ht : Two C b1 g1' b2 g2' s') (m : Moved A C [b1, g1, b2, g2] [b1, g1', b2, g2']) : Pair w C b1 b2 g1' g2' s' :=
  ⟨ht, h.bel.trans (m.toBelow h.bel.size h.lb), fun k hk => by
    rcases m.from' k hk with q | q
    · exact h.lb k q
    · exact Nat.le_trans h.bel.size q⟩
theorem Pair.lt {w W : World} {b1 b2 g1 g2 : Nat} {s : Spc} (h : Pair w W b1 b2 g1 g2 s) : ∀ k ∈ [b1, g1, b2, g2], k < W.heap.size := fun k hk => by
  have h1 := h.two.sp.lt
  have h2 := h.two.rf.lt
  simp at hk
  omega
set_option maxRecDepth 100000 in
set_option maxHeartbeats 8000000 in
theorem plays_any (m : Nat) (hm : m < 256) (v : Value) (ac : List ActD) (nz : Int) (hnz : I64 nz) (w : World) (hx : ActsIn w.heap.size w v ac) : Calls Try.prog 3 #[.int .u8 m, v, .int .i64 nz] w fun e w' => e = .returned (.bool true) ∧ Below w.heap.size w w' := by
  have HW := hid (awake12 w)
  obtain ⟨m4, hm4⟩ : ∃ m4 : Nat, m4 = m % 4 := ⟨_, rfl⟩
  have hm0 : (0 : Int) ≤ (m : Int) := by omega
  have hmt : (m : Int).tmod 4 = m4 := by rw [Int.tmod_eq_emod_of_nonneg (by omega)]; omega
  have hm5 : m4 < 4 := by omega
  have HNW := hid (fun W => new_yes (2 + (m4 : Int)) (by omega) (by omega) W)
  have HRN := hid (fun W => rnew_yes (2 + (m4 : Int)) (by omega) (by omega) W)
  obtain ⟨x, cp, rfl⟩ := hx.sl
  have HX := hid hx
  obtain ⟨M, hM⟩ : ∃ M, M = ac.length := ⟨_, rfl⟩
  have HM := hid hM
  have hML : M ≤ 9223372036854775807 := by rw [hM]; exact hx.len
  have HSA := hid (fun b1 g1 b2 g2 s W h hr => same12 b1 g1 b2 g2 s W h hr)
  have HAT := hid (fun b g s n hn W h => at_any (b := b) (g := g) (s := s) n hn W h)
  have HRT := hid (fun b g s n hn W h => rat_any (b := b) (g := g) (s := s) n hn W h)
  have HCU := hid (fun b g s W h => cursor_any (b := b) (g := g) (s := s) W h)
  have HNZ := hid hnz
  rw [← hM]
  clear hx hM hnz hm4
  go_enter Try.func3, Try.ntmps3
  go_wp2_with fail
  with_reducible refine HW.out.mono ?_
  rintro e w1 ⟨rfl, hb1⟩
  have HB1 := hid hb1
  clear hb1
  go_wp2_with fail
  with_reducible refine (HNW.out _).mono ?_
  rintro e w2 ⟨b1, g1, rfl, hb, hg, hs, h2⟩
  have HS2 := hid hs
  have HB2 := hid (below_t HB1.out h2)
  have HLB := hid (show w.heap.size ≤ b1 ∧ w.heap.size ≤ g1 from ⟨Nat.le_trans HB1.out.size hb, Nat.le_trans HB1.out.size hg⟩)
  clear hs h2 hb hg
  go_wp2_with fail
  with_reducible refine (HRN.out _).mono ?_
  rintro e w3 ⟨b2, g2, rfl, hb, hg, hs, h3⟩
  have HP := hid (show Pair w w3 b1 b2 g1 g2 (clearS (2 + (m4 : Int)) false) from ⟨⟨HS2.out.below h3, hs, fun k hk q => by
      have := HS2.out.lt
      simp at hk q
      omega⟩, below_t HB2.out h3, fun k hk => by
      have := HLB.out
      have := HB2.out.size
      simp at hk
      omega⟩)
  clear hs h3 hb hg HLB HS2 HB2
  have hlt := HP.out.lt b1 (by simp)
  go_wp2_with fail
  go_loopw [30] (fun i W => ∃ q : Nat, q ≤ M ∧ i = .int .i64 q ∧ ∃ (g1 g2 : Nat) (s : Spc), Hid (Pair w W b1 b2 g1 g2 s)) (fun i _ => M - (intOf i).toNat)
  case atStart => exact ⟨0, by omega, rfl, g1, g2, _, HP.out⟩
  case round =>
    clear HP
    obtain ⟨q, hq, rfl, g1, g2, s, HP⟩ := hrel
    by_cases hqM : q < M
    · have hqi : (q : Int) < M := by omega
      have HBR := hid HP.out.bel
      obtain ⟨g3, o3, rfl, hg3, hcell⟩ := (HX.out.below HBR.out).at_ x cp rfl q (by rw [← HM.out]; exact hqM)
      have hfit := (HX.out.below HBR.out).fit q (by rw [← HM.out]; exact hqM)
      generalize ac.getD q act0 = a at hcell hfit
      obtain ⟨k, nn, on, code, c, tx, xs⟩ := a
      have htx := hfit.tx.sl
      dsimp only at htx
      obtain ⟨tp, tc, rfl⟩ := htx
      obtain ⟨x0, x1, x2, x3, x4, x5⟩ := c
      have HF := hid hfit
      have HXL := hid (show (ActD.mk k nn on code ⟨x0, x1, x2, x3, x4, x5⟩ (.slice tp xs.length tc) xs).Fit w.heap.size wr from hfit)
      (try dsimp only at hcell)
      have u0 : wr.cell? ⟨g3, o3 + q * 11, none⟩ = some (.int .u8 k) := hcell 0 (by omega)
      have u1 : wr.cell? ⟨g3, o3 + q * 11 + 1, none⟩ = some (.int .i64 nn) := hcell 1 (by omega)
      have u2 : wr.cell? ⟨g3, o3 + q * 11 + 2, none⟩ = some (.bool on) := hcell 2 (by omega)
      have u3 : wr.cell? ⟨g3, o3 + q * 11 + 3, none⟩ = some (.int .u8 code) := hcell 3 (by omega)
      have u4 : wr.cell? ⟨g3, o3 + q * 11 + 4, none⟩ = some (.int .u8 x0) := hcell 4 (by omega)
      have u5 : wr.cell? ⟨g3, o3 + q * 11 + 5, none⟩ = some (.bool x1) := hcell 5 (by omega)
      have u6 : wr.cell? ⟨g3, o3 + q * 11 + 6, none⟩ = some (.int .u8 x2) := hcell 6 (by omega)
      have u7 : wr.cell? ⟨g3, o3 + q * 11 + 7, none⟩ = some (.int .u8 x3) := hcell 7 (by omega)
      have u8 : wr.cell? ⟨g3, o3 + q * 11 + 8, none⟩ = some (.int .u8 x4) := hcell 8 (by omega)
      have u9 : wr.cell? ⟨g3, o3 + q * 11 + 9, none⟩ = some (.int .u8 x5) := hcell 9 (by omega)
      have u10 : wr.cell? ⟨g3, o3 + q * 11 + 10, none⟩ = some (.slice tp xs.length tc) := hcell 10 (by omega)
      have hgl3 := World.block_lt_of_cell? wr _ u0
      clear hcell hfit
      obtain ⟨W0, hW0⟩ : ∃ W0, wr.alloc (.cells #[.int .u8 k, .int .i64 nn, .bool on, .int .u8 code, .int .u8 x0, .bool x1, .int .u8 x2, .int .u8 x3, .int .u8 x4, .int .u8 x5, .slice tp xs.length tc] 34) = W0 := ⟨_, rfl⟩
      have hb0 : Below wr.heap.size wr W0 := by rw [← hW0]; exact bal (Below.refl _ _) _
      have HPW := hid (HP.out.below hb0)
      have HFW := hid (HXL.out.below (hb0.mono HBR.out.size))
      have hn0 : W0.cell? ⟨wr.heap.size, 1, none⟩ = some (.int .i64 nn) := by rw [← hW0]; simp [go_sem]
      have hnl : ∀ k ∈ [b1, g1, b2, g2], k < wr.heap.size := HP.out.lt
      have HW0 := hid hW0
      have HNL := hid hnl
      have HN0 := hid hn0
      clear hb0 hW0 hnl hn0
      by_cases h40 : 40 ≤ q
      · have h4i : (40 : Int) ≤ q := by omega
        clear HP
        have HP := HPW
        clear HPW
        go_wp2_with fail
        rw [HW0.out]
        go_wp2_with fail
        with_reducible refine (HSA.out b1 g1 b2 g2 s _ HP.out.two.sp HP.out.two.rf).mono ?_
        rintro e wa ⟨rfl, hba⟩
        have HPA := hid (HP.out.below hba)
        clear hba HP
        go_wp2_with fail
        with_reducible refine (HAT.out b1 g1 s nz HNZ.out _ HPA.out.two.sp).mono ?_
        rintro e wb ⟨rfl, hbb⟩
        have HPB := hid (HPA.out.below hbb)
        clear hbb HPA
        go_wp2_with fail
        with_reducible refine (HRT.out b2 g2 s nz HNZ.out _ HPB.out.two.rf).mono ?_
        rintro e wc ⟨rfl, hbc⟩
        have HBC := hid (below_t HPB.out.bel hbc)
        clear hbc HPB
        go_wp2
        go_ret
        exact ⟨rfl, HBC.out⟩
      · have h4i : ¬ (40 : Int) ≤ q := by omega
        have HNN := hid (show I64 nn from HXL.out.n)
        have HDO := hid (show ∀ W, (ActD.mk k nn on code ⟨x0, x1, x2, x3, x4, x5⟩ (.slice tp xs.length tc) xs).Fit w.heap.size W → Two W b1 g1 b2 g2 s → Calls Try.prog 14 #[.pointer (some ⟨b1, 0, none⟩), .pointer (some ⟨b2, 0, none⟩), .agg #[.int .u8 k, .int .i64 nn, .bool on, .int .u8 code, .int .u8 x0, .bool x1, .int .u8 x2, .int .u8 x3, .int .u8 x4, .int .u8 x5, .slice tp xs.length tc]] W (TwoD b1 g1 b2 g2 (doS s (ActD.mk k nn on code ⟨x0, x1, x2, x3, x4, x5⟩ (.slice tp xs.length tc) xs)) W) from fun W ha h => do_any _ W ha h HP.out.lb)
        generalize doS s (ActD.mk k nn on code ⟨x0, x1, x2, x3, x4, x5⟩ (.slice tp xs.length tc) xs) = s2 at HDO
        go_wp2_with fail
        rw [HW0.out]
        with_reducible refine (HDO.out _ HFW.out HPW.out.two).mono ?_
        rintro e w5 ⟨⟨v5, rfl⟩, g1', g2', ht, hm⟩
        have HP2 := hid (HPW.out.step ht hm)
        have HNB := hid (cell_moved hm HN0.out (fun q => Nat.lt_irrefl _ (HNL.out _ q)))
        clear ht hm HPW HP HDO HN0
        go_wp2_with fail
        refine wp_region_held_drew (S := fun V => V.cell? ⟨wr.heap.size, 1, none⟩ = some (.int .i64 nn) ∧ V.cell? ⟨b2, 5, none⟩ = some (.int .i64 s2.cu) ∧ Below w5.heap.size w5 V) (by kernel_rfl) ?_ (fun hHeld => ?_)
        · have hdr : Below w5.heap.size w5 w5.drew := (Below.refl _ _).drew
          exact ⟨keepc hdr HNB.out, keepc hdr HP2.out.two.rf.hd.h5, hdr⟩
        refine takeD (i := 0) (v := ?_) 41 rfl rfl (by kernel_rfl) (by kernel_rfl) (by kernel_rfl) (fun _ _ _ h => h) (by assumption) (Or.inl ⟨by rfl, ?_⟩) ?_
        rotate_left
        · intro w hSw
          (try dsimp only at hSw)
          go_simp
          try with_reducible rfl
        simp only [List.setIfInBounds_toArray, List.set_cons_zero, List.set_cons_succ]
        refine takeD (i := 1) (v := ?_) 42 rfl rfl (by kernel_rfl) (by kernel_rfl) (by kernel_rfl) (fun _ _ _ h => h) (by assumption) (Or.inl ⟨by rfl, ?_⟩) ?_
        rotate_left
        · intro w hSw
          (try dsimp only at hSw)
          go_simp
          try with_reducible rfl
        simp only [List.setIfInBounds_toArray, List.set_cons_zero, List.set_cons_succ]
        refine takeD (i := 2) (v := ?_) 43 rfl rfl (by kernel_rfl) (by kernel_rfl) (by kernel_rfl) (fun _ _ _ h => h) (by assumption) (Or.inl ⟨by rfl, ?_⟩) ?_
        rotate_left
        · intro w hSw
          (try dsimp only at hSw)
          go_simp
          try with_reducible rfl
        simp only [List.setIfInBounds_toArray, List.set_cons_zero, List.set_cons_succ]
        refine takeD (i := 4) (v := ?_) 45 rfl rfl (by kernel_rfl) (by kernel_rfl) (by kernel_rfl) (fun _ _ _ h => h) (by assumption) (Or.inl ⟨by rfl, ?_⟩) ?_
        rotate_left
        · intro w hSw
          (try dsimp only at hSw)
          go_simp
          try with_reducible rfl
        simp only [List.setIfInBounds_toArray, List.set_cons_zero, List.set_cons_succ]
        refine takeD (i := 5) (v := ?_) 46 rfl rfl (by kernel_rfl) (by kernel_rfl) (by kernel_rfl) (fun _ _ _ h => h) (by assumption) (Or.inl ⟨by rfl, ?_⟩) ?_
        rotate_left
        · intro w hSw
          (try dsimp only at hSw)
          go_simp
          try with_reducible rfl
        simp only [List.setIfInBounds_toArray, List.set_cons_zero, List.set_cons_succ]
        refine takeD (i := 6) (v := ?_) 47 rfl rfl (by kernel_rfl) (by kernel_rfl) (by kernel_rfl) (fun _ _ _ h => h) (by assumption) (Or.inl ⟨by rfl, ?_⟩) ?_
        rotate_left
        · intro w hSw
          (try dsimp only at hSw)
          go_simp
          try with_reducible rfl
        simp only [List.setIfInBounds_toArray, List.set_cons_zero, List.set_cons_succ]
        refine wpAnyH_ready (rs := [3]) (by kernel_rfl) (by simp) ?_
        refine AllReadyH.cons (by simp only [List.getElem?_toArray, List.getElem?_cons_succ, List.getElem?_cons_zero]; rfl) (fun K hK => ?_) AllReadyH.nil
        go_simp
        go_at_call 15; (with_reducible refine (HAT.out b1 g1' s2 nn HNN.out _ (HP2.out.two.sp.below hHeld.2.2)).mono ?_); rintro e w6 ⟨rfl, hb6⟩
        refine hK.out _ _ ?_ (fun hHeldN => ?_)
        · exact ⟨keepc hb6 hHeld.1, keepc hb6 hHeld.2.1, below_t hHeld.2.2 hb6⟩
        clear hK K hHeld
        have hHeld := hHeldN
        clear hHeldN
        (try simp only [Act.put, List.setIfInBounds_toArray, List.set_cons_zero, List.set_cons_succ])
        refine wpAnyH_ready (rs := [7]) (by kernel_rfl) (by simp) ?_
        refine AllReadyH.cons (by simp only [List.getElem?_toArray, List.getElem?_cons_succ, List.getElem?_cons_zero]; rfl) (fun K hK => ?_) AllReadyH.nil
        go_simp
        go_at_call 16; (with_reducible refine (HRT.out b2 g2' s2 nn HNN.out _ (HP2.out.two.rf.below hHeld.2.2)).mono ?_); rintro e w7 ⟨rfl, hb7⟩
        refine hK.out _ _ ?_ (fun hHeldN => ?_)
        · exact ⟨keepc hb7 hHeld.1, keepc hb7 hHeld.2.1, below_t hHeld.2.2 hb7⟩
        clear hK K hHeld
        have hHeld := hHeldN
        clear hHeldN
        (try simp only [Act.put, List.setIfInBounds_toArray, List.set_cons_zero, List.set_cons_succ])
        refine takeD (i := 8) (v := ?_) 49 rfl rfl (by kernel_rfl) (by kernel_rfl) (by kernel_rfl) (fun _ _ _ h => h) (by assumption) (Or.inl ⟨by rfl, ?_⟩) ?_
        rotate_left
        · intro w hSw
          (try dsimp only at hSw)
          go_simp
          try with_reducible rfl
        simp only [List.setIfInBounds_toArray, List.set_cons_zero, List.set_cons_succ]
        refine takeD (i := 9) (v := ?_) 50 rfl rfl (by kernel_rfl) (by kernel_rfl) (by kernel_rfl) (fun _ _ _ h => h) (by assumption) (Or.inl ⟨by rfl, ?_⟩) ?_
        rotate_left
        · intro w hSw
          (try dsimp only at hSw)
          go_simp
          try with_reducible rfl
        simp only [List.setIfInBounds_toArray, List.set_cons_zero, List.set_cons_succ]
        refine takeD (i := 10) (v := ?_) 51 rfl rfl (by kernel_rfl) (by kernel_rfl) (by kernel_rfl) (fun _ _ _ h => h) (by assumption) (Or.inl ⟨by rfl, ?_⟩) ?_
        rotate_left
        · intro w hSw
          (try dsimp only at hSw)
          go_simp
          try with_reducible rfl
        simp only [List.setIfInBounds_toArray, List.set_cons_zero, List.set_cons_succ]
        refine takeD (i := 12) (v := ?_) 53 rfl rfl (by kernel_rfl) (by kernel_rfl) (by kernel_rfl) (fun _ _ _ h => h) (by assumption) (Or.inl ⟨by rfl, ?_⟩) ?_
        rotate_left
        · intro w hSw
          (try dsimp only at hSw)
          go_simp
          try with_reducible rfl
        simp only [List.setIfInBounds_toArray, List.set_cons_zero, List.set_cons_succ]
        refine takeD (i := 13) (v := ?_) 54 rfl rfl (by kernel_rfl) (by kernel_rfl) (by kernel_rfl) (fun _ _ _ h => h) (by assumption) (Or.inl ⟨by rfl, ?_⟩) ?_
        rotate_left
        · intro w hSw
          (try dsimp only at hSw)
          go_simp
          try with_reducible rfl
        simp only [List.setIfInBounds_toArray, List.set_cons_zero, List.set_cons_succ]
        refine takeD (i := 14) (v := ?_) 55 rfl rfl (by kernel_rfl) (by kernel_rfl) (by kernel_rfl) (fun _ _ _ h => h) (by assumption) (Or.inl ⟨by rfl, ?_⟩) ?_
        rotate_left
        · intro w hSw
          (try dsimp only at hSw)
          go_simp
          try with_reducible rfl
        simp only [List.setIfInBounds_toArray, List.set_cons_zero, List.set_cons_succ]
        refine takeD (i := 15) (v := ?_) 56 rfl rfl (by kernel_rfl) (by kernel_rfl) (by kernel_rfl) (fun _ _ _ h => h) (by assumption) (Or.inl ⟨by rfl, ?_⟩) ?_
        rotate_left
        · intro w hSw
          (try dsimp only at hSw)
          go_simp
          try with_reducible rfl
        simp only [List.setIfInBounds_toArray, List.set_cons_zero, List.set_cons_succ]
        refine wpAnyH_ready (rs := [11]) (by kernel_rfl) (by simp) ?_
        refine AllReadyH.cons (by simp only [List.getElem?_toArray, List.getElem?_cons_succ, List.getElem?_cons_zero]; rfl) (fun K hK => ?_) AllReadyH.nil
        go_simp
        go_at_call 17; (with_reducible refine (HCU.out b1 g1' s2 _ (HP2.out.two.sp.below hHeld.2.2)).mono ?_); rintro e w8 ⟨rfl, hb8⟩
        refine hK.out _ _ ?_ (fun hHeldN => ?_)
        · exact ⟨keepc hb8 hHeld.1, keepc hb8 hHeld.2.1, below_t hHeld.2.2 hb8⟩
        clear hK K hHeld
        have hHeld := hHeldN
        clear hHeldN
        (try simp only [Act.put, List.setIfInBounds_toArray, List.set_cons_zero, List.set_cons_succ])
        refine takeD (i := 16) (v := ?_) 57 rfl rfl (by kernel_rfl) (by kernel_rfl) (by kernel_rfl) (fun _ _ _ h => h) (by assumption) (Or.inl ⟨by rfl, ?_⟩) ?_
        rotate_left
        · intro w hSw
          (try dsimp only at hSw)
          go_simp
          try with_reducible rfl
        simp only [List.setIfInBounds_toArray, List.set_cons_zero, List.set_cons_succ]
        refine takeD (i := 17) (v := ?_) 58 rfl rfl (by kernel_rfl) (by kernel_rfl) (by kernel_rfl) (fun _ _ _ h => h) (by assumption) (Or.inl ⟨by rfl, ?_⟩) ?_
        rotate_left
        · intro w hSw
          (try dsimp only at hSw)
          go_simp
          try with_reducible rfl
        simp only [List.setIfInBounds_toArray, List.set_cons_zero, List.set_cons_succ]
        refine wpAnyH_done (by kernel_rfl) ?_ _
        have HE := hid hHeld
        clear hHeld
        have HPE := hid (HP2.out.below HE.out.2.2)
        clear HP2 HE HNB
        go_wp2
        go_roundw
        case rel => exact ⟨q + 1, by omega, by go_num, g1', g2', s2, HPE.out⟩
        case measure => simp [intOf]; omega
    · obtain rfl : q = M := by omega
      go_wp2_with fail
      with_reducible refine (HSA.out b1 g1 b2 g2 s _ HP.out.two.sp HP.out.two.rf).mono ?_
      rintro e wa ⟨rfl, hba⟩
      have HPA := hid (HP.out.below hba)
      clear hba HP
      go_wp2_with fail
      with_reducible refine (HAT.out b1 g1 s nz HNZ.out _ HPA.out.two.sp).mono ?_
      rintro e wb ⟨rfl, hbb⟩
      have HPB := hid (HPA.out.below hbb)
      clear hbb HPA
      go_wp2_with fail
      with_reducible refine (HRT.out b2 g2 s nz HNZ.out _ HPB.out.two.rf).mono ?_
      rintro e wc ⟨rfl, hbc⟩
      have HBC := hid (below_t HPB.out.bel hbc)
      clear hbc HPB
      go_wp2
      go_ret
      exact ⟨rfl, HBC.out⟩
end Go.Proofs.Ytdaainifnbbhiaa
