/-
  CursorTabs: the law's own walk.
-/
import Derived.Test.YtpehhinpohmpiaaCn
namespace Go.Proofs.Ytpehhinpohmpiaa
open Go.RowKit Go.Lib Go.Deep

theorem tmod_bd (n : Int) {m : Int} (hm : 1 ≤ m) : -m < n.tmod m ∧ n.tmod m < m := by
  have := Int.emod_nonneg n (by omega : m ≠ 0)
  have := Int.emod_lt_of_pos n (by omega : 0 < m)
  rw [Int.tmod_eq_emod]
  constructor <;> split <;> omega
section
variable {P : Program} {ops : Array Oper} {Q : Exit → Act → World → Prop} {md : Region.Mode} {S : World → Prop}
end
set_option maxRecDepth 100000 in
set_option maxHeartbeats 8000000 in
theorem ctabs_any (m : Nat) (hm : m < 256) (v : Value) (ac : List ActD) (fz : Int) (hfz : I64 fz) (st : Nat) (hst : st < 256) (w : World) (hx : ActsIn w.heap.size w v ac) : Calls Try.prog 10 #[.int .u8 m, v, .int .i64 fz, .int .u8 st] w fun e w' => e = .returned (.bool true) ∧ Below w.heap.size w w' := by
  have HW := hid (awake15 w)
  have HLY := hid (fun W (hb : Below w.heap.size w W) => lay15_any m hm v ac w.heap.size W hb.size (hx.below hb))
  obtain ⟨x, cp, rfl⟩ := hx.sl
  obtain ⟨K, hK⟩ : ∃ K : Nat, K = 1 + st % 5 := ⟨_, rfl⟩
  have hst0 : (0 : Int) ≤ (st : Int) := by omega
  have hst1 : (st : Int) < 256 := by omega
  have hstm : (st : Int).tmod 5 = ((K - 1 : Nat) : Int) := by rw [Int.tmod_eq_emod_of_nonneg (by omega)]; omega
  have hK1 : 1 ≤ K ∧ K ≤ 5 := by omega
  have hKa : 1 + ((K - 1 : Nat) : Int) = (K : Int) := by omega
  have HFZ := hid hfz
  generalize runS (clearS (2 + ((m % 4 : Nat) : Int)) false) ac ac.length = s at HLY
  clear hx hm hfz hK hst
  go_enter Try.func10, Try.ntmps10
  go_wp2_with fail
  with_reducible refine HW.out.mono ?_
  rintro e w1 ⟨rfl, hb1⟩
  have HB1 := hid hb1
  clear hb1
  go_wp2_with fail
  with_reducible refine (HLY.out _ HB1.out).mono ?_
  rintro e w2 ⟨b1, g1, b2, g2, rfl, hd, -⟩
  have HD := hid (show SpM w2 b1 g1 s ∧ RfM w2 b2 g2 s ∧ Below w.heap.size w w2 ∧ (∀ k ∈ [b1, g1], k ∉ [b2, g2]) ∧ w.heap.size ≤ b1 ∧ w.heap.size ≤ g1 from ⟨hd.sp, hd.rf, below_t HB1.out hd.bel, hd.ap, Nat.le_trans HB1.out.size (hd.lb b1 (by simp)), Nat.le_trans HB1.out.size (hd.lb g1 (by simp))⟩)
  have hok := hd.sp.ok
  have hNp := hok.pos
  have hLN := tabL_len s
  obtain ⟨L, hL⟩ : ∃ L, (tabL s).length = L := ⟨_, rfl⟩
  have HL := hid hL
  have hL4 : L ≤ 3564 := by omega
  obtain ⟨ys, hys⟩ : ∃ ys, (tabL s).map Int.ofNat = ys := ⟨_, rfl⟩
  have HYS := hid (show ys.length = L by rw [← hys, List.length_map]; exact hL)
  have HYE := hid hys
  have HCO := hid (fun bx W h hb => collectT_any b1 g1 s bx W h hb)
  have HRT := hid (fun W h => rtabs_any (b := b2) (g := g2) (s := s) W h)
  rw [hys] at HCO HRT
  rw [hL] at HRT
  have HEQ := hid (fun u v W (hu : W.ownsRow 0 3 1 u L (intsV ys)) (hv : W.ownsRow 0 3 1 v L (intsV ys)) => equalI_any u v ys W (by rw [HYS.out]; exact hu) (by rw [HYS.out]; exact hv) (by rw [HYS.out]; omega))
  have HIX := hid (fun W h => callsIn_wide.1 (index_in 8 (by omega) b1 g1 s W h))
  have HSI := hid (fun v W (hv : W.ownsRow 0 3 1 v L (intsV ys)) => sindex_any v (tabL s) s.cu W (by rw [hL, hys]; exact hv) (by omega))
  have HCU := hid (fun W (h : RfM W b2 g2 s) => h.h5)
  generalize idxZ (tabL s) s.cu = ix at HIX HSI
  clear hd HB1 hys hL hLN hNp hok
  go_wp2_with fail
  with_reducible refine (tabsIt (some ⟨b1, 0, none⟩) _).mono ?_
  rintro e w3 ⟨bx, rfl, hbx, hcx, hb3⟩
  have HC3 := hid hcx
  have HB3 := hid hb3
  clear hbx hcx hb3
  go_wp2_with fail
  with_reducible refine (HCO.out bx _ (HD.out.1.below HB3.out) HC3.out).mono ?_
  rintro e w4 ⟨vl, rfl, hol, hkl, hb4⟩
  rw [HYS.out] at hol
  have HOL := hid hol
  have HKL := hid hkl
  have HB4 := hid (below_t HB3.out hb4)
  have hz4 := hb4.size
  clear hkl hb4 HCO
  go_wp2_with fail
  with_reducible refine (HRT.out _ (HD.out.2.1.below HB4.out)).mono ?_
  rintro e w5 ⟨vw, rfl, how, hkw, hb5⟩
  have HOW := hid how
  have HOL5 := hid (own_below hol hb5)
  have HB5 := hid (below_t HB4.out hb5)
  obtain ⟨yl, cl, rfl⟩ := row_any hol
  obtain ⟨yw, cw, rfl⟩ := row_any how
  have HC5 := hid (HCU.out _ (HD.out.2.1.below HB5.out))
  have hlb2 := World.block_lt_of_cell? w5 _ HC5.out
  generalize hcu : s.cu = cu at HC5
  have HCE := hid hcu
  clear hol how hkw hb5 hcu HRT HCU
  go_wp2_with fail
  rw [HCE.out] at HSI
  refine wp_region_held_drew (S := fun V => V.cell? ⟨b2, 5, none⟩ = some (.int .i64 cu) ∧ Below w5.heap.size w5 V) (by kernel_rfl) ?_ (fun hHeld => ?_)
  · have hdr : Below w5.heap.size w5 w5.drew := (Below.refl _ _).drew
    exact ⟨keepc hdr HC5.out, hdr⟩
  refine takeD (i := 0) (v := ?_) 29 rfl rfl (by kernel_rfl) (by kernel_rfl) (by kernel_rfl) (fun _ _ _ h => h) (by assumption) (Or.inl ⟨by rfl, ?_⟩) ?_
  rotate_left
  · intro w hSw
    (try dsimp only at hSw)
    go_simp
    try with_reducible rfl
  simp only [List.setIfInBounds_toArray, List.set_cons_zero, List.set_cons_succ]
  refine takeD (i := 1) (v := ?_) 30 rfl rfl (by kernel_rfl) (by kernel_rfl) (by kernel_rfl) (fun _ _ _ h => h) (by assumption) (Or.inl ⟨by rfl, ?_⟩) ?_
  rotate_left
  · intro w hSw
    (try dsimp only at hSw)
    go_simp
    try with_reducible rfl
  simp only [List.setIfInBounds_toArray, List.set_cons_zero, List.set_cons_succ]
  refine wpAnyH_ready (rs := [2]) (by kernel_rfl) (by simp) ?_
  refine AllReadyH.cons (by simp only [List.getElem?_toArray, List.getElem?_cons_succ, List.getElem?_cons_zero]; rfl) (fun K hK => ?_) AllReadyH.nil
  go_simp
  go_at_call 24; (with_reducible refine (HEQ.out _ _ _ (own_below HOL5.out hHeld.2) (own_below HOW.out hHeld.2)).mono ?_); rintro e w6 ⟨rfl, hb6⟩
  refine hK.out _ _ ?_ (fun hHeldN => ?_)
  · exact ⟨keepc hb6 hHeld.1, below_t hHeld.2 hb6⟩
  clear hK K hHeld
  have hHeld := hHeldN
  clear hHeldN
  (try simp only [Act.put, List.setIfInBounds_toArray, List.set_cons_zero, List.set_cons_succ])
  refine takeD (i := 3) (v := ?_) 32 rfl rfl (by kernel_rfl) (by kernel_rfl) (by kernel_rfl) (fun _ _ _ h => h) (by assumption) (Or.inl ⟨by rfl, ?_⟩) ?_
  rotate_left
  · intro w hSw
    (try dsimp only at hSw)
    go_simp
    try with_reducible rfl
  simp only [List.setIfInBounds_toArray, List.set_cons_zero, List.set_cons_succ]
  refine takeD (i := 4) (v := ?_) 33 rfl rfl (by kernel_rfl) (by kernel_rfl) (by kernel_rfl) (fun _ _ _ h => h) (by assumption) (Or.inl ⟨by rfl, ?_⟩) ?_
  rotate_left
  · intro w hSw
    (try dsimp only at hSw)
    go_simp
    try with_reducible rfl
  simp only [List.setIfInBounds_toArray, List.set_cons_zero, List.set_cons_succ]
  refine takeD (i := 5) (v := ?_) 34 rfl rfl (by kernel_rfl) (by kernel_rfl) (by kernel_rfl) (fun _ _ _ h => h) (by assumption) (Or.inl ⟨by rfl, ?_⟩) ?_
  rotate_left
  · intro w hSw
    (try dsimp only at hSw)
    go_simp
    try with_reducible rfl
  simp only [List.setIfInBounds_toArray, List.set_cons_zero, List.set_cons_succ]
  refine takeD (i := 7) (v := ?_) 36 rfl rfl (by kernel_rfl) (by kernel_rfl) (by kernel_rfl) (fun _ _ _ h => h) (by assumption) (Or.inl ⟨by rfl, ?_⟩) ?_
  rotate_left
  · intro w hSw
    (try dsimp only at hSw)
    go_simp
    try with_reducible rfl
  simp only [List.setIfInBounds_toArray, List.set_cons_zero, List.set_cons_succ]
  refine takeD (i := 8) (v := ?_) 37 rfl rfl (by kernel_rfl) (by kernel_rfl) (by kernel_rfl) (fun _ _ _ h => h) (by assumption) (Or.inl ⟨by rfl, ?_⟩) ?_
  rotate_left
  · intro w hSw
    (try dsimp only at hSw)
    go_simp
    try with_reducible rfl
  simp only [List.setIfInBounds_toArray, List.set_cons_zero, List.set_cons_succ]
  refine takeD (i := 9) (v := ?_) 38 rfl rfl (by kernel_rfl) (by kernel_rfl) (by kernel_rfl) (fun _ _ _ h => h) (by assumption) (Or.inl ⟨by rfl, ?_⟩) ?_
  rotate_left
  · intro w hSw
    (try dsimp only at hSw)
    go_simp
    try with_reducible rfl
  simp only [List.setIfInBounds_toArray, List.set_cons_zero, List.set_cons_succ]
  refine takeD (i := 10) (v := ?_) 39 rfl rfl (by kernel_rfl) (by kernel_rfl) (by kernel_rfl) (fun _ _ _ h => h) (by assumption) (Or.inl ⟨by rfl, ?_⟩) ?_
  rotate_left
  · intro w hSw
    (try dsimp only at hSw)
    go_simp
    try with_reducible rfl
  simp only [List.setIfInBounds_toArray, List.set_cons_zero, List.set_cons_succ]
  refine takeD (i := 11) (v := ?_) 40 rfl rfl (by kernel_rfl) (by kernel_rfl) (by kernel_rfl) (fun _ _ _ h => h) (by assumption) (Or.inl ⟨by rfl, ?_⟩) ?_
  rotate_left
  · intro w hSw
    (try dsimp only at hSw)
    go_simp
    try with_reducible rfl
  simp only [List.setIfInBounds_toArray, List.set_cons_zero, List.set_cons_succ]
  refine wpAnyH_ready (rs := [6]) (by kernel_rfl) (by simp) ?_
  refine AllReadyH.cons (by simp only [List.getElem?_toArray, List.getElem?_cons_succ, List.getElem?_cons_zero]; rfl) (fun K hK => ?_) AllReadyH.nil
  go_simp
  go_at_call 49; (with_reducible refine (HIX.out _ ((HD.out.1.below HB5.out).below hHeld.2)).mono ?_); rintro e w7 ⟨rfl, hb7⟩
  refine hK.out _ _ ?_ (fun hHeldN => ?_)
  · exact ⟨keepc hb7 hHeld.1, below_t hHeld.2 hb7⟩
  clear hK K hHeld
  have hHeld := hHeldN
  clear hHeldN
  (try simp only [Act.put, List.setIfInBounds_toArray, List.set_cons_zero, List.set_cons_succ])
  refine wpAnyH_ready (rs := [12]) (by kernel_rfl) (by simp) ?_
  refine AllReadyH.cons (by simp only [List.getElem?_toArray, List.getElem?_cons_succ, List.getElem?_cons_zero]; rfl) (fun K hK => ?_) AllReadyH.nil
  go_simp
  go_at_call 50; (with_reducible refine (HSI.out _ _ (own_below HOW.out hHeld.2)).mono ?_); rintro e w8 ⟨rfl, hb8⟩
  refine hK.out _ _ ?_ (fun hHeldN => ?_)
  · exact ⟨keepc hb8 hHeld.1, below_t hHeld.2 hb8⟩
  clear hK K hHeld
  have hHeld := hHeldN
  clear hHeldN
  (try simp only [Act.put, List.setIfInBounds_toArray, List.set_cons_zero, List.set_cons_succ])
  refine takeD (i := 13) (v := ?_) 42 rfl rfl (by kernel_rfl) (by kernel_rfl) (by kernel_rfl) (fun _ _ _ h => h) (by assumption) (Or.inl ⟨by rfl, ?_⟩) ?_
  rotate_left
  · intro w hSw
    (try dsimp only at hSw)
    go_simp
    try with_reducible rfl
  simp only [List.setIfInBounds_toArray, List.set_cons_zero, List.set_cons_succ]
  refine takeD (i := 14) (v := ?_) 43 rfl rfl (by kernel_rfl) (by kernel_rfl) (by kernel_rfl) (fun _ _ _ h => h) (by assumption) (Or.inl ⟨by rfl, ?_⟩) ?_
  rotate_left
  · intro w hSw
    (try dsimp only at hSw)
    go_simp
    try with_reducible rfl
  simp only [List.setIfInBounds_toArray, List.set_cons_zero, List.set_cons_succ]
  refine wpAnyH_done (by kernel_rfl) ?_ _
  have HE := hid hHeld
  clear hHeld
  have HQ := hid HE.out.2
  obtain ⟨wq, hwq⟩ : ∃ wq, w8 = wq := ⟨_, rfl⟩
  rw [hwq] at HQ ⊢
  clear HE hwq HIX HSI HEQ
  by_cases hL0 : L = 0
  · subst hL0
    have HTB := hid (fun W (h : SpM W b1 g1 s) => (show Calls Try.prog 51 #[.pointer (some ⟨b1, 0, none⟩)] W (SpD b1 g1 (s.cuS 0) W) from by
      have q := tab_any (b := b1) (g := g1) (s := s) W h
      rwa [tab_nil h.ok HL.out] at q))
    have HCR := hid (fun W (h : SpM W b1 g1 (s.cuS 0)) => (show Calls Try.prog 22 #[.pointer (some ⟨b1, 0, none⟩)] W fun e w' => e = .returned (.int .i64 0) ∧ Below W.heap.size W w' from cursor_any (b := b1) (g := g1) W h))
    have HIN := hid (fun W (h : SpM W b1 g1 (s.cuS 0)) => (show Calls Try.prog 49 #[.pointer (some ⟨b1, 0, none⟩)] W fun e w' => e = .returned (.int .i64 (-1)) ∧ Below W.heap.size W w' from by
      have q := callsIn_wide.1 (index_in 8 (by omega) b1 g1 (s.cuS 0) W h)
      have e : idxZ (tabL (s.cuS 0)) (s.cuS 0).cu = -1 := by
        have e0 : tabL (s.cuS 0) = [] := List.length_eq_zero_iff.1 HL.out
        rw [e0]
        rfl
      rwa [e] at q))
    go_wp2_with fail
    with_reducible refine (HTB.out _ (HD.out.1.below (below_t HB5.out HQ.out))).mono ?_
    rintro e w9 ⟨⟨v9, rfl⟩, hs, hm⟩
    have HS9 := hid hs
    have HM9 := hid hm
    clear hs hm
    go_wp2_with fail
    with_reducible refine (HCR.out _ HS9.out).mono ?_
    rintro e w10 ⟨rfl, hb10⟩
    have HB10 := hid hb10
    clear hb10
    go_wp2_with fail
    with_reducible refine (HIN.out _ (HS9.out.below HB10.out)).mono ?_
    rintro e w11 ⟨rfl, hb11⟩
    have HB11 := hid (below_t HB10.out hb11)
    clear hb11
    go_wp2
    go_ret
    refine ⟨by simp, ?_⟩
    have k5 := below_t HD.out.2.2.1 (below_t HB5.out HQ.out)
    have k9 := k5.trans (HM9.out.toBelow k5.size (fun k hk => by
      simp at hk
      rcases hk with rfl | rfl
      · exact HD.out.2.2.2.2.1
      · exact HD.out.2.2.2.2.2))
    exact below_t k9 HB11.out
  · have hLne : ¬ (L : Int) = 0 := by omega
    have hL1 : 1 ≤ L := by omega
    have HOWQ := hid (own_below HOW.out HQ.out)
    have HOLQ := hid (own_below HOL5.out HQ.out)
    obtain ⟨kk, hkk⟩ : ∃ kk : Nat, kk = min K L := ⟨_, rfl⟩
    have hmin : (if K < L then (K : Int) else (L : Int)) = (kk : Int) := by split <;> omega
    have hkL : kk ≤ L := by omega
    have HTK := hid (fun W h => callsIn_wide.1 (ltabs_in 8 (by omega) b1 g1 K s (by omega) W h))
    have HIT := hid (show iT s K = intsV (ys.take kk) ∧ (ys.take kk).length = kk by
      refine ⟨?_, by rw [List.length_take, HYS.out]; omega⟩
      unfold iT
      rw [← HYE.out, ← List.map_take]
      congr 2
      rw [hkk]
      by_cases h : K ≤ L
      · rw [Nat.min_eq_left h]
      · rw [Nat.min_eq_right (by omega), List.take_of_length_le (by rw [HL.out]; omega), List.take_of_length_le (by rw [HL.out]; exact Nat.le_refl _)])
    rw [HL.out, ← hkk] at HTK
    have how := HOWQ.out
    rcases how.2 with ⟨e0, hn0⟩ | ⟨gw, cw', cur, ew, -, -, hcw1, hcw2, -, -⟩
    · omega
    injection ew with ew1 ew2 ew3
    subst ew1
    obtain rfl : cw = cw' := ew3
    have hol := HOLQ.out
    have hcl := ints_cells (xs := ys) (by rw [HYS.out]; exact hol)
    rcases hcl with ⟨x', c', e0, h0⟩ | ⟨gl, cl', el, hcl⟩
    · rw [← HYS.out, h0] at hL1
      simp at hL1
    rw [HYS.out] at el
    injection el with el1 el2 el3
    subst el1
    obtain rfl : cl = cl' := el3
    have hkc : kk ≤ cw := by omega
    have HGL := hid (show w3.heap.size ≤ gl from HKL.out gl (by simp [blkV, Value.ownBlock]))
    have HTQ := hid (fun q (hq : q < L) => (show wq.cell? ⟨gl, q, none⟩ = some (.int .i64 (tq (tabL s) q : Nat)) from by
      have c0 := hcl q (by rw [HYS.out]; exact hq)
      rw [Nat.zero_add] at c0
      rw [c0, ← HYE.out]
      unfold tq
      rw [HL.out, Nat.mod_eq_of_lt hq, List.getD_eq_getElem?_getD, List.getElem?_map, List.getD_eq_getElem?_getD, List.getElem?_eq_getElem (by rw [HL.out]; exact hq)]
      rfl))
    have HCA := hid (fun W (hb : Below wq.heap.size wq W) => (show ∀ i, i < ys.length → W.cell? ⟨gw, 0 + i, none⟩ = some (.int .i64 (ys.getD i 0)) from by
      rcases ints_cells (xs := ys) (by rw [HYS.out]; exact own_below HOWQ.out hb) with ⟨x, c, e, h0⟩ | ⟨g, c, e, hc⟩
      · intro i hi
        rw [h0] at hi
        exact absurd hi (Nat.not_lt_zero i)
      · rw [HYS.out] at e
        injection e with e1 e2 e3
        injection e1 with e1
        injection e1 with e1
        subst e1
        exact hc))
    have HE2 := hid (fun u W (hu : W.ownsRow 0 3 1 u kk (intsV (ys.take kk))) hy => (show Calls Try.prog 24 #[u, .slice (some ⟨gw, 0, none⟩) kk cw] W _ from by
      have q := equalI_pre u gw cw (ys.take kk) ys W (by rw [HIT.out.2]; exact hu) hy (fun i hi => by rw [HIT.out.2] at hi; simp [List.getD, hi]) (by rw [HIT.out.2, HYS.out]; exact hkL) (by rw [HYS.out]; omega)
      rw [HIT.out.2] at q
      exact q))
    clear how hol hcl hcw1 hcw2 hkk HOWQ HOLQ HOW HOL5 HOL HKL
    go_wp2_with fail
    refine wp_region_held_drew (S := fun V => Below wq.heap.size wq V) (by kernel_rfl) ?_ (fun hHeld => ?_)
    · exact (Below.refl _ _).drew
    refine takeD (i := 0) (v := ?_) 61 rfl rfl (by kernel_rfl) (by kernel_rfl) (by kernel_rfl) (fun _ _ _ h => h) (by assumption) (Or.inl ⟨by rfl, ?_⟩) ?_
    rotate_left
    · intro w hSw
      (try dsimp only at hSw)
      go_simp
      try with_reducible rfl
    simp only [List.setIfInBounds_toArray, List.set_cons_zero, List.set_cons_succ]
    refine takeD (i := 1) (v := ?_) 62 rfl rfl (by kernel_rfl) (by kernel_rfl) (by kernel_rfl) (fun _ _ _ h => h) (by assumption) (Or.inl ⟨by rfl, ?_⟩) ?_
    rotate_left
    · intro w hSw
      (try dsimp only at hSw)
      go_simp
      try with_reducible rfl
    simp only [List.setIfInBounds_toArray, List.set_cons_zero, List.set_cons_succ]
    refine takeD (i := 3) (v := ?_) 64 rfl rfl (by kernel_rfl) (by kernel_rfl) (by kernel_rfl) (fun _ _ _ h => h) (by assumption) (Or.inl ⟨by rfl, ?_⟩) ?_
    rotate_left
    · intro w hSw
      (try dsimp only at hSw)
      go_simp
      try with_reducible rfl
    simp only [List.setIfInBounds_toArray, List.set_cons_zero, List.set_cons_succ]
    refine takeD (i := 4) (v := ?_) 65 rfl rfl (by kernel_rfl) (by kernel_rfl) (by kernel_rfl) (fun _ _ _ h => h) (by assumption) (Or.inl ⟨by rfl, ?_⟩) ?_
    rotate_left
    · intro w hSw
      (try dsimp only at hSw)
      go_simp
      try with_reducible rfl
    simp only [List.setIfInBounds_toArray, List.set_cons_zero, List.set_cons_succ]
    refine takeD (i := 5) (v := ?_) 66 rfl rfl (by kernel_rfl) (by kernel_rfl) (by kernel_rfl) (fun _ _ _ h => h) (by assumption) (Or.inl ⟨by rfl, ?_⟩) ?_
    rotate_left
    · intro w hSw
      (try dsimp only at hSw)
      go_simp
      try with_reducible rfl
    simp only [List.setIfInBounds_toArray, List.set_cons_zero, List.set_cons_succ]
    refine takeD (i := 6) (v := ?_) 67 rfl rfl (by kernel_rfl) (by kernel_rfl) (by kernel_rfl) (fun _ _ _ h => h) (by assumption) (Or.inl ⟨by rfl, ?_⟩) ?_
    rotate_left
    · intro w hSw
      (try dsimp only at hSw)
      go_simp
      try with_reducible rfl
    simp only [List.setIfInBounds_toArray, List.set_cons_zero, List.set_cons_succ]
    refine takeD (i := 7) (v := ?_) 68 rfl rfl (by kernel_rfl) (by kernel_rfl) (by kernel_rfl) (fun _ _ _ h => h) (by assumption) (Or.inl ⟨by rfl, ?_⟩) ?_
    rotate_left
    · intro w hSw
      (try dsimp only at hSw)
      go_simp
      try with_reducible rfl
    simp only [List.setIfInBounds_toArray, List.set_cons_zero, List.set_cons_succ]
    refine takeD (i := 8) (v := ?_) 69 rfl rfl (by kernel_rfl) (by kernel_rfl) (by kernel_rfl) (fun _ _ _ h => h) (by assumption) (Or.inl ⟨by rfl, ?_⟩) ?_
    rotate_left
    · intro w hSw
      (try dsimp only at hSw)
      go_simp
      try with_reducible rfl
    simp only [List.setIfInBounds_toArray, List.set_cons_zero, List.set_cons_succ]
    refine wpAnyH_ready (rs := [2]) (by kernel_rfl) (by simp) ?_
    refine AllReadyH.cons (by simp only [List.getElem?_toArray, List.getElem?_cons_succ, List.getElem?_cons_zero]; rfl) (fun K hK => ?_) AllReadyH.nil
    go_simp
    go_at_call 52; (with_reducible refine (HTK.out _ ((HD.out.1.below (below_t HB5.out HQ.out)).below hHeld)).mono ?_); rintro e w9 ⟨v9, rfl, ho9, hk9, hb9⟩; rw [HIT.out.1] at ho9; obtain ⟨y9, c9, rfl⟩ := row_any ho9; have HO9 := hid ho9; clear ho9 hk9
    refine hK.out _ _ ?_ (fun hHeldN => ?_)
    · exact below_t hHeld hb9
    clear hK K hHeld
    have hHeld := hHeldN
    clear hHeldN
    (try simp only [Act.put, List.setIfInBounds_toArray, List.set_cons_zero, List.set_cons_succ])
    refine wpAnyH_ready (rs := [9]) (by kernel_rfl) (by simp) ?_
    refine AllReadyH.cons (by simp only [List.getElem?_toArray, List.getElem?_cons_succ, List.getElem?_cons_zero]; rfl) (fun K hK => ?_) AllReadyH.nil
    go_simp
    go_at_call 24; (with_reducible refine (HE2.out _ _ HO9.out (HCA.out _ hHeld)).mono ?_); rintro e w10 ⟨rfl, hb10⟩
    refine hK.out _ _ ?_ (fun hHeldN => ?_)
    · exact below_t hHeld hb10
    clear hK K hHeld
    have hHeld := hHeldN
    clear hHeldN
    (try simp only [Act.put, List.setIfInBounds_toArray, List.set_cons_zero, List.set_cons_succ])
    refine takeD (i := 10) (v := ?_) 71 rfl rfl (by kernel_rfl) (by kernel_rfl) (by kernel_rfl) (fun _ _ _ h => h) (by assumption) (Or.inl ⟨by rfl, ?_⟩) ?_
    rotate_left
    · intro w hSw
      (try dsimp only at hSw)
      go_simp
      try with_reducible rfl
    simp only [List.setIfInBounds_toArray, List.set_cons_zero, List.set_cons_succ]
    refine wpAnyH_done (by kernel_rfl) ?_ _
    have HE := hid hHeld
    clear hHeld
    have HR := hid (HE.out)
    clear HE HTK HIT HCA HE2
    have hLi : (1 : Int) ≤ (L : Int) ∧ (L : Int) ≤ 3564 := by omega
    have hg := tmod_bd fz hLi.1
    have hfz1 := HFZ.out.1
    have hfz2 := HFZ.out.2
    obtain ⟨i, hi⟩ : ∃ i : Nat, (fz.tmod L + L).tmod L = (i : Int) := ⟨((fz.tmod L + L).tmod L).toNat, by
      have := Int.tmod_nonneg (a := fz.tmod L + L) (L : Int) (by omega)
      omega⟩
    have hiL : i < L := by
      have := (tmod_bd (fz.tmod L + L) hLi.1).2
      omega
    have hii : (i : Int) < L := by omega
    have HSW := hid ((HD.out.1.below (below_t HB5.out HQ.out)).below HR.out)
    have HTR := hid (fun q (hq : q < L) => keepc HR.out (HTQ.out q hq))
    have hci := HTR.out i hiL
    have hlg := World.block_lt_of_cell? w10 _ hci
    have HPL := hid (fun W (h : SpM W b1 g1 s) => placed_any (b := b1) (g := g1) (s := s) (v := (tq (tabL s) i : Nat)) ⟨_, (tq_mem (by rw [HL.out]; omega) i).1, rfl⟩ W h)
    have hw1 : IntKind.i64.wrap (fz.tmod L) = fz.tmod L := wrapI ⟨by omega, by omega⟩
    have hw2 : IntKind.i64.wrap (fz.tmod L + L) = fz.tmod L + L := wrapI ⟨by omega, by omega⟩
    have hw3 : IntKind.i64.wrap (i : Int) = i := wrapI ⟨by omega, by omega⟩
    go_wp2_with fail
    with_reducible refine (HPL.out _ HSW.out).mono ?_
    rintro e w11 ⟨⟨v11, rfl⟩, hs, hm⟩
    have HS11 := hid hs
    have HM11 := hid hm
    have hgl : gl ∉ [b1, g1] := by
      have h1 := HD.out.1.lt
      have h2 := HGL.out
      have h3 := HB3.out.size
      simp
      omega
    have HT11 := hid (fun q (hq : q < L) => cell_moved hm (HTR.out q hq) hgl)
    have HOK := hid (HSW.out.ok)
    clear hs hm hci hlg hg hw1 hw2 hw3 hi HTR HTQ HPL hfz1 hfz2
    have HTB := hid (fun q W h => tabq_any (b := b1) (g := g1) (s := s) HOK.out (by rw [HL.out]; omega) q W h)
    have HBQ := hid (fun q W h => backq_any (b := b1) (g := g1) (s := s) HOK.out (by rw [HL.out]; omega) q W h)
    have HCR := hid (fun x W (h : SpM W b1 g1 (s.cuS (x : Nat))) => (show Calls Try.prog 22 #[.pointer (some ⟨b1, 0, none⟩)] W fun e w' => e = .returned (.int .i64 (x : Nat)) ∧ Below W.heap.size W w' from cursor_any (b := b1) (g := g1) W h))
    have HTM := hid (fun q => (show tq (tabL s) (q % L) = tq (tabL s) q from by unfold tq; rw [HL.out, Nat.mod_mod]))
    have HTA := hid (fun (q : Nat) (_ : q = q) => (show (tabL s).length = L from HL.out))
    go_wp2_with fail
    go_loopw [90] (fun i' W => ∃ j : Nat, j ≤ L ∧ i' = .int .i64 j ∧ Hid (SpM W b1 g1 (s.cuS (tq (tabL s) (i + j) : Nat))) ∧ Hid (Moved w11 W [b1, g1] [b1, g1])) (fun i' _ => L - (intOf i').toNat)
    case atStart => exact ⟨0, by omega, rfl, HS11.out, Moved.refl _ _⟩
    case round =>
      obtain ⟨j, hj, rfl, HS, HM⟩ := hrel
      by_cases hjL : j < L
      · have hji : (j : Int) < L := by omega
        obtain ⟨r, hr⟩ : ∃ r, (i + (j + 1)) % L = r := ⟨_, rfl⟩
        have hrL : r < L := by rw [← hr]; exact Nat.mod_lt _ (by omega)
        have hri : (r : Int) < L := by omega
        have hrm : ((i : Int) + 1 + (j : Int)).tmod (L : Int) = (r : Int) := by
          rw [Int.tmod_eq_emod_of_nonneg (by omega), show (i : Int) + 1 + (j : Int) = ((i + (j + 1) : Nat) : Int) by push_cast; omega, ← hr]
          exact (Int.natCast_emod _ _).symm
        have hw1 : IntKind.i64.wrap ((i : Int) + 1) = (i : Int) + 1 := wrapI ⟨by omega, by omega⟩
        have hw2 : IntKind.i64.wrap ((i : Int) + 1 + (j : Int)) = (i : Int) + 1 + (j : Int) := wrapI ⟨by omega, by omega⟩
        have hw3 : IntKind.i64.wrap (r : Int) = r := wrapI ⟨by omega, by omega⟩
        have HX := hid (show tq (tabL s) (i + j + 1) = tq (tabL s) r from by rw [← hr, HTM.out]; rfl)
        have HTB1 := hid (fun W h => HTB.out (i + j) W h)
        rw [HX.out] at HTB1
        have HXJ := hid (show tq (tabL s) (i + (j + 1)) = tq (tabL s) r from HX.out)
        have HCL := hid (fun W (h : Moved w11 W [b1, g1] [b1, g1]) => cell_moved h (HT11.out r hrL) hgl)
        generalize tq (tabL s) r = xr at HTB1 HXJ HCL
        clear hr HX
        go_wp2_with fail
        with_reducible refine (HTB1.out _ HS.out).mono ?_
        rintro e w12 ⟨⟨v12, rfl⟩, hs, hm⟩
        have HS12 := hid hs
        have HM12 := hid (HM.out.trans hm)
        have HC12 := hid (HCL.out _ HM12.out)
        have hlg := World.block_lt_of_cell? w12 _ HC12.out
        clear hs hm HTB1 HS HM HCL
        go_wp2_with fail
        refine wp_region_held_drew (S := fun V => V.cell? ⟨gl, r, none⟩ = some (.int .i64 (xr : Nat)) ∧ Below w12.heap.size w12 V) (by kernel_rfl) ?_ (fun hHeld => ?_)
        · have hdr : Below w12.heap.size w12 w12.drew := (Below.refl _ _).drew
          exact ⟨keepc hdr HC12.out, hdr⟩
        refine takeD (i := 0) (v := ?_) 95 rfl rfl (by kernel_rfl) (by kernel_rfl) (by kernel_rfl) (fun _ _ _ h => h) (by assumption) (Or.inl ⟨by rfl, ?_⟩) ?_
        rotate_left
        · intro w hSw
          (try dsimp only at hSw)
          go_simp
          try with_reducible rfl
        simp only [List.setIfInBounds_toArray, List.set_cons_zero, List.set_cons_succ]
        refine takeD (i := 2) (v := ?_) 97 rfl rfl (by kernel_rfl) (by kernel_rfl) (by kernel_rfl) (fun _ _ _ h => h) (by assumption) (Or.inl ⟨by rfl, ?_⟩) ?_
        rotate_left
        · intro w hSw
          (try dsimp only at hSw)
          go_simp
          try with_reducible rfl
        simp only [List.setIfInBounds_toArray, List.set_cons_zero, List.set_cons_succ]
        refine takeD (i := 3) (v := ?_) 98 rfl rfl (by kernel_rfl) (by kernel_rfl) (by kernel_rfl) (fun _ _ _ h => h) (by assumption) (Or.inl ⟨by rfl, ?_⟩) ?_
        rotate_left
        · intro w hSw
          (try dsimp only at hSw)
          go_simp
          try with_reducible rfl
        simp only [List.setIfInBounds_toArray, List.set_cons_zero, List.set_cons_succ]
        refine takeD (i := 4) (v := ?_) 99 rfl rfl (by kernel_rfl) (by kernel_rfl) (by kernel_rfl) (fun _ _ _ h => h) (by assumption) (Or.inl ⟨by rfl, ?_⟩) ?_
        rotate_left
        · intro w hSw
          (try dsimp only at hSw)
          go_simp
          try with_reducible rfl
        simp only [List.setIfInBounds_toArray, List.set_cons_zero, List.set_cons_succ]
        refine takeD (i := 5) (v := ?_) 100 rfl rfl (by kernel_rfl) (by kernel_rfl) (by kernel_rfl) (fun _ _ _ h => h) (by assumption) (Or.inl ⟨by rfl, ?_⟩) ?_
        rotate_left
        · intro w hSw
          (try dsimp only at hSw)
          go_simp
          try with_reducible rfl
        simp only [List.setIfInBounds_toArray, List.set_cons_zero, List.set_cons_succ]
        refine takeD (i := 6) (v := ?_) 101 rfl rfl (by kernel_rfl) (by kernel_rfl) (by kernel_rfl) (fun _ _ _ h => h) (by assumption) (Or.inl ⟨by rfl, ?_⟩) ?_
        rotate_left
        · intro w hSw
          (try dsimp only at hSw)
          go_simp
          try with_reducible rfl
        simp only [List.setIfInBounds_toArray, List.set_cons_zero, List.set_cons_succ]
        refine takeD (i := 7) (v := ?_) 102 rfl rfl (by kernel_rfl) (by kernel_rfl) (by kernel_rfl) (fun _ _ _ h => h) (by assumption) (Or.inl ⟨by rfl, ?_⟩) ?_
        rotate_left
        · intro w hSw
          (try dsimp only at hSw)
          go_simp
          try with_reducible rfl
        simp only [List.setIfInBounds_toArray, List.set_cons_zero, List.set_cons_succ]
        refine takeD (i := 8) (v := ?_) 103 rfl rfl (by kernel_rfl) (by kernel_rfl) (by kernel_rfl) (fun _ _ _ h => h) (by assumption) (Or.inl ⟨by rfl, ?_⟩) ?_
        rotate_left
        · intro w hSw
          (try dsimp only at hSw)
          go_simp
          try with_reducible rfl
        simp only [List.setIfInBounds_toArray, List.set_cons_zero, List.set_cons_succ]
        refine takeD (i := 9) (v := ?_) 104 rfl rfl (by kernel_rfl) (by kernel_rfl) (by kernel_rfl) (fun _ _ _ h => h) (by assumption) (Or.inl ⟨by rfl, ?_⟩) ?_
        rotate_left
        · intro w hSw
          (try dsimp only at hSw)
          go_simp
          try with_reducible rfl
        simp only [List.setIfInBounds_toArray, List.set_cons_zero, List.set_cons_succ]
        refine takeD (i := 10) (v := ?_) 105 rfl rfl (by kernel_rfl) (by kernel_rfl) (by kernel_rfl) (fun _ _ _ h => h) (by assumption) (Or.inl ⟨by rfl, ?_⟩) ?_
        rotate_left
        · intro w hSw
          (try dsimp only at hSw)
          go_simp
          try with_reducible rfl
        simp only [List.setIfInBounds_toArray, List.set_cons_zero, List.set_cons_succ]
        refine takeD (i := 11) (v := ?_) 106 rfl rfl (by kernel_rfl) (by kernel_rfl) (by kernel_rfl) (fun _ _ _ h => h) (by assumption) (Or.inl ⟨by rfl, ?_⟩) ?_
        rotate_left
        · intro w hSw
          (try dsimp only at hSw)
          go_simp
          try with_reducible rfl
        simp only [List.setIfInBounds_toArray, List.set_cons_zero, List.set_cons_succ]
        refine wpAnyH_ready (rs := [1]) (by kernel_rfl) (by simp) ?_
        refine AllReadyH.cons (by simp only [List.getElem?_toArray, List.getElem?_cons_succ, List.getElem?_cons_zero]; rfl) (fun K hK => ?_) AllReadyH.nil
        go_simp
        go_at_call 22; (with_reducible refine (HCR.out xr _ (HS12.out.below hHeld.2)).mono ?_); rintro e w13 ⟨rfl, hb13⟩
        refine hK.out _ _ ?_ (fun hHeldN => ?_)
        · exact ⟨keepc hb13 hHeld.1, below_t hHeld.2 hb13⟩
        clear hK K hHeld
        have hHeld := hHeldN
        clear hHeldN
        (try simp only [Act.put, List.setIfInBounds_toArray, List.set_cons_zero, List.set_cons_succ])
        refine takeD (i := 12) (v := ?_) 107 rfl rfl (by kernel_rfl) (by kernel_rfl) (by kernel_rfl) (fun _ _ _ h => h) (by assumption) (Or.inl ⟨by rfl, ?_⟩) ?_
        rotate_left
        · intro w hSw
          (try dsimp only at hSw)
          go_simp
          try with_reducible rfl
        simp only [List.setIfInBounds_toArray, List.set_cons_zero, List.set_cons_succ]
        refine wpAnyH_done (by kernel_rfl) ?_ _
        have HE := hid hHeld
        clear hHeld
        go_wp2
        go_roundw
        case rel => exact ⟨j + 1, by omega, by go_num, by rw [HXJ.out]; exact HS12.out.below HE.out.2, HM12.out.trans (Moved.below HE.out.2 _)⟩
        case measure => simp [intOf]; omega
      · obtain rfl : j = L := by omega
        have HS1 := hid HS.out
        have HM1 := hid HM.out
        clear HS HM
        go_wp2_with fail
        go_loopw [111] (fun i' W => ∃ j' : Nat, j' ≤ j ∧ i' = .int .i64 j' ∧ Hid (SpM W b1 g1 (s.cuS (tq (tabL s) (i + j - j') : Nat))) ∧ Hid (Moved w11 W [b1, g1] [b1, g1])) (fun i' _ => j - (intOf i').toNat)
        case atStart => exact ⟨0, by omega, rfl, HS1.out, HM1.out⟩
        case round =>
          clear HS1 HM1
          obtain ⟨k, hk, rfl, HS, HM⟩ := hrel
          by_cases hkL : k < j
          · have hki : (k : Int) < j := by omega
            have HBQ1 := hid (fun W h => HBQ.out (i + j - (k + 1)) W h)
            rw [show i + j - (k + 1) + 1 = i + j - k by omega] at HBQ1
            go_wp2_with fail
            with_reducible refine (HBQ1.out _ HS.out).mono ?_
            rintro e w14 ⟨⟨v14, rfl⟩, hs, hm⟩
            have HS14 := hid hs
            have HM14 := hid (HM.out.trans hm)
            clear hs hm HS HM HBQ1
            go_wp2
            go_roundw
            case rel => exact ⟨k + 1, by omega, by go_num, HS14.out, HM14.out⟩
            case measure => simp [intOf]; omega
          · obtain rfl : k = j := by omega
            have HIQ := hid (fun W (h : SpM W b1 g1 (s.cuS (tq (tabL s) i : Nat))) => (show Calls Try.prog 49 #[.pointer (some ⟨b1, 0, none⟩)] W fun e w' => e = .returned (.int .i64 (i : Nat)) ∧ Below W.heap.size W w' from by
              have q := callsIn_wide.1 (index_in 8 (by omega) b1 g1 (s.cuS (tq (tabL s) i : Nat)) W h)
              have e : idxZ (tabL (s.cuS (tq (tabL s) i : Nat))) (s.cuS (tq (tabL s) i : Nat)).cu = (i : Int) := idx_tq (s := s) (by rw [HL.out]; exact hiL)
              rwa [e] at q))
            have HSE := hid (show SpM wr b1 g1 (s.cuS (tq (tabL s) i : Nat)) from by
              have q := HS.out
              rwa [show i + k - k = i by omega] at q)
            have HC14 := hid (cell_moved HM.out (HT11.out i hiL) hgl)
            generalize tq (tabL s) i = xi at HIQ HSE HC14
            have hlg := World.block_lt_of_cell? wr _ HC14.out
            clear HS
            go_wp2_with fail
            refine wp_region_held_drew (S := fun V => V.cell? ⟨gl, i, none⟩ = some (.int .i64 (xi : Nat)) ∧ Below wr.heap.size wr V) (by kernel_rfl) ?_ (fun hHeld => ?_)
            · have hdr : Below wr.heap.size wr wr.drew := (Below.refl _ _).drew
              exact ⟨keepc hdr HC14.out, hdr⟩
            refine takeD (i := 0) (v := ?_) 116 rfl rfl (by kernel_rfl) (by kernel_rfl) (by kernel_rfl) (fun _ _ _ h => h) (by assumption) (Or.inl ⟨by rfl, ?_⟩) ?_
            rotate_left
            · intro w hSw
              (try dsimp only at hSw)
              go_simp
              try with_reducible rfl
            simp only [List.setIfInBounds_toArray, List.set_cons_zero, List.set_cons_succ]
            refine takeD (i := 2) (v := ?_) 118 rfl rfl (by kernel_rfl) (by kernel_rfl) (by kernel_rfl) (fun _ _ _ h => h) (by assumption) (Or.inl ⟨by rfl, ?_⟩) ?_
            rotate_left
            · intro w hSw
              (try dsimp only at hSw)
              go_simp
              try with_reducible rfl
            simp only [List.setIfInBounds_toArray, List.set_cons_zero, List.set_cons_succ]
            refine takeD (i := 3) (v := ?_) 119 rfl rfl (by kernel_rfl) (by kernel_rfl) (by kernel_rfl) (fun _ _ _ h => h) (by assumption) (Or.inl ⟨by rfl, ?_⟩) ?_
            rotate_left
            · intro w hSw
              (try dsimp only at hSw)
              go_simp
              try with_reducible rfl
            simp only [List.setIfInBounds_toArray, List.set_cons_zero, List.set_cons_succ]
            refine takeD (i := 4) (v := ?_) 120 rfl rfl (by kernel_rfl) (by kernel_rfl) (by kernel_rfl) (fun _ _ _ h => h) (by assumption) (Or.inl ⟨by rfl, ?_⟩) ?_
            rotate_left
            · intro w hSw
              (try dsimp only at hSw)
              go_simp
              try with_reducible rfl
            simp only [List.setIfInBounds_toArray, List.set_cons_zero, List.set_cons_succ]
            refine takeD (i := 5) (v := ?_) 121 rfl rfl (by kernel_rfl) (by kernel_rfl) (by kernel_rfl) (fun _ _ _ h => h) (by assumption) (Or.inl ⟨by rfl, ?_⟩) ?_
            rotate_left
            · intro w hSw
              (try dsimp only at hSw)
              go_simp
              try with_reducible rfl
            simp only [List.setIfInBounds_toArray, List.set_cons_zero, List.set_cons_succ]
            refine wpAnyH_ready (rs := [1]) (by kernel_rfl) (by simp) ?_
            refine AllReadyH.cons (by simp only [List.getElem?_toArray, List.getElem?_cons_succ, List.getElem?_cons_zero]; rfl) (fun K hK => ?_) AllReadyH.nil
            go_simp
            go_at_call 22; (with_reducible refine (HCR.out xi _ (HSE.out.below hHeld.2)).mono ?_); rintro e w15 ⟨rfl, hb15⟩
            refine hK.out _ _ ?_ (fun hHeldN => ?_)
            · exact ⟨keepc hb15 hHeld.1, below_t hHeld.2 hb15⟩
            clear hK K hHeld
            have hHeld := hHeldN
            clear hHeldN
            (try simp only [Act.put, List.setIfInBounds_toArray, List.set_cons_zero, List.set_cons_succ])
            refine takeD (i := 6) (v := ?_) 122 rfl rfl (by kernel_rfl) (by kernel_rfl) (by kernel_rfl) (fun _ _ _ h => h) (by assumption) (Or.inl ⟨by rfl, ?_⟩) ?_
            rotate_left
            · intro w hSw
              (try dsimp only at hSw)
              go_simp
              try with_reducible rfl
            simp only [List.setIfInBounds_toArray, List.set_cons_zero, List.set_cons_succ]
            refine takeD (i := 7) (v := ?_) 123 rfl rfl (by kernel_rfl) (by kernel_rfl) (by kernel_rfl) (fun _ _ _ h => h) (by assumption) (Or.inl ⟨by rfl, ?_⟩) ?_
            rotate_left
            · intro w hSw
              (try dsimp only at hSw)
              go_simp
              try with_reducible rfl
            simp only [List.setIfInBounds_toArray, List.set_cons_zero, List.set_cons_succ]
            refine takeD (i := 8) (v := ?_) 124 rfl rfl (by kernel_rfl) (by kernel_rfl) (by kernel_rfl) (fun _ _ _ h => h) (by assumption) (Or.inl ⟨by rfl, ?_⟩) ?_
            rotate_left
            · intro w hSw
              (try dsimp only at hSw)
              go_simp
              try with_reducible rfl
            simp only [List.setIfInBounds_toArray, List.set_cons_zero, List.set_cons_succ]
            refine takeD (i := 10) (v := ?_) 126 rfl rfl (by kernel_rfl) (by kernel_rfl) (by kernel_rfl) (fun _ _ _ h => h) (by assumption) (Or.inl ⟨by rfl, ?_⟩) ?_
            rotate_left
            · intro w hSw
              (try dsimp only at hSw)
              go_simp
              try with_reducible rfl
            simp only [List.setIfInBounds_toArray, List.set_cons_zero, List.set_cons_succ]
            refine wpAnyH_ready (rs := [9]) (by kernel_rfl) (by simp) ?_
            refine AllReadyH.cons (by simp only [List.getElem?_toArray, List.getElem?_cons_succ, List.getElem?_cons_zero]; rfl) (fun K hK => ?_) AllReadyH.nil
            go_simp
            go_at_call 49; (with_reducible refine (HIQ.out _ (HSE.out.below hHeld.2)).mono ?_); rintro e w16 ⟨rfl, hb16⟩
            refine hK.out _ _ ?_ (fun hHeldN => ?_)
            · exact ⟨keepc hb16 hHeld.1, below_t hHeld.2 hb16⟩
            clear hK K hHeld
            have hHeld := hHeldN
            clear hHeldN
            (try simp only [Act.put, List.setIfInBounds_toArray, List.set_cons_zero, List.set_cons_succ])
            refine takeD (i := 11) (v := ?_) 127 rfl rfl (by kernel_rfl) (by kernel_rfl) (by kernel_rfl) (fun _ _ _ h => h) (by assumption) (Or.inl ⟨by rfl, ?_⟩) ?_
            rotate_left
            · intro w hSw
              (try dsimp only at hSw)
              go_simp
              try with_reducible rfl
            simp only [List.setIfInBounds_toArray, List.set_cons_zero, List.set_cons_succ]
            refine takeD (i := 12) (v := ?_) 128 rfl rfl (by kernel_rfl) (by kernel_rfl) (by kernel_rfl) (fun _ _ _ h => h) (by assumption) (Or.inl ⟨by rfl, ?_⟩) ?_
            rotate_left
            · intro w hSw
              (try dsimp only at hSw)
              go_simp
              try with_reducible rfl
            simp only [List.setIfInBounds_toArray, List.set_cons_zero, List.set_cons_succ]
            refine takeD (i := 13) (v := ?_) 8 rfl rfl (by kernel_rfl) (by kernel_rfl) (by kernel_rfl) (fun _ _ _ h => h) (by assumption) (Or.inl ⟨by rfl, ?_⟩) ?_
            rotate_left
            · intro w hSw
              (try dsimp only at hSw)
              go_simp
              try with_reducible rfl
            simp only [List.setIfInBounds_toArray, List.set_cons_zero, List.set_cons_succ]
            refine wpAnyH_done (by kernel_rfl) ?_ _
            have HE := hid hHeld
            clear hHeld
            go_wp2
            go_ret
            refine ⟨by simp, ?_⟩
            have k5 := below_t (below_t HD.out.2.2.1 (below_t HB5.out HQ.out)) HR.out
            have lb : ∀ k ∈ [b1, g1], w.heap.size ≤ k := fun k hk => by
              simp at hk
              rcases hk with rfl | rfl
              · exact HD.out.2.2.2.2.1
              · exact HD.out.2.2.2.2.2
            have k9 := k5.trans (HM11.out.toBelow k5.size lb)
            have k10 := k9.trans (HM.out.toBelow k9.size lb)
            exact below_t k10 HE.out.2
end Go.Proofs.Ytpehhinpohmpiaa
