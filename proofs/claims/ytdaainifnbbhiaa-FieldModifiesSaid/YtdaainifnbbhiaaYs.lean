/-
  SpaceRound: the law's own walk.
-/
import Derived.Test.YtdaainifnbbhiaaYr
namespace Go.Proofs.Ytdaainifnbbhiaa
open Go.RowKit Go.Lib Go.Deep

theorem fit_again {c : Cel} (h : (fit c).at_ = false) : fit { fit c with ch := c.ch } = fit c := by
  by_cases hc : c.at_ = true
  · have e : fit c = { c with ch := 0, fa := sixB c.fa } := by unfold fit; rw [if_pos hc]
    rw [e] at h
    exact absurd h (by rw [show ({ c with ch := 0, fa := sixB c.fa } : Cel).at_ = true from hc]; simp)
  · have hc' : c.at_ = false := by simpa using hc
    have e : fit c = { c with fa := 0 } := by unfold fit; rw [if_neg hc]
    rw [e]
    unfold fit
    rw [if_neg (by simp [hc'])]
/-- What a cell's own character does behind the cell: nothing. -/
theorem round_put {s : Spc} (h : s.OK) (far : Int) (c : Cel) (ex : Nat) : ({ ((s.setC far c).place far) with ex := ex } : Spc).putC far c.ch = { ((s.setC far c).place far) with ex := ex } := by
  have hl := h.wr_lt far
  have hwr : ({ ((s.setC far c).place far) with ex := ex } : Spc).wr far = s.wr far := by
    show (far % (((s.setC far c).L.length : Nat) : Int)).toNat = _
    rw [setC_len]
    rfl
  have hat : ({ ((s.setC far c).place far) with ex := ex } : Spc).atC far = fit c := by
    unfold Spc.atC
    rw [hwr]
    show (s.put1 (s.wr far) (fit c)).cel (s.wr far) = _
    rw [Spc.put1_cel, if_pos ⟨rfl, hl⟩]
  unfold Spc.putC
  rw [hat]
  by_cases ha : (fit c).at_ = true
  · rw [if_pos ha]
  · rw [if_neg ha]
    show ({ ((s.setC far c).place far) with ex := ex } : Spc).put1 (({ ((s.setC far c).place far) with ex := ex } : Spc).wr far) (fit { fit c with ch := c.ch }) = _
    rw [hwr, fit_again (by simpa using ha)]
    show ({ ((s.setC far c).place far) with ex := ex, L := ((s.L.set (s.wr far) (fit c))).set (s.wr far) (fit c) } : Spc) = _
    rw [List.set_set]
    rfl
theorem round_at {s : Spc} (h : s.OK) (far n : Int) (c : Cel) (e : s.wr n = s.wr far) : ((s.setC far c).place far).atC n = fit c := by
  have hwr : ((s.setC far c).place far).wr n = s.wr far := by
    rw [← e]
    show (n % (((s.setC far c).L.length : Nat) : Int)).toNat = _
    rw [setC_len]
    rfl
  unfold Spc.atC
  rw [hwr]
  show (s.put1 (s.wr far) (fit c)).cel (s.wr far) = _
  rw [Spc.put1_cel, if_pos ⟨rfl, h.wr_lt far⟩]
set_option maxRecDepth 100000 in
set_option maxHeartbeats 8000000 in
theorem round_any (m : Nat) (hm : m < 256) (v : Value) (ac : List ActD) (nz : Int) (tz : Int) (ht1 : -128 ≤ tz) (ht2 : tz ≤ 127) (cz : Cel) (hcz : cz.OK) (w : World) (hx : ActsIn w.heap.size w v ac) : Calls Try.prog 5 #[.int .u8 m, v, .int .i64 nz, .int .i8 tz, cz.v] w fun e w' => e = .returned (.bool true) ∧ Below w.heap.size w w' := by
  obtain ⟨m4, hm4⟩ : ∃ m4 : Nat, m4 = m % 4 := ⟨_, rfl⟩
  have hm0 : (0 : Int) ≤ (m : Int) := by omega
  have hmt : (m : Int).tmod 4 = m4 := by rw [Int.tmod_eq_emod_of_nonneg (by omega)]; omega
  have hm5 : m4 < 4 := by omega
  have HW := hid (fun W => awake12 W)
  have HNW := hid (fun W => new_yes (2 + (m4 : Int)) (by omega) (by omega) W)
  have HRN := hid (fun W => rnew_yes (2 + (m4 : Int)) (by omega) (by omega) W)
  have hnt : -1099511627776 < nz.tmod 1099511627776 ∧ nz.tmod 1099511627776 < 1099511627776 := by
    have h1 := Int.tmod_lt_of_pos nz (show (0 : Int) < 1099511627776 by decide)
    have h2 : -nz.tmod 1099511627776 < 1099511627776 := by rw [← Int.neg_tmod]; exact Int.tmod_lt_of_pos (-nz) (by decide)
    omega
  obtain ⟨n1, hn1⟩ : ∃ n1, nz.tmod 1099511627776 = n1 := ⟨_, rfl⟩
  rw [hn1] at hnt
  obtain ⟨x, cp, rfl⟩ := hx.sl
  obtain ⟨M, hM⟩ : ∃ M, M = ac.length := ⟨_, rfl⟩
  have HM := hid hM
  have hML : M ≤ 9223372036854775807 := by rw [hM]; exact hx.len
  have HAT := hid (fun b g s n hn W h => at_any (b := b) (g := g) (s := s) n hn W h)
  have HCU := hid (fun b g s W h => cursor_any (b := b) (g := g) (s := s) W h)
  have HSZ := hid (fun b g s W h => size_any (b := b) (g := g) (s := s) W h)
  have HCL := hid (fun r c h W => cells_ok r c h W)
  have HSE := hid (fun b g s n hn W h => set_any (b := b) (g := g) (s := s) n hn cz hcz W h)
  have HPL := hid (fun b g s n hn W h => place_any (b := b) (g := g) (s := s) n hn W h)
  have HPU := hid (fun b g s n hn W h => put_any (b := b) (g := g) (s := s) n hn cz.ch hcz.ch W h)
  have HCP := hid (fun b g s W h => copy_any (b := b) (g := g) (s := s) W h)
  have HFT := hid (fun W => rfit_any cz hcz W)
  have HRP := hid (fun b g s n hn W h => rpos_any (b := b) (g := g) (s := s) n hn W h)
  have HSM := hid (fun b g b' g' s t W h k e0 e1 e2 e3 => same_yes (b := b) (g := g) (b' := b') (g' := g') (s := s) (t := t) W h k e0 e1 e2 e3)
  obtain ⟨WB, hWB⟩ : ∃ WB, w.alloc (.cells #[.int .u8 cz.ch, .bool cz.at_, .int .u8 cz.fa, .int .u8 cz.hi, .int .u8 cz.co, .int .u8 cz.se] 31) = WB := ⟨_, rfl⟩
  have hb0 : Below w.heap.size w WB := by rw [← hWB]; exact bal (Below.refl _ _) _
  have hzB : WB.heap.size = w.heap.size + 1 := by rw [← hWB]; simp
  have HBX := hid (show ∀ W, Below WB.heap.size WB W → W.cell? ⟨w.heap.size, 0, none⟩ = some (.int .u8 cz.ch) ∧ W.cell? ⟨w.heap.size, 1, none⟩ = some (.bool cz.at_) ∧ W.cell? ⟨w.heap.size, 2, none⟩ = some (.int .u8 cz.fa) ∧ W.cell? ⟨w.heap.size, 3, none⟩ = some (.int .u8 cz.hi) ∧ W.cell? ⟨w.heap.size, 4, none⟩ = some (.int .u8 cz.co) ∧ W.cell? ⟨w.heap.size, 5, none⟩ = some (.int .u8 cz.se) from fun W hb => by
    have k : ∀ o u, WB.cell? ⟨w.heap.size, o, none⟩ = some u → W.cell? ⟨w.heap.size, o, none⟩ = some u := fun o u q => keepc hb q
    exact ⟨k 0 _ (by rw [← hWB]; simp [go_sem]), k 1 _ (by rw [← hWB]; simp [go_sem]), k 2 _ (by rw [← hWB]; simp [go_sem]), k 3 _ (by rw [← hWB]; simp [go_sem]), k 4 _ (by rw [← hWB]; simp [go_sem]), k 5 _ (by rw [← hWB]; simp [go_sem])⟩)
  have HX := hid (hx.below hb0)
  have HB0 := hid hb0
  have HLE := hid (show w.heap.size ≤ WB.heap.size by omega)
  have HWB := hid hWB
  have HZB := hid hzB
  have HCZ := hid hcz
  rw [← hM]
  clear hx hM hm4 hb0 hWB hzB hcz
  go_enter Try.func5, Try.ntmps5
  go_wp2_with fail
  rw [HWB.out]
  with_reducible refine (HW.out _).mono ?_
  rintro e w1 ⟨rfl, hb1⟩
  have HB1 := hid hb1
  clear hb1
  go_wp2_with fail
  with_reducible refine (HNW.out _).mono ?_
  rintro e w2 ⟨b1, g1, rfl, hb, hg, hs, h2⟩
  have HS2 := hid hs
  have HB2 := hid (below_t HB1.out h2)
  have HLB := hid (show WB.heap.size ≤ b1 ∧ WB.heap.size ≤ g1 from ⟨Nat.le_trans HB1.out.size hb, Nat.le_trans HB1.out.size hg⟩)
  clear hs h2 hb hg
  go_wp2_with fail
  with_reducible refine (HRN.out _).mono ?_
  rintro e w3 ⟨b2, g2, rfl, hb, hg, hs, h3⟩
  have HP := hid (show Pair WB w3 b1 b2 g1 g2 (clearS (2 + (m4 : Int)) false) from ⟨⟨HS2.out.below h3, hs, fun k hk q => by
      have := HS2.out.lt
      simp at hk q
      omega⟩, below_t HB2.out h3, fun k hk => by
      have := HLB.out
      have := HB2.out.size
      simp at hk
      omega⟩)
  clear hs h3 hb hg HLB HS2 HB2
  go_wp2_with fail
  go_loopw [34] (fun i W => ∃ q : Nat, q ≤ M ∧ i = .int .i64 q ∧ ∃ (g1 g2 : Nat) (s : Spc), Hid (Pair WB W b1 b2 g1 g2 s)) (fun i _ => M - (intOf i).toNat)
  case atStart => exact ⟨0, by omega, rfl, g1, g2, _, HP.out⟩
  case round =>
    clear HP
    obtain ⟨q, hq, rfl, g1, g2, s, HP⟩ := hrel
    by_cases hqM : q < M
    · have hqi : (q : Int) < M := by omega
      have HBR := hid (HP.out.bel.mono HLE.out)
      obtain ⟨g3, o3, rfl, hg3, hcell⟩ := (HX.out.below HBR.out).at_ x cp rfl q (by rw [← HM.out]; exact hqM)
      have hfit := (HX.out.below HBR.out).fit q (by rw [← HM.out]; exact hqM)
      generalize ac.getD q act0 = a at hcell hfit
      obtain ⟨k, nn, on, code, c, tx, xs⟩ := a
      have htx := hfit.tx.sl
      dsimp only at htx
      obtain ⟨tp, tc, rfl⟩ := htx
      obtain ⟨x0, x1, x2, x3, x4, x5⟩ := c
      have HF := hid hfit
      have HXL := hid (show (ActD.mk k nn on code ⟨x0, x1, x2, x3, x4, x5⟩ (.slice tp xs.length tc) xs).Fit w.heap.size wr from hfit)
      (try dsimp only at hcell)
      have u0 : wr.cell? ⟨g3, o3 + q * 11, none⟩ = some (.int .u8 k) := hcell 0 (by omega)
      have u1 : wr.cell? ⟨g3, o3 + q * 11 + 1, none⟩ = some (.int .i64 nn) := hcell 1 (by omega)
      have u2 : wr.cell? ⟨g3, o3 + q * 11 + 2, none⟩ = some (.bool on) := hcell 2 (by omega)
      have u3 : wr.cell? ⟨g3, o3 + q * 11 + 3, none⟩ = some (.int .u8 code) := hcell 3 (by omega)
      have u4 : wr.cell? ⟨g3, o3 + q * 11 + 4, none⟩ = some (.int .u8 x0) := hcell 4 (by omega)
      have u5 : wr.cell? ⟨g3, o3 + q * 11 + 5, none⟩ = some (.bool x1) := hcell 5 (by omega)
      have u6 : wr.cell? ⟨g3, o3 + q * 11 + 6, none⟩ = some (.int .u8 x2) := hcell 6 (by omega)
      have u7 : wr.cell? ⟨g3, o3 + q * 11 + 7, none⟩ = some (.int .u8 x3) := hcell 7 (by omega)
      have u8 : wr.cell? ⟨g3, o3 + q * 11 + 8, none⟩ = some (.int .u8 x4) := hcell 8 (by omega)
      have u9 : wr.cell? ⟨g3, o3 + q * 11 + 9, none⟩ = some (.int .u8 x5) := hcell 9 (by omega)
      have u10 : wr.cell? ⟨g3, o3 + q * 11 + 10, none⟩ = some (.slice tp xs.length tc) := hcell 10 (by omega)
      have hgl3 := World.block_lt_of_cell? wr _ u0
      clear hcell hfit
      obtain ⟨W0, hW0⟩ : ∃ W0, wr.alloc (.cells #[.int .u8 k, .int .i64 nn, .bool on, .int .u8 code, .int .u8 x0, .bool x1, .int .u8 x2, .int .u8 x3, .int .u8 x4, .int .u8 x5, .slice tp xs.length tc] 34) = W0 := ⟨_, rfl⟩
      have hb0 : Below wr.heap.size wr W0 := by rw [← hW0]; exact bal (Below.refl _ _) _
      have HPW := hid (HP.out.below hb0)
      have HFW := hid (HXL.out.below (hb0.mono (Nat.le_trans HLE.out HP.out.bel.size)))
      have HW0 := hid hW0
      clear hb0 hW0
      by_cases h20 : q < 20
      · have h2i : (q : Int) < 20 := by omega
        have HDO := hid (show ∀ W, (ActD.mk k nn on code ⟨x0, x1, x2, x3, x4, x5⟩ (.slice tp xs.length tc) xs).Fit w.heap.size W → Two W b1 g1 b2 g2 s → Calls Try.prog 14 #[.pointer (some ⟨b1, 0, none⟩), .pointer (some ⟨b2, 0, none⟩), .agg #[.int .u8 k, .int .i64 nn, .bool on, .int .u8 code, .int .u8 x0, .bool x1, .int .u8 x2, .int .u8 x3, .int .u8 x4, .int .u8 x5, .slice tp xs.length tc]] W (TwoD b1 g1 b2 g2 (doS s (ActD.mk k nn on code ⟨x0, x1, x2, x3, x4, x5⟩ (.slice tp xs.length tc) xs)) W) from fun W ha h => do_any _ W ha h (fun k hk => Nat.le_trans HLE.out (HP.out.lb k hk)))
        generalize doS s (ActD.mk k nn on code ⟨x0, x1, x2, x3, x4, x5⟩ (.slice tp xs.length tc) xs) = s2 at HDO
        go_wp2_with fail
        rw [HW0.out]
        with_reducible refine (HDO.out _ HFW.out HPW.out.two).mono ?_
        rintro e w5 ⟨⟨v5, rfl⟩, g1', g2', ht, hm⟩
        have HP2 := hid (HPW.out.step ht hm)
        clear ht hm HPW HP HDO
        go_wp2
        go_roundw
        case rel => exact ⟨q + 1, by omega, by go_num, g1', g2', s2, HP2.out⟩
        case measure => simp [intOf]; omega
      · have h2i : ¬ (q : Int) < 20 := by omega
        go_wp2_with fail
        rw [HW0.out]
        clear HP
        go_wp2
        go_roundw
        case rel => exact ⟨q + 1, by omega, by go_num, g1, g2, s, HPW.out⟩
        case measure => simp [intOf]; omega
    · obtain rfl : q = M := by omega
      have hok := HP.out.two.sp.ok
      have hLp := hok.pos
      obtain ⟨N, hN⟩ : ∃ N : Nat, N = s.L.length := ⟨_, rfl⟩
      have hNr : s.r * s.c = (N : Int) := by rw [hN]; exact hok.len.symm
      have hN1 : 0 < N ∧ N ≤ 3564 := by rw [hN]; exact hLp
      have htN : -456192 ≤ tz * (N : Int) ∧ tz * (N : Int) ≤ 452628 := by
        have a1 : (0 : Int) ≤ N := by omega
        have a2 : (N : Int) ≤ 3564 := by omega
        have h1 := Int.mul_le_mul_of_nonneg_right ht2 a1
        have h2 := Int.mul_le_mul_of_nonneg_right ht1 a1
        omega
      obtain ⟨far, hfar⟩ : ∃ far : Int, n1 + tz * (N : Int) = far := ⟨_, rfl⟩
      have hmul0 : IntKind.i64.wrap (tz * (N : Int)) = tz * (N : Int) := wrapI ⟨by omega, by omega⟩
      have hadd0 : IntKind.i64.wrap (n1 + tz * (N : Int)) = n1 + tz * (N : Int) := wrapI ⟨by omega, by omega⟩
      have HFI := hid (show I64 far from ⟨by omega, by omega⟩)
      have HNI := hid (show I64 n1 from ⟨by omega, by omega⟩)
      have HWR := hid (show s.wr n1 = s.wr far by
        unfold Spc.wr
        rw [← hN, ← hfar, Int.add_mul_emod_self_right])
      have HOK := hid hok
      have hcv : IntKind.i64.wrap tz = tz := wrapI ⟨by omega, by omega⟩
      have HSZ1 := hid (fun W (hb : Below wr.heap.size wr W) => HSZ.out b1 g1 s W (HP.out.two.sp.below hb))
      have HCL1 := hid (fun W => HCL.out s.r s.c hok.sz W)
      rw [hNr] at HCL1
      generalize s.r = R at HSZ1 HCL1
      generalize s.c = C at HSZ1 HCL1
      clear hN hNr hok hLp
      go_wp2_with fail
      with_reducible refine (HSZ1.out _ (Below.refl _ _)).mono ?_
      rintro e wa ⟨rfl, hba⟩
      have HPA := hid (HP.out.below hba)
      clear hba HP HSZ1
      go_wp2_with fail
      with_reducible refine (HCL1.out _).mono ?_
      rintro e wb ⟨rfl, hbb⟩
      have HPB := hid (HPA.out.below hbb)
      clear hbb HPA HCL1
      go_wp2_with fail
      try simp only [hcv, hmul0, hadd0, hfar]
      with_reducible refine (HAT.out b1 g1 s n1 HNI.out _ HPB.out.two.sp).mono ?_
      rintro e wc ⟨rfl, hbc⟩
      have HPC := hid (HPB.out.below hbc)
      clear hbc HPB
      go_wp2_with fail
      with_reducible refine (HAT.out b1 g1 s far HFI.out _ HPC.out.two.sp).mono ?_
      rintro e wd ⟨rfl, hbd⟩
      have HPD := hid (HPC.out.below hbd)
      clear hbd HPC
      rw [show s.atC far = s.atC n1 by unfold Spc.atC; rw [HWR.out]]
      obtain ⟨z0, z1, z2, z3, z4, z5⟩ := HBX.out _ HPD.out.bel
      go_wp2_with fail
      with_reducible refine (HSE.out b1 g1 s far HFI.out _ HPD.out.two.sp).mono ?_
      rintro e we ⟨⟨ve, rfl⟩, hs, hm⟩
      have HRE := hid (HPD.out.two.rf.moved hm (fun q => HPD.out.two.ap b2 q (by simp)) (fun q => HPD.out.two.ap g2 q (by simp)))
      have HLB := hid HPD.out.lb
      have HBE := hid (show Below WB.heap.size WB we from HPD.out.bel.trans (hm.toBelow HPD.out.bel.size (fun k hk => HLB.out k (by simp at hk ⊢; omega))))
      have HAP := hid HPD.out.two.ap
      have HSE1 := hid hs
      clear hs hm HPD z0 z1 z2 z3 z4 z5 HSE
      go_wp2_with fail
      with_reducible refine (HPL.out b1 g1 _ far HFI.out _ HSE1.out).mono ?_
      rintro e wf ⟨⟨vf, rfl⟩, hs, hm⟩
      have HRF := hid (HRE.out.moved hm (fun q => HAP.out b2 q (by simp)) (fun q => HAP.out g2 q (by simp)))
      have HBF := hid (show Below WB.heap.size WB wf from HBE.out.trans (hm.toBelow HBE.out.size (fun k hk => HLB.out k (by simp at hk ⊢; omega))))
      have HSF := hid hs
      clear hs hm HSE1 HRE HBE HPL
      go_wp2_with fail
      with_reducible refine (HCP.out b1 g1 _ _ HSF.out).mono ?_
      rintro e wg ⟨b3, g3, ex, rfl, hb3, hg3, hs3, hbg⟩
      have HTG := hid hs3
      have HSG := hid (HSF.out.below hbg)
      have HRG := hid (HRF.out.below hbg)
      have HBG := hid (below_t HBF.out hbg)
      have HN3 := hid (show ∀ k, k = b1 ∨ k = g1 ∨ k = b2 ∨ k = g2 → k ≠ b3 ∧ k ≠ g3 from fun k hk => by
        have h1 := HSF.out.lt
        have h2 := HRF.out.lt
        omega)
      have HL3 := hid (show WB.heap.size ≤ b3 ∧ WB.heap.size ≤ g3 from ⟨Nat.le_trans HBF.out.size hb3, Nat.le_trans HBF.out.size hg3⟩)
      clear hb3 hg3 hs3 hbg HSF HRF HBF
      have z0 := (HBX.out _ HBG.out).1
      go_wp2_with fail
      with_reducible refine (HPU.out b3 g3 _ far HFI.out _ HTG.out).mono ?_
      rintro e wh ⟨⟨vh, rfl⟩, hs, hm⟩
      rw [round_put HOK.out far cz ex] at hs
      have HTH := hid hs
      have HSH := hid (HSG.out.moved hm (fun q => by simp at q; have := HN3.out b1 (by simp); omega) (fun q => by simp at q; have := HN3.out g1 (by simp); omega))
      have HRH := hid (HRG.out.moved hm (fun q => by simp at q; have := HN3.out b2 (by simp); omega) (fun q => by simp at q; have := HN3.out g2 (by simp); omega))
      have HBH := hid (show Below WB.heap.size WB wh from HBG.out.trans (hm.toBelow HBG.out.size (fun k hk => by simp at hk; have := HL3.out; omega)))
      clear hs hm HTG HSG HRG HBG z0 HPU
      have HE2 := hid (round_at HOK.out far n1 cz HWR.out)
      have HE3 := hid (show ((s.setC far cz).place far).cu = (s.wr n1 : Int) by
        rw [HWR.out]
        show (((s.setC far cz).wr far : Nat) : Int) = _
        unfold Spc.wr
        rw [setC_len])
      generalize (s.setC far cz).place far = s2 at HTH HSH HE2 HE3
      have HC0 := hid (HBX.out _ HBH.out)
      go_wp2_with fail
      refine wp_region_held_drew (S := fun V => V.cell? ⟨w.heap.size, 0, none⟩ = some (.int .u8 cz.ch) ∧ V.cell? ⟨w.heap.size, 1, none⟩ = some (.bool cz.at_) ∧ V.cell? ⟨w.heap.size, 2, none⟩ = some (.int .u8 cz.fa) ∧ V.cell? ⟨w.heap.size, 3, none⟩ = some (.int .u8 cz.hi) ∧ V.cell? ⟨w.heap.size, 4, none⟩ = some (.int .u8 cz.co) ∧ V.cell? ⟨w.heap.size, 5, none⟩ = some (.int .u8 cz.se) ∧ Below wh.heap.size wh V) (by kernel_rfl) ?_ (fun hHeld => ?_)
      · have hdr : Below wh.heap.size wh wh.drew := (Below.refl _ _).drew
        exact ⟨keepc hdr HC0.out.1, keepc hdr HC0.out.2.1, keepc hdr HC0.out.2.2.1, keepc hdr HC0.out.2.2.2.1, keepc hdr HC0.out.2.2.2.2.1, keepc hdr HC0.out.2.2.2.2.2, hdr⟩
      refine takeD (i := 0) (v := ?_) 77 rfl rfl (by kernel_rfl) (by kernel_rfl) (by kernel_rfl) (fun _ _ _ h => h) (by assumption) (Or.inl ⟨by rfl, ?_⟩) ?_
      rotate_left
      · intro w hSw
        (try dsimp only at hSw)
        go_simp
        try with_reducible rfl
      simp only [List.setIfInBounds_toArray, List.set_cons_zero, List.set_cons_succ]
      refine takeD (i := 1) (v := ?_) 78 rfl rfl (by kernel_rfl) (by kernel_rfl) (by kernel_rfl) (fun _ _ _ h => h) (by assumption) (Or.inl ⟨by rfl, ?_⟩) ?_
      rotate_left
      · intro w hSw
        (try dsimp only at hSw)
        go_simp
        try with_reducible rfl
      simp only [List.setIfInBounds_toArray, List.set_cons_zero, List.set_cons_succ]
      refine takeD (i := 3) (v := ?_) 80 rfl rfl (by kernel_rfl) (by kernel_rfl) (by kernel_rfl) (fun _ _ _ h => h) (by assumption) (Or.inl ⟨by rfl, ?_⟩) ?_
      rotate_left
      · intro w hSw
        (try dsimp only at hSw)
        go_simp
        try with_reducible rfl
      simp only [List.setIfInBounds_toArray, List.set_cons_zero, List.set_cons_succ]
      refine wpAnyH_ready (rs := [2]) (by kernel_rfl) (by simp) ?_
      refine AllReadyH.cons (by simp only [List.getElem?_toArray, List.getElem?_cons_succ, List.getElem?_cons_zero]; rfl) (fun K hK => ?_) AllReadyH.nil
      go_simp
      go_at_call 15; (with_reducible refine (HAT.out b1 g1 s2 n1 HNI.out _ (HSH.out.below hHeld.2.2.2.2.2.2)).mono ?_); rintro e wi ⟨rfl, hbi⟩; rw [HE2.out]
      refine hK.out _ _ ?_ (fun hHeldN => ?_)
      · exact ⟨keepc hbi hHeld.1, keepc hbi hHeld.2.1, keepc hbi hHeld.2.2.1, keepc hbi hHeld.2.2.2.1, keepc hbi hHeld.2.2.2.2.1, keepc hbi hHeld.2.2.2.2.2.1, below_t hHeld.2.2.2.2.2.2 hbi⟩
      clear hK K hHeld
      have hHeld := hHeldN
      clear hHeldN
      (try simp only [Act.put, List.setIfInBounds_toArray, List.set_cons_zero, List.set_cons_succ])
      refine wpAnyH_ready (rs := [4]) (by kernel_rfl) (by simp) ?_
      refine AllReadyH.cons (by simp only [List.getElem?_toArray, List.getElem?_cons_succ, List.getElem?_cons_zero]; rfl) (fun K hK => ?_) AllReadyH.nil
      go_simp
      go_at_call 36; (with_reducible refine (HFT.out _).mono ?_); rintro e wj ⟨rfl, hbj⟩
      refine hK.out _ _ ?_ (fun hHeldN => ?_)
      · exact ⟨keepc hbj hHeld.1, keepc hbj hHeld.2.1, keepc hbj hHeld.2.2.1, keepc hbj hHeld.2.2.2.1, keepc hbj hHeld.2.2.2.2.1, keepc hbj hHeld.2.2.2.2.2.1, below_t hHeld.2.2.2.2.2.2 hbj⟩
      clear hK K hHeld
      have hHeld := hHeldN
      clear hHeldN
      (try simp only [Act.put, List.setIfInBounds_toArray, List.set_cons_zero, List.set_cons_succ])
      refine takeD (i := 5) (v := ?_) 82 rfl rfl (by kernel_rfl) (by kernel_rfl) (by kernel_rfl) (fun _ _ _ h => h) (by assumption) (Or.inl ⟨by rfl, ?_⟩) ?_
      rotate_left
      · intro w hSw
        (try dsimp only at hSw)
        go_simp
        try with_reducible rfl
      simp only [List.setIfInBounds_toArray, List.set_cons_zero, List.set_cons_succ]
      refine takeD (i := 6) (v := ?_) 83 rfl rfl (by kernel_rfl) (by kernel_rfl) (by kernel_rfl) (fun _ _ _ h => h) (by assumption) (Or.inl ⟨by rfl, ?_⟩) ?_
      rotate_left
      · intro w hSw
        (try dsimp only at hSw)
        go_simp
        try with_reducible rfl
      simp only [List.setIfInBounds_toArray, List.set_cons_zero, List.set_cons_succ]
      refine takeD (i := 7) (v := ?_) 84 rfl rfl (by kernel_rfl) (by kernel_rfl) (by kernel_rfl) (fun _ _ _ h => h) (by assumption) (Or.inl ⟨by rfl, ?_⟩) ?_
      rotate_left
      · intro w hSw
        (try dsimp only at hSw)
        go_simp
        try with_reducible rfl
      simp only [List.setIfInBounds_toArray, List.set_cons_zero, List.set_cons_succ]
      refine takeD (i := 9) (v := ?_) 86 rfl rfl (by kernel_rfl) (by kernel_rfl) (by kernel_rfl) (fun _ _ _ h => h) (by assumption) (Or.inl ⟨by rfl, ?_⟩) ?_
      rotate_left
      · intro w hSw
        (try dsimp only at hSw)
        go_simp
        try with_reducible rfl
      simp only [List.setIfInBounds_toArray, List.set_cons_zero, List.set_cons_succ]
      refine takeD (i := 10) (v := ?_) 87 rfl rfl (by kernel_rfl) (by kernel_rfl) (by kernel_rfl) (fun _ _ _ h => h) (by assumption) (Or.inl ⟨by rfl, ?_⟩) ?_
      rotate_left
      · intro w hSw
        (try dsimp only at hSw)
        go_simp
        try with_reducible rfl
      simp only [List.setIfInBounds_toArray, List.set_cons_zero, List.set_cons_succ]
      refine wpAnyH_ready (rs := [8]) (by kernel_rfl) (by simp) ?_
      refine AllReadyH.cons (by simp only [List.getElem?_toArray, List.getElem?_cons_succ, List.getElem?_cons_zero]; rfl) (fun K hK => ?_) AllReadyH.nil
      go_simp
      go_at_call 17; (with_reducible refine (HCU.out b1 g1 s2 _ (HSH.out.below hHeld.2.2.2.2.2.2)).mono ?_); rintro e wk ⟨rfl, hbk⟩; rw [HE3.out]
      refine hK.out _ _ ?_ (fun hHeldN => ?_)
      · exact ⟨keepc hbk hHeld.1, keepc hbk hHeld.2.1, keepc hbk hHeld.2.2.1, keepc hbk hHeld.2.2.2.1, keepc hbk hHeld.2.2.2.2.1, keepc hbk hHeld.2.2.2.2.2.1, below_t hHeld.2.2.2.2.2.2 hbk⟩
      clear hK K hHeld
      have hHeld := hHeldN
      clear hHeldN
      (try simp only [Act.put, List.setIfInBounds_toArray, List.set_cons_zero, List.set_cons_succ])
      refine wpAnyH_ready (rs := [11]) (by kernel_rfl) (by simp) ?_
      refine AllReadyH.cons (by simp only [List.getElem?_toArray, List.getElem?_cons_succ, List.getElem?_cons_zero]; rfl) (fun K hK => ?_) AllReadyH.nil
      go_simp
      go_at_call 37; (with_reducible refine (HRP.out b2 g2 s n1 HNI.out _ (HRH.out.below hHeld.2.2.2.2.2.2)).mono ?_); rintro e wl ⟨rfl, hbl⟩
      refine hK.out _ _ ?_ (fun hHeldN => ?_)
      · exact ⟨keepc hbl hHeld.1, keepc hbl hHeld.2.1, keepc hbl hHeld.2.2.1, keepc hbl hHeld.2.2.2.1, keepc hbl hHeld.2.2.2.2.1, keepc hbl hHeld.2.2.2.2.2.1, below_t hHeld.2.2.2.2.2.2 hbl⟩
      clear hK K hHeld
      have hHeld := hHeldN
      clear hHeldN
      (try simp only [Act.put, List.setIfInBounds_toArray, List.set_cons_zero, List.set_cons_succ])
      refine takeD (i := 12) (v := ?_) 89 rfl rfl (by kernel_rfl) (by kernel_rfl) (by kernel_rfl) (fun _ _ _ h => h) (by assumption) (Or.inl ⟨by rfl, ?_⟩) ?_
      rotate_left
      · intro w hSw
        (try dsimp only at hSw)
        go_simp
        try with_reducible rfl
      simp only [List.setIfInBounds_toArray, List.set_cons_zero, List.set_cons_succ]
      refine takeD (i := 13) (v := ?_) 90 rfl rfl (by kernel_rfl) (by kernel_rfl) (by kernel_rfl) (fun _ _ _ h => h) (by assumption) (Or.inl ⟨by rfl, ?_⟩) ?_
      rotate_left
      · intro w hSw
        (try dsimp only at hSw)
        go_simp
        try with_reducible rfl
      simp only [List.setIfInBounds_toArray, List.set_cons_zero, List.set_cons_succ]
      refine takeD (i := 14) (v := ?_) 91 rfl rfl (by kernel_rfl) (by kernel_rfl) (by kernel_rfl) (fun _ _ _ h => h) (by assumption) (Or.inl ⟨by rfl, ?_⟩) ?_
      rotate_left
      · intro w hSw
        (try dsimp only at hSw)
        go_simp
        try with_reducible rfl
      simp only [List.setIfInBounds_toArray, List.set_cons_zero, List.set_cons_succ]
      refine takeD (i := 15) (v := ?_) 92 rfl rfl (by kernel_rfl) (by kernel_rfl) (by kernel_rfl) (fun _ _ _ h => h) (by assumption) (Or.inl ⟨by rfl, ?_⟩) ?_
      rotate_left
      · intro w hSw
        (try dsimp only at hSw)
        go_simp
        try with_reducible rfl
      simp only [List.setIfInBounds_toArray, List.set_cons_zero, List.set_cons_succ]
      refine takeD (i := 16) (v := ?_) 93 rfl rfl (by kernel_rfl) (by kernel_rfl) (by kernel_rfl) (fun _ _ _ h => h) (by assumption) (Or.inl ⟨by rfl, ?_⟩) ?_
      rotate_left
      · intro w hSw
        (try dsimp only at hSw)
        go_simp
        try with_reducible rfl
      simp only [List.setIfInBounds_toArray, List.set_cons_zero, List.set_cons_succ]
      refine wpAnyH_ready (rs := [17]) (by kernel_rfl) (by simp) ?_
      refine AllReadyH.cons (by simp only [List.getElem?_toArray, List.getElem?_cons_succ, List.getElem?_cons_zero]; rfl) (fun K hK => ?_) AllReadyH.nil
      go_simp
      go_at_call 29; (with_reducible refine (HSM.out b3 g3 b1 g1 _ s2 _ (HTH.out.below hHeld.2.2.2.2.2.2) (HSH.out.below hHeld.2.2.2.2.2.2) rfl rfl rfl rfl).mono ?_); rintro e wm ⟨rfl, hbm⟩
      refine hK.out _ _ ?_ (fun hHeldN => ?_)
      · exact ⟨keepc hbm hHeld.1, keepc hbm hHeld.2.1, keepc hbm hHeld.2.2.1, keepc hbm hHeld.2.2.2.1, keepc hbm hHeld.2.2.2.2.1, keepc hbm hHeld.2.2.2.2.2.1, below_t hHeld.2.2.2.2.2.2 hbm⟩
      clear hK K hHeld
      have hHeld := hHeldN
      clear hHeldN
      (try simp only [Act.put, List.setIfInBounds_toArray, List.set_cons_zero, List.set_cons_succ])
      refine takeD (i := 18) (v := ?_) 95 rfl rfl (by kernel_rfl) (by kernel_rfl) (by kernel_rfl) (fun _ _ _ h => h) (by assumption) (Or.inl ⟨by rfl, ?_⟩) ?_
      rotate_left
      · intro w hSw
        (try dsimp only at hSw)
        go_simp
        try with_reducible rfl
      simp only [List.setIfInBounds_toArray, List.set_cons_zero, List.set_cons_succ]
      refine takeD (i := 19) (v := ?_) 10 rfl rfl (by kernel_rfl) (by kernel_rfl) (by kernel_rfl) (fun _ _ _ h => h) (by assumption) (Or.inl ⟨by rfl, ?_⟩) ?_
      rotate_left
      · intro w hSw
        (try dsimp only at hSw)
        go_simp
        try with_reducible rfl
      simp only [List.setIfInBounds_toArray, List.set_cons_zero, List.set_cons_succ]
      refine wpAnyH_done (by kernel_rfl) ?_ _
      have HE := hid hHeld
      clear hHeld
      go_wp2
      go_ret
      exact ⟨rfl, HB0.out.trans ((HBH.out.trans (HE.out.2.2.2.2.2.2.mono HBH.out.size)).mono HLE.out)⟩
end Go.Proofs.Ytdaainifnbbhiaa
