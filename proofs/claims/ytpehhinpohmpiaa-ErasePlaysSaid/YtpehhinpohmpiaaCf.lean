/-
  What the law lays, and its example, as it must be.
-/
import Derived.Test.YtpehhinpohmpiaaCe
namespace Go.Proofs.Ytpehhinpohmpiaa
open Go.RowKit Go.Lib Go.Deep

set_option maxRecDepth 100000 in
set_option maxHeartbeats 8000000 in
theorem lay15_any (m : Nat) (hm : m < 256) (v : Value) (ac : List ActD) (B : Nat) (w : World) (hB : B ≤ w.heap.size) (hx : ActsIn B w v ac) : Calls Try.prog 43 #[.int .u8 m, v] w fun e w' => ∃ b1 g1 b2 g2, e = .returned (.tuple #[.pointer (some ⟨b1, 0, none⟩), .pointer (some ⟨b2, 0, none⟩)]) ∧ Duo w w' b1 b2 g1 g2 (runS (clearS (2 + ((m % 4 : Nat) : Int)) false) ac ac.length) (runS (clearS (2 + ((m % 4 : Nat) : Int)) false) ac ac.length) ∧ FitS (runS (clearS (2 + ((m % 4 : Nat) : Int)) false) ac ac.length) := by
  obtain ⟨m4, hm4⟩ : ∃ m4 : Nat, m % 4 = m4 := ⟨_, rfl⟩
  have hm0 : (0 : Int) ≤ (m : Int) := by omega
  have hmt : (m : Int).tmod 4 = m4 := by rw [Int.tmod_eq_emod_of_nonneg (by omega)]; omega
  have hm5 : m4 < 4 := by omega
  rw [hm4]
  obtain ⟨s0, hs0⟩ : ∃ s0, clearS (2 + (m4 : Int)) false = s0 := ⟨_, rfl⟩
  have HNW := hid (fun W => new_yes (2 + (m4 : Int)) (by omega) (by omega) W)
  have HRN := hid (fun W => rnew_yes (2 + (m4 : Int)) (by omega) (by omega) W)
  have HS0 := hid hs0
  have HF0 := hid (show FitS s0 by rw [← hs0]; exact FitS.clear (by omega) (by omega) false)
  have HMO := hid (show s0.mo = 2 + (m4 : Int) by rw [← hs0]; rfl)
  rw [hs0]
  obtain ⟨x, cp, rfl⟩ := hx.sl
  have HX := hid hx
  have HLE := hid hB
  obtain ⟨M, hM⟩ : ∃ M, M = ac.length := ⟨_, rfl⟩
  have HM := hid hM
  have hML : M ≤ 9223372036854775807 := by rw [hM]; exact hx.len
  have HRD := hid (fun (a : ActD) (b g : Nat) (s : Spc) (W : World) (ha : a.Fit B W) (h : RfM W b g s) hb hg => rdo_any (B := B) (b := b) (g := g) (s := s) a W ha h hb hg)
  rw [← hM]
  clear hx hM hs0 hm4 hB
  go_enter Try.func43, Try.ntmps43
  go_wp2_with fail
  with_reducible refine (HNW.out _).mono ?_
  rintro e w2 ⟨b1, g1, rfl, hb, hg, hs, h2⟩
  rw [HS0.out] at hs
  have HS2 := hid hs
  have HB2 := hid h2
  have HLB := hid (show w.heap.size ≤ b1 ∧ w.heap.size ≤ g1 from ⟨hb, hg⟩)
  clear hs h2 hb hg
  go_wp2_with fail
  with_reducible refine (HRN.out _).mono ?_
  rintro e w3 ⟨b2, g2, rfl, hb, hg, hs, h3⟩
  rw [HS0.out] at hs
  have HP := hid (show Duo w w3 b1 b2 g1 g2 s0 s0 from ⟨HS2.out.below h3, hs, fun k hk q => by
      have := HS2.out.lt
      simp at hk q
      omega, below_t HB2.out h3, fun k hk => by
      have := HLB.out
      have := HB2.out.size
      simp at hk
      omega⟩)
  clear hs h3 hb hg HLB HS2 HB2
  go_wp2_with fail
  go_loopw [27] (fun i W => ∃ q : Nat, q ≤ M ∧ i = .int .i64 q ∧ ∃ g2 : Nat, Hid (Duo w W b1 b2 g1 g2 s0 (runS s0 ac q)) ∧ Hid (FitS (runS s0 ac q))) (fun i _ => M - (intOf i).toNat)
  case atStart => exact ⟨0, by omega, rfl, g2, HP.out, HF0.out⟩
  case round =>
    clear HP
    obtain ⟨q, hq, rfl, g2, HP, HFS⟩ := hrel
    by_cases hqM : q < M
    · have hqi : (q : Int) < M := by omega
      have hrun : runS s0 ac (q + 1) = if q < 30 then doS (runS s0 ac q) (ac.getD q act0) else runS s0 ac q := rfl
      generalize runS s0 ac q = t at HP HFS hrun
      have HBR := hid (HP.out.bel.mono HLE.out)
      obtain ⟨a0, ha0⟩ : ∃ a0, ac.getD q act0 = a0 := ⟨_, rfl⟩
      rw [ha0] at hrun
      obtain ⟨g3, o3, rfl, hg3, hcell⟩ := (HX.out.below HBR.out).at_ x cp rfl q (by rw [← HM.out]; exact hqM)
      have hfit := (HX.out.below HBR.out).fit q (by rw [← HM.out]; exact hqM)
      rw [ha0] at hcell hfit
      clear ha0
      obtain ⟨k, nn, on, code, c, tx, xs⟩ := a0
      have htx := hfit.tx.sl
      dsimp only at htx
      obtain ⟨tp, tc, rfl⟩ := htx
      obtain ⟨x0, x1, x2, x3, x4, x5⟩ := c
      have HF := hid hfit
      have HRUN := hid hrun
      clear hrun
      have HXL := hid (show (ActD.mk k nn on code ⟨x0, x1, x2, x3, x4, x5⟩ (.slice tp xs.length tc) xs).Fit B wr from hfit)
      (try dsimp only at hcell)
      have u0 : wr.cell? ⟨g3, o3 + q * 11, none⟩ = some (.int .u8 k) := hcell 0 (by omega)
      have u1 : wr.cell? ⟨g3, o3 + q * 11 + 1, none⟩ = some (.int .i64 nn) := hcell 1 (by omega)
      have u2 : wr.cell? ⟨g3, o3 + q * 11 + 2, none⟩ = some (.bool on) := hcell 2 (by omega)
      have u3 : wr.cell? ⟨g3, o3 + q * 11 + 3, none⟩ = some (.int .u8 code) := hcell 3 (by omega)
      have u4 : wr.cell? ⟨g3, o3 + q * 11 + 4, none⟩ = some (.int .u8 x0) := hcell 4 (by omega)
      have u5 : wr.cell? ⟨g3, o3 + q * 11 + 5, none⟩ = some (.bool x1) := hcell 5 (by omega)
      have u6 : wr.cell? ⟨g3, o3 + q * 11 + 6, none⟩ = some (.int .u8 x2) := hcell 6 (by omega)
      have u7 : wr.cell? ⟨g3, o3 + q * 11 + 7, none⟩ = some (.int .u8 x3) := hcell 7 (by omega)
      have u8 : wr.cell? ⟨g3, o3 + q * 11 + 8, none⟩ = some (.int .u8 x4) := hcell 8 (by omega)
      have u9 : wr.cell? ⟨g3, o3 + q * 11 + 9, none⟩ = some (.int .u8 x5) := hcell 9 (by omega)
      have u10 : wr.cell? ⟨g3, o3 + q * 11 + 10, none⟩ = some (.slice tp xs.length tc) := hcell 10 (by omega)
      have hgl3 := World.block_lt_of_cell? wr _ u0
      clear hcell hfit
      obtain ⟨W0, hW0⟩ : ∃ W0, wr.alloc (.cells #[.int .u8 k, .int .i64 nn, .bool on, .int .u8 code, .int .u8 x0, .bool x1, .int .u8 x2, .int .u8 x3, .int .u8 x4, .int .u8 x5, .slice tp xs.length tc] 86) = W0 := ⟨_, rfl⟩
      have hb0 : Below wr.heap.size wr W0 := by rw [← hW0]; exact bal (Below.refl _ _) _
      have HPW := hid (HP.out.below hb0)
      have HFW := hid (HXL.out.below (hb0.mono (Nat.le_trans HLE.out HP.out.bel.size)))
      have HW0 := hid hW0
      clear hb0 hW0
      by_cases h30 : q < 30
      · have h2i : (q : Int) < 30 := by omega
        have HDO := hid (show ∀ W, (ActD.mk k nn on code ⟨x0, x1, x2, x3, x4, x5⟩ (.slice tp xs.length tc) xs).Fit B W → RfM W b2 g2 t → Calls Try.prog 64 #[.pointer (some ⟨b2, 0, none⟩), .agg #[.int .u8 k, .int .i64 nn, .bool on, .int .u8 code, .int .u8 x0, .bool x1, .int .u8 x2, .int .u8 x3, .int .u8 x4, .int .u8 x5, .slice tp xs.length tc]] W (RDoD b2 g2 (doS t (ActD.mk k nn on code ⟨x0, x1, x2, x3, x4, x5⟩ (.slice tp xs.length tc) xs)) W) from fun W ha h => HRD.out _ b2 g2 t W ha h (Nat.le_trans HLE.out (HP.out.lb b2 (by simp))) (Nat.le_trans HLE.out (HP.out.lb g2 (by simp))))
        have HFN := hid (show FitS (doS t (ActD.mk k nn on code ⟨x0, x1, x2, x3, x4, x5⟩ (.slice tp xs.length tc) xs)) from HFS.out.act HXL.out)
        have hrun := HRUN.out
        rw [if_pos h30] at hrun
        have HR2 := hid hrun
        clear hrun HRUN
        generalize doS t (ActD.mk k nn on code ⟨x0, x1, x2, x3, x4, x5⟩ (.slice tp xs.length tc) xs) = t2 at HDO HFN HR2
        go_wp2_with fail
        rw [HW0.out]
        with_reducible refine (HDO.out _ HFW.out HPW.out.rf).mono ?_
        rintro e w5 ⟨⟨v5, rfl⟩, g2', ht, hm⟩
        have HP2 := hid (HPW.out.ref ht hm)
        clear ht hm HPW HP HDO
        go_wp2
        go_roundw
        case rel => exact ⟨q + 1, by omega, by go_num, g2', by rw [HR2.out]; exact HP2.out, by rw [HR2.out]; exact HFN.out⟩
        case measure => simp [intOf]; omega
      · have h2i : ¬ (q : Int) < 30 := by omega
        have hrun := HRUN.out
        rw [if_neg h30] at hrun
        have HR2 := hid hrun
        clear hrun HRUN
        go_wp2_with fail
        rw [HW0.out]
        clear HP
        go_wp2
        go_roundw
        case rel => exact ⟨q + 1, by omega, by go_num, g2, by rw [HR2.out]; exact HPW.out, by rw [HR2.out]; exact HFS.out⟩
        case measure => simp [intOf]; omega
    · obtain rfl : q = M := by omega
      have HMO2 := hid (runS_mo s0 ac q)
      obtain ⟨t, ht⟩ : ∃ t, runS s0 ac q = t := ⟨_, rfl⟩
      rw [ht] at HP HFS HMO2
      have HT := hid ht
      clear ht
      have HMX := hid (show t.mo = 2 + (m4 : Int) by rw [HMO2.out, HMO.out])
      have hlb2 := HP.out.lt b2 (by simp)
      have c1 := HP.out.rf.hd.h1
      obtain ⟨al, hal⟩ : ∃ al, t.alt = al := ⟨_, rfl⟩
      rw [hal] at c1
      have HAL := hid hal
      clear hal
      cases al
      · have HS1 := hid (show LayI t 0 s0 ∧ True from ⟨by
          have := LayI.start HFS.out.ok (m := 2 + (m4 : Int)) HMX.out.symm
          rw [HAL.out, HS0.out] at this
          exact this, trivial⟩)
        have HFL := hid (HFS.out)
        have c4 := HP.out.rf.hd.h4
        obtain ⟨N, hN⟩ : ∃ N, t.L.length = N := ⟨_, rfl⟩
        have hNp : 0 < N ∧ N ≤ 3564 := by rw [← hN]; exact HFS.out.ok.pos
        rw [hN] at c4
        have HNN := hid hN
        have hlg2 := HP.out.lt g2 (by simp)
        have hlb2' := HP.out.lt b2 (by simp)
        clear hN
        go_wp2_with fail
        go_loopw [49] (fun i W => ∃ q : Nat, q ≤ N ∧ i = .int .i64 q ∧ ∃ (g1 : Nat) (s1 : Spc), Hid (Duo w W b1 b2 g1 g2 s1 t) ∧ Hid (LayI t q s1)) (fun i _ => N - (intOf i).toNat)
        case atStart => exact ⟨0, by omega, rfl, g1, s0, HP.out, HS1.out.1⟩
        case round =>
          clear HP HS1 hlb2' hlg2 c4
          obtain ⟨q, hq, rfl, g1, s1, HP, HLY⟩ := hrel
          have hlg2 := HP.out.lt g2 (by simp)
          by_cases hqN : q < N
          · have hqi : (q : Int) < N := by omega
            obtain ⟨c, hc⟩ : ∃ c, t.cel q = c := ⟨_, rfl⟩
            obtain ⟨a0, a1, a2, a3, a4, a5⟩ := HP.out.rf.row.six q (by rw [HNN.out]; exact hqN) c hc
            have HOKC := hid (show c.OK by rw [← hc]; exact HFL.out.ok.cel q)
            have HCE := hid hc
            obtain ⟨W0, hW0⟩ : ∃ W0, wr.alloc (.cells #[.int .u8 c.ch, .bool c.at_, .int .u8 c.fa, .int .u8 c.hi, .int .u8 c.co, .int .u8 c.se] 30) = W0 := ⟨_, rfl⟩
            have hb0 : Below wr.heap.size wr W0 := by rw [← hW0]; exact bal (Below.refl _ _) _
            have HPW := hid (HP.out.below hb0)
            have HW0 := hid hW0
            clear hb0 hW0 hc
            by_cases hz : c = cel0
            · have HZ := hid hz
              subst hz
              simp only [cel0] at a0 a1 a2 a3 a4 a5 HW0
              clear HOKC
              go_wp2_with fail
              rw [HW0.out]
              have HL2 := hid (HLY.out.skip HCE.out)
              clear HP HLY
              go_wp2
              go_roundw
              case rel => exact ⟨q + 1, by omega, by go_num, g1, s1, HPW.out, HL2.out⟩
              case measure => simp [intOf]; omega
            · have hne : c.ch = 0 → c.at_ = false → c.fa = 0 → c.hi = 0 → c.co = 0 → ¬ c.se = 0 := fun h0 h1 h2 h3 h4 h5 => hz (by
                obtain ⟨x0, x1, x2, x3, x4, x5⟩ := c
                dsimp only at h0 h1 h2 h3 h4 h5
                subst h0 h1 h2 h3 h4 h5
                rfl)
              have HSE := hid (fun W (h : SpM W b1 g1 s1) => set_any (b := b1) (g := g1) (s := s1) (q : Int) (i64_small (by omega) (by omega)) c HOKC.out W h)
              have HL2 := hid (HLY.out.set (by rw [HNN.out]; exact hqN) (HFL.out.fit q (by rw [HNN.out]; exact hqN)))
              rw [HCE.out] at HL2
              clear hz HLY
              obtain ⟨x0, x1, x2, x3, x4, x5⟩ := c
              dsimp only at hne a0 a1 a2 a3 a4 a5 HW0
              have hnq := fun W => neq_cell x0 x1 x2 x3 x4 x5 hne W
              clear hne
              go_wp2_with fail
              rw [HW0.out]
              with_reducible refine (HSE.out _ HPW.out.sp).mono ?_
              rintro e w7 ⟨⟨v7, rfl⟩, hs, hm⟩
              have HP2 := hid (HPW.out.prog hs hm)
              clear hs hm HPW HP HSE
              go_wp2
              go_roundw
              case rel => exact ⟨q + 1, by omega, by go_num, g1, _, HP2.out, HL2.out⟩
              case measure => simp [intOf]; omega
          · obtain rfl : q = N := by omega
            have c5 := HP.out.rf.hd.h5
            have HCU := hid (show I64 t.cu from by have h1 := HFL.out.ok.cu1; have h2 := HFL.out.ok.cu2; have h3 := HFL.out.ok.pos; exact i64_small (by omega) (by omega))
            have HPL := hid (fun W (h : SpM W b1 g1 s1) => place_any (b := b1) (g := g1) (s := s1) t.cu HCU.out W h)
            have HDN := hid (show s1.place t.cu = t by
              have h := HLY.out
              rw [← HNN.out] at h
              exact h.done HFL.out.ok HFL.out.ex)
            rw [HDN.out] at HPL
            clear HLY HCU
            go_wp2_with fail
            with_reducible refine (HPL.out _ HP.out.sp).mono ?_
            rintro e w8 ⟨⟨v8, rfl⟩, hs, hm⟩
            have HP2 := hid (HP.out.prog hs hm)
            clear hs hm HP HPL
            go_wp2
            exact bodyPost_ret (v := .tuple #[.pointer (some ⟨b1, 0, none⟩), .pointer (some ⟨b2, 0, none⟩)]) (by simp [results, Try.results43, go_sem]) rfl ⟨b1, g1, b2, g2, rfl, by rw [HT.out]; exact HP2.out, by rw [HT.out]; exact HFL.out⟩
      · have HCL := hid (fun W (h : SpM W b1 g1 s0) => clear_any (b := b1) (g := g1) (s := s0) true W h)
        rw [HMO.out] at HCL
        go_wp2_with fail
        with_reducible refine (HCL.out _ HP.out.sp).mono ?_
        rintro e w6 ⟨⟨v6, rfl⟩, g1', hg', hs, hm⟩
        have HPN := hid (HP.out.prog hs (moved_b hm hg'))
        have HS1 := hid (show LayI t 0 (clearS (2 + (m4 : Int)) true) ∧ True from ⟨by
          have := LayI.start HFS.out.ok (m := 2 + (m4 : Int)) HMX.out.symm
          rw [HAL.out] at this
          exact this, trivial⟩)
        clear hs hm hg' HP
        have HP := HPN
        clear HPN c1
        generalize clearS (2 + (m4 : Int)) true = s0 at HP HS1
        generalize g1' = g1 at HP
        have HFL := hid (HFS.out)
        have c4 := HP.out.rf.hd.h4
        obtain ⟨N, hN⟩ : ∃ N, t.L.length = N := ⟨_, rfl⟩
        have hNp : 0 < N ∧ N ≤ 3564 := by rw [← hN]; exact HFS.out.ok.pos
        rw [hN] at c4
        have HNN := hid hN
        have hlg2 := HP.out.lt g2 (by simp)
        have hlb2' := HP.out.lt b2 (by simp)
        clear hN
        go_wp2_with fail
        go_loopw [49] (fun i W => ∃ q : Nat, q ≤ N ∧ i = .int .i64 q ∧ ∃ (g1 : Nat) (s1 : Spc), Hid (Duo w W b1 b2 g1 g2 s1 t) ∧ Hid (LayI t q s1)) (fun i _ => N - (intOf i).toNat)
        case atStart => exact ⟨0, by omega, rfl, g1, s0, HP.out, HS1.out.1⟩
        case round =>
          clear HP HS1 hlb2' hlg2 c4
          obtain ⟨q, hq, rfl, g1, s1, HP, HLY⟩ := hrel
          have hlg2 := HP.out.lt g2 (by simp)
          by_cases hqN : q < N
          · have hqi : (q : Int) < N := by omega
            obtain ⟨c, hc⟩ : ∃ c, t.cel q = c := ⟨_, rfl⟩
            obtain ⟨a0, a1, a2, a3, a4, a5⟩ := HP.out.rf.row.six q (by rw [HNN.out]; exact hqN) c hc
            have HOKC := hid (show c.OK by rw [← hc]; exact HFL.out.ok.cel q)
            have HCE := hid hc
            obtain ⟨W0, hW0⟩ : ∃ W0, wr.alloc (.cells #[.int .u8 c.ch, .bool c.at_, .int .u8 c.fa, .int .u8 c.hi, .int .u8 c.co, .int .u8 c.se] 30) = W0 := ⟨_, rfl⟩
            have hb0 : Below wr.heap.size wr W0 := by rw [← hW0]; exact bal (Below.refl _ _) _
            have HPW := hid (HP.out.below hb0)
            have HW0 := hid hW0
            clear hb0 hW0 hc
            by_cases hz : c = cel0
            · have HZ := hid hz
              subst hz
              simp only [cel0] at a0 a1 a2 a3 a4 a5 HW0
              clear HOKC
              go_wp2_with fail
              rw [HW0.out]
              have HL2 := hid (HLY.out.skip HCE.out)
              clear HP HLY
              go_wp2
              go_roundw
              case rel => exact ⟨q + 1, by omega, by go_num, g1, s1, HPW.out, HL2.out⟩
              case measure => simp [intOf]; omega
            · have hne : c.ch = 0 → c.at_ = false → c.fa = 0 → c.hi = 0 → c.co = 0 → ¬ c.se = 0 := fun h0 h1 h2 h3 h4 h5 => hz (by
                obtain ⟨x0, x1, x2, x3, x4, x5⟩ := c
                dsimp only at h0 h1 h2 h3 h4 h5
                subst h0 h1 h2 h3 h4 h5
                rfl)
              have HSE := hid (fun W (h : SpM W b1 g1 s1) => set_any (b := b1) (g := g1) (s := s1) (q : Int) (i64_small (by omega) (by omega)) c HOKC.out W h)
              have HL2 := hid (HLY.out.set (by rw [HNN.out]; exact hqN) (HFL.out.fit q (by rw [HNN.out]; exact hqN)))
              rw [HCE.out] at HL2
              clear hz HLY
              obtain ⟨x0, x1, x2, x3, x4, x5⟩ := c
              dsimp only at hne a0 a1 a2 a3 a4 a5 HW0
              have hnq := fun W => neq_cell x0 x1 x2 x3 x4 x5 hne W
              clear hne
              go_wp2_with fail
              rw [HW0.out]
              with_reducible refine (HSE.out _ HPW.out.sp).mono ?_
              rintro e w7 ⟨⟨v7, rfl⟩, hs, hm⟩
              have HP2 := hid (HPW.out.prog hs hm)
              clear hs hm HPW HP HSE
              go_wp2
              go_roundw
              case rel => exact ⟨q + 1, by omega, by go_num, g1, _, HP2.out, HL2.out⟩
              case measure => simp [intOf]; omega
          · obtain rfl : q = N := by omega
            have c5 := HP.out.rf.hd.h5
            have HCU := hid (show I64 t.cu from by have h1 := HFL.out.ok.cu1; have h2 := HFL.out.ok.cu2; have h3 := HFL.out.ok.pos; exact i64_small (by omega) (by omega))
            have HPL := hid (fun W (h : SpM W b1 g1 s1) => place_any (b := b1) (g := g1) (s := s1) t.cu HCU.out W h)
            have HDN := hid (show s1.place t.cu = t by
              have h := HLY.out
              rw [← HNN.out] at h
              exact h.done HFL.out.ok HFL.out.ex)
            rw [HDN.out] at HPL
            clear HLY HCU
            go_wp2_with fail
            with_reducible refine (HPL.out _ HP.out.sp).mono ?_
            rintro e w8 ⟨⟨v8, rfl⟩, hs, hm⟩
            have HP2 := hid (HP.out.prog hs hm)
            clear hs hm HP HPL
            go_wp2
            exact bodyPost_ret (v := .tuple #[.pointer (some ⟨b1, 0, none⟩), .pointer (some ⟨b2, 0, none⟩)]) (by simp [results, Try.results43, go_sem]) rfl ⟨b1, g1, b2, g2, rfl, by rw [HT.out]; exact HP2.out, by rw [HT.out]; exact HFL.out⟩
/-- The example's space. -/
def actC : ActD := ⟨3, 0, false, 48, cel0, .slice none 0 0, []⟩
def actD : ActD := ⟨3, 5, false, 0, cel0, .slice none 0 0, []⟩
def actE : ActD := ⟨1, 3, false, 0, cel0, .slice none 0 0, []⟩
def exC : Spc := runS (clearS (2 + ((0 % 4 : Nat) : Int)) false) [actC, actD, actE] 3
def exD : Spc := ((clearS 2 false).setC 0 ⟨0, true, 48, 0, 0, 0⟩).setC 5 ⟨0, true, 0, 0, 0, 0⟩
theorem exC_eq : exC = exD.place 3 := rfl
theorem exD_len : exD.L.length = 1920 := by unfold exD; rw [setC_len, setC_len]; unfold clearS; rw [List.length_replicate]; rfl
theorem place_cel (s : Spc) (n : Int) (i : Nat) : (s.place n).cel i = s.cel i := rfl
theorem place_len (s : Spc) (n : Int) : (s.place n).L.length = s.L.length := rfl
theorem place_cu (s : Spc) (n : Int) : (s.place n).cu = s.wr n := rfl
theorem exC_len : exC.L.length = 1920 := by rw [exC_eq, place_len]; exact exD_len
theorem exC_cu : exC.cu = 3 := by
  rw [exC_eq]
  rw [place_cu]
  unfold Spc.wr
  rw [exD_len]
  rfl
theorem exC_cel (i : Nat) : exC.cel i = if i = 5 then ⟨0, true, 0, 0, 0, 0⟩ else if i = 0 then ⟨0, true, 48, 0, 0, 0⟩ else cel0 := by
  have hl : (clearS 2 false).L.length = 1920 := by unfold clearS; rw [List.length_replicate]; rfl
  rw [exC_eq, place_cel]
  unfold exD Spc.setC
  rw [Spc.put1_cel, Spc.put1_cel, clear_cel]
  have e1 : ((clearS 2 false).put1 ((clearS 2 false).wr 0) (fit ⟨0, true, 48, 0, 0, 0⟩)).wr 5 = 5 := by
    unfold Spc.wr
    rw [Spc.put1_len, hl]
    rfl
  have e2 : (clearS 2 false).wr 0 = 0 := by
    unfold Spc.wr
    rw [hl]
    rfl
  rw [e1, e2, Spc.put1_len, hl]
  have f1 : fit ⟨0, true, 0, 0, 0, 0⟩ = ⟨0, true, 0, 0, 0, 0⟩ := by decide +kernel
  have f2 : fit ⟨0, true, 48, 0, 0, 0⟩ = ⟨0, true, 48, 0, 0, 0⟩ := by decide +kernel
  rw [f1, f2]
  by_cases h5 : i = 5
  · rw [if_pos ⟨h5, by omega⟩, if_pos h5]
  · rw [if_neg (fun q => h5 q.1), if_neg h5]
    by_cases h2 : i = 0
    · rw [if_pos ⟨h2, by omega⟩, if_pos h2]
    · rw [if_neg (fun q => h2 q.1), if_neg h2]
theorem exC_wr {i : Nat} (h : i < 1920) : exC.wr (i : Int) = i := wr_nat (by rw [exC_len]; exact h)
theorem exC_first (n : Nat) (h1 : 4 ≤ n) (h2 : n ≤ 6) : firstB exC (n : Int) = decide (n = 6) := by
  unfold firstB Spc.atC
  rw [show (n : Int) - 1 = ((n - 1 : Nat) : Int) by omega, exC_wr (by omega), exC_wr (by omega), exC_cel, exC_cel]
  have : n = 4 ∨ n = 5 ∨ n = 6 := by omega
  rcases this with rfl | rfl | rfl <;> decide +kernel
theorem exC_tab : tabZ exC exC.cu false = 6 := by
  have e : ∀ j : Nat, ((3 : Nat) : Int) + 1 * ((j : Int) + 1) = ((j + 4 : Nat) : Int) := fun j => by push_cast; omega
  have hr : SeekR exC 3 1 6 := .inl ⟨2, by rw [exC_len]; decide, by rw [e 2, exC_first 6 (by decide) (by decide)]; rfl, fun j hj => by
    rw [e j, exC_first (j + 4) (by omega) (by omega)]
    exact decide_eq_false (by omega), by
    rw [e 2]
    exact (congrArg _ (exC_wr (i := 6) (by decide))).symm⟩
  unfold tabZ
  rw [exC_cu, show exC.wr 3 = 3 from exC_wr (i := 3) (by decide), show stB false = 1 from rfl, ← hr.is]
  rfl
set_option maxRecDepth 100000 in
set_option maxHeartbeats 4000000 in
theorem awake15 (w : World) : Calls Try.prog 42 #[] w fun e w' => e = .returned (.bool true) ∧ Below w.heap.size w w' := by
  obtain ⟨W1, hW1⟩ : ∃ W1, w.alloc (.cells #[.int .u8 3, .int .i64 0, .bool false, .int .u8 48, .int .u8 0, .bool false, .int .u8 0, .int .u8 0, .int .u8 0, .int .u8 0, .slice none 0 0, .int .u8 3, .int .i64 5, .bool false, .int .u8 0, .int .u8 0, .bool false, .int .u8 0, .int .u8 0, .int .u8 0, .int .u8 0, .slice none 0 0, .int .u8 1, .int .i64 3, .bool false, .int .u8 0, .int .u8 0, .bool false, .int .u8 0, .int .u8 0, .int .u8 0, .int .u8 0, .slice none 0 0] 86) = W1 := ⟨_, rfl⟩
  have hb0 : Below w.heap.size w W1 := by rw [← hW1]; exact bal (Below.refl _ _) _
  have hz : W1.heap.size = w.heap.size + 1 := by rw [← hW1]; simp
  have hacts : ActsIn (w.heap.size + 1) W1 (.slice (some ⟨w.heap.size, 0, none⟩) 3 3) [actC, actD, actE] := by
    refine ⟨fun i hi => ?_, by simp, ⟨_, _, rfl⟩, fun x c hx i hi => ?_⟩
    · have tx : TxIn (w.heap.size + 1) W1 (.slice none 0 0) [] := ⟨fun x hx => (by cases hx), by simp, ⟨_, _, rfl⟩, fun x c _ i hi => absurd hi (Nat.not_lt_zero i)⟩
      have : i = 0 ∨ i = 1 ∨ i = 2 := by simp at hi; omega
      rcases this with rfl | rfl | rfl <;> exact ⟨by decide, ⟨by decide, by decide⟩, ⟨by decide, by decide⟩, cel0_ok, tx⟩
    · injection hx with hx1 hx2 hx3
      refine ⟨w.heap.size, 0, hx1.symm, by omega, fun j hj => ?_⟩
      rw [← hW1]
      have h1 : i = 0 ∨ i = 1 ∨ i = 2 := by simp at hi; omega
      have h2 : j = 0 ∨ j = 1 ∨ j = 2 ∨ j = 3 ∨ j = 4 ∨ j = 5 ∨ j = 6 ∨ j = 7 ∨ j = 8 ∨ j = 9 ∨ j = 10 := by omega
      rcases h1 with rfl | rfl | rfl <;> rcases h2 with rfl | rfl | rfl | rfl | rfl | rfl | rfl | rfl | rfl | rfl | rfl <;> simp [go_sem, actC, actD, actE, ActD.cs, cel0]
  have HL := hid (show Calls Try.prog 43 #[.int .u8 0, .slice (some ⟨w.heap.size, 0, none⟩) 3 3] W1 _ from lay15_any 0 (by decide) (.slice (some ⟨w.heap.size, 0, none⟩) 3 3) [actC, actD, actE] (w.heap.size + 1) W1 (by omega) hacts)
  have HB0 := hid hb0
  have HW := hid hW1
  have HTB := hid (fun b g W h => tab_any (b := b) (g := g) (s := exC) W h)
  have HCU := hid (fun b g W (h : SpM W b g (exC.cuS (tabZ exC exC.cu false))) => (show Calls Try.prog 22 #[.pointer (some ⟨b, 0, none⟩)] W fun e w' => e = .returned (.int .i64 6) ∧ Below W.heap.size W w' from by
    have q := cursor_any (b := b) (g := g) W h
    rwa [show (exC.cuS (tabZ exC exC.cu false)).cu = 6 from exC_tab] at q))
  clear hb0 hz hacts hW1
  go_enter Try.func42, Try.ntmps42
  go_wp2_with fail
  rw [HW.out]
  with_reducible refine HL.out.mono ?_
  rintro e w1 ⟨b1, g1, b2, g2, rfl, hd, -⟩
  have HD := hid (show SpM w1 b1 g1 exC ∧ Below w.heap.size w w1 ∧ w.heap.size ≤ b1 ∧ w.heap.size ≤ g1 from ⟨hd.sp, below_t HB0.out hd.bel, Nat.le_trans HB0.out.size (hd.lb b1 (by simp)), Nat.le_trans HB0.out.size (hd.lb g1 (by simp))⟩)
  clear hd
  go_wp2_with fail
  with_reducible refine (HTB.out b1 g1 _ HD.out.1).mono ?_
  rintro e w2 ⟨⟨v2, rfl⟩, hs, hm⟩
  have HD2 := hid (And.intro hs (show Below w.heap.size w w2 from HD.out.2.1.trans (hm.toBelow HD.out.2.1.size (fun k hk => by
    simp at hk
    rcases hk with rfl | rfl
    · exact HD.out.2.2.1
    · exact HD.out.2.2.2))))
  clear hs hm
  go_wp2_with fail
  with_reducible refine (HCU.out b1 g1 _ HD2.out.1).mono ?_
  rintro e w3 ⟨rfl, hb3⟩
  have HD3 := hid (below_t HD2.out.2 hb3)
  clear hb3 HD2
  go_wp2
  go_ret
  exact ⟨rfl, HD3.out⟩
end Go.Proofs.Ytpehhinpohmpiaa
