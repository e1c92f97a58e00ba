/-
  EraseSafe: the law's own walk.
-/
import Derived.Test.YtpehhinpohmpiaaEw
namespace Go.Proofs.Ytpehhinpohmpiaa
open Go.RowKit Go.Lib Go.Deep

set_option maxRecDepth 100000 in
set_option maxHeartbeats 8000000 in
theorem esafe_any (m : Nat) (hm : m < 256) (v : Value) (ac : List ActD) (k : Nat) (hk : k < 256) (p q : Int) (hp : I64 p) (c : Cel) (hc : c.OK) (w : World) (hx : ActsIn w.heap.size w v ac) : Calls Try.prog 4 #[.int .u8 m, v, .agg #[.int .u8 k, .int .i64 p, .int .i64 q, .int .u8 c.ch, .bool c.at_, .int .u8 c.fa, .int .u8 c.hi, .int .u8 c.co, .int .u8 c.se]] w fun e w' => e = .returned (.bool true) ∧ Below w.heap.size w w' := by
  obtain ⟨j, hj⟩ : ∃ j, 3 + k % 3 = j := ⟨_, rfl⟩
  have hj3 : j = 3 ∨ j = 4 ∨ j = 5 := by omega
  have hk0 : (0 : Int) ≤ (k : Int) := by omega
  have htm : (k : Int).tmod 3 = ((k % 3 : Nat) : Int) := by rw [Int.tmod_eq_emod_of_nonneg hk0]; push_cast; rfl
  have hj8 : j < 256 := by omega
  have hwj : IntKind.u8.wrap (3 + ((k % 3 : Nat) : Int)) = (j : Int) := by
    rw [show (3 : Int) + ((k % 3 : Nat) : Int) = (j : Int) by rw [← hj]; push_cast; rfl]
    rcases hj3 with rfl | rfl | rfl <;> rfl
  have HJI := hid (show (3 : Int) + (k : Int) % 3 = (j : Int) by rw [← hj]; push_cast; rfl)
  have HDO := hid (fun b g s (hf : FitC s) W h => do14_any (b := b) (g := g) (s := s) j hj3 p q hp c hc hf W h)
  obtain ⟨x0, x1, x2, x3, x4, x5⟩ := c
  dsimp only at HDO ⊢
  obtain ⟨W0, hW0⟩ : ∃ W0, w.alloc (.cells #[.int .u8 k, .int .i64 p, .int .i64 q, .int .u8 x0, .bool x1, .int .u8 x2, .int .u8 x3, .int .u8 x4, .int .u8 x5] 32) = W0 := ⟨_, rfl⟩
  have HZ := hid (show W0.cell? ⟨w.heap.size, 0, none⟩ = some (.int .u8 k) ∧ W0.cell? ⟨w.heap.size, 1, none⟩ = some (.int .i64 p) ∧ W0.cell? ⟨w.heap.size, 2, none⟩ = some (.int .i64 q) ∧ W0.cell? ⟨w.heap.size, 3, none⟩ = some (.int .u8 x0) ∧ W0.cell? ⟨w.heap.size, 4, none⟩ = some (.bool x1) ∧ W0.cell? ⟨w.heap.size, 5, none⟩ = some (.int .u8 x2) ∧ W0.cell? ⟨w.heap.size, 6, none⟩ = some (.int .u8 x3) ∧ W0.cell? ⟨w.heap.size, 7, none⟩ = some (.int .u8 x4) ∧ W0.cell? ⟨w.heap.size, 8, none⟩ = some (.int .u8 x5) from by
    rw [← hW0]
    refine ⟨?_, ?_, ?_, ?_, ?_, ?_, ?_, ?_, ?_⟩ <;> simp [go_sem])
  have HF0 := hid (show W0.frozen? ⟨w.heap.size, 0, none⟩ = false by rw [← hW0]; simp [go_sem])
  have hsz : W0.heap.size = w.heap.size + 1 := by rw [← hW0]; simp
  have HB0 := hid (show Below w.heap.size w W0 by rw [← hW0]; exact bal (Below.refl _ _) _)
  have HW := hid (awake14 W0)
  have HLY := hid (fun W (hb : Below w.heap.size w W) => lay_any m hm v ac w.heap.size W hb.size (hx.below hb))
  obtain ⟨x, cp, rfl⟩ := hx.sl
  have HPI := hid hp
  have HW0 := hid hW0
  generalize runS (clearS (2 + ((m % 4 : Nat) : Int)) false) ac ac.length = s at HLY
  clear hx hm hp hc hk hW0 hj hj3
  go_enter Try.func4, Try.ntmps4
  go_wp2_with fail
  simp only [HW0.out]
  with_reducible refine HW.out.mono ?_
  rintro e w1 ⟨rfl, hb1⟩
  have HB1 := hid (below_t HB0.out hb1)
  have hz1 := hb1.size
  have HF1 := hid ((hb1.frozen (p := ⟨w.heap.size, 0, none⟩) (by show w.heap.size < W0.heap.size; omega)).trans HF0.out)
  have HZ1 := hid (show w1.cell? ⟨w.heap.size, 0, none⟩ = some (.int .u8 k) ∧ w1.cell? ⟨w.heap.size, 1, none⟩ = some (.int .i64 p) ∧ w1.cell? ⟨w.heap.size, 2, none⟩ = some (.int .i64 q) ∧ w1.cell? ⟨w.heap.size, 3, none⟩ = some (.int .u8 x0) ∧ w1.cell? ⟨w.heap.size, 4, none⟩ = some (.bool x1) ∧ w1.cell? ⟨w.heap.size, 5, none⟩ = some (.int .u8 x2) ∧ w1.cell? ⟨w.heap.size, 6, none⟩ = some (.int .u8 x3) ∧ w1.cell? ⟨w.heap.size, 7, none⟩ = some (.int .u8 x4) ∧ w1.cell? ⟨w.heap.size, 8, none⟩ = some (.int .u8 x5) from ⟨keepc hb1 HZ.out.1, keepc hb1 HZ.out.2.1, keepc hb1 HZ.out.2.2.1, keepc hb1 HZ.out.2.2.2.1, keepc hb1 HZ.out.2.2.2.2.1, keepc hb1 HZ.out.2.2.2.2.2.1, keepc hb1 HZ.out.2.2.2.2.2.2.1, keepc hb1 HZ.out.2.2.2.2.2.2.2.1, keepc hb1 HZ.out.2.2.2.2.2.2.2.2⟩)
  clear hb1 HZ
  go_wp2_with fail
  with_reducible refine (HLY.out _ HB1.out).mono ?_
  rintro e w2 ⟨b1, g1, b2, g2, rfl, hd, hft⟩
  have hb2 := hd.bel
  have z := HZ1.out
  have HZ2 := hid (show w2.cell? ⟨w.heap.size, 0, none⟩ = some (.int .u8 k) ∧ w2.cell? ⟨w.heap.size, 1, none⟩ = some (.int .i64 p) ∧ w2.cell? ⟨w.heap.size, 2, none⟩ = some (.int .i64 q) ∧ w2.cell? ⟨w.heap.size, 3, none⟩ = some (.int .u8 x0) ∧ w2.cell? ⟨w.heap.size, 4, none⟩ = some (.bool x1) ∧ w2.cell? ⟨w.heap.size, 5, none⟩ = some (.int .u8 x2) ∧ w2.cell? ⟨w.heap.size, 6, none⟩ = some (.int .u8 x3) ∧ w2.cell? ⟨w.heap.size, 7, none⟩ = some (.int .u8 x4) ∧ w2.cell? ⟨w.heap.size, 8, none⟩ = some (.int .u8 x5) from ⟨keepc hb2 z.1, keepc hb2 z.2.1, keepc hb2 z.2.2.1, keepc hb2 z.2.2.2.1, keepc hb2 z.2.2.2.2.1, keepc hb2 z.2.2.2.2.2.1, keepc hb2 z.2.2.2.2.2.2.1, keepc hb2 z.2.2.2.2.2.2.2.1, keepc hb2 z.2.2.2.2.2.2.2.2⟩)
  have HB2 := hid (below_t HB1.out hb2)
  have fr0 := (hb2.frozen (p := ⟨w.heap.size, 0, none⟩) (by show w.heap.size < w1.heap.size; omega)).trans HF1.out
  have hl1 := hd.lb b1 (by simp)
  have hl2 := hd.lb g1 (by simp)
  have hl3 := hd.lb b2 (by simp)
  have hl4 := hd.lb g2 (by simp)
  have hsp := hd.sp
  have hrf := hd.rf
  have HAP := hid hd.ap
  have z0 := HZ2.out.1
  have lz := World.block_lt_of_cell? w2 _ z0
  obtain ⟨ws, hws⟩ : ∃ ws, w2.setCell ⟨w.heap.size, 0, none⟩ (.int .u8 j) = ws := ⟨_, rfl⟩
  have hmv : Moved w2 ws [w.heap.size] [w.heap.size] := by rw [← hws]; exact Moved.set (by simp) 0 _
  have HSP := hid (hsp.moved hmv (by simp; omega) (by simp; omega))
  have HRF := hid (hrf.moved hmv (by simp; omega) (by simp; omega))
  have HBS := hid (show Below w.heap.size w ws by rw [← hws]; exact HB2.out.sc _ _ _ (Nat.le_refl _))
  have HZS := hid (show ws.cell? ⟨w.heap.size, 0, none⟩ = some (.int .u8 j) ∧ ws.cell? ⟨w.heap.size, 1, none⟩ = some (.int .i64 p) ∧ ws.cell? ⟨w.heap.size, 2, none⟩ = some (.int .i64 q) ∧ ws.cell? ⟨w.heap.size, 3, none⟩ = some (.int .u8 x0) ∧ ws.cell? ⟨w.heap.size, 4, none⟩ = some (.bool x1) ∧ ws.cell? ⟨w.heap.size, 5, none⟩ = some (.int .u8 x2) ∧ ws.cell? ⟨w.heap.size, 6, none⟩ = some (.int .u8 x3) ∧ ws.cell? ⟨w.heap.size, 7, none⟩ = some (.int .u8 x4) ∧ ws.cell? ⟨w.heap.size, 8, none⟩ = some (.int .u8 x5) from by
    obtain ⟨y0, y1, y2, y3, y4, y5, y6, y7, y8⟩ := HZ2.out
    rw [← hws]
    refine ⟨?_, ?_, ?_, ?_, ?_, ?_, ?_, ?_, ?_⟩ <;> simp [go_sem, y0, y1, y2, y3, y4, y5, y6, y7, y8, lz])
  have HWS := hid hws
  have HFT := hid (show FitC s from hft.fit)
  have hlw : w.heap.size < w1.heap.size := by omega
  clear hd hft hb2 z HZ1 HB1 hsp hrf hmv hws hz1
  go_wp2_with fail
  try simp only [HJI.out, HWS.out]
  have HSS := hid (rstarts_any (b := b2) (g := g2) (s := s) ws HRF.out)
  clear z0 lz
  with_reducible refine HSS.out.mono ?_
  rintro e w3 ⟨hh, rfl, hg, ho, hb3⟩
  have HO := hid ho
  have HB3 := hid hb3
  have HHN := hid (show hh ∉ [b1, g1] ∧ w.heap.size ≤ b1 ∧ w.heap.size ≤ g1 from ⟨by
    have := HSP.out.lt
    simp
    omega, by omega, by omega⟩)
  clear hg ho hb3 HSS
  have hok := HSP.out.ok
  have hNp := hok.pos
  have hwl := hok.wr_lt p
  obtain ⟨N, hN⟩ : ∃ N, s.L.length = N := ⟨_, rfl⟩
  obtain ⟨aw, haw⟩ : ∃ aw, s.wr p = aw := ⟨_, rfl⟩
  have HWR := hid (fun W h => rpos_any (b := b2) (g := g2) (s := s) p HPI.out W h)
  rw [haw] at HWR hwl
  rw [hN] at hwl hNp HO ⊢
  have hwli : (aw : Int) < N := by omega
  have z1 := keepc HB3.out HZS.out.2.1
  have lz := World.block_lt_of_cell? w3 _ z1
  go_wp2_with fail
  with_reducible refine (HWR.out _ (HRF.out.below HB3.out)).mono ?_
  rintro e w4 ⟨rfl, hb4⟩
  have HB4 := hid (below_t HB3.out hb4)
  obtain ⟨st, hst, hste⟩ := (HO.out.below hb4).at_ aw hwl
  have HSW := hid (show stF s.P N (s.wr p) = st by rw [haw]; exact (hste hwl).symm)
  have lh := World.block_lt_of_cell? w4 _ hst
  have ho4 := HO.out.below hb4
  have HO4 := hid ho4
  clear hste hb4 z1 lz HO ho4
  obtain ⟨y0, y1, y2, y3, y4, y5, y6, y7, y8⟩ := (show w4.cell? ⟨w.heap.size, 0, none⟩ = some (.int .u8 j) ∧ w4.cell? ⟨w.heap.size, 1, none⟩ = some (.int .i64 p) ∧ w4.cell? ⟨w.heap.size, 2, none⟩ = some (.int .i64 q) ∧ w4.cell? ⟨w.heap.size, 3, none⟩ = some (.int .u8 x0) ∧ w4.cell? ⟨w.heap.size, 4, none⟩ = some (.bool x1) ∧ w4.cell? ⟨w.heap.size, 5, none⟩ = some (.int .u8 x2) ∧ w4.cell? ⟨w.heap.size, 6, none⟩ = some (.int .u8 x3) ∧ w4.cell? ⟨w.heap.size, 7, none⟩ = some (.int .u8 x4) ∧ w4.cell? ⟨w.heap.size, 8, none⟩ = some (.int .u8 x5) from ⟨keepc HB4.out HZS.out.1, keepc HB4.out HZS.out.2.1, keepc HB4.out HZS.out.2.2.1, keepc HB4.out HZS.out.2.2.2.1, keepc HB4.out HZS.out.2.2.2.2.1, keepc HB4.out HZS.out.2.2.2.2.2.1, keepc HB4.out HZS.out.2.2.2.2.2.2.1, keepc HB4.out HZS.out.2.2.2.2.2.2.2.1, keepc HB4.out HZS.out.2.2.2.2.2.2.2.2⟩)
  have lz := World.block_lt_of_cell? w4 _ y0
  go_wp2_with fail
  clear y0 y1 y2 y3 y4 y5 y6 y7 y8 lz hst lh
  with_reducible refine (HDO.out b1 g1 s HFT.out _ (HSP.out.below HB4.out)).mono ?_
  rintro e w5 ⟨⟨v5, rfl⟩, ⟨t, hs5, HSF, HSE⟩, hm5⟩
  have hlh := HO4.out.lt
  have HAPN := hid (show hh ∉ [b1, g1] ∧ w.heap.size ≤ b1 ∧ w.heap.size ≤ g1 from HHN.out)
  have HS5 := hid hs5
  have HR5 := hid ((HRF.out.below HB4.out).moved hm5 (fun q => HAP.out b2 q (by simp)) (fun q => HAP.out g2 q (by simp)))
  have HW5 := hid ((below_t HBS.out HB4.out).trans (hm5.toBelow (below_t HBS.out HB4.out).size (fun k hk => by
    simp at hk
    rcases hk with rfl | rfl
    · exact HHN.out.2.1
    · exact HHN.out.2.2)))
  have HST := hid (show ∀ i, i < N → w5.cell? ⟨hh, i, none⟩ = some (.int .i64 (stF s.P N i)) from fun i hi => by
    obtain ⟨x, h1, h2⟩ := HO4.out.at_ i hi
    rw [h2 hi] at h1
    exact cell_moved hm5 h1 HHN.out.1)
  have HTL := hid (show t.L.length = N from HSF.al.len.trans hN)
  have HBD := hid (show st = -1 ∨ ∃ a : Nat, a < s.L.length ∧ s.P a = true ∧ st = a from by
    have q := stF_bd s.P (hok.wr_lt p)
    rw [hN, HSW.out] at q
    rw [hN]
    exact q)
  have HFD := hid (fun a (ha : a < s.L.length) W h => rfield_any (b := b2) (g := g2) (s := s) a ha W h)
  have HSF := hid HSF
  have HSE := hid HSE
  clear hs5 hm5 HO4 HSP HAP HHN HAPN
  have h4 := HR5.out.h4
  rw [hN] at h4
  have l4 := World.block_lt_of_cell? w5 _ h4
  go_wp2_with fail
  clear h4 l4
  go_loopw [44] (fun i W => ∃ r : Nat, r ≤ N ∧ i = .int .i64 r ∧ Hid (Below w5.heap.size w5 W)) (fun i _ => N - (RowKit.intOf i).toNat)
  case atStart => exact ⟨0, by omega, rfl, Below.refl _ _⟩
  case round =>
    obtain ⟨r, hr, rfl, HB⟩ := hrel
    by_cases hrN : r < N
    · have hri : (r : Int) < N := by omega
      obtain ⟨u0, u1, u2, u3, u4, u5⟩ := (show wr.cell? ⟨g2, r * 6, none⟩ = some (.int .u8 (s.cel r).ch) ∧ wr.cell? ⟨g2, r * 6 + 1, none⟩ = some (.bool (s.cel r).at_) ∧ wr.cell? ⟨g2, r * 6 + 2, none⟩ = some (.int .u8 (s.cel r).fa) ∧ wr.cell? ⟨g2, r * 6 + 3, none⟩ = some (.int .u8 (s.cel r).hi) ∧ wr.cell? ⟨g2, r * 6 + 4, none⟩ = some (.int .u8 (s.cel r).co) ∧ wr.cell? ⟨g2, r * 6 + 5, none⟩ = some (.int .u8 (s.cel r).se) from (HR5.out.below HB.out).row.six r (by rw [hN]; exact hrN) _ rfl)
      have lg := World.block_lt_of_cell? wr _ u0
      have HATr := hid (fun W (h : SpM W b1 g1 t) => (show Calls Try.prog 20 #[.pointer (some ⟨b1, 0, none⟩), .int .i64 (r : Nat)] W fun e w' => e = .returned (t.cel r).v ∧ Below W.heap.size W w' from by
        have q := at_any (b := b1) (g := g1) (s := t) (r : Int) (i64_small (by omega) (by omega)) W h
        unfold Spc.atC at q
        rwa [wr_nat (by rw [HTL.out]; exact hrN)] at q))
      have HA := hid (HSF.out.at_ r (by rw [hN]; exact hrN))
      have HF := hid (show s.P r = false → ¬ stF s.P N r = st → t.cel r = s.cel r from fun h1 h2 => HSF.out.far r h1 (by rw [hN, HSW.out]; exact h2))
      have HNR := hid (show s.P r = false → (t.cel r).at_ = (s.cel r).at_ ∧ (t.cel r).fa = (s.cel r).fa ∧ (t.cel r).hi = (s.cel r).hi ∧ (t.cel r).co = (s.cel r).co ∧ (t.cel r).se = (s.cel r).se from fun h => by
        have q := HSF.out.near r h
        injection q with _ q1 q2 q3 q4 q5
        exact ⟨q1, q2, q3, q4, q5⟩)
      have HTS := hid (show t = s → t.cel r = s.cel r from fun q => by rw [q])
      have hPr := hid (show (s.cel r).at_ = s.P r from rfl)
      generalize s.cel r = c at u0 u1 u2 u3 u4 u5 HA HF HNR HTS hPr
      generalize t.cel r = d at HATr HA HF HNR HTS
      obtain ⟨c0, c1, c2, c3, c4, c5⟩ := c
      obtain ⟨d0, d1, d2, d3, d4, d5⟩ := d
      dsimp only at u0 u1 u2 u3 u4 u5
      obtain ⟨W1, hW1⟩ : ∃ W1, wr.alloc (.cells #[.int .u8 c0, .bool c1, .int .u8 c2, .int .u8 c3, .int .u8 c4, .int .u8 c5] 30) = W1 := ⟨_, rfl⟩
      have HB1 := hid (show Below w5.heap.size w5 W1 by rw [← hW1]; exact bal HB.out _)
      have HC1 := hid (show W1.cell? ⟨wr.heap.size, 0, none⟩ = some (.int .u8 c0) ∧ W1.cell? ⟨wr.heap.size, 1, none⟩ = some (.bool c1) ∧ W1.cell? ⟨wr.heap.size, 2, none⟩ = some (.int .u8 c2) ∧ W1.cell? ⟨wr.heap.size, 3, none⟩ = some (.int .u8 c3) ∧ W1.cell? ⟨wr.heap.size, 4, none⟩ = some (.int .u8 c4) ∧ W1.cell? ⟨wr.heap.size, 5, none⟩ = some (.int .u8 c5) ∧ ∀ o, W1.frozen? ⟨wr.heap.size, o, none⟩ = false from by
        rw [← hW1]
        refine ⟨?_, ?_, ?_, ?_, ?_, ?_, fun o => ?_⟩ <;> simp [go_sem])
      have HWW := hid hW1
      clear hW1
      go_wp2_with fail
      simp only [HWW.out]
      with_reducible refine (HATr.out _ (HS5.out.below HB1.out)).mono ?_
      rintro e w6 ⟨rfl, hb6⟩
      have HB6 := hid (below_t HB1.out hb6)
      obtain ⟨k0, k1, k2, k3, k4, k5, k6⟩ := HC1.out
      have m0 := keepc hb6 k0
      have m1 := keepc hb6 k1
      have m2 := keepc hb6 k2
      have m3 := keepc hb6 k3
      have m4 := keepc hb6 k4
      have m5 := keepc hb6 k5
      have m6 : ∀ o, w6.frozen? ⟨wr.heap.size, o, none⟩ = false := fun o => (hb6.frozen (p := ⟨wr.heap.size, o, none⟩) (show wr.heap.size < W1.heap.size from World.block_lt_of_cell? W1 _ k0)).trans (k6 o)
      have lm := World.block_lt_of_cell? w6 _ m0
      have hwr := HB.out.size
      clear hb6 k0 k1 k2 k3 k4 k5 k6 u0 u1 u2 u3 u4 u5 lg HC1 HB1 HATr HWW
      cases hP : s.P r
      · rw [hP] at HNR HF hPr
        obtain rfl : c1 = false := hPr.out
        obtain ⟨q1, q2, q3, q4, q5⟩ := HNR.out rfl
        subst q1 q2 q3 q4 q5
        have hs1 := keepc HB6.out (HST.out r hrN)
        have lh1 := World.block_lt_of_cell? w6 _ hs1
        obtain ⟨z, hz⟩ : ∃ z, stF s.P N r = z := ⟨_, rfl⟩
        rw [hz] at hs1 HF
        rcases HBD.out with rfl | ⟨a, ha, hpa, rfl⟩
        · skip
          by_cases hzz : z = -1
          · subst hzz
            go_wp2
            go_roundw
            case rel => exact ⟨r + 1, by omega, by go_num, (bal (HB6.out.sc _ _ _ hwr) _)⟩
            case measure => simp [RowKit.intOf]; omega
          · obtain ⟨rfl, -⟩ : c0 = d0 ∧ True := ⟨by have q := HF.out rfl hzz; injection q with q0; exact q0.symm, trivial⟩
            go_wp2
            go_roundw
            case rel => exact ⟨r + 1, by omega, by go_num, bal HB6.out _⟩
            case measure => simp [RowKit.intOf]; omega
        · skip
          by_cases hzz : z = (a : Int)
          · subst hzz
            have ha0 : (0 : Int) ≤ (a : Int) := by omega
            have HFDa := hid (HFD.out a ha)
            obtain ⟨pr, f1, f2, f3, hpe, hfv⟩ : ∃ pr f1 f2 f3, (s.cel a).prot = pr ∧ (s.cel a).fv = .agg #[.bool pr, .bool f1, .int .i64 f2, .bool f3] := ⟨_, _, _, _, rfl, rfl⟩
            rw [hfv] at HFDa
            obtain ⟨W2, hW2⟩ : ∃ W2, w6.alloc (.cells #[.int .u8 d0, .bool false, .int .u8 d2, .int .u8 d3, .int .u8 d4, .int .u8 d5] 30) = W2 := ⟨_, rfl⟩
            have hw6 := HB6.out.size
            have hb62 : Below w6.heap.size w6 W2 := by rw [← hW2]; exact bal (Below.refl _ _) _
            have HB2 := hid (below_t HB6.out hb62)
            have D := (show W2.cell? ⟨w6.heap.size, 0, none⟩ = some (.int .u8 d0) ∧ W2.cell? ⟨w6.heap.size, 1, none⟩ = some (.bool false) ∧ W2.cell? ⟨w6.heap.size, 2, none⟩ = some (.int .u8 d2) ∧ W2.cell? ⟨w6.heap.size, 3, none⟩ = some (.int .u8 d3) ∧ W2.cell? ⟨w6.heap.size, 4, none⟩ = some (.int .u8 d4) ∧ W2.cell? ⟨w6.heap.size, 5, none⟩ = some (.int .u8 d5) ∧ ∀ o, W2.frozen? ⟨w6.heap.size, o, none⟩ = false from by
              rw [← hW2]
              refine ⟨?_, ?_, ?_, ?_, ?_, ?_, fun o => ?_⟩ <;> simp [go_sem])
            have HD2 := hid D
            have HM2 := hid (show W2.cell? ⟨wr.heap.size, 0, none⟩ = some (.int .u8 c0) ∧ W2.cell? ⟨wr.heap.size, 1, none⟩ = some (.bool false) ∧ W2.cell? ⟨wr.heap.size, 2, none⟩ = some (.int .u8 d2) ∧ W2.cell? ⟨wr.heap.size, 3, none⟩ = some (.int .u8 d3) ∧ W2.cell? ⟨wr.heap.size, 4, none⟩ = some (.int .u8 d4) ∧ W2.cell? ⟨wr.heap.size, 5, none⟩ = some (.int .u8 d5) ∧ ∀ o, W2.frozen? ⟨wr.heap.size, o, none⟩ = false from ⟨keepc hb62 m0, keepc hb62 m1, keepc hb62 m2, keepc hb62 m3, keepc hb62 m4, keepc hb62 m5, fun o => (hb62.frozen (p := ⟨wr.heap.size, o, none⟩) lm).trans (m6 o)⟩)
            have HLD := hid (World.block_lt_of_cell? W2 _ D.1)
            have HLM := hid (Nat.lt_of_lt_of_le lm hb62.size)
            have HWW2 := hid hW2
            have hr1 := rattf0
            have hne : ¬ wr.heap.size = w6.heap.size := by have : wr.heap.size < w6.heap.size := lm; omega
            clear D hb62 hW2 hfv
            go_wp2_with fail
            try simp only [HWW2.out]
            with_reducible refine (HFDa.out _ (HR5.out.below HB2.out)).mono ?_
            rintro e w7 ⟨rfl, hb7⟩
            clear m0 m1 m2 m3 m4 m5 m6 lm hs1 lh1
            have HB7 := hid (below_t HB2.out hb7)
            obtain ⟨i0, i1, i2, i3, i4, i5, i6⟩ := HD2.out
            obtain ⟨k0, k1, k2, k3, k4, k5, k6⟩ := HM2.out
            have m0 := keepc hb7 k0
            have m1 := keepc hb7 k1
            have m2 := keepc hb7 k2
            have m3 := keepc hb7 k3
            have m4 := keepc hb7 k4
            have m5 := keepc hb7 k5
            have m6 : ∀ o, w7.frozen? ⟨wr.heap.size, o, none⟩ = false := fun o => (hb7.frozen (p := ⟨wr.heap.size, o, none⟩) HLM.out).trans (k6 o)
            have n0 := keepc hb7 i0
            have n1 := keepc hb7 i1
            have n2 := keepc hb7 i2
            have n3 := keepc hb7 i3
            have n4 := keepc hb7 i4
            have n5 := keepc hb7 i5
            have n6 : ∀ o, w7.frozen? ⟨w6.heap.size, o, none⟩ = false := fun o => (hb7.frozen (p := ⟨w6.heap.size, o, none⟩) HLD.out).trans (i6 o)
            have ln := World.block_lt_of_cell? w7 _ n0
            have lm := World.block_lt_of_cell? w7 _ m0
            clear hb7 i0 i1 i2 i3 i4 i5 i6 k0 k1 k2 k3 k4 k5 k6
            cases pr
            · go_wp2
              go_roundw
              case rel => exact ⟨r + 1, by omega, by go_num, (HB7.out.sc _ _ _ hwr).sc _ _ _ hw6⟩
              case measure => simp [RowKit.intOf]; omega
            · obtain ⟨rfl, -⟩ : c0 = d0 ∧ True := ⟨by
                have q := HTS.out (HSE.out (by
                  unfold openB
                  rw [hN, HSW.out]
                  unfold protF
                  rw [if_neg (by omega), Int.toNat_natCast, hpe]
                  simp))
                injection q with q0
                exact q0.symm, trivial⟩
              go_wp2
              go_roundw
              case rel => exact ⟨r + 1, by omega, by go_num, HB7.out⟩
              case measure => simp [RowKit.intOf]; omega
          · obtain ⟨rfl, -⟩ : c0 = d0 ∧ True := ⟨by have q := HF.out rfl hzz; injection q with q0; exact q0.symm, trivial⟩
            go_wp2
            go_roundw
            case rel => exact ⟨r + 1, by omega, by go_num, bal HB6.out _⟩
            case measure => simp [RowKit.intOf]; omega
      · rw [hP] at HA hPr
        obtain rfl : c1 = true := hPr.out
        obtain ⟨q0, q1, q2, q3, q4, q5⟩ := HA.out rfl
        subst q0 q1 q3 q4 q5
        go_wp2
        go_roundw
        case rel => exact ⟨r + 1, by omega, by go_num, bal (HB6.out.sc _ _ _ hwr) _⟩
        case measure => simp [RowKit.intOf]; omega
    · obtain rfl : r = N := by omega
      have HCU := hid (fun W (h : SpM W b1 g1 t) => (show Calls Try.prog 22 #[.pointer (some ⟨b1, 0, none⟩)] W fun e w' => e = .returned (.int .i64 s.cu) ∧ Below W.heap.size W w' from by
        have q := cursor_any (b := b1) (g := g1) W h
        rwa [HSF.out.cu] at q))
      have h5 := (HR5.out.below HB.out).h5
      generalize s.cu = cu at HCU h5
      go_wp2_with fail
      refine wp_region_held_drew (S := fun V => V.cell? ⟨b2, 5, none⟩ = some (.int .i64 cu) ∧ Below wr.heap.size wr V) (by kernel_rfl) ?_ (fun hHeld => ?_)
      · have hdr : Below wr.heap.size wr wr.drew := (Below.refl _ _).drew
        exact ⟨keepc hdr h5, hdr⟩
      refine takeD (i := 0) (v := ?_) 98 rfl rfl (by kernel_rfl) (by kernel_rfl) (by kernel_rfl) (fun _ _ _ h => h) (by assumption) (Or.inl ⟨by rfl, ?_⟩) ?_
      rotate_left
      · intro w hSw
        (try dsimp only at hSw)
        go_simp
        try with_reducible rfl
      simp only [List.setIfInBounds_toArray, List.set_cons_zero, List.set_cons_succ]
      refine takeD (i := 2) (v := ?_) 100 rfl rfl (by kernel_rfl) (by kernel_rfl) (by kernel_rfl) (fun _ _ _ h => h) (by assumption) (Or.inl ⟨by rfl, ?_⟩) ?_
      rotate_left
      · intro w hSw
        (try dsimp only at hSw)
        go_simp
        try with_reducible rfl
      simp only [List.setIfInBounds_toArray, List.set_cons_zero, List.set_cons_succ]
      refine takeD (i := 3) (v := ?_) 101 rfl rfl (by kernel_rfl) (by kernel_rfl) (by kernel_rfl) (fun _ _ _ h => h) (by assumption) (Or.inl ⟨by rfl, ?_⟩) ?_
      rotate_left
      · intro w hSw
        (try dsimp only at hSw)
        go_simp
        try with_reducible rfl
      simp only [List.setIfInBounds_toArray, List.set_cons_zero, List.set_cons_succ]
      refine takeD (i := 4) (v := ?_) 102 rfl rfl (by kernel_rfl) (by kernel_rfl) (by kernel_rfl) (fun _ _ _ h => h) (by assumption) (Or.inl ⟨by rfl, ?_⟩) ?_
      rotate_left
      · intro w hSw
        (try dsimp only at hSw)
        go_simp
        try with_reducible rfl
      simp only [List.setIfInBounds_toArray, List.set_cons_zero, List.set_cons_succ]
      refine takeD (i := 5) (v := ?_) 103 rfl rfl (by kernel_rfl) (by kernel_rfl) (by kernel_rfl) (fun _ _ _ h => h) (by assumption) (Or.inl ⟨by rfl, ?_⟩) ?_
      rotate_left
      · intro w hSw
        (try dsimp only at hSw)
        go_simp
        try with_reducible rfl
      simp only [List.setIfInBounds_toArray, List.set_cons_zero, List.set_cons_succ]
      refine wpAnyH_ready (rs := [1]) (by kernel_rfl) (by simp) ?_
      refine AllReadyH.cons (by simp only [List.getElem?_toArray, List.getElem?_cons_succ, List.getElem?_cons_zero]; rfl) (fun K hK => ?_) AllReadyH.nil
      go_simp
      go_at_call 22; (with_reducible refine (HCU.out _ ((HS5.out.below HB.out).below hHeld.2)).mono ?_); rintro e w6 ⟨rfl, hb6⟩
      refine hK.out _ _ ?_ (fun hHeldN => ?_)
      · exact ⟨keepc hb6 hHeld.1, below_t hHeld.2 hb6⟩
      clear hK K hHeld
      have hHeld := hHeldN
      clear hHeldN
      (try simp only [Act.put, List.setIfInBounds_toArray, List.set_cons_zero, List.set_cons_succ])
      refine takeD (i := 6) (v := ?_) 104 rfl rfl (by kernel_rfl) (by kernel_rfl) (by kernel_rfl) (fun _ _ _ h => h) (by assumption) (Or.inl ⟨by rfl, ?_⟩) ?_
      rotate_left
      · intro w hSw
        (try dsimp only at hSw)
        go_simp
        try with_reducible rfl
      simp only [List.setIfInBounds_toArray, List.set_cons_zero, List.set_cons_succ]
      refine takeD (i := 7) (v := ?_) 6 rfl rfl (by kernel_rfl) (by kernel_rfl) (by kernel_rfl) (fun _ _ _ h => h) (by assumption) (Or.inl ⟨by rfl, ?_⟩) ?_
      rotate_left
      · intro w hSw
        (try dsimp only at hSw)
        go_simp
        try with_reducible rfl
      simp only [List.setIfInBounds_toArray, List.set_cons_zero, List.set_cons_succ]
      refine wpAnyH_done (by kernel_rfl) ?_ _
      have HE := hid hHeld
      clear hHeld
      have HE2 := hid (below_t HW5.out (below_t HB.out HE.out.2))
      clear HE
      go_wp2
      go_ret
      exact ⟨by simp, HE2.out⟩
end Go.Proofs.Ytpehhinpohmpiaa
