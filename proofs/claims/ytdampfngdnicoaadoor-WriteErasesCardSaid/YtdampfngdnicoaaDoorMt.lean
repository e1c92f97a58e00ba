/-
  WriteErases: the law's own walk.
-/
import Derived.Test.YtdampfngdnicoaaDoorMs
namespace Go.Proofs.YtdampfngdnicoaaDoor
open Go.RowKit Go.Lib Go.Deep

theorem fldP (w : World) (p n : Bool) (d : Int) (m : Bool) : (Instr.field 50 (.agg #[.bool p, .bool n, .int .i64 d, .bool m]) 0).run Tryd.prog w = .ok (.bool p) w := by kernel_rfl
set_option maxRecDepth 100000 in
set_option maxHeartbeats 4000000 in
theorem erases_any (m : Nat) (hm : m < 256) (v1 : Value) (ac : List ActD) (w : World) (hx1 : ActsIn w.heap.size w v1 ac) (hC : Cods w) : Calls Tryd.prog 4 #[.int .u8 m, v1] w fun e w' => e = .returned (.bool true) ∧ Below w.heap.size w w' := by
  have HAW := hid (awake17 w hC)
  have HL1 := hid (fun W (hb : Below w.heap.size w W) => lay_any m hm v1 ac w.heap.size W hb.size (hx1.below hb))
  have HCO := hid (fun W (hb : Below w.heap.size w W) => hC.below hC.2 hb)
  obtain ⟨x1, c1, rfl⟩ := hx1.sl
  generalize runS (clearS (2 + ((m % 4 : Nat) : Int)) false) ac ac.length = s at HL1
  clear hx1 hC hm
  go_enter Tryd.func4, Tryd.ntmps4
  go_wp2_with fail
  with_reducible refine HAW.out.mono ?_
  rintro e w1 ⟨rfl, hb1⟩
  have HB1 := hid hb1
  clear hb1
  go_wp2_with fail
  with_reducible refine (HL1.out _ HB1.out).mono ?_
  rintro e w2 ⟨b1, g1, b2, g2, rfl, hd, hfs⟩
  have HD1 := hid hd
  have HB2 := hid (below_t HB1.out hd.bel)
  have hok : s.OK := hfs.ok
  have hfit : FitC s := fun i hi => hfs.fit i hi
  have HUN := hid (fun n (hn : n < s.L.length) => unp_at hok hfit hn)
  have HN := hid hok.pos
  have HSB := hid (fun x (hx : x < s.L.length) => stF_bd s.P hx)
  have HSF := hid (fun n (hn : s.P n = true) => stF_self (N := s.L.length) hok.pos.1 hn)
  have htl : (unpS s).L.length = s.L.length := (rngR_alike s (spS s 0 0) (fl0 s 0) _).len ▸ (unm_hd (rngS s 0 0)).al.len
  have HAT := hid (fun (q : Nat) (hq : q < s.L.length) W h => (show Calls Tryd.prog 14 #[.pointer (some ⟨b1, 0, none⟩), .int .i64 q] W fun e w' => e = .returned ((unpS s).cel q).v ∧ Below W.heap.size W w' from by
    have q1 := at_any (b := b1) (g := g1) (s := unpS s) (q : Int) (i64_small (by have := hok.pos; omega) (by have := hok.pos; omega)) W h
    unfold Spc.atC at q1
    rwa [wr_nat (by rw [htl]; exact hq)] at q1))
  have HRU := hid (fun W v (h : SpM W b1 g1 s) (hp : Reads W v [((111 : Nat) : Int)]) (hC : Cods W) => recU (b := b1) (g := g1) (s := s) 111 (by decide) exR_cmdU [] v W h hp hC)
  have HRS := hid (fun W h => rstarts_any (b := b2) (g := g2) (s := s) W h)
  have HFD := hid (fun (a : Nat) (ha : a < s.L.length) W h => rfield_any (b := b2) (g := g2) (s := s) a ha W h)
  clear hd hfs hok hfit htl
  go_wp2_with fail
  have hal : Below w2.heap.size w2 (w2.alloc (.cells #[.int .u8 111] 5)) := (Below.refl _ _).alloc (Nat.le_refl _) _
  have HAL := hid hal
  have HOW := hid (own_lit w2 #[.int .u8 111] 1 [111] (by decide) rfl rfl (by decide) _ rfl)
  clear hal
  have HD3 := hid (HD1.out.below HAL.out)
  with_reducible refine (HRU.out _ _ HD3.out.sp HOW.out.reads (HCO.out _ (below_t HB2.out HAL.out))).mono ?_
  rintro e w3 ⟨rfl, hs3, hm3⟩
  have HT := hid hs3
  have HR := hid (HD3.out.rf.moved hm3 (fun h => HD3.out.ap b2 h (by simp)) (fun h => HD3.out.ap g2 h (by simp)))
  have HB3 := hid ((below_t HB2.out HAL.out).trans (hm3.toBelow (below_t HB2.out HAL.out).size (fun k hk => by
    have q := HD3.out.lb k (by rcases List.mem_cons.1 hk with rfl | hk; · simp
                               · have := List.mem_singleton.1 hk; subst this; simp)
    have := HB1.out.size
    omega)))
  unfold resV
  clear hs3 hm3 HAL HOW HD1 HD3
  obtain ⟨t, ht⟩ : ∃ t, unpS s = t := ⟨_, rfl⟩
  rw [ht] at HAT HT HUN
  obtain ⟨N, hNe⟩ : ∃ N : Nat, s.L.length = N := ⟨_, rfl⟩
  have HNE := hid hNe
  rw [hNe] at HUN HN HSB HSF HAT HFD HRS
  clear ht hNe
  go_wp2_with fail
  have HB4 := hid (show Below w3.heap.size w3 (w3.alloc (.cells #[.int .i64 4, .bool true, .bool false, .bool false, .int .i64 0, .slice none 0 0] 31)) from bal (Below.refl _ _) _)
  with_reducible refine (HRS.out _ (HR.out.below HB4.out)).mono ?_
  rintro e w5 ⟨hh, rfl, hhs, hO, hb5⟩
  have HO := hid hO
  have HB5 := hid (below_t HB4.out hb5)
  clear hO hb5 HB4 HRS HRU HAW HL1 HCO hhs
  have HR5 := hid (HR.out.below HB5.out)
  have h4 := HR5.out.h4
  rw [HNE.out] at h4
  have hlb := HR5.out.lt.1
  go_wp2_with fail
  clear h4 hlb
  go_loopw [48] (fun i W => ∃ q : Nat, q ≤ N ∧ i = .int .i64 q ∧ Hid (Below w5.heap.size w5 W)) (fun i _ => N - (RowKit.intOf i).toNat)
  case atStart => exact ⟨0, by omega, rfl, Below.refl _ _⟩
  case round =>
    obtain ⟨q, hq, rfl, HB⟩ := hrel
    by_cases hqN : q < N
    · have hqi : (q : Int) < N := by omega
      have hN2 := HN.out.2
      obtain ⟨c, hc⟩ : ∃ c, s.cel q = c := ⟨_, rfl⟩
      obtain ⟨a0, a1, a2, a3, a4, a5⟩ := (HR5.out.below HB.out).row.six q (by rw [HNE.out]; exact hqN) c hc
      have hlg := World.block_lt_of_cell? wr _ a0
      have HA1 := hid (fun W h => HAT.out q hqN W h)
      have hun := HUN.out q hqN
      have hP : s.P q = c.at_ := by unfold Spc.P; rw [hc]
      have hst := HSF.out q
      rw [hP] at hst
      rw [hc] at hun
      rw [hun] at HA1
      clear hun hP hc
      obtain ⟨x0, x1, x2, x3, x4, x5⟩ := c
      dsimp only at HA1 hst a0 a1 a2 a3 a4 a5
      obtain ⟨sv, hs0, hsv⟩ := (HO.out.below HB.out).at_ q hqN
      have esv := hsv hqN
      have hlh := World.block_lt_of_cell? wr _ hs0
      have HBW := hid (below_t HB5.out HB.out)
      have hal : Below wr.heap.size wr (wr.alloc (.cells #[.int .u8 x0, .bool x1, .int .u8 x2, .int .u8 x3, .int .u8 x4, .int .u8 x5] 47)) := bal (Below.refl _ _) _
      have z0 : (wr.alloc (.cells #[.int .u8 x0, .bool x1, .int .u8 x2, .int .u8 x3, .int .u8 x4, .int .u8 x5] 47)).cell? ⟨wr.heap.size, 0, none⟩ = some (.int .u8 x0) := by simp [go_sem]
      have z1 : (wr.alloc (.cells #[.int .u8 x0, .bool x1, .int .u8 x2, .int .u8 x3, .int .u8 x4, .int .u8 x5] 47)).cell? ⟨wr.heap.size, 1, none⟩ = some (.bool x1) := by simp [go_sem]
      have z2 : (wr.alloc (.cells #[.int .u8 x0, .bool x1, .int .u8 x2, .int .u8 x3, .int .u8 x4, .int .u8 x5] 47)).cell? ⟨wr.heap.size, 2, none⟩ = some (.int .u8 x2) := by simp [go_sem]
      have z3 : (wr.alloc (.cells #[.int .u8 x0, .bool x1, .int .u8 x2, .int .u8 x3, .int .u8 x4, .int .u8 x5] 47)).cell? ⟨wr.heap.size, 3, none⟩ = some (.int .u8 x3) := by simp [go_sem]
      have z4 : (wr.alloc (.cells #[.int .u8 x0, .bool x1, .int .u8 x2, .int .u8 x3, .int .u8 x4, .int .u8 x5] 47)).cell? ⟨wr.heap.size, 4, none⟩ = some (.int .u8 x4) := by simp [go_sem]
      have z5 : (wr.alloc (.cells #[.int .u8 x0, .bool x1, .int .u8 x2, .int .u8 x3, .int .u8 x4, .int .u8 x5] 47)).cell? ⟨wr.heap.size, 5, none⟩ = some (.int .u8 x5) := by simp [go_sem]
      have fz : ∀ o, (wr.alloc (.cells #[.int .u8 x0, .bool x1, .int .u8 x2, .int .u8 x3, .int .u8 x4, .int .u8 x5] 47)).frozen? ⟨wr.heap.size, o, none⟩ = false := fun o => by simp [go_sem]
      obtain ⟨WX, hWX⟩ : ∃ WX, wr.alloc (.cells #[.int .u8 x0, .bool x1, .int .u8 x2, .int .u8 x3, .int .u8 x4, .int .u8 x5] 47) = WX := ⟨_, rfl⟩
      rw [hWX] at hal z0 z1 z2 z3 z4 z5 fz
      have HAL := hid hal
      have HZ := hid (And.intro z0 (And.intro z1 (And.intro z2 (And.intro z3 (And.intro z4 (And.intro z5 fz))))))
      have HWX := hid hWX
      clear hal z0 z1 z2 z3 z4 z5 fz hWX
      rcases HSB.out q hqN with e | ⟨a, ha, hPa, e⟩
      · rw [e] at esv hst HA1
        subst esv
        have hx1 : x1 = false := by
          cases x1
          · rfl
          · have := hst rfl
            omega
        subst hx1
        have e3 : protF s (-1) = false := by unfold protF; rw [if_pos (by omega)]
        simp only [e3, Bool.false_eq_true, if_false] at HA1
        clear e3 e hst hsv
        go_wp2_with fail
        simp only [HWX.out]
        with_reducible refine (HA1.out _ (HT.out.below (below_t HBW.out HAL.out))).mono ?_
        rintro e w6 ⟨rfl, hb6⟩
        have HB6 := hid hb6
        have z0 := keepc hb6 HZ.out.1
        have z1 := keepc hb6 HZ.out.2.1
        have z2 := keepc hb6 HZ.out.2.2.1
        have z3 := keepc hb6 HZ.out.2.2.2.1
        have z4 := keepc hb6 HZ.out.2.2.2.2.1
        have z5 := keepc hb6 HZ.out.2.2.2.2.2.1
        have f0 := (hb6.frozen (p := ⟨wr.heap.size, 0, none⟩) (World.block_lt_of_cell? WX _ HZ.out.1)).trans (HZ.out.2.2.2.2.2.2 0)
        have f2 := (hb6.frozen (p := ⟨wr.heap.size, 2, none⟩) (World.block_lt_of_cell? WX _ HZ.out.2.2.1)).trans (HZ.out.2.2.2.2.2.2 2)
        have lw6 := World.block_lt_of_cell? w6 _ z0
        have hs1 := keepc (below_t HAL.out hb6) hs0
        have lh6 := World.block_lt_of_cell? w6 _ hs1
        have hgz : wr.heap.size < w6.heap.size := lw6
        clear hb6 hs0 a0 a1 a2 a3 a4 a5
        go_wp2
        go_roundw
        case rel => exact ⟨q + 1, by omega, by go_num, bal ((below_t HB.out (below_t HAL.out HB6.out)).sc _ _ _ HB.out.size) _⟩
        case measure => simp [RowKit.intOf]; omega
      · rw [e] at esv hst HA1
        subst esv
        have ha0 : ¬ (a : Int) < 0 := by omega
        have e3 : protF s (a : Int) = (s.cel a).prot := by unfold protF; rw [if_neg ha0]; rfl
        rw [e3] at HA1
        have HF1 := hid (fun W ht => HFD.out a ha W ht)
        unfold Cel.fv at HF1
        unfold Cel.prot at HA1
        generalize ofP (s.cel a).fa.toNat = pr at HF1 HA1
        generalize ofN (s.cel a).fa.toNat = nr at HF1
        generalize ofD (s.cel a).fa.toNat = dr at HF1
        generalize ofM (s.cel a).fa.toNat = mr at HF1
        clear e e3 hPa hst hsv
        cases pr
        · cases x1
          · simp only [Bool.false_eq_true, if_false] at HA1
            go_wp2_with fail
            simp only [HWX.out]
            with_reducible refine (HA1.out _ (HT.out.below (below_t HBW.out HAL.out))).mono ?_
            rintro e w6 ⟨rfl, hb6⟩
            have HB6 := hid hb6
            have z0 := keepc hb6 HZ.out.1
            have z1 := keepc hb6 HZ.out.2.1
            have z2 := keepc hb6 HZ.out.2.2.1
            have z3 := keepc hb6 HZ.out.2.2.2.1
            have z4 := keepc hb6 HZ.out.2.2.2.2.1
            have z5 := keepc hb6 HZ.out.2.2.2.2.2.1
            have f0 := (hb6.frozen (p := ⟨wr.heap.size, 0, none⟩) (World.block_lt_of_cell? WX _ HZ.out.1)).trans (HZ.out.2.2.2.2.2.2 0)
            have f2 := (hb6.frozen (p := ⟨wr.heap.size, 2, none⟩) (World.block_lt_of_cell? WX _ HZ.out.2.2.1)).trans (HZ.out.2.2.2.2.2.2 2)
            have lw6 := World.block_lt_of_cell? w6 _ z0
            have hs1 := keepc (below_t HAL.out hb6) hs0
            have lh6 := World.block_lt_of_cell? w6 _ hs1
            have hgz : wr.heap.size < w6.heap.size := lw6
            clear hb6 hs0 a0 a1 a2 a3 a4 a5
            go_wp2_with fail
            have hb7 : Below w6.heap.size w6 (w6.alloc (.cells #[.int .u8 0, .bool false, .int .u8 x2, .int .u8 x3, .int .u8 x4, .int .u8 x5] 47)) := bal (Below.refl _ _) _
            have y0 : (w6.alloc (.cells #[.int .u8 0, .bool false, .int .u8 x2, .int .u8 x3, .int .u8 x4, .int .u8 x5] 47)).cell? ⟨w6.heap.size, 0, none⟩ = some (.int .u8 0) := by simp [go_sem]
            have y1 : (w6.alloc (.cells #[.int .u8 0, .bool false, .int .u8 x2, .int .u8 x3, .int .u8 x4, .int .u8 x5] 47)).cell? ⟨w6.heap.size, 1, none⟩ = some (.bool false) := by simp [go_sem]
            have y2 : (w6.alloc (.cells #[.int .u8 0, .bool false, .int .u8 x2, .int .u8 x3, .int .u8 x4, .int .u8 x5] 47)).cell? ⟨w6.heap.size, 2, none⟩ = some (.int .u8 x2) := by simp [go_sem]
            have y3 : (w6.alloc (.cells #[.int .u8 0, .bool false, .int .u8 x2, .int .u8 x3, .int .u8 x4, .int .u8 x5] 47)).cell? ⟨w6.heap.size, 3, none⟩ = some (.int .u8 x3) := by simp [go_sem]
            have y4 : (w6.alloc (.cells #[.int .u8 0, .bool false, .int .u8 x2, .int .u8 x3, .int .u8 x4, .int .u8 x5] 47)).cell? ⟨w6.heap.size, 4, none⟩ = some (.int .u8 x4) := by simp [go_sem]
            have y5 : (w6.alloc (.cells #[.int .u8 0, .bool false, .int .u8 x2, .int .u8 x3, .int .u8 x4, .int .u8 x5] 47)).cell? ⟨w6.heap.size, 5, none⟩ = some (.int .u8 x5) := by simp [go_sem]
            with_reducible refine (HF1.out _ (HR5.out.below (below_t HB.out (below_t HAL.out (below_t HB6.out hb7))))).mono ?_
            rintro e w8 ⟨rfl, hb8⟩
            have HB8 := hid (below_t hb7 hb8)
            have hfp := fldP w8 false nr dr mr
            have zz0 := keepc (below_t hb7 hb8) z0
            have yy0 := keepc hb8 y0
            have zz1 := keepc (below_t hb7 hb8) z1
            have yy1 := keepc hb8 y1
            have zz2 := keepc (below_t hb7 hb8) z2
            have yy2 := keepc hb8 y2
            have zz3 := keepc (below_t hb7 hb8) z3
            have yy3 := keepc hb8 y3
            have zz4 := keepc (below_t hb7 hb8) z4
            have yy4 := keepc hb8 y4
            have zz5 := keepc (below_t hb7 hb8) z5
            have yy5 := keepc hb8 y5
            have ff0 := ((below_t hb7 hb8).frozen (p := ⟨wr.heap.size, 0, none⟩) lw6).trans f0
            have ff2 := ((below_t hb7 hb8).frozen (p := ⟨wr.heap.size, 2, none⟩) lw6).trans f2
            have lw8 := World.block_lt_of_cell? w8 _ zz0
            have ld8 := World.block_lt_of_cell? w8 _ yy0
            clear z0 y0 z1 y1 z2 y2 z3 y3 z4 y4 z5 y5 hb7 hb8 f0 f2
            go_wp2
            go_roundw
            case rel => exact ⟨q + 1, by omega, by go_num, (below_t (below_t HB.out (below_t HAL.out HB6.out)) HB8.out).sc _ _ _ HB.out.size⟩
            case measure => simp [RowKit.intOf]; omega
          · simp only [Bool.false_eq_true, if_false, if_true] at HA1
            go_wp2_with fail
            simp only [HWX.out]
            with_reducible refine (HA1.out _ (HT.out.below (below_t HBW.out HAL.out))).mono ?_
            rintro e w6 ⟨rfl, hb6⟩
            have HB6 := hid hb6
            have z0 := keepc hb6 HZ.out.1
            have z1 := keepc hb6 HZ.out.2.1
            have z2 := keepc hb6 HZ.out.2.2.1
            have z3 := keepc hb6 HZ.out.2.2.2.1
            have z4 := keepc hb6 HZ.out.2.2.2.2.1
            have z5 := keepc hb6 HZ.out.2.2.2.2.2.1
            have f0 := (hb6.frozen (p := ⟨wr.heap.size, 0, none⟩) (World.block_lt_of_cell? WX _ HZ.out.1)).trans (HZ.out.2.2.2.2.2.2 0)
            have f2 := (hb6.frozen (p := ⟨wr.heap.size, 2, none⟩) (World.block_lt_of_cell? WX _ HZ.out.2.2.1)).trans (HZ.out.2.2.2.2.2.2 2)
            have lw6 := World.block_lt_of_cell? w6 _ z0
            have hs1 := keepc (below_t HAL.out hb6) hs0
            have lh6 := World.block_lt_of_cell? w6 _ hs1
            have hgz : wr.heap.size < w6.heap.size := lw6
            clear hb6 hs0 a0 a1 a2 a3 a4 a5
            go_wp2_with fail
            have hb7 : Below w6.heap.size w6 (w6.alloc (.cells #[.int .u8 x0, .bool true, .int .u8 (bits .and .u8 x2 254), .int .u8 x3, .int .u8 x4, .int .u8 x5] 47)) := bal (Below.refl _ _) _
            have y0 : (w6.alloc (.cells #[.int .u8 x0, .bool true, .int .u8 (bits .and .u8 x2 254), .int .u8 x3, .int .u8 x4, .int .u8 x5] 47)).cell? ⟨w6.heap.size, 0, none⟩ = some (.int .u8 x0) := by simp [go_sem]
            have y1 : (w6.alloc (.cells #[.int .u8 x0, .bool true, .int .u8 (bits .and .u8 x2 254), .int .u8 x3, .int .u8 x4, .int .u8 x5] 47)).cell? ⟨w6.heap.size, 1, none⟩ = some (.bool true) := by simp [go_sem]
            have y2 : (w6.alloc (.cells #[.int .u8 x0, .bool true, .int .u8 (bits .and .u8 x2 254), .int .u8 x3, .int .u8 x4, .int .u8 x5] 47)).cell? ⟨w6.heap.size, 2, none⟩ = some (.int .u8 (bits .and .u8 x2 254)) := by simp [go_sem]
            have y3 : (w6.alloc (.cells #[.int .u8 x0, .bool true, .int .u8 (bits .and .u8 x2 254), .int .u8 x3, .int .u8 x4, .int .u8 x5] 47)).cell? ⟨w6.heap.size, 3, none⟩ = some (.int .u8 x3) := by simp [go_sem]
            have y4 : (w6.alloc (.cells #[.int .u8 x0, .bool true, .int .u8 (bits .and .u8 x2 254), .int .u8 x3, .int .u8 x4, .int .u8 x5] 47)).cell? ⟨w6.heap.size, 4, none⟩ = some (.int .u8 x4) := by simp [go_sem]
            have y5 : (w6.alloc (.cells #[.int .u8 x0, .bool true, .int .u8 (bits .and .u8 x2 254), .int .u8 x3, .int .u8 x4, .int .u8 x5] 47)).cell? ⟨w6.heap.size, 5, none⟩ = some (.int .u8 x5) := by simp [go_sem]
            with_reducible refine (HF1.out _ (HR5.out.below (below_t HB.out (below_t HAL.out (below_t HB6.out hb7))))).mono ?_
            rintro e w8 ⟨rfl, hb8⟩
            have HB8 := hid (below_t hb7 hb8)
            have hfp := fldP w8 false nr dr mr
            have zz0 := keepc (below_t hb7 hb8) z0
            have yy0 := keepc hb8 y0
            have zz1 := keepc (below_t hb7 hb8) z1
            have yy1 := keepc hb8 y1
            have zz2 := keepc (below_t hb7 hb8) z2
            have yy2 := keepc hb8 y2
            have zz3 := keepc (below_t hb7 hb8) z3
            have yy3 := keepc hb8 y3
            have zz4 := keepc (below_t hb7 hb8) z4
            have yy4 := keepc hb8 y4
            have zz5 := keepc (below_t hb7 hb8) z5
            have yy5 := keepc hb8 y5
            have ff0 := ((below_t hb7 hb8).frozen (p := ⟨wr.heap.size, 0, none⟩) lw6).trans f0
            have ff2 := ((below_t hb7 hb8).frozen (p := ⟨wr.heap.size, 2, none⟩) lw6).trans f2
            have lw8 := World.block_lt_of_cell? w8 _ zz0
            have ld8 := World.block_lt_of_cell? w8 _ yy0
            clear z0 y0 z1 y1 z2 y2 z3 y3 z4 y4 z5 y5 hb7 hb8 f0 f2
            go_wp2
            go_roundw
            case rel => exact ⟨q + 1, by omega, by go_num, (below_t (below_t HB.out (below_t HAL.out HB6.out)) HB8.out).sc _ _ _ HB.out.size⟩
            case measure => simp [RowKit.intOf]; omega
        · simp only [if_true] at HA1
          cases x1
          · skip
            go_wp2_with fail
            simp only [HWX.out]
            with_reducible refine (HA1.out _ (HT.out.below (below_t HBW.out HAL.out))).mono ?_
            rintro e w6 ⟨rfl, hb6⟩
            have HB6 := hid hb6
            have z0 := keepc hb6 HZ.out.1
            have z1 := keepc hb6 HZ.out.2.1
            have z2 := keepc hb6 HZ.out.2.2.1
            have z3 := keepc hb6 HZ.out.2.2.2.1
            have z4 := keepc hb6 HZ.out.2.2.2.2.1
            have z5 := keepc hb6 HZ.out.2.2.2.2.2.1
            have f0 := (hb6.frozen (p := ⟨wr.heap.size, 0, none⟩) (World.block_lt_of_cell? WX _ HZ.out.1)).trans (HZ.out.2.2.2.2.2.2 0)
            have f2 := (hb6.frozen (p := ⟨wr.heap.size, 2, none⟩) (World.block_lt_of_cell? WX _ HZ.out.2.2.1)).trans (HZ.out.2.2.2.2.2.2 2)
            have lw6 := World.block_lt_of_cell? w6 _ z0
            have hs1 := keepc (below_t HAL.out hb6) hs0
            have lh6 := World.block_lt_of_cell? w6 _ hs1
            have hgz : wr.heap.size < w6.heap.size := lw6
            clear hb6 hs0 a0 a1 a2 a3 a4 a5
            go_wp2_with fail
            have hb7 : Below w6.heap.size w6 (w6.alloc (.cells #[.int .u8 x0, .bool false, .int .u8 x2, .int .u8 x3, .int .u8 x4, .int .u8 x5] 47)) := bal (Below.refl _ _) _
            have y0 : (w6.alloc (.cells #[.int .u8 x0, .bool false, .int .u8 x2, .int .u8 x3, .int .u8 x4, .int .u8 x5] 47)).cell? ⟨w6.heap.size, 0, none⟩ = some (.int .u8 x0) := by simp [go_sem]
            have y1 : (w6.alloc (.cells #[.int .u8 x0, .bool false, .int .u8 x2, .int .u8 x3, .int .u8 x4, .int .u8 x5] 47)).cell? ⟨w6.heap.size, 1, none⟩ = some (.bool false) := by simp [go_sem]
            have y2 : (w6.alloc (.cells #[.int .u8 x0, .bool false, .int .u8 x2, .int .u8 x3, .int .u8 x4, .int .u8 x5] 47)).cell? ⟨w6.heap.size, 2, none⟩ = some (.int .u8 x2) := by simp [go_sem]
            have y3 : (w6.alloc (.cells #[.int .u8 x0, .bool false, .int .u8 x2, .int .u8 x3, .int .u8 x4, .int .u8 x5] 47)).cell? ⟨w6.heap.size, 3, none⟩ = some (.int .u8 x3) := by simp [go_sem]
            have y4 : (w6.alloc (.cells #[.int .u8 x0, .bool false, .int .u8 x2, .int .u8 x3, .int .u8 x4, .int .u8 x5] 47)).cell? ⟨w6.heap.size, 4, none⟩ = some (.int .u8 x4) := by simp [go_sem]
            have y5 : (w6.alloc (.cells #[.int .u8 x0, .bool false, .int .u8 x2, .int .u8 x3, .int .u8 x4, .int .u8 x5] 47)).cell? ⟨w6.heap.size, 5, none⟩ = some (.int .u8 x5) := by simp [go_sem]
            with_reducible refine (HF1.out _ (HR5.out.below (below_t HB.out (below_t HAL.out (below_t HB6.out hb7))))).mono ?_
            rintro e w8 ⟨rfl, hb8⟩
            have HB8 := hid (below_t hb7 hb8)
            have hfp := fldP w8 true nr dr mr
            have zz0 := keepc (below_t hb7 hb8) z0
            have yy0 := keepc hb8 y0
            have zz1 := keepc (below_t hb7 hb8) z1
            have yy1 := keepc hb8 y1
            have zz2 := keepc (below_t hb7 hb8) z2
            have yy2 := keepc hb8 y2
            have zz3 := keepc (below_t hb7 hb8) z3
            have yy3 := keepc hb8 y3
            have zz4 := keepc (below_t hb7 hb8) z4
            have yy4 := keepc hb8 y4
            have zz5 := keepc (below_t hb7 hb8) z5
            have yy5 := keepc hb8 y5
            have ff0 := ((below_t hb7 hb8).frozen (p := ⟨wr.heap.size, 0, none⟩) lw6).trans f0
            have ff2 := ((below_t hb7 hb8).frozen (p := ⟨wr.heap.size, 2, none⟩) lw6).trans f2
            have lw8 := World.block_lt_of_cell? w8 _ zz0
            have ld8 := World.block_lt_of_cell? w8 _ yy0
            clear z0 y0 z1 y1 z2 y2 z3 y3 z4 y4 z5 y5 hb7 hb8 f0 f2
            go_wp2
            go_roundw
            case rel => exact ⟨q + 1, by omega, by go_num, below_t (below_t HB.out (below_t HAL.out HB6.out)) HB8.out⟩
            case measure => simp [RowKit.intOf]; omega
          · skip
            go_wp2_with fail
            simp only [HWX.out]
            with_reducible refine (HA1.out _ (HT.out.below (below_t HBW.out HAL.out))).mono ?_
            rintro e w6 ⟨rfl, hb6⟩
            have HB6 := hid hb6
            have z0 := keepc hb6 HZ.out.1
            have z1 := keepc hb6 HZ.out.2.1
            have z2 := keepc hb6 HZ.out.2.2.1
            have z3 := keepc hb6 HZ.out.2.2.2.1
            have z4 := keepc hb6 HZ.out.2.2.2.2.1
            have z5 := keepc hb6 HZ.out.2.2.2.2.2.1
            have f0 := (hb6.frozen (p := ⟨wr.heap.size, 0, none⟩) (World.block_lt_of_cell? WX _ HZ.out.1)).trans (HZ.out.2.2.2.2.2.2 0)
            have f2 := (hb6.frozen (p := ⟨wr.heap.size, 2, none⟩) (World.block_lt_of_cell? WX _ HZ.out.2.2.1)).trans (HZ.out.2.2.2.2.2.2 2)
            have lw6 := World.block_lt_of_cell? w6 _ z0
            have hs1 := keepc (below_t HAL.out hb6) hs0
            have lh6 := World.block_lt_of_cell? w6 _ hs1
            have hgz : wr.heap.size < w6.heap.size := lw6
            clear hb6 hs0 a0 a1 a2 a3 a4 a5
            go_wp2_with fail
            have hb7 : Below w6.heap.size w6 (w6.alloc (.cells #[.int .u8 x0, .bool true, .int .u8 x2, .int .u8 x3, .int .u8 x4, .int .u8 x5] 47)) := bal (Below.refl _ _) _
            have y0 : (w6.alloc (.cells #[.int .u8 x0, .bool true, .int .u8 x2, .int .u8 x3, .int .u8 x4, .int .u8 x5] 47)).cell? ⟨w6.heap.size, 0, none⟩ = some (.int .u8 x0) := by simp [go_sem]
            have y1 : (w6.alloc (.cells #[.int .u8 x0, .bool true, .int .u8 x2, .int .u8 x3, .int .u8 x4, .int .u8 x5] 47)).cell? ⟨w6.heap.size, 1, none⟩ = some (.bool true) := by simp [go_sem]
            have y2 : (w6.alloc (.cells #[.int .u8 x0, .bool true, .int .u8 x2, .int .u8 x3, .int .u8 x4, .int .u8 x5] 47)).cell? ⟨w6.heap.size, 2, none⟩ = some (.int .u8 x2) := by simp [go_sem]
            have y3 : (w6.alloc (.cells #[.int .u8 x0, .bool true, .int .u8 x2, .int .u8 x3, .int .u8 x4, .int .u8 x5] 47)).cell? ⟨w6.heap.size, 3, none⟩ = some (.int .u8 x3) := by simp [go_sem]
            have y4 : (w6.alloc (.cells #[.int .u8 x0, .bool true, .int .u8 x2, .int .u8 x3, .int .u8 x4, .int .u8 x5] 47)).cell? ⟨w6.heap.size, 4, none⟩ = some (.int .u8 x4) := by simp [go_sem]
            have y5 : (w6.alloc (.cells #[.int .u8 x0, .bool true, .int .u8 x2, .int .u8 x3, .int .u8 x4, .int .u8 x5] 47)).cell? ⟨w6.heap.size, 5, none⟩ = some (.int .u8 x5) := by simp [go_sem]
            with_reducible refine (HF1.out _ (HR5.out.below (below_t HB.out (below_t HAL.out (below_t HB6.out hb7))))).mono ?_
            rintro e w8 ⟨rfl, hb8⟩
            have HB8 := hid (below_t hb7 hb8)
            have hfp := fldP w8 true nr dr mr
            have zz0 := keepc (below_t hb7 hb8) z0
            have yy0 := keepc hb8 y0
            have zz1 := keepc (below_t hb7 hb8) z1
            have yy1 := keepc hb8 y1
            have zz2 := keepc (below_t hb7 hb8) z2
            have yy2 := keepc hb8 y2
            have zz3 := keepc (below_t hb7 hb8) z3
            have yy3 := keepc hb8 y3
            have zz4 := keepc (below_t hb7 hb8) z4
            have yy4 := keepc hb8 y4
            have zz5 := keepc (below_t hb7 hb8) z5
            have yy5 := keepc hb8 y5
            have ff0 := ((below_t hb7 hb8).frozen (p := ⟨wr.heap.size, 0, none⟩) lw6).trans f0
            have ff2 := ((below_t hb7 hb8).frozen (p := ⟨wr.heap.size, 2, none⟩) lw6).trans f2
            have lw8 := World.block_lt_of_cell? w8 _ zz0
            have ld8 := World.block_lt_of_cell? w8 _ yy0
            clear z0 y0 z1 y1 z2 y2 z3 y3 z4 y4 z5 y5 hb7 hb8 f0 f2
            go_wp2
            go_roundw
            case rel => exact ⟨q + 1, by omega, by go_num, below_t (below_t HB.out (below_t HAL.out HB6.out)) HB8.out⟩
            case measure => simp [RowKit.intOf]; omega
    · obtain rfl : q = N := by omega
      go_wp2
      go_ret
      exact ⟨rfl, below_t (below_t HB3.out HB5.out) HB.out⟩
end Go.Proofs.YtdampfngdnicoaaDoor
