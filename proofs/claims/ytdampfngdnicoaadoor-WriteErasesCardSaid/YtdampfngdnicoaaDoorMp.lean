/-
  WriteAgain: the law's own walk.
-/
import Derived.Test.YtdampfngdnicoaaDoorMo
namespace Go.Proofs.YtdampfngdnicoaaDoor
open Go.RowKit Go.Lib Go.Deep

theorem again_bel {w w5 w6 : World} {b : Nat} (h : Below w.heap.size w w5) (m : Moved w5 w6 [b] [b]) (hb : w.heap.size ≤ b) : Below w.heap.size w w6 := h.trans (m.toBelow h.size (fun k hk => by have := List.mem_singleton.1 hk; omega))
theorem own_base {w : World} {B n sz : Nat} {e : TypeId} {v : Value} {xs : List Value} (h : w.ownsRow 0 e sz v n xs) (hk : ∀ k, v.ownBlock = some k → B ≤ k) : w.ownsRow B e sz v n xs := ⟨h.1, h.2.imp id fun ⟨g, cap, cur, h1, _, h3⟩ => ⟨g, cap, cur, h1, hk g (by rw [h1]; rfl), h3⟩⟩
set_option maxRecDepth 100000 in
set_option maxHeartbeats 4000000 in
theorem again_false (m : Nat) (hm : m < 256) (v1 v2 v3 : Value) (ac1 ac2 : List ActD) (ps : List Int) (w : World) (hx1 : ActsIn w.heap.size w v1 ac1) (hx2 : ActsIn w.heap.size w v2 ac2) (hp : Reads w v3 ps) (hC : Cods w) : Calls Tryd.prog 3 #[.int .u8 m, v1, v2, v3, .bool false] w fun e w' => e = .returned (.bool true) ∧ Below w.heap.size w w' := by
  have HAW := hid (awake17 w hC)
  have HL1 := hid (fun W (hb : Below w.heap.size w W) => lay_any m hm v1 ac1 w.heap.size W hb.size (hx1.below hb))
  have HL2 := hid (fun W (hb : Below w.heap.size w W) => lay_any m hm v2 ac2 w.heap.size W hb.size (hx2.below hb))
  have HCT := hid (fun W (hb : Below w.heap.size w W) => (show Calls Tryd.prog 8 #[v3, .int .i64 400] W (OwnDone (ps.take 400) W) from rcut_own v3 400 (by decide) ps W (reads_below hp hb)))
  have HCO := hid (fun W (hb : Below w.heap.size w W) => hC.below hC.2 hb)
  have HM1 := hid (runS_mo (clearS (2 + ((m % 4 : Nat) : Int)) false) ac1 ac1.length)
  have HM2 := hid (runS_mo (clearS (2 + ((m % 4 : Nat) : Int)) false) ac2 ac2.length)
  obtain ⟨x1, c1, rfl⟩ := hx1.sl
  obtain ⟨x2, c2, rfl⟩ := hx2.sl
  obtain ⟨x3, c3, rfl⟩ := reads_sl hp
  generalize runS (clearS (2 + ((m % 4 : Nat) : Int)) false) ac1 ac1.length = s1 at HL1 HM1
  generalize runS (clearS (2 + ((m % 4 : Nat) : Int)) false) ac2 ac2.length = s2 at HL2 HM2
  have HMO := hid (show s2.mo = s1.mo from HM2.out.trans HM1.out.symm)
  clear hx1 hx2 hp hC hm HM1 HM2
  obtain ⟨r, hr⟩ : ∃ r, ps.take 400 = r := ⟨_, rfl⟩
  have hrl : r.length ≤ 400 := by rw [← hr, List.length_take]; omega
  rw [hr] at HCT
  have HRL := hid hrl
  clear hr hrl
  have HRUN := hid (fun b g s v W (h : SpM W b g s) (hp : Reads W v (((245 : Nat) : Int) :: r)) (hv : ∀ k ∈ blkV v, k ≠ b) (hC : Cods W) => recE_2 (b := b) (g := g) (s := s) 245 (by decide) exR_cmd r (by have := HRL.out; omega) v W h hp hv hC)
  obtain ⟨xr, xa, xt, hev⟩ := ewV_is 2 s1.mo false r
  have HEV := hid hev
  have HALT := hid (ew_alt s1.mo false r)
  clear hev
  go_enter Tryd.func3, Tryd.ntmps3
  go_wp2_with fail
  with_reducible refine HAW.out.mono ?_
  rintro e w1 ⟨rfl, hb1⟩
  have HB1 := hid hb1
  clear hb1
  go_wp2_with fail
  with_reducible refine (HL1.out _ HB1.out).mono ?_
  rintro e w2 ⟨b1, g1, b2, g2, rfl, hd, -⟩
  have HD1 := hid hd
  have HB2 := hid (below_t HB1.out hd.bel)
  clear hd
  go_wp2_with fail
  with_reducible refine (HL2.out _ HB2.out).mono ?_
  rintro e w3 ⟨b3, g3, b4, g4, rfl, hd, -⟩
  have HD2 := hid hd
  have HB3 := hid (below_t HB2.out hd.bel)
  have HSA := hid (HD1.out.sp.below hd.bel)
  clear hd
  go_wp2_with fail
  have hal : Below w3.heap.size w3 (w3.alloc (.cells #[.int .u8 245] 5)) := (Below.refl _ _).alloc (Nat.le_refl _) _
  have HAL := hid hal
  have HOW := hid (own_lit w3 #[.int .u8 245] 1 [245] (by decide) rfl rfl (by decide) _ rfl)
  clear hal
  with_reducible refine (HCT.out _ (below_t HB3.out HAL.out)).mono ?_
  rintro e w4 ⟨v4, rfl, ho4, hb4, hk4⟩
  have HO4 := hid ho4
  have HB4 := hid (below_t HAL.out hb4)
  have HOW4 := hid (HOW.out.step hb4)
  obtain ⟨x4, n4, c4, rfl⟩ := own_slice ho4
  clear ho4 hb4 hk4
  go_wp2_with (at_builtin; refine wpList_append_bytes rfl (.tmp 36) (.tmp 38) rfl w3.heap.size 1 (.slice (some ⟨w3.heap.size, 0, none⟩) 1 1) (.slice x4 n4 c4) [245] r rfl rfl (own_base HOW4.out.2 (fun k hk => by have : w3.heap.size = k := (by simpa [Value.ownBlock] using hk); omega)) HO4.out.reads (by have := HRL.out; omega) (by have := HAL.out.size; have := HB4.out.size; omega) (1 + r.length) rfl (245 :: r) rfl ?_; intro y5 c5 w5 h5 g5)
  have HB5 := hid (HB4.out.grown (row := (Value.slice (some ⟨w3.heap.size, 0, none⟩) 1 1).ownBlock) g5 HB4.out.size (fun k e => by have : w3.heap.size = k := (by simpa [Value.ownBlock] using e); have := HB3.out.size; omega))
  have HO5 := hid (show OwnB w5 (.slice y5 (1 + r.length) c5) (((245 : Nat) : Int) :: r) from ⟨fun x hx => by
    rcases List.mem_cons.1 hx with rfl | hx
    · decide
    · exact HO4.out.1 x hx, by
    have q := own_weak h5 (Nat.zero_le _)
    rwa [show 1 + r.length = ((((245 : Nat) : Int) :: r)).length by simp; omega] at q ⊢⟩)
  have HKB := hid (show ∀ k ∈ blkV (.slice y5 (1 + r.length) c5), w3.heap.size ≤ k from fun k hk => (h5.lt k (mem_blkV.1 hk)).1)
  clear h5 g5 HOW HOW4 HAL
  have HLT := hid (And.intro HSA.out.lt (And.intro HD2.out.sp.lt (And.intro (HD2.out.lb b3 (by simp)) (HD2.out.lb g3 (by simp)))))
  have HNB := hid (show b1 < w2.heap.size ∧ g1 < w2.heap.size from HD1.out.sp.lt)
  have HB35 := hid (below_t HB3.out HB5.out)
  have HSA5 := hid (HSA.out.below HB5.out)
  have HSB5 := hid (HD2.out.sp.below HB5.out)
  go_wp2_with fail
  with_reducible refine (HRUN.out b1 g1 s1 _ _ HSA5.out HO5.out.reads (fun k hk => by have := HKB.out k hk; have := HLT.out.1; omega) (HCO.out _ HB35.out)).mono ?_
  rintro e w6 ⟨rfl, g6, hg6, hs6, hm6⟩
  have HS6 := hid hs6
  have HW6 := hid (again_bel HB35.out hm6 (by have := HD1.out.lb b1 (by simp); have := HB1.out.size; omega))
  have hz5 := HB5.out.size
  have HSB6 := hid (HSB5.out.moved hm6 (by have := HLT.out.2.2.1; have := HNB.out.1; simp; omega) (by have := HLT.out.2.2.2; have := HNB.out.1; simp; omega))
  have HO6 := hid (HO5.out.moved hm6 (fun k hk q => by have := HKB.out k hk; have := HLT.out.1; have := List.mem_singleton.1 q; omega))
  have hg6' : w5.heap.size ≤ g6 := hg6
  have hz56 := hm6.size
  rw [HEV.out]
  unfold resV
  clear hs6 hm6 hg6
  obtain ⟨kk, hkk⟩ : ∃ kk, (ewS s1.mo false r).2.1 = kk := ⟨_, rfl⟩
  obtain ⟨er, her⟩ : ∃ er, (ewS s1.mo false r).2.2 = er := ⟨_, rfl⟩
  rw [hkk] at HEV
  rw [hkk, her]
  have HER := hid her
  clear hkk her
  go_wp2_with fail
  have hb7 : Below w6.heap.size w6 (w6.alloc (.cells #[.int .i64 2, .bool xr, .bool xa, .bool xt, .int .i64 kk, .slice none 0 0] 31)) := (Below.refl _ _).alloc (Nat.le_refl _) _
  have z0 : (w6.alloc (.cells #[.int .i64 2, .bool xr, .bool xa, .bool xt, .int .i64 kk, .slice none 0 0] 31)).cell? ⟨w6.heap.size, 0, none⟩ = some (.int .i64 2) := by simp [go_sem]
  have z1 : (w6.alloc (.cells #[.int .i64 2, .bool xr, .bool xa, .bool xt, .int .i64 kk, .slice none 0 0] 31)).cell? ⟨w6.heap.size, 1, none⟩ = some (.bool xr) := by simp [go_sem]
  have z2 : (w6.alloc (.cells #[.int .i64 2, .bool xr, .bool xa, .bool xt, .int .i64 kk, .slice none 0 0] 31)).cell? ⟨w6.heap.size, 2, none⟩ = some (.bool xa) := by simp [go_sem]
  have z3 : (w6.alloc (.cells #[.int .i64 2, .bool xr, .bool xa, .bool xt, .int .i64 kk, .slice none 0 0] 31)).cell? ⟨w6.heap.size, 3, none⟩ = some (.bool xt) := by simp [go_sem]
  have z4 : (w6.alloc (.cells #[.int .i64 2, .bool xr, .bool xa, .bool xt, .int .i64 kk, .slice none 0 0] 31)).cell? ⟨w6.heap.size, 4, none⟩ = some (.int .i64 kk) := by simp [go_sem]
  have z5 : (w6.alloc (.cells #[.int .i64 2, .bool xr, .bool xa, .bool xt, .int .i64 kk, .slice none 0 0] 31)).cell? ⟨w6.heap.size, 5, none⟩ = some (.slice none 0 0) := by simp [go_sem]
  have hw6z := HW6.out.size
  with_reducible refine (HRUN.out b3 g3 s2 _ _ (HSB6.out.below hb7) ((HO6.out.step hb7).reads) (fun k hk => by have := HKB.out k hk; have := HLT.out.2.1.1; omega) (HCO.out _ (below_t HW6.out hb7))).mono ?_
  rintro e w8 ⟨rfl, g8, hg8, hs8, hm8⟩
  have hz6 : w3.heap.size ≤ w6.heap.size := by omega
  have hb3l := HLT.out.2.1.1
  have hne : w6.heap.size ∉ [b3] := by simp; omega
  have y0 := cell_moved hm8 z0 hne
  have y1 := cell_moved hm8 z1 hne
  have y2 := cell_moved hm8 z2 hne
  have y3 := cell_moved hm8 z3 hne
  have y4 := cell_moved hm8 z4 hne
  have y5' := cell_moved hm8 z5 hne
  have HS8 := hid hs8
  have hw8 := World.block_lt_of_cell? w8 _ y0
  have HW8 := hid (again_bel (below_t HW6.out hb7) hm8 (by have := HD2.out.lb b3 (by simp); have := HB2.out.size; omega))
  have hg6b : b1 ≠ b3 ∧ g6 ≠ b3 := by have := HLT.out; have := HNB.out.1; omega
  have HA8 := hid ((HS6.out.below hb7).moved hm8 (by simp; omega) (by simp; omega))
  rw [HMO.out] at HS8 ⊢
  rw [HEV.out, HER.out]
  unfold resV
  clear hs8 hm8 hg8 z0 z1 z2 z3 z4 z5 hb7
  have HSM := hid (fun W => (show Calls Tryd.prog 10 #[.agg #[.int .i64 2, .bool xr, .bool xa, .bool xt, .int .i64 kk, .slice none 0 0], .agg #[.int .i64 2, .bool xr, .bool xa, .bool xt, .int .i64 kk, .slice none 0 0]] W fun e w' => e = .returned (.bool true) ∧ Below W.heap.size W w' from rsame17 2 xr xa xt kk W))
  have HSE := hid (fun W (hW : SpM W b1 g6 (ewS s1.mo false r).1.s) (hV : SpM W b3 g8 (ewS s1.mo false r).1.s) => same_yes W hW hV rfl rfl rfl rfl)
  have HAL := hid (fun W (hW : SpM W b1 g6 (ewS s1.mo false r).1.s) => (show Calls Tryd.prog 12 #[.pointer (some ⟨b1, 0, none⟩)] W fun e w' => e = .returned (.bool false) ∧ Below W.heap.size W w' from by
    have q := alternate_any W hW
    rwa [HALT.out] at q))
  have hee : (er == er) = true := by simp
  go_wp2_with fail
  have hb9 : Below w8.heap.size w8 (w8.alloc (.cells #[.int .i64 2, .bool xr, .bool xa, .bool xt, .int .i64 kk, .slice none 0 0] 31)) := (Below.refl _ _).alloc (Nat.le_refl _) _
  with_reducible refine (HSM.out _).mono ?_
  rintro e w10 ⟨rfl, hb10⟩
  have HB10 := hid (below_t hb9 hb10)
  clear hb9 hb10
  go_wp2_with fail
  with_reducible refine (HSE.out _ (HA8.out.below HB10.out) (HS8.out.below HB10.out)).mono ?_
  rintro e w11 ⟨rfl, hb11⟩
  have HB11 := hid (below_t HB10.out hb11)
  clear hb11
  go_wp2_with fail
  with_reducible refine (HAL.out _ (HA8.out.below HB11.out)).mono ?_
  rintro e w12 ⟨rfl, hb12⟩
  have HB12 := hid (below_t HB11.out hb12)
  clear hb12
  go_wp2
  go_ret
  exact ⟨rfl, below_t HW8.out HB12.out⟩
set_option maxRecDepth 100000 in
set_option maxHeartbeats 4000000 in
theorem again_true (m : Nat) (hm : m < 256) (v1 v2 v3 : Value) (ac1 ac2 : List ActD) (ps : List Int) (w : World) (hx1 : ActsIn w.heap.size w v1 ac1) (hx2 : ActsIn w.heap.size w v2 ac2) (hp : Reads w v3 ps) (hC : Cods w) : Calls Tryd.prog 3 #[.int .u8 m, v1, v2, v3, .bool true] w fun e w' => e = .returned (.bool true) ∧ Below w.heap.size w w' := by
  have HAW := hid (awake17 w hC)
  have HL1 := hid (fun W (hb : Below w.heap.size w W) => lay_any m hm v1 ac1 w.heap.size W hb.size (hx1.below hb))
  have HL2 := hid (fun W (hb : Below w.heap.size w W) => lay_any m hm v2 ac2 w.heap.size W hb.size (hx2.below hb))
  have HCT := hid (fun W (hb : Below w.heap.size w W) => (show Calls Tryd.prog 8 #[v3, .int .i64 400] W (OwnDone (ps.take 400) W) from rcut_own v3 400 (by decide) ps W (reads_below hp hb)))
  have HCO := hid (fun W (hb : Below w.heap.size w W) => hC.below hC.2 hb)
  have HM1 := hid (runS_mo (clearS (2 + ((m % 4 : Nat) : Int)) false) ac1 ac1.length)
  have HM2 := hid (runS_mo (clearS (2 + ((m % 4 : Nat) : Int)) false) ac2 ac2.length)
  obtain ⟨x1, c1, rfl⟩ := hx1.sl
  obtain ⟨x2, c2, rfl⟩ := hx2.sl
  obtain ⟨x3, c3, rfl⟩ := reads_sl hp
  generalize runS (clearS (2 + ((m % 4 : Nat) : Int)) false) ac1 ac1.length = s1 at HL1 HM1
  generalize runS (clearS (2 + ((m % 4 : Nat) : Int)) false) ac2 ac2.length = s2 at HL2 HM2
  have HMO := hid (show s2.mo = s1.mo from HM2.out.trans HM1.out.symm)
  clear hx1 hx2 hp hC hm HM1 HM2
  obtain ⟨r, hr⟩ : ∃ r, ps.take 400 = r := ⟨_, rfl⟩
  have hrl : r.length ≤ 400 := by rw [← hr, List.length_take]; omega
  rw [hr] at HCT
  have HRL := hid hrl
  clear hr hrl
  have HRUN := hid (fun b g s v W (h : SpM W b g s) (hp : Reads W v (((126 : Nat) : Int) :: r)) (hv : ∀ k ∈ blkV v, k ≠ b) (hC : Cods W) => recE_3 (b := b) (g := g) (s := s) 126 (by decide) exR_cmdA r (by have := HRL.out; omega) v W h hp hv hC)
  obtain ⟨xr, xa, xt, hev⟩ := ewV_is 3 s1.mo true r
  have HEV := hid hev
  have HALT := hid (ew_alt s1.mo true r)
  clear hev
  go_enter Tryd.func3, Tryd.ntmps3
  go_wp2_with fail
  with_reducible refine HAW.out.mono ?_
  rintro e w1 ⟨rfl, hb1⟩
  have HB1 := hid hb1
  clear hb1
  go_wp2_with fail
  with_reducible refine (HL1.out _ HB1.out).mono ?_
  rintro e w2 ⟨b1, g1, b2, g2, rfl, hd, -⟩
  have HD1 := hid hd
  have HB2 := hid (below_t HB1.out hd.bel)
  clear hd
  go_wp2_with fail
  with_reducible refine (HL2.out _ HB2.out).mono ?_
  rintro e w3 ⟨b3, g3, b4, g4, rfl, hd, -⟩
  have HD2 := hid hd
  have HB3 := hid (below_t HB2.out hd.bel)
  have HSA := hid (HD1.out.sp.below hd.bel)
  clear hd
  go_wp2_with fail
  have hal : Below w3.heap.size w3 (w3.alloc (.cells #[.int .u8 126] 5)) := (Below.refl _ _).alloc (Nat.le_refl _) _
  have HAL := hid hal
  have HOW := hid (own_lit w3 #[.int .u8 126] 1 [126] (by decide) rfl rfl (by decide) _ rfl)
  clear hal
  with_reducible refine (HCT.out _ (below_t HB3.out HAL.out)).mono ?_
  rintro e w4 ⟨v4, rfl, ho4, hb4, hk4⟩
  have HO4 := hid ho4
  have HB4 := hid (below_t HAL.out hb4)
  have HOW4 := hid (HOW.out.step hb4)
  obtain ⟨x4, n4, c4, rfl⟩ := own_slice ho4
  clear ho4 hb4 hk4
  go_wp2_with (at_builtin; refine wpList_append_bytes rfl (.tmp 36) (.tmp 38) rfl w3.heap.size 1 (.slice (some ⟨w3.heap.size, 0, none⟩) 1 1) (.slice x4 n4 c4) [126] r rfl rfl (own_base HOW4.out.2 (fun k hk => by have : w3.heap.size = k := (by simpa [Value.ownBlock] using hk); omega)) HO4.out.reads (by have := HRL.out; omega) (by have := HAL.out.size; have := HB4.out.size; omega) (1 + r.length) rfl (126 :: r) rfl ?_; intro y5 c5 w5 h5 g5)
  have HB5 := hid (HB4.out.grown (row := (Value.slice (some ⟨w3.heap.size, 0, none⟩) 1 1).ownBlock) g5 HB4.out.size (fun k e => by have : w3.heap.size = k := (by simpa [Value.ownBlock] using e); have := HB3.out.size; omega))
  have HO5 := hid (show OwnB w5 (.slice y5 (1 + r.length) c5) (((126 : Nat) : Int) :: r) from ⟨fun x hx => by
    rcases List.mem_cons.1 hx with rfl | hx
    · decide
    · exact HO4.out.1 x hx, by
    have q := own_weak h5 (Nat.zero_le _)
    rwa [show 1 + r.length = ((((126 : Nat) : Int) :: r)).length by simp; omega] at q ⊢⟩)
  have HKB := hid (show ∀ k ∈ blkV (.slice y5 (1 + r.length) c5), w3.heap.size ≤ k from fun k hk => (h5.lt k (mem_blkV.1 hk)).1)
  clear h5 g5 HOW HOW4 HAL
  have HLT := hid (And.intro HSA.out.lt (And.intro HD2.out.sp.lt (And.intro (HD2.out.lb b3 (by simp)) (HD2.out.lb g3 (by simp)))))
  have HNB := hid (show b1 < w2.heap.size ∧ g1 < w2.heap.size from HD1.out.sp.lt)
  have HB35 := hid (below_t HB3.out HB5.out)
  have HSA5 := hid (HSA.out.below HB5.out)
  have HSB5 := hid (HD2.out.sp.below HB5.out)
  go_wp2_with fail
  with_reducible refine (HRUN.out b1 g1 s1 _ _ HSA5.out HO5.out.reads (fun k hk => by have := HKB.out k hk; have := HLT.out.1; omega) (HCO.out _ HB35.out)).mono ?_
  rintro e w6 ⟨rfl, g6, hg6, hs6, hm6⟩
  have HS6 := hid hs6
  have HW6 := hid (again_bel HB35.out hm6 (by have := HD1.out.lb b1 (by simp); have := HB1.out.size; omega))
  have hz5 := HB5.out.size
  have HSB6 := hid (HSB5.out.moved hm6 (by have := HLT.out.2.2.1; have := HNB.out.1; simp; omega) (by have := HLT.out.2.2.2; have := HNB.out.1; simp; omega))
  have HO6 := hid (HO5.out.moved hm6 (fun k hk q => by have := HKB.out k hk; have := HLT.out.1; have := List.mem_singleton.1 q; omega))
  have hg6' : w5.heap.size ≤ g6 := hg6
  have hz56 := hm6.size
  rw [HEV.out]
  unfold resV
  clear hs6 hm6 hg6
  obtain ⟨kk, hkk⟩ : ∃ kk, (ewS s1.mo true r).2.1 = kk := ⟨_, rfl⟩
  obtain ⟨er, her⟩ : ∃ er, (ewS s1.mo true r).2.2 = er := ⟨_, rfl⟩
  rw [hkk] at HEV
  rw [hkk, her]
  have HER := hid her
  clear hkk her
  go_wp2_with fail
  have hb7 : Below w6.heap.size w6 (w6.alloc (.cells #[.int .i64 3, .bool xr, .bool xa, .bool xt, .int .i64 kk, .slice none 0 0] 31)) := (Below.refl _ _).alloc (Nat.le_refl _) _
  have z0 : (w6.alloc (.cells #[.int .i64 3, .bool xr, .bool xa, .bool xt, .int .i64 kk, .slice none 0 0] 31)).cell? ⟨w6.heap.size, 0, none⟩ = some (.int .i64 3) := by simp [go_sem]
  have z1 : (w6.alloc (.cells #[.int .i64 3, .bool xr, .bool xa, .bool xt, .int .i64 kk, .slice none 0 0] 31)).cell? ⟨w6.heap.size, 1, none⟩ = some (.bool xr) := by simp [go_sem]
  have z2 : (w6.alloc (.cells #[.int .i64 3, .bool xr, .bool xa, .bool xt, .int .i64 kk, .slice none 0 0] 31)).cell? ⟨w6.heap.size, 2, none⟩ = some (.bool xa) := by simp [go_sem]
  have z3 : (w6.alloc (.cells #[.int .i64 3, .bool xr, .bool xa, .bool xt, .int .i64 kk, .slice none 0 0] 31)).cell? ⟨w6.heap.size, 3, none⟩ = some (.bool xt) := by simp [go_sem]
  have z4 : (w6.alloc (.cells #[.int .i64 3, .bool xr, .bool xa, .bool xt, .int .i64 kk, .slice none 0 0] 31)).cell? ⟨w6.heap.size, 4, none⟩ = some (.int .i64 kk) := by simp [go_sem]
  have z5 : (w6.alloc (.cells #[.int .i64 3, .bool xr, .bool xa, .bool xt, .int .i64 kk, .slice none 0 0] 31)).cell? ⟨w6.heap.size, 5, none⟩ = some (.slice none 0 0) := by simp [go_sem]
  have hw6z := HW6.out.size
  with_reducible refine (HRUN.out b3 g3 s2 _ _ (HSB6.out.below hb7) ((HO6.out.step hb7).reads) (fun k hk => by have := HKB.out k hk; have := HLT.out.2.1.1; omega) (HCO.out _ (below_t HW6.out hb7))).mono ?_
  rintro e w8 ⟨rfl, g8, hg8, hs8, hm8⟩
  have hz6 : w3.heap.size ≤ w6.heap.size := by omega
  have hb3l := HLT.out.2.1.1
  have hne : w6.heap.size ∉ [b3] := by simp; omega
  have y0 := cell_moved hm8 z0 hne
  have y1 := cell_moved hm8 z1 hne
  have y2 := cell_moved hm8 z2 hne
  have y3 := cell_moved hm8 z3 hne
  have y4 := cell_moved hm8 z4 hne
  have y5' := cell_moved hm8 z5 hne
  have HS8 := hid hs8
  have hw8 := World.block_lt_of_cell? w8 _ y0
  have HW8 := hid (again_bel (below_t HW6.out hb7) hm8 (by have := HD2.out.lb b3 (by simp); have := HB2.out.size; omega))
  have hg6b : b1 ≠ b3 ∧ g6 ≠ b3 := by have := HLT.out; have := HNB.out.1; omega
  have HA8 := hid ((HS6.out.below hb7).moved hm8 (by simp; omega) (by simp; omega))
  rw [HMO.out] at HS8 ⊢
  rw [HEV.out, HER.out]
  unfold resV
  clear hs8 hm8 hg8 z0 z1 z2 z3 z4 z5 hb7
  have HSM := hid (fun W => (show Calls Tryd.prog 10 #[.agg #[.int .i64 3, .bool xr, .bool xa, .bool xt, .int .i64 kk, .slice none 0 0], .agg #[.int .i64 3, .bool xr, .bool xa, .bool xt, .int .i64 kk, .slice none 0 0]] W fun e w' => e = .returned (.bool true) ∧ Below W.heap.size W w' from rsame17 3 xr xa xt kk W))
  have HSE := hid (fun W (hW : SpM W b1 g6 (ewS s1.mo true r).1.s) (hV : SpM W b3 g8 (ewS s1.mo true r).1.s) => same_yes W hW hV rfl rfl rfl rfl)
  have HAL := hid (fun W (hW : SpM W b1 g6 (ewS s1.mo true r).1.s) => (show Calls Tryd.prog 12 #[.pointer (some ⟨b1, 0, none⟩)] W fun e w' => e = .returned (.bool true) ∧ Below W.heap.size W w' from by
    have q := alternate_any W hW
    rwa [HALT.out] at q))
  have hee : (er == er) = true := by simp
  go_wp2_with fail
  have hb9 : Below w8.heap.size w8 (w8.alloc (.cells #[.int .i64 3, .bool xr, .bool xa, .bool xt, .int .i64 kk, .slice none 0 0] 31)) := (Below.refl _ _).alloc (Nat.le_refl _) _
  with_reducible refine (HSM.out _).mono ?_
  rintro e w10 ⟨rfl, hb10⟩
  have HB10 := hid (below_t hb9 hb10)
  clear hb9 hb10
  go_wp2_with fail
  with_reducible refine (HSE.out _ (HA8.out.below HB10.out) (HS8.out.below HB10.out)).mono ?_
  rintro e w11 ⟨rfl, hb11⟩
  have HB11 := hid (below_t HB10.out hb11)
  clear hb11
  go_wp2_with fail
  with_reducible refine (HAL.out _ (HA8.out.below HB11.out)).mono ?_
  rintro e w12 ⟨rfl, hb12⟩
  have HB12 := hid (below_t HB11.out hb12)
  clear hb12
  go_wp2
  go_ret
  exact ⟨rfl, below_t HW8.out HB12.out⟩
theorem again_any (m : Nat) (hm : m < 256) (v1 v2 v3 : Value) (ac1 ac2 : List ActD) (ps : List Int) (al : Bool) (w : World) (hx1 : ActsIn w.heap.size w v1 ac1) (hx2 : ActsIn w.heap.size w v2 ac2) (hp : Reads w v3 ps) (hC : Cods w) : Calls Tryd.prog 3 #[.int .u8 m, v1, v2, v3, .bool al] w fun e w' => e = .returned (.bool true) ∧ Below w.heap.size w w' := by
  cases al
  · exact again_false m hm v1 v2 v3 ac1 ac2 ps w hx1 hx2 hp hC
  · exact again_true m hm v1 v2 v3 ac1 ac2 ps w hx1 hx2 hp hC
end Go.Proofs.YtdampfngdnicoaaDoor
