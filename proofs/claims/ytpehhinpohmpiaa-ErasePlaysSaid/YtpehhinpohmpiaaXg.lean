/-
  EraseTwice: the law's acts, and its own walk.
-/
import Derived.Test.YtpehhinpohmpiaaXf
namespace Go.Proofs.Ytpehhinpohmpiaa
open Go.RowKit Go.Lib Go.Deep

/-- What an act of the law leaves. -/
def twS (k : Nat) (s : Spc) (p q : Int) (c : Cel) : Spc := if k = 0 then unpS s else if k = 1 then rngS s p q else if k = 2 then repS s p q c else if openB s p then endS s p else s
theorem tw_twice {s : Spc} (hok : s.OK) (hf : FitC s) (k : Nat) (p q : Int) (c : Cel) : twS k (twS k s p q c) p q c = twS k s p q c := by
  unfold twS
  by_cases h0 : k = 0
  · simp only [if_pos h0]
    exact unp_twice hok hf
  · simp only [if_neg h0]
    by_cases h1 : k = 1
    · simp only [if_pos h1]
      exact rng_twice hok hf p q
    · simp only [if_neg h1]
      by_cases h2 : k = 2
      · simp only [if_pos h2]
        exact rep_twice hok p q c
      · simp only [if_neg h2]
        by_cases ho : openB s p = true
        · have e := (openB_prots hok (end_prots hok p) p).trans ho
          rw [if_pos ho, if_pos e]
          exact end_twice hok hf p
        · rw [if_neg ho, if_neg ho]
/-- An act's box. -/
structure ActB (V : World) (a k : Nat) (p q : Int) (c : Cel) : Prop where
  c0 : V.cell? ⟨a, 0, none⟩ = some (.int .u8 k)
  c1 : V.cell? ⟨a, 1, none⟩ = some (.int .i64 p)
  c2 : V.cell? ⟨a, 2, none⟩ = some (.int .i64 q)
  c3 : V.cell? ⟨a, 3, none⟩ = some (.int .u8 c.ch)
  c4 : V.cell? ⟨a, 4, none⟩ = some (.bool c.at_)
  c5 : V.cell? ⟨a, 5, none⟩ = some (.int .u8 c.fa)
  c6 : V.cell? ⟨a, 6, none⟩ = some (.int .u8 c.hi)
  c7 : V.cell? ⟨a, 7, none⟩ = some (.int .u8 c.co)
  c8 : V.cell? ⟨a, 8, none⟩ = some (.int .u8 c.se)
theorem ActB.moved {V W : World} {a k : Nat} {p q : Int} {c : Cel} {S S' : List Nat} (h : ActB V a k p q c) (m : Moved V W S S') (ha : a ∉ S) : ActB W a k p q c :=
  ⟨cell_moved m h.c0 ha, cell_moved m h.c1 ha, cell_moved m h.c2 ha, cell_moved m h.c3 ha, cell_moved m h.c4 ha, cell_moved m h.c5 ha, cell_moved m h.c6 ha, cell_moved m h.c7 ha, cell_moved m h.c8 ha⟩
theorem ActB.step {V W : World} {a k : Nat} {p q : Int} {c : Cel} (h : ActB V a k p q c) (hb : Below V.heap.size V W) : ActB W a k p q c := h.moved (Moved.below hb []) (fun q => by cases q)
theorem ActB.set {V : World} {a k : Nat} {p q : Int} {c : Cel} (h : ActB V a k p q c) (j : Nat) : ActB (V.setCell ⟨a, 0, none⟩ (.int .u8 j)) a j p q c :=
  ⟨set_s h.c0, set_o (by omega) h.c1, set_o (by omega) h.c2, set_o (by omega) h.c3, set_o (by omega) h.c4, set_o (by omega) h.c5, set_o (by omega) h.c6, set_o (by omega) h.c7, set_o (by omega) h.c8⟩
section
variable {b g : Nat} {s : Spc}
set_option maxRecDepth 100000 in
set_option maxHeartbeats 4000000 in
theorem dotw_any (k : Nat) (hk : k = 0 ∨ k = 1 ∨ k = 2 ∨ k = 3) (p q : Int) (hp : I64 p) (hq : I64 q) (c : Cel) (hc : c.OK) (w : World) (h : SpM w b g s) : Calls Try.prog 15 #[.pointer (some ⟨b, 0, none⟩), .agg #[.int .u8 k, .int .i64 p, .int .i64 q, .int .u8 c.ch, .bool c.at_, .int .u8 c.fa, .int .u8 c.hi, .int .u8 c.co, .int .u8 c.se]] w (SpD b g (twS k s p q c) w) := by
  have HH := hid h
  have HUP := hid (fun W h => unprotected_any (b := b) (g := g) (s := s) W h)
  have HRG := hid (fun W h => callsIn_wide.1 (range_in (b := b) (g := g) (s := s) 10 (by omega) p q hp hq W h))
  have HRE := hid (fun W h => callsIn_wide.1 (repeat_in (b := b) (g := g) (s := s) 10 (by omega) p q hp hq c hc W h))
  have HEN := hid (fun W h => callsIn_wide.1 (end_in (b := b) (g := g) (s := s) 10 (by omega) p hp W h))
  obtain ⟨x0, x1, x2, x3, x4, x5⟩ := c
  dsimp only at HRE ⊢
  obtain ⟨W0, hW0⟩ : ∃ W0, w.alloc (.cells #[.int .u8 k, .int .i64 p, .int .i64 q, .int .u8 x0, .bool x1, .int .u8 x2, .int .u8 x3, .int .u8 x4, .int .u8 x5] 32) = W0 := ⟨_, rfl⟩
  have HZ := hid (show ActB W0 w.heap.size k p q ⟨x0, x1, x2, x3, x4, x5⟩ from by rw [← hW0]; exact ⟨by simp [go_sem], by simp [go_sem], by simp [go_sem], by simp [go_sem], by simp [go_sem], by simp [go_sem], by simp [go_sem], by simp [go_sem], by simp [go_sem]⟩)
  have hb0 : Below w.heap.size w W0 := by rw [← hW0]; exact bal (Below.refl _ _) _
  have HB0 := hid hb0
  have HW := hid hW0
  obtain ⟨ut, hut⟩ : ∃ ut, twS k s p q ⟨x0, x1, x2, x3, x4, x5⟩ = ut := ⟨_, rfl⟩
  rw [hut]
  have HUT := hid hut
  clear h hc hp hq hb0 hW0 hut
  rcases hk with rfl | rfl | rfl | rfl
  · have HWk := hid (show w.alloc (.cells #[.int .u8 0, .int .i64 p, .int .i64 q, .int .u8 x0, .bool x1, .int .u8 x2, .int .u8 x3, .int .u8 x4, .int .u8 x5] 32) = W0 from HW.out)
    obtain ⟨z0, z1, z2, z3, z4, z5, z6, z7, z8⟩ := HZ.out
    have lz := World.block_lt_of_cell? W0 _ z0
    replace z0 : W0.cell? ⟨w.heap.size, 0, none⟩ = some (.int .u8 0) := z0
    dsimp only at z3 z4 z5 z6 z7 z8
    clear HW
    go_enter Try.func15, Try.ntmps15
    go_wp2_with fail
    try simp only [HWk.out]
    with_reducible refine (HUP.out _ (HH.out.below HB0.out)).mono ?_
    rintro e w1 ⟨⟨v1, rfl⟩, hs, hm⟩
    have HS1 := hid hs
    have HM1 := hid ((Moved.below HB0.out [b, g]).trans hm)
    clear hs hm
    go_wp2
    go_ret
    exact ⟨⟨_, rfl⟩, by rw [← HUT.out]; exact HS1.out, HM1.out⟩
  · have HWk := hid (show w.alloc (.cells #[.int .u8 1, .int .i64 p, .int .i64 q, .int .u8 x0, .bool x1, .int .u8 x2, .int .u8 x3, .int .u8 x4, .int .u8 x5] 32) = W0 from HW.out)
    obtain ⟨z0, z1, z2, z3, z4, z5, z6, z7, z8⟩ := HZ.out
    have lz := World.block_lt_of_cell? W0 _ z0
    replace z0 : W0.cell? ⟨w.heap.size, 0, none⟩ = some (.int .u8 1) := z0
    dsimp only at z3 z4 z5 z6 z7 z8
    clear HW
    go_enter Try.func15, Try.ntmps15
    go_wp2_with fail
    try simp only [HWk.out]
    with_reducible refine (HRG.out _ (HH.out.below HB0.out)).mono ?_
    rintro e w1 ⟨⟨v1, rfl⟩, hs, hm⟩
    have HS1 := hid hs
    have HM1 := hid ((Moved.below HB0.out [b, g]).trans hm)
    clear hs hm
    go_wp2
    go_ret
    exact ⟨⟨_, rfl⟩, by rw [← HUT.out]; exact HS1.out, HM1.out⟩
  · have HWk := hid (show w.alloc (.cells #[.int .u8 2, .int .i64 p, .int .i64 q, .int .u8 x0, .bool x1, .int .u8 x2, .int .u8 x3, .int .u8 x4, .int .u8 x5] 32) = W0 from HW.out)
    obtain ⟨z0, z1, z2, z3, z4, z5, z6, z7, z8⟩ := HZ.out
    have lz := World.block_lt_of_cell? W0 _ z0
    replace z0 : W0.cell? ⟨w.heap.size, 0, none⟩ = some (.int .u8 2) := z0
    dsimp only at z3 z4 z5 z6 z7 z8
    clear HW
    go_enter Try.func15, Try.ntmps15
    go_wp2_with fail
    try simp only [HWk.out]
    with_reducible refine (HRE.out _ (HH.out.below HB0.out)).mono ?_
    rintro e w1 ⟨rfl, hs, hm⟩
    have HS1 := hid hs
    have HM1 := hid ((Moved.below HB0.out [b, g]).trans hm)
    clear hs hm
    go_wp2
    go_ret
    exact ⟨⟨_, rfl⟩, by rw [← HUT.out]; exact HS1.out, HM1.out⟩
  · have HWk := hid (show w.alloc (.cells #[.int .u8 3, .int .i64 p, .int .i64 q, .int .u8 x0, .bool x1, .int .u8 x2, .int .u8 x3, .int .u8 x4, .int .u8 x5] 32) = W0 from HW.out)
    obtain ⟨z0, z1, z2, z3, z4, z5, z6, z7, z8⟩ := HZ.out
    have lz := World.block_lt_of_cell? W0 _ z0
    replace z0 : W0.cell? ⟨w.heap.size, 0, none⟩ = some (.int .u8 3) := z0
    dsimp only at z3 z4 z5 z6 z7 z8
    clear HW
    cases ho : openB s p
    · have HUF := hid (show s = ut by rw [← HUT.out]; unfold twS; rw [if_neg (by decide), if_neg (by decide), if_neg (by decide), ho]; rfl)
      rw [ho] at HEN
      go_enter Try.func15, Try.ntmps15
      go_wp2_with fail
      try simp only [HWk.out]
      with_reducible refine (HEN.out _ (HH.out.below HB0.out)).mono ?_
      rintro e w1 ⟨rfl, hs, hm⟩
      have HS1 := hid hs
      have HM1 := hid ((Moved.below HB0.out [b, g]).trans hm)
      clear hs hm
      go_wp2
      go_ret
      exact ⟨⟨_, rfl⟩, by rw [← HUF.out]; simpa using HS1.out, HM1.out⟩
    · have HUF := hid (show endS s p = ut by rw [← HUT.out]; unfold twS; rw [if_neg (by decide), if_neg (by decide), if_neg (by decide), ho]; rfl)
      rw [ho] at HEN
      go_enter Try.func15, Try.ntmps15
      go_wp2_with fail
      try simp only [HWk.out]
      with_reducible refine (HEN.out _ (HH.out.below HB0.out)).mono ?_
      rintro e w1 ⟨rfl, hs, hm⟩
      have HS1 := hid hs
      have HM1 := hid ((Moved.below HB0.out [b, g]).trans hm)
      clear hs hm
      go_wp2
      go_ret
      exact ⟨⟨_, rfl⟩, by rw [← HUF.out]; simpa using HS1.out, HM1.out⟩
end
set_option maxRecDepth 100000 in
set_option maxHeartbeats 8000000 in
theorem etwice_any (m : Nat) (hm : m < 256) (v : Value) (ac : List ActD) (k : Nat) (hk : k < 256) (p q : Int) (hp : I64 p) (hq : I64 q) (c : Cel) (hc : c.OK) (w : World) (hx : ActsIn w.heap.size w v ac) : Calls Try.prog 8 #[.int .u8 m, v, .agg #[.int .u8 k, .int .i64 p, .int .i64 q, .int .u8 c.ch, .bool c.at_, .int .u8 c.fa, .int .u8 c.hi, .int .u8 c.co, .int .u8 c.se]] w fun e w' => e = .returned (.bool true) ∧ Below w.heap.size w w' := by
  obtain ⟨j, hj⟩ : ∃ j, k % 4 = j := ⟨_, rfl⟩
  have hj4 : j = 0 ∨ j = 1 ∨ j = 2 ∨ j = 3 := by omega
  have htm : (k : Int).tmod 4 = (j : Int) := by rw [Int.tmod_eq_emod_of_nonneg (by omega), ← hj]; push_cast; rfl
  have htn : (k : Int) % 4 = (j : Int) := by rw [← hj]; push_cast; rfl
  have HDO := hid (fun b g s W h => dotw_any (b := b) (g := g) (s := s) j hj4 p q hp hq c hc W h)
  have HTW := hid (fun (s : Spc) (hok : s.OK) (hf : FitC s) => tw_twice hok hf j p q c)
  obtain ⟨x0, x1, x2, x3, x4, x5⟩ := c
  dsimp only at HDO ⊢
  obtain ⟨W0, hW0⟩ : ∃ W0, w.alloc (.cells #[.int .u8 k, .int .i64 p, .int .i64 q, .int .u8 x0, .bool x1, .int .u8 x2, .int .u8 x3, .int .u8 x4, .int .u8 x5] 32) = W0 := ⟨_, rfl⟩
  have HZ := hid (show ActB W0 w.heap.size k p q ⟨x0, x1, x2, x3, x4, x5⟩ from by rw [← hW0]; exact ⟨by simp [go_sem], by simp [go_sem], by simp [go_sem], by simp [go_sem], by simp [go_sem], by simp [go_sem], by simp [go_sem], by simp [go_sem], by simp [go_sem]⟩)
  have HF0 := hid (show W0.frozen? ⟨w.heap.size, 0, none⟩ = false by rw [← hW0]; simp [go_sem])
  have hsz : W0.heap.size = w.heap.size + 1 := by rw [← hW0]; simp
  have HB0 := hid (show Below w.heap.size w W0 by rw [← hW0]; exact bal (Below.refl _ _) _)
  have HW := hid (awake14 W0)
  have HLY := hid (fun W (hb : Below w.heap.size w W) => lay_any m hm v ac w.heap.size W hb.size (hx.below hb))
  obtain ⟨x, cp, rfl⟩ := hx.sl
  have HW0 := hid hW0
  have HK4 := hid hj
  generalize runS (clearS (2 + ((m % 4 : Nat) : Int)) false) ac ac.length = s at HLY
  clear hx hm hp hq hc hk hW0 hj
  rcases hj4 with rfl | rfl | rfl | rfl
  all_goals
    go_enter Try.func8, Try.ntmps8
    go_wp2_with fail
    simp only [HW0.out]
    with_reducible refine HW.out.mono ?_
    rintro e w1 ⟨rfl, hb1⟩
    have HB1 := hid (below_t HB0.out hb1)
    have hz1 := hb1.size
    have HF1 := hid ((hb1.frozen (p := ⟨w.heap.size, 0, none⟩) (by show w.heap.size < W0.heap.size; omega)).trans HF0.out)
    have HZ1 := hid (HZ.out.step hb1)
    clear hb1
    go_wp2_with fail
    with_reducible refine (HLY.out _ HB1.out).mono ?_
    rintro e w2 ⟨b1, g1, b2, g2, rfl, hd, hft⟩
    have hb2 := hd.bel
    have HZ2 := hid (HZ1.out.step hb2)
    have HB2 := hid (below_t HB1.out hb2)
    have f0 := (hb2.frozen (p := ⟨w.heap.size, 0, none⟩) (by show w.heap.size < w1.heap.size; omega)).trans HF1.out
    have hl1 := hd.lb b1 (by simp)
    have hl2 := hd.lb g1 (by simp)
    have HSP := hid hd.sp
    have HFT := hid (show FitC s from hft.fit)
    have hbb := hd.sp.lt
    obtain ⟨z0, z1, z2, z3, z4, z5, z6, z7, z8⟩ := HZ2.out
    dsimp only at z3 z4 z5 z6 z7 z8
    have lz := World.block_lt_of_cell? w2 _ z0
    clear hd hft hb2
  · go_wp2_with fail
    clear z0 z1 z2 z3 z4 z5 z6 z7 z8 f0
    obtain ⟨W1, hW1⟩ : ∃ W1, (w2.setCell ⟨w.heap.size, 0, none⟩ (.int .u8 0)).alloc (.cells #[.int .u8 0, .int .u8 1, .int .u8 2, .int .u8 3] 5) = W1 := ⟨_, rfl⟩
    rw [hW1]
    obtain ⟨t, ht⟩ : ∃ t, twS 0 s p q ⟨x0, x1, x2, x3, x4, x5⟩ = t := ⟨_, rfl⟩
    have HT := hid (show twS 0 t p q ⟨x0, x1, x2, x3, x4, x5⟩ = t by
      have q := HTW.out s HSP.out.ok HFT.out
      rw [ht] at q
      exact q)
    have HZ3 := hid (show ActB W1 w.heap.size 0 p q ⟨x0, x1, x2, x3, x4, x5⟩ by rw [← hW1]; exact (HZ2.out.set 0).step (bal (Below.refl _ _) _))
    have HS1 := hid (show SpM W1 b1 g1 s by
      rw [← hW1]
      exact (HSP.out.moved (Moved.set (S := [w.heap.size]) (by simp) 0 _) (by simp; omega) (by simp; omega)).below (bal (Below.refl _ _) _))
    have HB3 := hid (show Below w.heap.size w W1 by rw [← hW1]; exact bal (HB2.out.sc _ _ _ (Nat.le_refl _)) _)
    have HD1 := hid (show Calls Try.prog 15 #[.pointer (some ⟨b1, 0, none⟩), .agg #[.int .u8 0, .int .i64 p, .int .i64 q, .int .u8 x0, .bool x1, .int .u8 x2, .int .u8 x3, .int .u8 x4, .int .u8 x5]] W1 (SpD b1 g1 t W1) from by
      have q := HDO.out b1 g1 s W1 HS1.out
      rw [ht] at q
      exact q)
    have HD2 := hid (fun W (h : SpM W b1 g1 t) => show Calls Try.prog 15 #[.pointer (some ⟨b1, 0, none⟩), .agg #[.int .u8 0, .int .i64 p, .int .i64 q, .int .u8 x0, .bool x1, .int .u8 x2, .int .u8 x3, .int .u8 x4, .int .u8 x5]] W (SpD b1 g1 t W) from by
      have q := HDO.out b1 g1 t W h
      rw [HT.out] at q
      exact q)
    clear HDO HTW hW1 ht
    with_reducible refine HD1.out.mono ?_
    rintro e w3 ⟨⟨v1, rfl⟩, hs, hm⟩
    have HS3 := hid hs
    have HZ4 := hid (HZ3.out.moved hm (by simp; omega))
    have HB4 := hid (HB3.out.trans (hm.toBelow (B := w.heap.size) HB3.out.size (fun k hk => by simp at hk; omega)))
    have hbc := hs.lt
    have HCP := hid (copy_any (b := b1) (g := g1) (s := t) w3 hs)
    clear hs hm HD1 HS1 HZ3 HB3
    go_wp2_with fail
    with_reducible refine HCP.out.mono ?_
    rintro e w4 ⟨b3, g3, ex, rfl, hg1, hg2, hs3, hb4⟩
    have HS4 := hid (HS3.out.below hb4)
    have HK4 := hid hs3
    have HB5 := hid (HB4.out.trans (hb4.mono HB4.out.size))
    obtain ⟨z0, z1, z2, z3, z4, z5, z6, z7, z8⟩ := HZ4.out.step hb4
    replace z0 : w4.cell? ⟨w.heap.size, 0, none⟩ = some (.int .u8 0) := z0
    dsimp only at z3 z4 z5 z6 z7 z8
    have lz4 := World.block_lt_of_cell? w4 _ z0
    clear hs3 hb4 HCP
    go_wp2_with fail
    with_reducible refine (HD2.out _ HS4.out).mono ?_
    rintro e w5 ⟨⟨v2, rfl⟩, hs, hm⟩
    have HSM := hid (same_yes w5 hs (HK4.out.moved hm (by simp; omega) (by simp; omega)) rfl rfl rfl rfl)
    have HB6 := hid (HB5.out.trans (hm.toBelow (B := w.heap.size) HB5.out.size (fun k hk => by simp at hk; omega)))
    clear hs hm z0 z1 z2 z3 z4 z5 z6 z7 z8
    go_wp2_with fail
    with_reducible refine HSM.out.mono ?_
    rintro e w6 ⟨rfl, hb6⟩
    have HB7 := hid (HB6.out.trans (hb6.mono HB6.out.size))
    clear hb6
    go_wp2
    go_ret
    exact ⟨rfl, HB7.out⟩
  · go_wp2_with fail
    clear z0 z1 z2 z3 z4 z5 z6 z7 z8 f0
    obtain ⟨W1, hW1⟩ : ∃ W1, (w2.setCell ⟨w.heap.size, 0, none⟩ (.int .u8 1)).alloc (.cells #[.int .u8 0, .int .u8 1, .int .u8 2, .int .u8 3] 5) = W1 := ⟨_, rfl⟩
    rw [hW1]
    obtain ⟨t, ht⟩ : ∃ t, twS 1 s p q ⟨x0, x1, x2, x3, x4, x5⟩ = t := ⟨_, rfl⟩
    have HT := hid (show twS 1 t p q ⟨x0, x1, x2, x3, x4, x5⟩ = t by
      have q := HTW.out s HSP.out.ok HFT.out
      rw [ht] at q
      exact q)
    have HZ3 := hid (show ActB W1 w.heap.size 1 p q ⟨x0, x1, x2, x3, x4, x5⟩ by rw [← hW1]; exact (HZ2.out.set 1).step (bal (Below.refl _ _) _))
    have HS1 := hid (show SpM W1 b1 g1 s by
      rw [← hW1]
      exact (HSP.out.moved (Moved.set (S := [w.heap.size]) (by simp) 0 _) (by simp; omega) (by simp; omega)).below (bal (Below.refl _ _) _))
    have HB3 := hid (show Below w.heap.size w W1 by rw [← hW1]; exact bal (HB2.out.sc _ _ _ (Nat.le_refl _)) _)
    have HD1 := hid (show Calls Try.prog 15 #[.pointer (some ⟨b1, 0, none⟩), .agg #[.int .u8 1, .int .i64 p, .int .i64 q, .int .u8 x0, .bool x1, .int .u8 x2, .int .u8 x3, .int .u8 x4, .int .u8 x5]] W1 (SpD b1 g1 t W1) from by
      have q := HDO.out b1 g1 s W1 HS1.out
      rw [ht] at q
      exact q)
    have HD2 := hid (fun W (h : SpM W b1 g1 t) => show Calls Try.prog 15 #[.pointer (some ⟨b1, 0, none⟩), .agg #[.int .u8 1, .int .i64 p, .int .i64 q, .int .u8 x0, .bool x1, .int .u8 x2, .int .u8 x3, .int .u8 x4, .int .u8 x5]] W (SpD b1 g1 t W) from by
      have q := HDO.out b1 g1 t W h
      rw [HT.out] at q
      exact q)
    clear HDO HTW hW1 ht
    with_reducible refine HD1.out.mono ?_
    rintro e w3 ⟨⟨v1, rfl⟩, hs, hm⟩
    have HS3 := hid hs
    have HZ4 := hid (HZ3.out.moved hm (by simp; omega))
    have HB4 := hid (HB3.out.trans (hm.toBelow (B := w.heap.size) HB3.out.size (fun k hk => by simp at hk; omega)))
    have hbc := hs.lt
    have HCP := hid (copy_any (b := b1) (g := g1) (s := t) w3 hs)
    clear hs hm HD1 HS1 HZ3 HB3
    go_wp2_with fail
    with_reducible refine HCP.out.mono ?_
    rintro e w4 ⟨b3, g3, ex, rfl, hg1, hg2, hs3, hb4⟩
    have HS4 := hid (HS3.out.below hb4)
    have HK4 := hid hs3
    have HB5 := hid (HB4.out.trans (hb4.mono HB4.out.size))
    obtain ⟨z0, z1, z2, z3, z4, z5, z6, z7, z8⟩ := HZ4.out.step hb4
    replace z0 : w4.cell? ⟨w.heap.size, 0, none⟩ = some (.int .u8 1) := z0
    dsimp only at z3 z4 z5 z6 z7 z8
    have lz4 := World.block_lt_of_cell? w4 _ z0
    clear hs3 hb4 HCP
    go_wp2_with fail
    with_reducible refine (HD2.out _ HS4.out).mono ?_
    rintro e w5 ⟨⟨v2, rfl⟩, hs, hm⟩
    have HSM := hid (same_yes w5 hs (HK4.out.moved hm (by simp; omega) (by simp; omega)) rfl rfl rfl rfl)
    have HB6 := hid (HB5.out.trans (hm.toBelow (B := w.heap.size) HB5.out.size (fun k hk => by simp at hk; omega)))
    clear hs hm z0 z1 z2 z3 z4 z5 z6 z7 z8
    go_wp2_with fail
    with_reducible refine HSM.out.mono ?_
    rintro e w6 ⟨rfl, hb6⟩
    have HB7 := hid (HB6.out.trans (hb6.mono HB6.out.size))
    clear hb6
    go_wp2
    go_ret
    exact ⟨rfl, HB7.out⟩
  · go_wp2_with fail
    clear z0 z1 z2 z3 z4 z5 z6 z7 z8 f0
    obtain ⟨W1, hW1⟩ : ∃ W1, (w2.setCell ⟨w.heap.size, 0, none⟩ (.int .u8 2)).alloc (.cells #[.int .u8 0, .int .u8 1, .int .u8 2, .int .u8 3] 5) = W1 := ⟨_, rfl⟩
    rw [hW1]
    obtain ⟨t, ht⟩ : ∃ t, twS 2 s p q ⟨x0, x1, x2, x3, x4, x5⟩ = t := ⟨_, rfl⟩
    have HT := hid (show twS 2 t p q ⟨x0, x1, x2, x3, x4, x5⟩ = t by
      have q := HTW.out s HSP.out.ok HFT.out
      rw [ht] at q
      exact q)
    have HZ3 := hid (show ActB W1 w.heap.size 2 p q ⟨x0, x1, x2, x3, x4, x5⟩ by rw [← hW1]; exact (HZ2.out.set 2).step (bal (Below.refl _ _) _))
    have HS1 := hid (show SpM W1 b1 g1 s by
      rw [← hW1]
      exact (HSP.out.moved (Moved.set (S := [w.heap.size]) (by simp) 0 _) (by simp; omega) (by simp; omega)).below (bal (Below.refl _ _) _))
    have HB3 := hid (show Below w.heap.size w W1 by rw [← hW1]; exact bal (HB2.out.sc _ _ _ (Nat.le_refl _)) _)
    have HD1 := hid (show Calls Try.prog 15 #[.pointer (some ⟨b1, 0, none⟩), .agg #[.int .u8 2, .int .i64 p, .int .i64 q, .int .u8 x0, .bool x1, .int .u8 x2, .int .u8 x3, .int .u8 x4, .int .u8 x5]] W1 (SpD b1 g1 t W1) from by
      have q := HDO.out b1 g1 s W1 HS1.out
      rw [ht] at q
      exact q)
    have HD2 := hid (fun W (h : SpM W b1 g1 t) => show Calls Try.prog 15 #[.pointer (some ⟨b1, 0, none⟩), .agg #[.int .u8 2, .int .i64 p, .int .i64 q, .int .u8 x0, .bool x1, .int .u8 x2, .int .u8 x3, .int .u8 x4, .int .u8 x5]] W (SpD b1 g1 t W) from by
      have q := HDO.out b1 g1 t W h
      rw [HT.out] at q
      exact q)
    clear HDO HTW hW1 ht
    with_reducible refine HD1.out.mono ?_
    rintro e w3 ⟨⟨v1, rfl⟩, hs, hm⟩
    have HS3 := hid hs
    have HZ4 := hid (HZ3.out.moved hm (by simp; omega))
    have HB4 := hid (HB3.out.trans (hm.toBelow (B := w.heap.size) HB3.out.size (fun k hk => by simp at hk; omega)))
    have hbc := hs.lt
    have HCP := hid (copy_any (b := b1) (g := g1) (s := t) w3 hs)
    clear hs hm HD1 HS1 HZ3 HB3
    go_wp2_with fail
    with_reducible refine HCP.out.mono ?_
    rintro e w4 ⟨b3, g3, ex, rfl, hg1, hg2, hs3, hb4⟩
    have HS4 := hid (HS3.out.below hb4)
    have HK4 := hid hs3
    have HB5 := hid (HB4.out.trans (hb4.mono HB4.out.size))
    obtain ⟨z0, z1, z2, z3, z4, z5, z6, z7, z8⟩ := HZ4.out.step hb4
    replace z0 : w4.cell? ⟨w.heap.size, 0, none⟩ = some (.int .u8 2) := z0
    dsimp only at z3 z4 z5 z6 z7 z8
    have lz4 := World.block_lt_of_cell? w4 _ z0
    clear hs3 hb4 HCP
    go_wp2_with fail
    with_reducible refine (HD2.out _ HS4.out).mono ?_
    rintro e w5 ⟨⟨v2, rfl⟩, hs, hm⟩
    have HSM := hid (same_yes w5 hs (HK4.out.moved hm (by simp; omega) (by simp; omega)) rfl rfl rfl rfl)
    have HB6 := hid (HB5.out.trans (hm.toBelow (B := w.heap.size) HB5.out.size (fun k hk => by simp at hk; omega)))
    clear hs hm z0 z1 z2 z3 z4 z5 z6 z7 z8
    go_wp2_with fail
    with_reducible refine HSM.out.mono ?_
    rintro e w6 ⟨rfl, hb6⟩
    have HB7 := hid (HB6.out.trans (hb6.mono HB6.out.size))
    clear hb6
    go_wp2
    go_ret
    exact ⟨rfl, HB7.out⟩
  · go_wp2_with fail
    clear z0 z1 z2 z3 z4 z5 z6 z7 z8 f0
    obtain ⟨W1, hW1⟩ : ∃ W1, (w2.setCell ⟨w.heap.size, 0, none⟩ (.int .u8 3)).alloc (.cells #[.int .u8 0, .int .u8 1, .int .u8 2, .int .u8 3] 5) = W1 := ⟨_, rfl⟩
    rw [hW1]
    obtain ⟨t, ht⟩ : ∃ t, twS 3 s p q ⟨x0, x1, x2, x3, x4, x5⟩ = t := ⟨_, rfl⟩
    have HT := hid (show twS 3 t p q ⟨x0, x1, x2, x3, x4, x5⟩ = t by
      have q := HTW.out s HSP.out.ok HFT.out
      rw [ht] at q
      exact q)
    have HZ3 := hid (show ActB W1 w.heap.size 3 p q ⟨x0, x1, x2, x3, x4, x5⟩ by rw [← hW1]; exact (HZ2.out.set 3).step (bal (Below.refl _ _) _))
    have HS1 := hid (show SpM W1 b1 g1 s by
      rw [← hW1]
      exact (HSP.out.moved (Moved.set (S := [w.heap.size]) (by simp) 0 _) (by simp; omega) (by simp; omega)).below (bal (Below.refl _ _) _))
    have HB3 := hid (show Below w.heap.size w W1 by rw [← hW1]; exact bal (HB2.out.sc _ _ _ (Nat.le_refl _)) _)
    have HD1 := hid (show Calls Try.prog 15 #[.pointer (some ⟨b1, 0, none⟩), .agg #[.int .u8 3, .int .i64 p, .int .i64 q, .int .u8 x0, .bool x1, .int .u8 x2, .int .u8 x3, .int .u8 x4, .int .u8 x5]] W1 (SpD b1 g1 t W1) from by
      have q := HDO.out b1 g1 s W1 HS1.out
      rw [ht] at q
      exact q)
    have HD2 := hid (fun W (h : SpM W b1 g1 t) => show Calls Try.prog 15 #[.pointer (some ⟨b1, 0, none⟩), .agg #[.int .u8 3, .int .i64 p, .int .i64 q, .int .u8 x0, .bool x1, .int .u8 x2, .int .u8 x3, .int .u8 x4, .int .u8 x5]] W (SpD b1 g1 t W) from by
      have q := HDO.out b1 g1 t W h
      rw [HT.out] at q
      exact q)
    clear HDO HTW hW1 ht
    with_reducible refine HD1.out.mono ?_
    rintro e w3 ⟨⟨v1, rfl⟩, hs, hm⟩
    have HS3 := hid hs
    have HZ4 := hid (HZ3.out.moved hm (by simp; omega))
    have HB4 := hid (HB3.out.trans (hm.toBelow (B := w.heap.size) HB3.out.size (fun k hk => by simp at hk; omega)))
    have hbc := hs.lt
    have HCP := hid (copy_any (b := b1) (g := g1) (s := t) w3 hs)
    clear hs hm HD1 HS1 HZ3 HB3
    go_wp2_with fail
    with_reducible refine HCP.out.mono ?_
    rintro e w4 ⟨b3, g3, ex, rfl, hg1, hg2, hs3, hb4⟩
    have HS4 := hid (HS3.out.below hb4)
    have HK4 := hid hs3
    have HB5 := hid (HB4.out.trans (hb4.mono HB4.out.size))
    obtain ⟨z0, z1, z2, z3, z4, z5, z6, z7, z8⟩ := HZ4.out.step hb4
    replace z0 : w4.cell? ⟨w.heap.size, 0, none⟩ = some (.int .u8 3) := z0
    dsimp only at z3 z4 z5 z6 z7 z8
    have lz4 := World.block_lt_of_cell? w4 _ z0
    clear hs3 hb4 HCP
    go_wp2_with fail
    with_reducible refine (HD2.out _ HS4.out).mono ?_
    rintro e w5 ⟨⟨v2, rfl⟩, hs, hm⟩
    have HSM := hid (same_yes w5 hs (HK4.out.moved hm (by simp; omega) (by simp; omega)) rfl rfl rfl rfl)
    have HB6 := hid (HB5.out.trans (hm.toBelow (B := w.heap.size) HB5.out.size (fun k hk => by simp at hk; omega)))
    clear hs hm z0 z1 z2 z3 z4 z5 z6 z7 z8
    go_wp2_with fail
    with_reducible refine HSM.out.mono ?_
    rintro e w6 ⟨rfl, hb6⟩
    have HB7 := hid (HB6.out.trans (hb6.mono HB6.out.size))
    clear hb6
    go_wp2
    go_ret
    exact ⟨rfl, HB7.out⟩
end Go.Proofs.Ytpehhinpohmpiaa
