/-
  An act of the cursor: the law's do, the reference's Do.
-/
import Derived.Test.YtpehhinpohmpiaaCq
namespace Go.Proofs.Ytpehhinpohmpiaa
open Go.RowKit Go.Lib Go.Deep

/-- What it does. -/
def curS (s : Spc) (k : Nat) (p q : Int) : Spc :=
  if k % 6 = 0 then s.cuS (tabZ s s.cu false) else if k % 6 = 1 then s.cuS (tabZ s s.cu true) else if k % 6 = 2 then s.cuS (frstZ s (lineZ s)) else if k % 6 = 3 then s.cuS (frstZ s 0) else if k % 6 = 4 then s.cuS (moveZ s.r s.c s.cu p q) else aftS s
section
variable {b g : Nat} {s : Spc}
theorem RfM.cued {w : World} (h : RfM w b g s) {v : Int} (hv : ∃ a : Nat, a < s.L.length ∧ v = (a : Int)) : RfM (w.setCell ⟨b, 5, none⟩ (.int .i64 v)) b g (s.cuS v) := by
  obtain ⟨a, ha, rfl⟩ := hv
  have q := h.placed (a : Int)
  rw [place_cuS ha, wr_nat ha] at q
  exact q
theorem RfD.pre {s' : Spc} {w w1 w' : World} {e : Ending} (h : RfD b g s' w1 e w') (hb : Below w.heap.size w w1) : RfD b g s' w e w' := ⟨h.1, h.2.1, (Moved.below hb [b, g]).trans h.2.2⟩
set_option maxRecDepth 100000 in
set_option maxHeartbeats 4000000 in
theorem do15_any (k : Nat) (hk : k < 256) (p q : Int) (hp : I64 p) (hq : I64 q) (w : World) (h : SpM w b g s) : Calls Try.prog 44 #[.pointer (some ⟨b, 0, none⟩), .agg #[.int .u8 k, .int .i64 p, .int .i64 q]] w (SpD b g (curS s k p q) w) := by
  have HH := hid h
  have H0 := hid (fun W h => tab_any (b := b) (g := g) (s := s) W h)
  have H1 := hid (fun W h => backtab_any (b := b) (g := g) (s := s) W h)
  have H2 := hid (fun W h => newline_any (b := b) (g := g) (s := s) W h)
  have H3 := hid (fun W h => home_any (b := b) (g := g) (s := s) W h)
  have H4 := hid (fun W h => cmove_any (b := b) (g := g) (s := s) p q hp hq W h)
  have H5 := hid (fun W h => after_any (b := b) (g := g) (s := s) W h)
  obtain ⟨W0, hW0⟩ : ∃ W0, w.alloc (.cells #[.int .u8 k, .int .i64 p, .int .i64 q] 74) = W0 := ⟨_, rfl⟩
  have hb0 : Below w.heap.size w W0 := by rw [← hW0]; exact bal (Below.refl _ _) _
  have HZ := hid (show ∀ V, Below W0.heap.size W0 V → V.cell? ⟨w.heap.size, 0, none⟩ = some (.int .u8 k) ∧ V.cell? ⟨w.heap.size, 1, none⟩ = some (.int .i64 p) ∧ V.cell? ⟨w.heap.size, 2, none⟩ = some (.int .i64 q) ∧ w.heap.size < V.heap.size from fun V hV => by
    have c0 : W0.cell? ⟨w.heap.size, 0, none⟩ = some (.int .u8 k) := by rw [← hW0]; simp [go_sem]
    have c1 : W0.cell? ⟨w.heap.size, 1, none⟩ = some (.int .i64 p) := by rw [← hW0]; simp [go_sem]
    have c2 : W0.cell? ⟨w.heap.size, 2, none⟩ = some (.int .i64 q) := by rw [← hW0]; simp [go_sem]
    exact ⟨keepc hV c0, keepc hV c1, keepc hV c2, World.block_lt_of_cell? V _ (keepc hV c0)⟩)
  have HB := hid hb0
  have HW := hid hW0
  obtain ⟨m, hm6, hm⟩ := mod6 k
  have hkm : ((k : Int) % 6) = m := by omega
  have hkm' : (k : Int).tmod 6 = m := by rw [Int.tmod_eq_emod_of_nonneg (by omega)]; exact hkm
  have hk0 : 0 ≤ (k : Int) := by omega
  have hk1 : (k : Int) < 256 := by omega
  obtain ⟨z0, z1, z2, zl⟩ := HZ.out W0 (Below.refl _ _)
  unfold curS
  rw [hm]
  clear h hm hkm hW0 hp hq
  have : m = 0 ∨ m = 1 ∨ m = 2 ∨ m = 3 ∨ m = 4 ∨ m = 5 := by omega
  rcases this with rfl | rfl | rfl | rfl | rfl | rfl
  all_goals simp only [Nat.reduceEqDiff, if_true, if_false]
  · go_enter Try.func44, Try.ntmps44
    go_wp2_with fail
    simp only [HW.out]
    with_reducible refine (H0.out _ (HH.out.below HB.out)).mono ?_
    rintro e w1 ⟨⟨v1, rfl⟩, hs, hm⟩
    have HR := hid (And.intro hs ((Moved.below HB.out [b, g]).trans hm))
    clear hs hm
    go_wp2
    first
      | exact bodyPost_ret (results_none rfl _ _ _) rfl ⟨⟨_, rfl⟩, HR.out.1, HR.out.2⟩
      | (go_end0; exact ⟨⟨_, rfl⟩, HR.out.1, HR.out.2⟩)
  · go_enter Try.func44, Try.ntmps44
    go_wp2_with fail
    simp only [HW.out]
    with_reducible refine (H1.out _ (HH.out.below HB.out)).mono ?_
    rintro e w1 ⟨⟨v1, rfl⟩, hs, hm⟩
    have HR := hid (And.intro hs ((Moved.below HB.out [b, g]).trans hm))
    clear hs hm
    go_wp2
    first
      | exact bodyPost_ret (results_none rfl _ _ _) rfl ⟨⟨_, rfl⟩, HR.out.1, HR.out.2⟩
      | (go_end0; exact ⟨⟨_, rfl⟩, HR.out.1, HR.out.2⟩)
  · go_enter Try.func44, Try.ntmps44
    go_wp2_with fail
    simp only [HW.out]
    with_reducible refine (H2.out _ (HH.out.below HB.out)).mono ?_
    rintro e w1 ⟨⟨v1, rfl⟩, hs, hm⟩
    have HR := hid (And.intro hs ((Moved.below HB.out [b, g]).trans hm))
    clear hs hm
    go_wp2
    first
      | exact bodyPost_ret (results_none rfl _ _ _) rfl ⟨⟨_, rfl⟩, HR.out.1, HR.out.2⟩
      | (go_end0; exact ⟨⟨_, rfl⟩, HR.out.1, HR.out.2⟩)
  · go_enter Try.func44, Try.ntmps44
    go_wp2_with fail
    simp only [HW.out]
    with_reducible refine (H3.out _ (HH.out.below HB.out)).mono ?_
    rintro e w1 ⟨⟨v1, rfl⟩, hs, hm⟩
    have HR := hid (And.intro hs ((Moved.below HB.out [b, g]).trans hm))
    clear hs hm
    go_wp2
    first
      | exact bodyPost_ret (results_none rfl _ _ _) rfl ⟨⟨_, rfl⟩, HR.out.1, HR.out.2⟩
      | (go_end0; exact ⟨⟨_, rfl⟩, HR.out.1, HR.out.2⟩)
  · go_enter Try.func44, Try.ntmps44
    go_wp2_with fail
    simp only [HW.out]
    with_reducible refine (H4.out _ (HH.out.below HB.out)).mono ?_
    rintro e w1 ⟨⟨v1, rfl⟩, hs, hm⟩
    have HR := hid (And.intro hs ((Moved.below HB.out [b, g]).trans hm))
    clear hs hm
    go_wp2
    first
      | exact bodyPost_ret (results_none rfl _ _ _) rfl ⟨⟨_, rfl⟩, HR.out.1, HR.out.2⟩
      | (go_end0; exact ⟨⟨_, rfl⟩, HR.out.1, HR.out.2⟩)
  · go_enter Try.func44, Try.ntmps44
    go_wp2_with fail
    simp only [HW.out]
    with_reducible refine (H5.out _ (HH.out.below HB.out)).mono ?_
    rintro e w1 ⟨⟨v1, rfl⟩, hs, hm⟩
    have HR := hid (And.intro hs ((Moved.below HB.out [b, g]).trans hm))
    clear hs hm
    go_wp2
    first
      | exact bodyPost_ret (results_none rfl _ _ _) rfl ⟨⟨_, rfl⟩, HR.out.1, HR.out.2⟩
      | (go_end0; exact ⟨⟨_, rfl⟩, HR.out.1, HR.out.2⟩)
set_option maxRecDepth 100000 in
set_option maxHeartbeats 8000000 in
theorem rdo15_any (k : Nat) (hk : k < 256) (p q : Int) (hp : I64 p) (hq : I64 q) (w : World) (h : RfM w b g s) : Calls Try.prog 45 #[.pointer (some ⟨b, 0, none⟩), .agg #[.int .u8 k, .int .i64 p, .int .i64 q]] w (RfD b g (curS s k p q) w) := by
  have HH := hid h
  have hok := h.ok
  have hNp := hok.pos
  have hcu1 := hok.cu1
  have hcu2 := hok.cu2
  have HTB := hid (fun back W h => rtab_any (b := b) (g := g) (s := s) s.cu (cu_i64 hok) back W h)
  have HF0 := hid (fun W h => rcfirst_any (b := b) (g := g) (s := s) 0 ⟨by decide, by decide⟩ W h)
  have HFL := hid (fun W h => rcfirst_any (b := b) (g := g) (s := s) (lineZ s) (line_i64 hok) W h)
  have HSZ := hok.sz
  have hr1 := HSZ.r1
  have hr2 := HSZ.r2
  have hc1 := HSZ.c1
  have hc2 := HSZ.c2
  have hlen := hok.len
  have HAT := hid (fun W => (show Calls Try.prog 102 #[.agg #[.int .i64 s.r, .int .i64 s.c], .int .i64 (s.cu / s.c + 1), .int .i64 0] W fun e w' => e = .returned (.int .i64 (lineZ s)) ∧ Below W.heap.size W w' from by
    have d1 : 0 ≤ s.cu / s.c := Int.ediv_nonneg hcu1 (by omega)
    have d2 : s.cu / s.c ≤ s.cu := Int.ediv_le_self _ hcu1
    have r := rat_ok s.r s.c (s.cu / s.c + 1) 0 HSZ (i64_small (by omega) (by omega)) ⟨by decide, by decide⟩ W
    have e : (s.cu / s.c + 1) % s.r * s.c + 0 % s.c = lineZ s := by
      unfold lineZ
      rw [Int.zero_emod, Int.add_zero, Int.emod_eq_of_lt hcu1 (by omega)]
    rwa [e] at r))
  have HMV := hid (fun W => rmove_ok s.r s.c s.cu p q HSZ (cu_i64 hok) hp hq W)
  have HB0 := hid (tabZ_bd hok s.cu false)
  have HB1 := hid (tabZ_bd hok s.cu true)
  have HB2 := hid (frstZ_bd hok (lineZ s))
  have HB3 := hid (frstZ_bd hok 0)
  have HB4 := hid (move_in hok s.cu p q)
  have HCU := hid (fun W (hW : RfM W b g s) => (show W.cell? ⟨b, 5, none⟩ = some (.int .i64 s.cu) ∧ W.cell? ⟨b, 2, none⟩ = some (.int .i64 s.r) ∧ W.cell? ⟨b, 3, none⟩ = some (.int .i64 s.c) ∧ W.frozen? ⟨b, 5, none⟩ = false ∧ b < W.heap.size from ⟨hW.h5, hW.h2, hW.h3, hW.fr 5, hW.lt.1⟩))
  obtain ⟨W0, hW0⟩ : ∃ W0, w.alloc (.cells #[.int .u8 k, .int .i64 p, .int .i64 q] 74) = W0 := ⟨_, rfl⟩
  have hb0 : Below w.heap.size w W0 := by rw [← hW0]; exact bal (Below.refl _ _) _
  have HZ := hid (show ∀ V, Below W0.heap.size W0 V → V.cell? ⟨w.heap.size, 0, none⟩ = some (.int .u8 k) ∧ V.cell? ⟨w.heap.size, 1, none⟩ = some (.int .i64 p) ∧ V.cell? ⟨w.heap.size, 2, none⟩ = some (.int .i64 q) ∧ w.heap.size < V.heap.size from fun V hV => by
    have c0 : W0.cell? ⟨w.heap.size, 0, none⟩ = some (.int .u8 k) := by rw [← hW0]; simp [go_sem]
    have c1 : W0.cell? ⟨w.heap.size, 1, none⟩ = some (.int .i64 p) := by rw [← hW0]; simp [go_sem]
    have c2 : W0.cell? ⟨w.heap.size, 2, none⟩ = some (.int .i64 q) := by rw [← hW0]; simp [go_sem]
    exact ⟨keepc hV c0, keepc hV c1, keepc hV c2, World.block_lt_of_cell? V _ (keepc hV c0)⟩)
  have HB := hid hb0
  have HW := hid hW0
  obtain ⟨m, hm6, hm⟩ := mod6 k
  have hkm : ((k : Int) % 6) = m := by omega
  have hkm' : (k : Int).tmod 6 = m := by rw [Int.tmod_eq_emod_of_nonneg (by omega)]; exact hkm
  have hk0 : 0 ≤ (k : Int) := by omega
  have hk1 : (k : Int) < 256 := by omega
  obtain ⟨z0, z1, z2, zl⟩ := HZ.out W0 (Below.refl _ _)
  unfold curS
  rw [hm]
  have HHW := hid (HH.out.below HB.out)
  obtain ⟨y5, y2, y3, yf, yl⟩ := HCU.out W0 HHW.out
  obtain ⟨x5, x2, x3, xf, xl⟩ := HCU.out w HH.out
  clear h hm hkm hW0 hp hq
  have : m = 0 ∨ m = 1 ∨ m = 2 ∨ m = 3 ∨ m = 4 ∨ m = 5 := by omega
  rcases this with rfl | rfl | rfl | rfl | rfl | rfl
  all_goals simp only [Nat.reduceEqDiff, if_true, if_false]
  · clear hok hNp hcu1 hcu2 hr1 hr2 hc1 hc2 hlen HSZ
    go_enter Try.func45, Try.ntmps45
    go_wp2_with fail
    simp only [HW.out]
    with_reducible refine (HTB.out false _ HHW.out).mono ?_
    rintro e w1 ⟨rfl, hb1⟩
    have HR1 := hid (HHW.out.below hb1)
    have HM1 := hid (below_t HB.out hb1)
    clear hb1 y5 y2 y3 yf yl
    obtain ⟨y5, y2, y3, yf, yl⟩ := HCU.out w1 HR1.out
    have HR := hid (show RfM (w1.setCell ⟨b, 5, none⟩ (.int .i64 (tabZ s s.cu false))) b g (s.cuS (tabZ s s.cu false)) ∧ Moved w (w1.setCell ⟨b, 5, none⟩ (.int .i64 (tabZ s s.cu false))) [b, g] [b, g] from ⟨HR1.out.cued HB0.out, (Moved.below HM1.out [b, g]).trans (Moved.set (by simp) 5 _)⟩)
    go_wp2
    first
      | exact bodyPost_ret (results_none rfl _ _ _) rfl ⟨⟨_, rfl⟩, HR.out.1, HR.out.2⟩
      | (go_end0; exact ⟨⟨_, rfl⟩, HR.out.1, HR.out.2⟩)
  · clear hok hNp hcu1 hcu2 hr1 hr2 hc1 hc2 hlen HSZ
    go_enter Try.func45, Try.ntmps45
    go_wp2_with fail
    simp only [HW.out]
    with_reducible refine (HTB.out true _ HHW.out).mono ?_
    rintro e w1 ⟨rfl, hb1⟩
    have HR1 := hid (HHW.out.below hb1)
    have HM1 := hid (below_t HB.out hb1)
    clear hb1 y5 y2 y3 yf yl
    obtain ⟨y5, y2, y3, yf, yl⟩ := HCU.out w1 HR1.out
    have HR := hid (show RfM (w1.setCell ⟨b, 5, none⟩ (.int .i64 (tabZ s s.cu true))) b g (s.cuS (tabZ s s.cu true)) ∧ Moved w (w1.setCell ⟨b, 5, none⟩ (.int .i64 (tabZ s s.cu true))) [b, g] [b, g] from ⟨HR1.out.cued HB1.out, (Moved.below HM1.out [b, g]).trans (Moved.set (by simp) 5 _)⟩)
    go_wp2
    first
      | exact bodyPost_ret (results_none rfl _ _ _) rfl ⟨⟨_, rfl⟩, HR.out.1, HR.out.2⟩
      | (go_end0; exact ⟨⟨_, rfl⟩, HR.out.1, HR.out.2⟩)
  · have hd0 : ¬ s.c = 0 := by omega
    have hd1 : s.cu.tdiv s.c = s.cu / s.c := Int.tdiv_eq_ediv_of_nonneg hcu1
    have hd2 : 0 ≤ s.cu / s.c := Int.ediv_nonneg hcu1 (by omega)
    have hd3 : s.cu / s.c ≤ s.cu := Int.ediv_le_self _ hcu1
    have hw1 : IntKind.i64.wrap (s.cu / s.c) = s.cu / s.c := wrapI (i64_small (by omega) (by omega))
    have hw2 : IntKind.i64.wrap (s.cu / s.c + 1) = s.cu / s.c + 1 := wrapI (i64_small (by omega) (by omega))
    clear hok hNp hcu1 hcu2 hr1 hr2 hc1 hc2 hlen HSZ hd2 hd3
    go_enter Try.func45, Try.ntmps45
    go_wp2_with fail
    simp only [HW.out]
    refine wp_region_held_drew (S := fun V => V.cell? ⟨b, 2, none⟩ = some (.int .i64 s.r) ∧ V.cell? ⟨b, 3, none⟩ = some (.int .i64 s.c)) (by kernel_rfl) ?_ (fun hHeld => ?_)
    · exact ⟨keepc (Below.refl _ _).drew y2, keepc (Below.refl _ _).drew y3⟩
    refine takeD (i := 0) (v := ?_) 71 rfl rfl (by kernel_rfl) (by kernel_rfl) (by kernel_rfl) (fun _ _ _ h => h) (by assumption) (Or.inl ⟨by rfl, ?_⟩) ?_
    rotate_left
    · intro w hSw
      (try dsimp only at hSw)
      go_simp
      try with_reducible rfl
    simp only [List.setIfInBounds_toArray, List.set_cons_zero, List.set_cons_succ]
    refine takeD (i := 1) (v := ?_) 72 rfl rfl (by kernel_rfl) (by kernel_rfl) (by kernel_rfl) (fun _ _ _ h => h) (by assumption) (Or.inl ⟨by rfl, ?_⟩) ?_
    rotate_left
    · intro w hSw
      (try dsimp only at hSw)
      go_simp
      try with_reducible rfl
    simp only [List.setIfInBounds_toArray, List.set_cons_zero, List.set_cons_succ]
    refine takeD (i := 2) (v := ?_) 73 rfl rfl (by kernel_rfl) (by kernel_rfl) (by kernel_rfl) (fun _ _ _ h => h) (by assumption) (Or.inl ⟨by rfl, ?_⟩) ?_
    rotate_left
    · intro w hSw
      (try dsimp only at hSw)
      go_simp
      try with_reducible rfl
    simp only [List.setIfInBounds_toArray, List.set_cons_zero, List.set_cons_succ]
    refine takeD (i := 3) (v := ?_) 74 rfl rfl (by kernel_rfl) (by kernel_rfl) (by kernel_rfl) (fun _ _ _ h => h) (by assumption) (Or.inl ⟨by rfl, ?_⟩) ?_
    rotate_left
    · intro w hSw
      (try dsimp only at hSw)
      go_simp
      try with_reducible rfl
    simp only [List.setIfInBounds_toArray, List.set_cons_zero, List.set_cons_succ]
    refine takeD (i := 4) (v := ?_) 75 rfl rfl (by kernel_rfl) (by kernel_rfl) (by kernel_rfl) (fun _ _ _ h => h) (by assumption) (Or.inl ⟨by rfl, ?_⟩) ?_
    rotate_left
    · intro w hSw
      (try dsimp only at hSw)
      go_simp
      try with_reducible rfl
    simp only [List.setIfInBounds_toArray, List.set_cons_zero, List.set_cons_succ]
    refine takeD (i := 5) (v := ?_) 76 rfl rfl (by kernel_rfl) (by kernel_rfl) (by kernel_rfl) (fun _ _ _ h => h) (by assumption) (Or.inl ⟨by rfl, ?_⟩) ?_
    rotate_left
    · intro w hSw
      (try dsimp only at hSw)
      go_simp
      try with_reducible rfl
    simp only [List.setIfInBounds_toArray, List.set_cons_zero, List.set_cons_succ]
    refine takeD (i := 6) (v := ?_) 77 rfl rfl (by kernel_rfl) (by kernel_rfl) (by kernel_rfl) (fun _ _ _ h => h) (by assumption) (Or.inl ⟨by rfl, ?_⟩) ?_
    rotate_left
    · intro w hSw
      (try dsimp only at hSw)
      go_simp
      try with_reducible rfl
    simp only [List.setIfInBounds_toArray, List.set_cons_zero, List.set_cons_succ]
    refine takeD (i := 7) (v := ?_) 78 rfl rfl (by kernel_rfl) (by kernel_rfl) (by kernel_rfl) (fun _ _ _ h => h) (by assumption) (Or.inl ⟨by rfl, ?_⟩) ?_
    rotate_left
    · intro w hSw
      (try dsimp only at hSw)
      go_simp
      try with_reducible rfl
    simp only [List.setIfInBounds_toArray, List.set_cons_zero, List.set_cons_succ]
    refine takeD (i := 8) (v := ?_) 79 rfl rfl (by kernel_rfl) (by kernel_rfl) (by kernel_rfl) (fun _ _ _ h => h) (by assumption) (Or.inl ⟨by rfl, ?_⟩) ?_
    rotate_left
    · intro w hSw
      (try dsimp only at hSw)
      go_simp
      try with_reducible rfl
    simp only [List.setIfInBounds_toArray, List.set_cons_zero, List.set_cons_succ]
    refine takeD (i := 9) (v := ?_) 80 rfl rfl (by kernel_rfl) (by kernel_rfl) (by kernel_rfl) (fun _ _ _ h => h) (by assumption) (Or.inl ⟨by rfl, ?_⟩) ?_
    rotate_left
    · intro w hSw
      (try dsimp only at hSw)
      go_simp
      try with_reducible rfl
    simp only [List.setIfInBounds_toArray, List.set_cons_zero, List.set_cons_succ]
    refine takeD (i := 10) (v := ?_) 81 rfl rfl (by kernel_rfl) (by kernel_rfl) (by kernel_rfl) (fun _ _ _ h => h) (by assumption) (Or.inl ⟨by rfl, ?_⟩) ?_
    rotate_left
    · intro w hSw
      (try dsimp only at hSw)
      go_simp
      try with_reducible rfl
    simp only [List.setIfInBounds_toArray, List.set_cons_zero, List.set_cons_succ]
    refine takeD (i := 11) (v := ?_) 82 rfl rfl (by kernel_rfl) (by kernel_rfl) (by kernel_rfl) (fun _ _ _ h => h) (by assumption) (Or.inl ⟨by rfl, ?_⟩) ?_
    rotate_left
    · intro w hSw
      (try dsimp only at hSw)
      go_simp
      try with_reducible rfl
    simp only [List.setIfInBounds_toArray, List.set_cons_zero, List.set_cons_succ]
    refine takeD (i := 12) (v := ?_) 83 rfl rfl (by kernel_rfl) (by kernel_rfl) (by kernel_rfl) (fun _ _ _ h => h) (by assumption) (Or.inl ⟨by rfl, ?_⟩) ?_
    rotate_left
    · intro w hSw
      (try dsimp only at hSw)
      go_simp
      try with_reducible rfl
    simp only [List.setIfInBounds_toArray, List.set_cons_zero, List.set_cons_succ]
    refine takeD (i := 13) (v := ?_) 84 rfl rfl (by kernel_rfl) (by kernel_rfl) (by kernel_rfl) (fun _ _ _ h => h) (by assumption) (Or.inl ⟨by rfl, ?_⟩) ?_
    rotate_left
    · intro w hSw
      (try dsimp only at hSw)
      go_simp
      try with_reducible rfl
    simp only [List.setIfInBounds_toArray, List.set_cons_zero, List.set_cons_succ]
    refine wpAnyH_ready (rs := [14]) (by kernel_rfl) (by simp) ?_
    refine AllReadyH.cons (by simp only [List.getElem?_toArray, List.getElem?_cons_succ, List.getElem?_cons_zero]; rfl) (fun K hK => ?_) AllReadyH.nil
    go_simp
    go_at_call 102; (with_reducible refine (HAT.out _).mono ?_); rintro e w5 ⟨rfl, hb5⟩
    refine hK.out _ _ ?_ (fun hHeldN => ?_)
    · exact ⟨keepc hb5 hHeld.1, keepc hb5 hHeld.2⟩
    clear hK K hHeld
    have hHeld := hHeldN
    clear hHeldN
    (try simp only [Act.put, List.setIfInBounds_toArray, List.set_cons_zero, List.set_cons_succ])
    refine wpAnyH_ready (rs := [15]) (by kernel_rfl) (by simp) ?_
    refine AllReadyH.cons (by simp only [List.getElem?_toArray, List.getElem?_cons_succ, List.getElem?_cons_zero]; rfl) (fun K hK => ?_) AllReadyH.nil
    go_simp
    go_at_call 56; have hw6 : Below W0.heap.size W0 w5 := (Below.refl _ _).drew.trans (hb5.mono (by simp)); (with_reducible refine (HFL.out _ (HHW.out.below hw6)).mono ?_); rintro e w6 ⟨rfl, hb6⟩
    refine hK.out _ _ ?_ (fun hHeldN => ?_)
    · exact ⟨keepc hb6 hHeld.1, keepc hb6 hHeld.2⟩
    have HM6 := hid (below_t hw6 hb6)
    have HR6 := hid (HHW.out.below HM6.out)
    clear hb5 hb6 hw6 y5 y2 y3 yf yl
    obtain ⟨y5, y2, y3, yf, yl⟩ := HCU.out w6 HR6.out
    clear hK K hHeld
    have hHeld := hHeldN
    clear hHeldN
    (try simp only [Act.put, List.setIfInBounds_toArray, List.set_cons_zero, List.set_cons_succ])
    refine takeD (i := 16) (v := ?_) 87 rfl rfl (by kernel_rfl) (by kernel_rfl) (by kernel_rfl) (fun _ _ _ h => h) (by assumption) (Or.inl ⟨by rfl, ?_⟩) ?_
    rotate_left
    · intro w hSw
      (try dsimp only at hSw)
      go_simp
      try with_reducible rfl
    simp only [List.setIfInBounds_toArray, List.set_cons_zero, List.set_cons_succ]
    refine takeD (i := 17) (v := ?_) 88 rfl rfl (by kernel_rfl) (by kernel_rfl) (by kernel_rfl) (fun _ _ _ h => h) (by assumption) (Or.inl ⟨by rfl, ?_⟩) ?_
    rotate_left
    · intro w hSw
      (try dsimp only at hSw)
      go_simp
      try with_reducible rfl
    simp only [List.setIfInBounds_toArray, List.set_cons_zero, List.set_cons_succ]
    refine wpAnyH_ready (rs := [18]) (by kernel_rfl) (by simp) ?_
    refine AllReadyH.cons (by simp only [List.getElem?_toArray, List.getElem?_cons_succ, List.getElem?_cons_zero]; rfl) (fun K hK => ?_) AllReadyH.nil
    go_simp
    refine hK.out _ _ ?_ (fun hHeldN => ?_)
    · exact ⟨(sc_other (by decide)).trans hHeld.1, (sc_other (by decide)).trans hHeld.2⟩
    clear hK K hHeld
    have hHeld := hHeldN
    clear hHeldN
    (try simp only [Act.put, List.setIfInBounds_toArray, List.set_cons_zero, List.set_cons_succ])
    refine wpAnyH_done (by kernel_rfl) ?_ _
    have HE := hid hHeld
    clear hHeld
    have HR := hid (show RfM (w6.setCell ⟨b, 5, none⟩ (.int .i64 (frstZ s (lineZ s)))) b g (s.cuS (frstZ s (lineZ s))) ∧ Moved w (w6.setCell ⟨b, 5, none⟩ (.int .i64 (frstZ s (lineZ s)))) [b, g] [b, g] from ⟨HR6.out.cued HB2.out, (Moved.below (below_t HB.out HM6.out) [b, g]).trans (Moved.set (by simp) 5 _)⟩)
    go_wp2
    first
      | exact bodyPost_ret (results_none rfl _ _ _) rfl ⟨⟨_, rfl⟩, HR.out.1, HR.out.2⟩
      | (go_end0; exact ⟨⟨_, rfl⟩, HR.out.1, HR.out.2⟩)
  · clear hok hNp hcu1 hcu2 hr1 hr2 hc1 hc2 hlen HSZ
    go_enter Try.func45, Try.ntmps45
    go_wp2_with fail
    simp only [HW.out]
    with_reducible refine (HF0.out _ HHW.out).mono ?_
    rintro e w1 ⟨rfl, hb1⟩
    have HR1 := hid (HHW.out.below hb1)
    have HM1 := hid (below_t HB.out hb1)
    clear hb1 y5 y2 y3 yf yl
    obtain ⟨y5, y2, y3, yf, yl⟩ := HCU.out w1 HR1.out
    have HR := hid (show RfM (w1.setCell ⟨b, 5, none⟩ (.int .i64 (frstZ s 0))) b g (s.cuS (frstZ s 0)) ∧ Moved w (w1.setCell ⟨b, 5, none⟩ (.int .i64 (frstZ s 0))) [b, g] [b, g] from ⟨HR1.out.cued HB3.out, (Moved.below HM1.out [b, g]).trans (Moved.set (by simp) 5 _)⟩)
    go_wp2
    first
      | exact bodyPost_ret (results_none rfl _ _ _) rfl ⟨⟨_, rfl⟩, HR.out.1, HR.out.2⟩
      | (go_end0; exact ⟨⟨_, rfl⟩, HR.out.1, HR.out.2⟩)
  · have hbn : b < w.heap.size := HH.out.lt.1
    clear hok hNp hcu1 hcu2 hr1 hr2 hc1 hc2 hlen HSZ
    go_enter Try.func45, Try.ntmps45
    go_wp2_with fail
    simp only [HW.out]
    refine wp_region_held_drew (S := fun V => V.cell? ⟨b, 2, none⟩ = some (.int .i64 s.r) ∧ V.cell? ⟨b, 3, none⟩ = some (.int .i64 s.c) ∧ V.cell? ⟨w.heap.size, 1, none⟩ = some (.int .i64 p) ∧ V.cell? ⟨w.heap.size, 2, none⟩ = some (.int .i64 q)) (by kernel_rfl) ?_ (fun hHeld => ?_)
    · exact ⟨keepc (Below.refl _ _).drew y2, keepc (Below.refl _ _).drew y3, keepc (Below.refl _ _).drew z1, keepc (Below.refl _ _).drew z2⟩
    refine takeD (i := 0) (v := ?_) 98 rfl rfl (by kernel_rfl) (by kernel_rfl) (by kernel_rfl) (fun _ _ _ h => h) (by assumption) (Or.inl ⟨by rfl, ?_⟩) ?_
    rotate_left
    · intro w hSw
      (try dsimp only at hSw)
      go_simp
      try with_reducible rfl
    simp only [List.setIfInBounds_toArray, List.set_cons_zero, List.set_cons_succ]
    refine takeD (i := 1) (v := ?_) 99 rfl rfl (by kernel_rfl) (by kernel_rfl) (by kernel_rfl) (fun _ _ _ h => h) (by assumption) (Or.inl ⟨by rfl, ?_⟩) ?_
    rotate_left
    · intro w hSw
      (try dsimp only at hSw)
      go_simp
      try with_reducible rfl
    simp only [List.setIfInBounds_toArray, List.set_cons_zero, List.set_cons_succ]
    refine takeD (i := 2) (v := ?_) 100 rfl rfl (by kernel_rfl) (by kernel_rfl) (by kernel_rfl) (fun _ _ _ h => h) (by assumption) (Or.inl ⟨by rfl, ?_⟩) ?_
    rotate_left
    · intro w hSw
      (try dsimp only at hSw)
      go_simp
      try with_reducible rfl
    simp only [List.setIfInBounds_toArray, List.set_cons_zero, List.set_cons_succ]
    refine takeD (i := 3) (v := ?_) 101 rfl rfl (by kernel_rfl) (by kernel_rfl) (by kernel_rfl) (fun _ _ _ h => h) (by assumption) (Or.inl ⟨by rfl, ?_⟩) ?_
    rotate_left
    · intro w hSw
      (try dsimp only at hSw)
      go_simp
      try with_reducible rfl
    simp only [List.setIfInBounds_toArray, List.set_cons_zero, List.set_cons_succ]
    refine takeD (i := 4) (v := ?_) 102 rfl rfl (by kernel_rfl) (by kernel_rfl) (by kernel_rfl) (fun _ _ _ h => h) (by assumption) (Or.inl ⟨by rfl, ?_⟩) ?_
    rotate_left
    · intro w hSw
      (try dsimp only at hSw)
      go_simp
      try with_reducible rfl
    simp only [List.setIfInBounds_toArray, List.set_cons_zero, List.set_cons_succ]
    refine takeD (i := 5) (v := ?_) 103 rfl rfl (by kernel_rfl) (by kernel_rfl) (by kernel_rfl) (fun _ _ _ h => h) (by assumption) (Or.inl ⟨by rfl, ?_⟩) ?_
    rotate_left
    · intro w hSw
      (try dsimp only at hSw)
      go_simp
      try with_reducible rfl
    simp only [List.setIfInBounds_toArray, List.set_cons_zero, List.set_cons_succ]
    refine takeD (i := 6) (v := ?_) 104 rfl rfl (by kernel_rfl) (by kernel_rfl) (by kernel_rfl) (fun _ _ _ h => h) (by assumption) (Or.inl ⟨by rfl, ?_⟩) ?_
    rotate_left
    · intro w hSw
      (try dsimp only at hSw)
      go_simp
      try with_reducible rfl
    simp only [List.setIfInBounds_toArray, List.set_cons_zero, List.set_cons_succ]
    refine takeD (i := 7) (v := ?_) 105 rfl rfl (by kernel_rfl) (by kernel_rfl) (by kernel_rfl) (fun _ _ _ h => h) (by assumption) (Or.inl ⟨by rfl, ?_⟩) ?_
    rotate_left
    · intro w hSw
      (try dsimp only at hSw)
      go_simp
      try with_reducible rfl
    simp only [List.setIfInBounds_toArray, List.set_cons_zero, List.set_cons_succ]
    refine takeD (i := 8) (v := ?_) 106 rfl rfl (by kernel_rfl) (by kernel_rfl) (by kernel_rfl) (fun _ _ _ h => h) (by assumption) (Or.inl ⟨by rfl, ?_⟩) ?_
    rotate_left
    · intro w hSw
      (try dsimp only at hSw)
      go_simp
      try with_reducible rfl
    simp only [List.setIfInBounds_toArray, List.set_cons_zero, List.set_cons_succ]
    refine takeD (i := 9) (v := ?_) 107 rfl rfl (by kernel_rfl) (by kernel_rfl) (by kernel_rfl) (fun _ _ _ h => h) (by assumption) (Or.inl ⟨by rfl, ?_⟩) ?_
    rotate_left
    · intro w hSw
      (try dsimp only at hSw)
      go_simp
      try with_reducible rfl
    simp only [List.setIfInBounds_toArray, List.set_cons_zero, List.set_cons_succ]
    refine wpAnyH_ready (rs := [10]) (by kernel_rfl) (by simp) ?_
    refine AllReadyH.cons (by simp only [List.getElem?_toArray, List.getElem?_cons_succ, List.getElem?_cons_zero]; rfl) (fun K hK => ?_) AllReadyH.nil
    go_simp
    go_at_call 103; (with_reducible refine (HMV.out _).mono ?_); rintro e w5 ⟨rfl, hb5⟩
    refine hK.out _ _ ?_ (fun hHeldN => ?_)
    · exact ⟨keepc hb5 hHeld.1, keepc hb5 hHeld.2.1, keepc hb5 hHeld.2.2.1, keepc hb5 hHeld.2.2.2⟩
    have hw6 : Below W0.heap.size W0 w5 := (Below.refl _ _).drew.trans (hb5.mono (by simp))
    have HM6 := hid hw6
    have HR6 := hid (HHW.out.below HM6.out)
    clear hb5 hw6 y5 y2 y3 yf yl
    obtain ⟨y5, y2, y3, yf, yl⟩ := HCU.out w5 HR6.out
    clear hK K hHeld
    have hHeld := hHeldN
    clear hHeldN
    (try simp only [Act.put, List.setIfInBounds_toArray, List.set_cons_zero, List.set_cons_succ])
    refine takeD (i := 11) (v := ?_) 109 rfl rfl (by kernel_rfl) (by kernel_rfl) (by kernel_rfl) (fun _ _ _ h => h) (by assumption) (Or.inl ⟨by rfl, ?_⟩) ?_
    rotate_left
    · intro w hSw
      (try dsimp only at hSw)
      go_simp
      try with_reducible rfl
    simp only [List.setIfInBounds_toArray, List.set_cons_zero, List.set_cons_succ]
    refine takeD (i := 12) (v := ?_) 110 rfl rfl (by kernel_rfl) (by kernel_rfl) (by kernel_rfl) (fun _ _ _ h => h) (by assumption) (Or.inl ⟨by rfl, ?_⟩) ?_
    rotate_left
    · intro w hSw
      (try dsimp only at hSw)
      go_simp
      try with_reducible rfl
    simp only [List.setIfInBounds_toArray, List.set_cons_zero, List.set_cons_succ]
    refine wpAnyH_ready (rs := [13]) (by kernel_rfl) (by simp) ?_
    refine AllReadyH.cons (by simp only [List.getElem?_toArray, List.getElem?_cons_succ, List.getElem?_cons_zero]; rfl) (fun K hK => ?_) AllReadyH.nil
    go_simp
    refine hK.out _ _ ?_ (fun hHeldN => ?_)
    · exact ⟨(sc_other (by decide)).trans hHeld.1, (sc_other (by decide)).trans hHeld.2.1, (World.cell?_setCell_far _ _ _ _ (by simp; omega)).trans hHeld.2.2.1, (World.cell?_setCell_far _ _ _ _ (by simp; omega)).trans hHeld.2.2.2⟩
    clear hK K hHeld
    have hHeld := hHeldN
    clear hHeldN
    (try simp only [Act.put, List.setIfInBounds_toArray, List.set_cons_zero, List.set_cons_succ])
    refine wpAnyH_done (by kernel_rfl) ?_ _
    have HE := hid hHeld
    clear hHeld
    have HR := hid (show RfM (w5.setCell ⟨b, 5, none⟩ (.int .i64 (moveZ s.r s.c s.cu p q))) b g (s.cuS (moveZ s.r s.c s.cu p q)) ∧ Moved w (w5.setCell ⟨b, 5, none⟩ (.int .i64 (moveZ s.r s.c s.cu p q))) [b, g] [b, g] from ⟨HR6.out.cued HB4.out, (Moved.below (below_t HB.out HM6.out) [b, g]).trans (Moved.set (by simp) 5 _)⟩)
    go_wp2
    first
      | exact bodyPost_ret (results_none rfl _ _ _) rfl ⟨⟨_, rfl⟩, HR.out.1, HR.out.2⟩
      | (go_end0; exact ⟨⟨_, rfl⟩, HR.out.1, HR.out.2⟩)
  · have hw := hok.wr_lt (s.cu + 1)
    have HPO := hid (fun W h => rpos_any (b := b) (g := g) (s := s) (s.cu + 1) (i64_small (by omega) (by omega)) W h)
    have hwr1 : IntKind.i64.wrap (s.cu + 1) = s.cu + 1 := wrapI (i64_small (by omega) (by omega))
    unfold aftS
    obtain ⟨a, hae⟩ : ∃ a, s.wr (s.cu + 1) = a := ⟨_, rfl⟩
    rw [hae] at HPO hw ⊢
    have hia : I64 (a : Int) := nat_i64 hok hw
    have hai : (a : Int) < s.L.length := by omega
    have hwr2 : IntKind.i64.wrap ((a : Int) + 1) = (a : Int) + 1 := wrapI (i64_small (by omega) (by omega))
    have HP2 := hid (fun W h => (show Calls Try.prog 19 #[.pointer (some ⟨b, 0, none⟩), .int .i64 ((a : Int) + 1)] W fun e w' => e = .returned (.int .i64 (s.wr ((a : Int) + 1))) ∧ Below W.heap.size W w' from rpos_any (b := b) (g := g) (s := s.cuS (a : Int)) ((a : Int) + 1) (i64_small (by omega) (by omega)) W h))
    have HTA := hid (fun W h => (show Calls Try.prog 101 #[.pointer (some ⟨b, 0, none⟩), .int .i64 a, .bool false] W fun e w' => e = .returned (.int .i64 (tabZ s a false)) ∧ Below W.heap.size W w' from rtab_any (b := b) (g := g) (s := s.cuS (a : Int)) (a : Int) hia false W h))
    have HRF := hid (fun W h => (show Calls Try.prog 21 #[.pointer (some ⟨b, 0, none⟩), .int .i64 a] W fun e w' => e = .returned (.agg #[.bool (s.cel a).prot, .bool (s.cel a).num, .int .i64 (ofD (s.cel a).fa.toNat), .bool (ofM (s.cel a).fa.toNat)]) ∧ Below W.heap.size W w' from rfield_any (b := b) (g := g) (s := s.cuS (a : Int)) a hw W h))
    have HCA := hid (show ∃ a' : Nat, a' < s.L.length ∧ (a : Int) = (a' : Int) from ⟨a, hw, rfl⟩)
    have HC2 := hid (show ∃ a' : Nat, a' < (s.cuS (a : Int)).L.length ∧ ((s.wr ((a : Int) + 1) : Nat) : Int) = (a' : Int) from ⟨_, hok.wr_lt _, rfl⟩)
    have HC3 := hid (show ∃ a' : Nat, a' < (s.cuS (a : Int)).L.length ∧ tabZ s a false = (a' : Int) from tabZ_bd hok a false)
    have HCV := hid (fun W (hW : RfM W b g (s.cuS (a : Int))) => (show W.cell? ⟨b, 5, none⟩ = some (.int .i64 a) ∧ W.cell? ⟨b, 4, none⟩ = some (.slice (some ⟨g, 0, none⟩) s.L.length s.L.length) ∧ W.frozen? ⟨b, 5, none⟩ = false ∧ b < W.heap.size ∧ g < W.heap.size ∧ Six W g (s.cel a) = Six W g (s.cel a) from ⟨hW.h5, hW.h4, hW.fr 5, hW.lt.1, hW.lt.2, rfl⟩))
    have HSX := hid (fun W (hW : RfM W b g (s.cuS (a : Int))) => (show W.cell? ⟨g, a * 6, none⟩ = some (.int .u8 (s.cel a).ch) ∧ W.cell? ⟨g, a * 6 + 1, none⟩ = some (.bool (s.cel a).at_) ∧ W.cell? ⟨g, a * 6 + 2, none⟩ = some (.int .u8 (s.cel a).fa) ∧ W.cell? ⟨g, a * 6 + 3, none⟩ = some (.int .u8 (s.cel a).hi) ∧ W.cell? ⟨g, a * 6 + 4, none⟩ = some (.int .u8 (s.cel a).co) ∧ W.cell? ⟨g, a * 6 + 5, none⟩ = some (.int .u8 (s.cel a).se) from hW.row.six a hw _ rfl))
    generalize (s.cel a).prot = cp at HRF ⊢
    generalize (s.cel a).num = cn at HRF ⊢
    generalize ofD (s.cel a).fa.toNat = cd at HRF
    generalize ofM (s.cel a).fa.toNat = cm at HRF
    generalize s.cel a = c at HSX HCV ⊢
    obtain ⟨x0, x1, x2, x3, x4, x5⟩ := c
    dsimp only at HSX ⊢
    clear hok hNp hcu1 hcu2 hr1 hr2 hc1 hc2 hlen HSZ hae hia
    cases x1
    · rw [if_neg (by simp)]
      go_enter Try.func45, Try.ntmps45
      go_wp2_with fail
      simp only [HW.out]
      with_reducible refine (HPO.out _ HHW.out).mono ?_
      rintro e w1 ⟨rfl, hb1⟩
      have HR1 := hid (HHW.out.below hb1)
      have HM1 := hid (below_t HB.out hb1)
      clear hb1 y5 y2 y3 yf yl
      obtain ⟨y5, y2, y3, yf, yl⟩ := HCU.out w1 HR1.out
      obtain ⟨w2, hw2⟩ : ∃ w2, w1.setCell ⟨b, 5, none⟩ (.int .i64 a) = w2 := ⟨_, rfl⟩
      have HW2 := hid hw2
      have HR2 := hid (show RfM w2 b g (s.cuS (a : Int)) ∧ Moved w w2 [b, g] [b, g] from by rw [← hw2]; exact ⟨HR1.out.cued HCA.out, (Moved.below HM1.out [b, g]).trans (Moved.set (by simp) 5 _)⟩)
      obtain ⟨u5, u4, uf, ub, ug, -⟩ := HCV.out w2 HR2.out.1
      obtain ⟨s0, s1, s2, s3, s4, s5⟩ := HSX.out w2 HR2.out.1
      rw [← hw2] at u4 u5 uf ub ug s0 s1 s2 s3 s4 s5
      clear hw2
      have HR := hid (show RfM (w2.alloc (.cells #[.int .u8 x0, .bool false, .int .u8 x2, .int .u8 x3, .int .u8 x4, .int .u8 x5] 30)) b g (s.cuS (a : Int)) ∧ Moved w (w2.alloc (.cells #[.int .u8 x0, .bool false, .int .u8 x2, .int .u8 x3, .int .u8 x4, .int .u8 x5] 30)) [b, g] [b, g] from ⟨HR2.out.1.below (bal (Below.refl _ _) _), HR2.out.2.trans (Moved.alloc _ _ _)⟩)
      rw [← HW2.out] at HR
      go_wp2
      first
        | exact bodyPost_ret (results_none rfl _ _ _) rfl ⟨⟨_, rfl⟩, HR.out.1, HR.out.2⟩
        | (go_end0; exact ⟨⟨_, rfl⟩, HR.out.1, HR.out.2⟩)
    · rw [if_pos rfl]
      cases hpn : (cp && cn)
      · rw [if_neg (by simp)]
        cases cp
        · clear hpn
          go_enter Try.func45, Try.ntmps45
          go_wp2_with fail
          simp only [HW.out]
          with_reducible refine (HPO.out _ HHW.out).mono ?_
          rintro e w1 ⟨rfl, hb1⟩
          have HR1 := hid (HHW.out.below hb1)
          have HM1 := hid (below_t HB.out hb1)
          clear hb1 y5 y2 y3 yf yl
          obtain ⟨y5, y2, y3, yf, yl⟩ := HCU.out w1 HR1.out
          obtain ⟨w2, hw2⟩ : ∃ w2, w1.setCell ⟨b, 5, none⟩ (.int .i64 a) = w2 := ⟨_, rfl⟩
          have HW2 := hid hw2
          have HR2 := hid (show RfM w2 b g (s.cuS (a : Int)) ∧ Moved w w2 [b, g] [b, g] from by rw [← hw2]; exact ⟨HR1.out.cued HCA.out, (Moved.below HM1.out [b, g]).trans (Moved.set (by simp) 5 _)⟩)
          obtain ⟨u5, u4, uf, ub, ug, -⟩ := HCV.out w2 HR2.out.1
          obtain ⟨s0, s1, s2, s3, s4, s5⟩ := HSX.out w2 HR2.out.1
          rw [← hw2] at u4 u5 uf ub ug s0 s1 s2 s3 s4 s5
          clear hw2
          go_wp2_with fail
          simp only [HW2.out]
          with_reducible refine (HRF.out _ (HR2.out.1.below (bal (Below.refl _ _) _))).mono ?_
          rintro e w3 ⟨rfl, hb3⟩
          have HR3 := hid (show RfM w3 b g (s.cuS (a : Int)) ∧ Moved w w3 [b, g] [b, g] from ⟨(HR2.out.1.below (bal (Below.refl _ _) _)).below hb3, HR2.out.2.trans ((Moved.alloc _ _ _).trans (Moved.below hb3 _))⟩)
          clear hb3
          obtain ⟨w4, hw4⟩ : ∃ w4, w3.alloc (.cells #[.bool false, .bool cn, .int .i64 cd, .bool cm] 47) = w4 := ⟨_, rfl⟩
          have HW4 := hid hw4
          have HR4 := hid (show RfM w4 b g (s.cuS (a : Int)) ∧ Moved w w4 [b, g] [b, g] from by rw [← hw4]; exact ⟨HR3.out.1.below (bal (Below.refl _ _) _), HR3.out.2.trans (Moved.alloc _ _ _)⟩)
          clear hw4
          go_wp2_with fail
          simp only [HW4.out]
          with_reducible refine (HP2.out _ HR4.out.1).mono ?_
          rintro e w5 ⟨rfl, hb5⟩
          have HR5 := hid (show RfM w5 b g (s.cuS (a : Int)) ∧ Moved w w5 [b, g] [b, g] from ⟨HR4.out.1.below hb5, HR4.out.2.trans (Moved.below hb5 _)⟩)
          clear hb5
          obtain ⟨t5, t4, tf, tb, tg, -⟩ := HCV.out w5 HR5.out.1
          have HR := hid (show RfM (w5.setCell ⟨b, 5, none⟩ (.int .i64 (s.wr ((a : Int) + 1) : Nat))) b g (s.cuS (s.wr ((a : Int) + 1) : Nat)) ∧ Moved w (w5.setCell ⟨b, 5, none⟩ (.int .i64 (s.wr ((a : Int) + 1) : Nat))) [b, g] [b, g] from ⟨HR5.out.1.cued HC2.out, HR5.out.2.trans (Moved.set (by simp) 5 _)⟩)
          go_wp2
          first
            | exact bodyPost_ret (results_none rfl _ _ _) rfl ⟨⟨_, rfl⟩, HR.out.1, HR.out.2⟩
            | (go_end0; exact ⟨⟨_, rfl⟩, HR.out.1, HR.out.2⟩)
        · obtain rfl : cn = false := by simpa using hpn
          clear hpn
          go_enter Try.func45, Try.ntmps45
          go_wp2_with fail
          simp only [HW.out]
          with_reducible refine (HPO.out _ HHW.out).mono ?_
          rintro e w1 ⟨rfl, hb1⟩
          have HR1 := hid (HHW.out.below hb1)
          have HM1 := hid (below_t HB.out hb1)
          clear hb1 y5 y2 y3 yf yl
          obtain ⟨y5, y2, y3, yf, yl⟩ := HCU.out w1 HR1.out
          obtain ⟨w2, hw2⟩ : ∃ w2, w1.setCell ⟨b, 5, none⟩ (.int .i64 a) = w2 := ⟨_, rfl⟩
          have HW2 := hid hw2
          have HR2 := hid (show RfM w2 b g (s.cuS (a : Int)) ∧ Moved w w2 [b, g] [b, g] from by rw [← hw2]; exact ⟨HR1.out.cued HCA.out, (Moved.below HM1.out [b, g]).trans (Moved.set (by simp) 5 _)⟩)
          obtain ⟨u5, u4, uf, ub, ug, -⟩ := HCV.out w2 HR2.out.1
          obtain ⟨s0, s1, s2, s3, s4, s5⟩ := HSX.out w2 HR2.out.1
          rw [← hw2] at u4 u5 uf ub ug s0 s1 s2 s3 s4 s5
          clear hw2
          go_wp2_with fail
          simp only [HW2.out]
          with_reducible refine (HRF.out _ (HR2.out.1.below (bal (Below.refl _ _) _))).mono ?_
          rintro e w3 ⟨rfl, hb3⟩
          have HR3 := hid (show RfM w3 b g (s.cuS (a : Int)) ∧ Moved w w3 [b, g] [b, g] from ⟨(HR2.out.1.below (bal (Below.refl _ _) _)).below hb3, HR2.out.2.trans ((Moved.alloc _ _ _).trans (Moved.below hb3 _))⟩)
          clear hb3
          obtain ⟨w4, hw4⟩ : ∃ w4, w3.alloc (.cells #[.bool true, .bool false, .int .i64 cd, .bool cm] 47) = w4 := ⟨_, rfl⟩
          have HW4 := hid hw4
          have HR4 := hid (show RfM w4 b g (s.cuS (a : Int)) ∧ Moved w w4 [b, g] [b, g] from by rw [← hw4]; exact ⟨HR3.out.1.below (bal (Below.refl _ _) _), HR3.out.2.trans (Moved.alloc _ _ _)⟩)
          clear hw4
          go_wp2_with fail
          simp only [HW4.out]
          with_reducible refine (HP2.out _ HR4.out.1).mono ?_
          rintro e w5 ⟨rfl, hb5⟩
          have HR5 := hid (show RfM w5 b g (s.cuS (a : Int)) ∧ Moved w w5 [b, g] [b, g] from ⟨HR4.out.1.below hb5, HR4.out.2.trans (Moved.below hb5 _)⟩)
          clear hb5
          obtain ⟨t5, t4, tf, tb, tg, -⟩ := HCV.out w5 HR5.out.1
          have HR := hid (show RfM (w5.setCell ⟨b, 5, none⟩ (.int .i64 (s.wr ((a : Int) + 1) : Nat))) b g (s.cuS (s.wr ((a : Int) + 1) : Nat)) ∧ Moved w (w5.setCell ⟨b, 5, none⟩ (.int .i64 (s.wr ((a : Int) + 1) : Nat))) [b, g] [b, g] from ⟨HR5.out.1.cued HC2.out, HR5.out.2.trans (Moved.set (by simp) 5 _)⟩)
          go_wp2
          first
            | exact bodyPost_ret (results_none rfl _ _ _) rfl ⟨⟨_, rfl⟩, HR.out.1, HR.out.2⟩
            | (go_end0; exact ⟨⟨_, rfl⟩, HR.out.1, HR.out.2⟩)
      · rw [if_pos rfl]
        obtain ⟨rfl, rfl⟩ : cp = true ∧ cn = true := by simpa using hpn
        clear hpn
        go_enter Try.func45, Try.ntmps45
        go_wp2_with fail
        simp only [HW.out]
        with_reducible refine (HPO.out _ HHW.out).mono ?_
        rintro e w1 ⟨rfl, hb1⟩
        have HR1 := hid (HHW.out.below hb1)
        have HM1 := hid (below_t HB.out hb1)
        clear hb1 y5 y2 y3 yf yl
        obtain ⟨y5, y2, y3, yf, yl⟩ := HCU.out w1 HR1.out
        obtain ⟨w2, hw2⟩ : ∃ w2, w1.setCell ⟨b, 5, none⟩ (.int .i64 a) = w2 := ⟨_, rfl⟩
        have HW2 := hid hw2
        have HR2 := hid (show RfM w2 b g (s.cuS (a : Int)) ∧ Moved w w2 [b, g] [b, g] from by rw [← hw2]; exact ⟨HR1.out.cued HCA.out, (Moved.below HM1.out [b, g]).trans (Moved.set (by simp) 5 _)⟩)
        obtain ⟨u5, u4, uf, ub, ug, -⟩ := HCV.out w2 HR2.out.1
        obtain ⟨s0, s1, s2, s3, s4, s5⟩ := HSX.out w2 HR2.out.1
        rw [← hw2] at u4 u5 uf ub ug s0 s1 s2 s3 s4 s5
        clear hw2
        go_wp2_with fail
        simp only [HW2.out]
        with_reducible refine (HRF.out _ (HR2.out.1.below (bal (Below.refl _ _) _))).mono ?_
        rintro e w3 ⟨rfl, hb3⟩
        have HR3 := hid (show RfM w3 b g (s.cuS (a : Int)) ∧ Moved w w3 [b, g] [b, g] from ⟨(HR2.out.1.below (bal (Below.refl _ _) _)).below hb3, HR2.out.2.trans ((Moved.alloc _ _ _).trans (Moved.below hb3 _))⟩)
        clear hb3
        obtain ⟨w4, hw4⟩ : ∃ w4, w3.alloc (.cells #[.bool true, .bool true, .int .i64 cd, .bool cm] 47) = w4 := ⟨_, rfl⟩
        have HW4 := hid hw4
        have HR4 := hid (show RfM w4 b g (s.cuS (a : Int)) ∧ Moved w w4 [b, g] [b, g] from by rw [← hw4]; exact ⟨HR3.out.1.below (bal (Below.refl _ _) _), HR3.out.2.trans (Moved.alloc _ _ _)⟩)
        clear hw4
        go_wp2_with fail
        simp only [HW4.out]
        with_reducible refine (HTA.out _ HR4.out.1).mono ?_
        rintro e w5 ⟨rfl, hb5⟩
        have HR5 := hid (show RfM w5 b g (s.cuS (a : Int)) ∧ Moved w w5 [b, g] [b, g] from ⟨HR4.out.1.below hb5, HR4.out.2.trans (Moved.below hb5 _)⟩)
        clear hb5
        obtain ⟨t5, t4, tf, tb, tg, -⟩ := HCV.out w5 HR5.out.1
        have HR := hid (show RfM (w5.setCell ⟨b, 5, none⟩ (.int .i64 (tabZ s a false))) b g (s.cuS (tabZ s a false)) ∧ Moved w (w5.setCell ⟨b, 5, none⟩ (.int .i64 (tabZ s a false))) [b, g] [b, g] from ⟨HR5.out.1.cued HC3.out, HR5.out.2.trans (Moved.set (by simp) 5 _)⟩)
        go_wp2
        first
          | exact bodyPost_ret (results_none rfl _ _ _) rfl ⟨⟨_, rfl⟩, HR.out.1, HR.out.2⟩
          | (go_end0; exact ⟨⟨_, rfl⟩, HR.out.1, HR.out.2⟩)
end
end Go.Proofs.Ytpehhinpohmpiaa
