/-
  sfield: what a field asks for.
-/
import Derived.Test.YtdpgmepblmlaaaaDoorRi
namespace Go.Proofs.YtdpgmepblmlaaaaDoor
open Go.RowKit Go.Lib Go.Deep

set_option maxRecDepth 100000 in
set_option maxHeartbeats 4000000 in
theorem act_1 (dv : Value) (xs : List Int) (w : World) (h : Reads w dv xs) (hl : xs.length ≤ 10000000) (hC : Cods w) : Calls Tryd.prog 16 #[.agg #[.int .u8 1, dv]] w (ErD (inP readM xs) w) := by
  have HIN := hid (fun W (hW : Below w.heap.size w W) => inp_readAct 1 dv xs W (reads_below h hW) hl (hC.go hW))
  generalize inP readM xs = m at HIN ⊢
  obtain ⟨xd, cd', rfl⟩ := reads_sl h
  generalize xs.length = nd at *
  obtain ⟨w0, hw0⟩ : ∃ w0, (w.alloc (.cells #[.int .u8 1, .slice xd nd cd'] 35)).alloc (.cells #[.int .i64 0, .int .i64 0, .int .i64 0, .bool false, .int .u8 0, .slice none 0 0, .slice none 0 0] 38) = w0 := ⟨_, rfl⟩
  have hb0 : Below w.heap.size w w0 := by rw [← hw0]; exact bal (bal (Below.refl _ _) _) _
  have hz0 : w0.heap.size = w.heap.size + 2 := by rw [← hw0]; simp
  have HP0 := hid (show Opn7 w0 (w.heap.size + 1) from by
    rw [← hw0]
    have := Box7.new (v0 := .int .i64 0) (v1 := .int .i64 0) (v2 := .int .i64 0) (v3 := .bool false) (v4 := .int .u8 0) (v5 := .slice none 0 0) (v6 := .slice none 0 0) (w.alloc (.cells #[.int .u8 1, .slice xd nd cd'] 35)) 38
    rw [World.size_alloc] at this
    exact ⟨_, _, _, _, _, _, _, this⟩)
  have HI0 := hid (HIN.out w0 hb0)
  have HB0 := hid hb0
  have HW0 := hid hw0
  clear h HIN hw0 hb0 hl hC
  go_enter Tryd.func16, Tryd.ntmps16
  go_wp2_with fail
  rw [HW0.out]
  with_reducible refine HI0.out.mono ?_
  rintro e w1 ⟨cv, rv, rfl, ho1, ho2, hb1, hk1, hk2⟩
  obtain ⟨er, ⟨k, cd, md, al, rq, cs', rs'⟩⟩ := m
  dsimp only [acV] at ho1 ho2 ⊢
  obtain ⟨xv, nv, cv', rfl⟩ := own_slice ho1
  obtain ⟨xr, nr, cr', rfl⟩ := own_slice ho2
  have hz1 := hb1.size
  have HB1 := hid (below_t HB0.out hb1)
  have HOP := hid (HP0.out.step hb1)
  have HO1 := hid ho1
  have HO2 := hid ho2
  have HK1 := hid (show ∀ j ∈ blkV (.slice xv nv cv'), w.heap.size + 1 < j from fun j q => by have := hk1 j q; omega)
  have HK2 := hid (show ∀ j ∈ blkV (.slice xr nr cr'), w.heap.size + 1 < j from fun j q => by have := hk2 j q; omega)
  obtain ⟨z0, z1, z2, z3, z4, z5, z6, y0, y1, y2, y3, y4, y5, y6, y7, y8, y9, ya, yb, yc, yd⟩ := HOP.out.out
  clear ho1 ho2 hb1 hk1 hk2
  go_wp2
  obtain ⟨k0, k1, k2, k3, k4, k5, k6, -⟩ := Opn7.put (w := w1) (b := (w.heap.size + 1)) HOP.out (.int .i64 k) (.int .i64 cd) (.int .i64 md) (.bool al) (.int .u8 rq) (.slice xv nv cv') (.slice xr nr cr')
  have HF := hid (show ErD (er, ⟨k, cd, md, al, rq, cs', rs'⟩) w (.returned (.tuple #[acV ⟨k, cd, md, al, rq, cs', rs'⟩ (.slice xv nv cv') (.slice xr nr cr'), .int .i64 er])) (put7 w1 (w.heap.size + 1) (.int .i64 k) (.int .i64 cd) (.int .i64 md) (.bool al) (.int .u8 rq) (.slice xv nv cv') (.slice xr nr cr')) from ⟨_, _, rfl, put7_own HO1.out HK1.out _ _ _ _ _ _ _, put7_own HO2.out HK2.out _ _ _ _ _ _ _, put7_below HB1.out (by omega) _ _ _ _ _ _ _, fun j q => by have := HK1.out j q; omega, fun j q => by have := HK2.out j q; omega⟩)
  revert HF k0 k1 k2 k3 k4 k5 k6
  generalize hW : put7 w1 (w.heap.size + 1) (.int .i64 k) (.int .i64 cd) (.int .i64 md) (.bool al) (.int .u8 rq) (.slice xv nv cv') (.slice xr nr cr') = Wf
  intro k0 k1 k2 k3 k4 k5 k6 HF
  unfold put7 at hW
  rw [hW]
  exact bodyPost_ret (v := .tuple #[.agg #[.int .i64 k, .int .i64 cd, .int .i64 md, .bool al, .int .u8 rq, .slice xv nv cv', .slice xr nr cr'], .int .i64 er]) (by simp [results, Tryd.results16, go_sem, k0, k1, k2, k3, k4, k5, k6]) rfl HF.out
set_option maxRecDepth 100000 in
set_option maxHeartbeats 4000000 in
theorem act_9 (dv : Value) (xs : List Int) (w : World) (h : Reads w dv xs) (hl : xs.length ≤ 10000000) : Calls Tryd.prog 16 #[.agg #[.int .u8 9, dv]] w (ErD (inP modeM xs) w) := by
  have HIN := hid (fun W (hW : Below w.heap.size w W) => inp_modeAct 9 dv xs W (reads_below h hW) hl)
  generalize inP modeM xs = m at HIN ⊢
  obtain ⟨xd, cd', rfl⟩ := reads_sl h
  generalize xs.length = nd at *
  obtain ⟨w0, hw0⟩ : ∃ w0, (w.alloc (.cells #[.int .u8 9, .slice xd nd cd'] 35)).alloc (.cells #[.int .i64 0, .int .i64 0, .int .i64 0, .bool false, .int .u8 0, .slice none 0 0, .slice none 0 0] 38) = w0 := ⟨_, rfl⟩
  have hb0 : Below w.heap.size w w0 := by rw [← hw0]; exact bal (bal (Below.refl _ _) _) _
  have hz0 : w0.heap.size = w.heap.size + 2 := by rw [← hw0]; simp
  have HP0 := hid (show Opn7 w0 (w.heap.size + 1) from by
    rw [← hw0]
    have := Box7.new (v0 := .int .i64 0) (v1 := .int .i64 0) (v2 := .int .i64 0) (v3 := .bool false) (v4 := .int .u8 0) (v5 := .slice none 0 0) (v6 := .slice none 0 0) (w.alloc (.cells #[.int .u8 9, .slice xd nd cd'] 35)) 38
    rw [World.size_alloc] at this
    exact ⟨_, _, _, _, _, _, _, this⟩)
  have HI0 := hid (HIN.out w0 hb0)
  have HB0 := hid hb0
  have HW0 := hid hw0
  clear h HIN hw0 hb0 hl
  go_enter Tryd.func16, Tryd.ntmps16
  go_wp2_with fail
  rw [HW0.out]
  with_reducible refine HI0.out.mono ?_
  rintro e w1 ⟨cv, rv, rfl, ho1, ho2, hb1, hk1, hk2⟩
  obtain ⟨er, ⟨k, cd, md, al, rq, cs', rs'⟩⟩ := m
  dsimp only [acV] at ho1 ho2 ⊢
  obtain ⟨xv, nv, cv', rfl⟩ := own_slice ho1
  obtain ⟨xr, nr, cr', rfl⟩ := own_slice ho2
  have hz1 := hb1.size
  have HB1 := hid (below_t HB0.out hb1)
  have HOP := hid (HP0.out.step hb1)
  have HO1 := hid ho1
  have HO2 := hid ho2
  have HK1 := hid (show ∀ j ∈ blkV (.slice xv nv cv'), w.heap.size + 1 < j from fun j q => by have := hk1 j q; omega)
  have HK2 := hid (show ∀ j ∈ blkV (.slice xr nr cr'), w.heap.size + 1 < j from fun j q => by have := hk2 j q; omega)
  obtain ⟨z0, z1, z2, z3, z4, z5, z6, y0, y1, y2, y3, y4, y5, y6, y7, y8, y9, ya, yb, yc, yd⟩ := HOP.out.out
  clear ho1 ho2 hb1 hk1 hk2
  go_wp2
  obtain ⟨k0, k1, k2, k3, k4, k5, k6, -⟩ := Opn7.put (w := w1) (b := (w.heap.size + 1)) HOP.out (.int .i64 k) (.int .i64 cd) (.int .i64 md) (.bool al) (.int .u8 rq) (.slice xv nv cv') (.slice xr nr cr')
  have HF := hid (show ErD (er, ⟨k, cd, md, al, rq, cs', rs'⟩) w (.returned (.tuple #[acV ⟨k, cd, md, al, rq, cs', rs'⟩ (.slice xv nv cv') (.slice xr nr cr'), .int .i64 er])) (put7 w1 (w.heap.size + 1) (.int .i64 k) (.int .i64 cd) (.int .i64 md) (.bool al) (.int .u8 rq) (.slice xv nv cv') (.slice xr nr cr')) from ⟨_, _, rfl, put7_own HO1.out HK1.out _ _ _ _ _ _ _, put7_own HO2.out HK2.out _ _ _ _ _ _ _, put7_below HB1.out (by omega) _ _ _ _ _ _ _, fun j q => by have := HK1.out j q; omega, fun j q => by have := HK2.out j q; omega⟩)
  revert HF k0 k1 k2 k3 k4 k5 k6
  generalize hW : put7 w1 (w.heap.size + 1) (.int .i64 k) (.int .i64 cd) (.int .i64 md) (.bool al) (.int .u8 rq) (.slice xv nv cv') (.slice xr nr cr') = Wf
  intro k0 k1 k2 k3 k4 k5 k6 HF
  unfold put7 at hW
  rw [hW]
  exact bodyPost_ret (v := .tuple #[.agg #[.int .i64 k, .int .i64 cd, .int .i64 md, .bool al, .int .u8 rq, .slice xv nv cv', .slice xr nr cr'], .int .i64 er]) (by simp [results, Tryd.results16, go_sem, k0, k1, k2, k3, k4, k5, k6]) rfl HF.out
set_option maxRecDepth 100000 in
set_option maxHeartbeats 4000000 in
theorem act_12 (dv : Value) (xs : List Int) (w : World) (h : Reads w dv xs) (hl : xs.length ≤ 10000000) : Calls Tryd.prog 16 #[.agg #[.int .u8 12, dv]] w (ErD (inP createM xs) w) := by
  have HIN := hid (fun W (hW : Below w.heap.size w W) => inp_createAct 12 dv xs W (reads_below h hW) hl)
  generalize inP createM xs = m at HIN ⊢
  obtain ⟨xd, cd', rfl⟩ := reads_sl h
  generalize xs.length = nd at *
  obtain ⟨w0, hw0⟩ : ∃ w0, (w.alloc (.cells #[.int .u8 12, .slice xd nd cd'] 35)).alloc (.cells #[.int .i64 0, .int .i64 0, .int .i64 0, .bool false, .int .u8 0, .slice none 0 0, .slice none 0 0] 38) = w0 := ⟨_, rfl⟩
  have hb0 : Below w.heap.size w w0 := by rw [← hw0]; exact bal (bal (Below.refl _ _) _) _
  have hz0 : w0.heap.size = w.heap.size + 2 := by rw [← hw0]; simp
  have HP0 := hid (show Opn7 w0 (w.heap.size + 1) from by
    rw [← hw0]
    have := Box7.new (v0 := .int .i64 0) (v1 := .int .i64 0) (v2 := .int .i64 0) (v3 := .bool false) (v4 := .int .u8 0) (v5 := .slice none 0 0) (v6 := .slice none 0 0) (w.alloc (.cells #[.int .u8 12, .slice xd nd cd'] 35)) 38
    rw [World.size_alloc] at this
    exact ⟨_, _, _, _, _, _, _, this⟩)
  have HI0 := hid (HIN.out w0 hb0)
  have HB0 := hid hb0
  have HW0 := hid hw0
  clear h HIN hw0 hb0 hl
  go_enter Tryd.func16, Tryd.ntmps16
  go_wp2_with fail
  rw [HW0.out]
  with_reducible refine HI0.out.mono ?_
  rintro e w1 ⟨cv, rv, rfl, ho1, ho2, hb1, hk1, hk2⟩
  obtain ⟨er, ⟨k, cd, md, al, rq, cs', rs'⟩⟩ := m
  dsimp only [acV] at ho1 ho2 ⊢
  obtain ⟨xv, nv, cv', rfl⟩ := own_slice ho1
  obtain ⟨xr, nr, cr', rfl⟩ := own_slice ho2
  have hz1 := hb1.size
  have HB1 := hid (below_t HB0.out hb1)
  have HOP := hid (HP0.out.step hb1)
  have HO1 := hid ho1
  have HO2 := hid ho2
  have HK1 := hid (show ∀ j ∈ blkV (.slice xv nv cv'), w.heap.size + 1 < j from fun j q => by have := hk1 j q; omega)
  have HK2 := hid (show ∀ j ∈ blkV (.slice xr nr cr'), w.heap.size + 1 < j from fun j q => by have := hk2 j q; omega)
  obtain ⟨z0, z1, z2, z3, z4, z5, z6, y0, y1, y2, y3, y4, y5, y6, y7, y8, y9, ya, yb, yc, yd⟩ := HOP.out.out
  clear ho1 ho2 hb1 hk1 hk2
  go_wp2
  obtain ⟨k0, k1, k2, k3, k4, k5, k6, -⟩ := Opn7.put (w := w1) (b := (w.heap.size + 1)) HOP.out (.int .i64 k) (.int .i64 cd) (.int .i64 md) (.bool al) (.int .u8 rq) (.slice xv nv cv') (.slice xr nr cr')
  have HF := hid (show ErD (er, ⟨k, cd, md, al, rq, cs', rs'⟩) w (.returned (.tuple #[acV ⟨k, cd, md, al, rq, cs', rs'⟩ (.slice xv nv cv') (.slice xr nr cr'), .int .i64 er])) (put7 w1 (w.heap.size + 1) (.int .i64 k) (.int .i64 cd) (.int .i64 md) (.bool al) (.int .u8 rq) (.slice xv nv cv') (.slice xr nr cr')) from ⟨_, _, rfl, put7_own HO1.out HK1.out _ _ _ _ _ _ _, put7_own HO2.out HK2.out _ _ _ _ _ _ _, put7_below HB1.out (by omega) _ _ _ _ _ _ _, fun j q => by have := HK1.out j q; omega, fun j q => by have := HK2.out j q; omega⟩)
  revert HF k0 k1 k2 k3 k4 k5 k6
  generalize hW : put7 w1 (w.heap.size + 1) (.int .i64 k) (.int .i64 cd) (.int .i64 md) (.bool al) (.int .u8 rq) (.slice xv nv cv') (.slice xr nr cr') = Wf
  intro k0 k1 k2 k3 k4 k5 k6 HF
  unfold put7 at hW
  rw [hW]
  exact bodyPost_ret (v := .tuple #[.agg #[.int .i64 k, .int .i64 cd, .int .i64 md, .bool al, .int .u8 rq, .slice xv nv cv', .slice xr nr cr'], .int .i64 er]) (by simp [results, Tryd.results16, go_sem, k0, k1, k2, k3, k4, k5, k6]) rfl HF.out
set_option maxRecDepth 100000 in
set_option maxHeartbeats 4000000 in
theorem act_13 (dv : Value) (xs : List Int) (w : World) (h : Reads w dv xs) (hl : xs.length ≤ 10000000) : Calls Tryd.prog 16 #[.agg #[.int .u8 13, dv]] w (ErD (inP destroyM xs) w) := by
  have HIN := hid (fun W (hW : Below w.heap.size w W) => inp_destroyAct 13 dv xs W (reads_below h hW) hl)
  generalize inP destroyM xs = m at HIN ⊢
  obtain ⟨xd, cd', rfl⟩ := reads_sl h
  generalize xs.length = nd at *
  obtain ⟨w0, hw0⟩ : ∃ w0, (w.alloc (.cells #[.int .u8 13, .slice xd nd cd'] 35)).alloc (.cells #[.int .i64 0, .int .i64 0, .int .i64 0, .bool false, .int .u8 0, .slice none 0 0, .slice none 0 0] 38) = w0 := ⟨_, rfl⟩
  have hb0 : Below w.heap.size w w0 := by rw [← hw0]; exact bal (bal (Below.refl _ _) _) _
  have hz0 : w0.heap.size = w.heap.size + 2 := by rw [← hw0]; simp
  have HP0 := hid (show Opn7 w0 (w.heap.size + 1) from by
    rw [← hw0]
    have := Box7.new (v0 := .int .i64 0) (v1 := .int .i64 0) (v2 := .int .i64 0) (v3 := .bool false) (v4 := .int .u8 0) (v5 := .slice none 0 0) (v6 := .slice none 0 0) (w.alloc (.cells #[.int .u8 13, .slice xd nd cd'] 35)) 38
    rw [World.size_alloc] at this
    exact ⟨_, _, _, _, _, _, _, this⟩)
  have HI0 := hid (HIN.out w0 hb0)
  have HB0 := hid hb0
  have HW0 := hid hw0
  clear h HIN hw0 hb0 hl
  go_enter Tryd.func16, Tryd.ntmps16
  go_wp2_with fail
  rw [HW0.out]
  with_reducible refine HI0.out.mono ?_
  rintro e w1 ⟨cv, rv, rfl, ho1, ho2, hb1, hk1, hk2⟩
  obtain ⟨er, ⟨k, cd, md, al, rq, cs', rs'⟩⟩ := m
  dsimp only [acV] at ho1 ho2 ⊢
  obtain ⟨xv, nv, cv', rfl⟩ := own_slice ho1
  obtain ⟨xr, nr, cr', rfl⟩ := own_slice ho2
  have hz1 := hb1.size
  have HB1 := hid (below_t HB0.out hb1)
  have HOP := hid (HP0.out.step hb1)
  have HO1 := hid ho1
  have HO2 := hid ho2
  have HK1 := hid (show ∀ j ∈ blkV (.slice xv nv cv'), w.heap.size + 1 < j from fun j q => by have := hk1 j q; omega)
  have HK2 := hid (show ∀ j ∈ blkV (.slice xr nr cr'), w.heap.size + 1 < j from fun j q => by have := hk2 j q; omega)
  obtain ⟨z0, z1, z2, z3, z4, z5, z6, y0, y1, y2, y3, y4, y5, y6, y7, y8, y9, ya, yb, yc, yd⟩ := HOP.out.out
  clear ho1 ho2 hb1 hk1 hk2
  go_wp2
  obtain ⟨k0, k1, k2, k3, k4, k5, k6, -⟩ := Opn7.put (w := w1) (b := (w.heap.size + 1)) HOP.out (.int .i64 k) (.int .i64 cd) (.int .i64 md) (.bool al) (.int .u8 rq) (.slice xv nv cv') (.slice xr nr cr')
  have HF := hid (show ErD (er, ⟨k, cd, md, al, rq, cs', rs'⟩) w (.returned (.tuple #[acV ⟨k, cd, md, al, rq, cs', rs'⟩ (.slice xv nv cv') (.slice xr nr cr'), .int .i64 er])) (put7 w1 (w.heap.size + 1) (.int .i64 k) (.int .i64 cd) (.int .i64 md) (.bool al) (.int .u8 rq) (.slice xv nv cv') (.slice xr nr cr')) from ⟨_, _, rfl, put7_own HO1.out HK1.out _ _ _ _ _ _ _, put7_own HO2.out HK2.out _ _ _ _ _ _ _, put7_below HB1.out (by omega) _ _ _ _ _ _ _, fun j q => by have := HK1.out j q; omega, fun j q => by have := HK2.out j q; omega⟩)
  revert HF k0 k1 k2 k3 k4 k5 k6
  generalize hW : put7 w1 (w.heap.size + 1) (.int .i64 k) (.int .i64 cd) (.int .i64 md) (.bool al) (.int .u8 rq) (.slice xv nv cv') (.slice xr nr cr') = Wf
  intro k0 k1 k2 k3 k4 k5 k6 HF
  unfold put7 at hW
  rw [hW]
  exact bodyPost_ret (v := .tuple #[.agg #[.int .i64 k, .int .i64 cd, .int .i64 md, .bool al, .int .u8 rq, .slice xv nv cv', .slice xr nr cr'], .int .i64 er]) (by simp [results, Tryd.results16, go_sem, k0, k1, k2, k3, k4, k5, k6]) rfl HF.out
set_option maxRecDepth 100000 in
set_option maxHeartbeats 4000000 in
theorem act_14 (dv : Value) (xs : List Int) (w : World) (h : Reads w dv xs) (hl : xs.length ≤ 10000000) : Calls Tryd.prog 16 #[.agg #[.int .u8 14, dv]] w (ErD (inP activateM xs) w) := by
  have HIN := hid (fun W (hW : Below w.heap.size w W) => inp_activateAct 14 dv xs W (reads_below h hW) hl)
  generalize inP activateM xs = m at HIN ⊢
  obtain ⟨xd, cd', rfl⟩ := reads_sl h
  generalize xs.length = nd at *
  obtain ⟨w0, hw0⟩ : ∃ w0, (w.alloc (.cells #[.int .u8 14, .slice xd nd cd'] 35)).alloc (.cells #[.int .i64 0, .int .i64 0, .int .i64 0, .bool false, .int .u8 0, .slice none 0 0, .slice none 0 0] 38) = w0 := ⟨_, rfl⟩
  have hb0 : Below w.heap.size w w0 := by rw [← hw0]; exact bal (bal (Below.refl _ _) _) _
  have hz0 : w0.heap.size = w.heap.size + 2 := by rw [← hw0]; simp
  have HP0 := hid (show Opn7 w0 (w.heap.size + 1) from by
    rw [← hw0]
    have := Box7.new (v0 := .int .i64 0) (v1 := .int .i64 0) (v2 := .int .i64 0) (v3 := .bool false) (v4 := .int .u8 0) (v5 := .slice none 0 0) (v6 := .slice none 0 0) (w.alloc (.cells #[.int .u8 14, .slice xd nd cd'] 35)) 38
    rw [World.size_alloc] at this
    exact ⟨_, _, _, _, _, _, _, this⟩)
  have HI0 := hid (HIN.out w0 hb0)
  have HB0 := hid hb0
  have HW0 := hid hw0
  clear h HIN hw0 hb0 hl
  go_enter Tryd.func16, Tryd.ntmps16
  go_wp2_with fail
  rw [HW0.out]
  with_reducible refine HI0.out.mono ?_
  rintro e w1 ⟨cv, rv, rfl, ho1, ho2, hb1, hk1, hk2⟩
  obtain ⟨er, ⟨k, cd, md, al, rq, cs', rs'⟩⟩ := m
  dsimp only [acV] at ho1 ho2 ⊢
  obtain ⟨xv, nv, cv', rfl⟩ := own_slice ho1
  obtain ⟨xr, nr, cr', rfl⟩ := own_slice ho2
  have hz1 := hb1.size
  have HB1 := hid (below_t HB0.out hb1)
  have HOP := hid (HP0.out.step hb1)
  have HO1 := hid ho1
  have HO2 := hid ho2
  have HK1 := hid (show ∀ j ∈ blkV (.slice xv nv cv'), w.heap.size + 1 < j from fun j q => by have := hk1 j q; omega)
  have HK2 := hid (show ∀ j ∈ blkV (.slice xr nr cr'), w.heap.size + 1 < j from fun j q => by have := hk2 j q; omega)
  obtain ⟨z0, z1, z2, z3, z4, z5, z6, y0, y1, y2, y3, y4, y5, y6, y7, y8, y9, ya, yb, yc, yd⟩ := HOP.out.out
  clear ho1 ho2 hb1 hk1 hk2
  go_wp2
  obtain ⟨k0, k1, k2, k3, k4, k5, k6, -⟩ := Opn7.put (w := w1) (b := (w.heap.size + 1)) HOP.out (.int .i64 k) (.int .i64 cd) (.int .i64 md) (.bool al) (.int .u8 rq) (.slice xv nv cv') (.slice xr nr cr')
  have HF := hid (show ErD (er, ⟨k, cd, md, al, rq, cs', rs'⟩) w (.returned (.tuple #[acV ⟨k, cd, md, al, rq, cs', rs'⟩ (.slice xv nv cv') (.slice xr nr cr'), .int .i64 er])) (put7 w1 (w.heap.size + 1) (.int .i64 k) (.int .i64 cd) (.int .i64 md) (.bool al) (.int .u8 rq) (.slice xv nv cv') (.slice xr nr cr')) from ⟨_, _, rfl, put7_own HO1.out HK1.out _ _ _ _ _ _ _, put7_own HO2.out HK2.out _ _ _ _ _ _ _, put7_below HB1.out (by omega) _ _ _ _ _ _ _, fun j q => by have := HK1.out j q; omega, fun j q => by have := HK2.out j q; omega⟩)
  revert HF k0 k1 k2 k3 k4 k5 k6
  generalize hW : put7 w1 (w.heap.size + 1) (.int .i64 k) (.int .i64 cd) (.int .i64 md) (.bool al) (.int .u8 rq) (.slice xv nv cv') (.slice xr nr cr') = Wf
  intro k0 k1 k2 k3 k4 k5 k6 HF
  unfold put7 at hW
  rw [hW]
  exact bodyPost_ret (v := .tuple #[.agg #[.int .i64 k, .int .i64 cd, .int .i64 md, .bool al, .int .u8 rq, .slice xv nv cv', .slice xr nr cr'], .int .i64 er]) (by simp [results, Tryd.results16, go_sem, k0, k1, k2, k3, k4, k5, k6]) rfl HF.out
set_option maxRecDepth 100000 in
set_option maxHeartbeats 4000000 in
theorem act_64 (dv : Value) (xs : List Int) (w : World) (h : Reads w dv xs) (hl : xs.length ≤ 10000000) (hC : Cods w) : Calls Tryd.prog 16 #[.agg #[.int .u8 64, dv]] w (ErD (inP outM xs) w) := by
  have HIN := hid (fun W (hW : Below w.heap.size w W) => inp_outboundAct 64 dv xs W (reads_below h hW) hl (hC.go hW))
  generalize inP outM xs = m at HIN ⊢
  obtain ⟨xd, cd', rfl⟩ := reads_sl h
  generalize xs.length = nd at *
  obtain ⟨w0, hw0⟩ : ∃ w0, (w.alloc (.cells #[.int .u8 64, .slice xd nd cd'] 35)).alloc (.cells #[.int .i64 0, .int .i64 0, .int .i64 0, .bool false, .int .u8 0, .slice none 0 0, .slice none 0 0] 38) = w0 := ⟨_, rfl⟩
  have hb0 : Below w.heap.size w w0 := by rw [← hw0]; exact bal (bal (Below.refl _ _) _) _
  have hz0 : w0.heap.size = w.heap.size + 2 := by rw [← hw0]; simp
  have HP0 := hid (show Opn7 w0 (w.heap.size + 1) from by
    rw [← hw0]
    have := Box7.new (v0 := .int .i64 0) (v1 := .int .i64 0) (v2 := .int .i64 0) (v3 := .bool false) (v4 := .int .u8 0) (v5 := .slice none 0 0) (v6 := .slice none 0 0) (w.alloc (.cells #[.int .u8 64, .slice xd nd cd'] 35)) 38
    rw [World.size_alloc] at this
    exact ⟨_, _, _, _, _, _, _, this⟩)
  have HI0 := hid (HIN.out w0 hb0)
  have HB0 := hid hb0
  have HW0 := hid hw0
  clear h HIN hw0 hb0 hl hC
  go_enter Tryd.func16, Tryd.ntmps16
  go_wp2_with fail
  rw [HW0.out]
  with_reducible refine HI0.out.mono ?_
  rintro e w1 ⟨cv, rv, rfl, ho1, ho2, hb1, hk1, hk2⟩
  obtain ⟨er, ⟨k, cd, md, al, rq, cs', rs'⟩⟩ := m
  dsimp only [acV] at ho1 ho2 ⊢
  obtain ⟨xv, nv, cv', rfl⟩ := own_slice ho1
  obtain ⟨xr, nr, cr', rfl⟩ := own_slice ho2
  have hz1 := hb1.size
  have HB1 := hid (below_t HB0.out hb1)
  have HOP := hid (HP0.out.step hb1)
  have HO1 := hid ho1
  have HO2 := hid ho2
  have HK1 := hid (show ∀ j ∈ blkV (.slice xv nv cv'), w.heap.size + 1 < j from fun j q => by have := hk1 j q; omega)
  have HK2 := hid (show ∀ j ∈ blkV (.slice xr nr cr'), w.heap.size + 1 < j from fun j q => by have := hk2 j q; omega)
  obtain ⟨z0, z1, z2, z3, z4, z5, z6, y0, y1, y2, y3, y4, y5, y6, y7, y8, y9, ya, yb, yc, yd⟩ := HOP.out.out
  clear ho1 ho2 hb1 hk1 hk2
  go_wp2
  obtain ⟨k0, k1, k2, k3, k4, k5, k6, -⟩ := Opn7.put (w := w1) (b := (w.heap.size + 1)) HOP.out (.int .i64 k) (.int .i64 cd) (.int .i64 md) (.bool al) (.int .u8 rq) (.slice xv nv cv') (.slice xr nr cr')
  have HF := hid (show ErD (er, ⟨k, cd, md, al, rq, cs', rs'⟩) w (.returned (.tuple #[acV ⟨k, cd, md, al, rq, cs', rs'⟩ (.slice xv nv cv') (.slice xr nr cr'), .int .i64 er])) (put7 w1 (w.heap.size + 1) (.int .i64 k) (.int .i64 cd) (.int .i64 md) (.bool al) (.int .u8 rq) (.slice xv nv cv') (.slice xr nr cr')) from ⟨_, _, rfl, put7_own HO1.out HK1.out _ _ _ _ _ _ _, put7_own HO2.out HK2.out _ _ _ _ _ _ _, put7_below HB1.out (by omega) _ _ _ _ _ _ _, fun j q => by have := HK1.out j q; omega, fun j q => by have := HK2.out j q; omega⟩)
  revert HF k0 k1 k2 k3 k4 k5 k6
  generalize hW : put7 w1 (w.heap.size + 1) (.int .i64 k) (.int .i64 cd) (.int .i64 md) (.bool al) (.int .u8 rq) (.slice xv nv cv') (.slice xr nr cr') = Wf
  intro k0 k1 k2 k3 k4 k5 k6 HF
  unfold put7 at hW
  rw [hW]
  exact bodyPost_ret (v := .tuple #[.agg #[.int .i64 k, .int .i64 cd, .int .i64 md, .bool al, .int .u8 rq, .slice xv nv cv', .slice xr nr cr'], .int .i64 er]) (by simp [results, Tryd.results16, go_sem, k0, k1, k2, k3, k4, k5, k6]) rfl HF.out
set_option maxRecDepth 100000 in
set_option maxHeartbeats 4000000 in
theorem act_3 (dv : Value) (xs : List Int) (w : World) (h : Reads w dv xs) : Calls Tryd.prog 16 #[.agg #[.int .u8 3, dv]] w (ErD (eraseM xs) w) := by
  have HIN := hid (fun W (hW : Below w.heap.size w W) => eraseAct_any dv xs W (reads_below h hW))
  generalize eraseM xs = m at HIN ⊢
  obtain ⟨xd, cd', rfl⟩ := reads_sl h
  generalize xs.length = nd at *
  obtain ⟨w0, hw0⟩ : ∃ w0, (w.alloc (.cells #[.int .u8 3, .slice xd nd cd'] 35)).alloc (.cells #[.int .i64 0, .int .i64 0, .int .i64 0, .bool false, .int .u8 0, .slice none 0 0, .slice none 0 0] 38) = w0 := ⟨_, rfl⟩
  have hb0 : Below w.heap.size w w0 := by rw [← hw0]; exact bal (bal (Below.refl _ _) _) _
  have hz0 : w0.heap.size = w.heap.size + 2 := by rw [← hw0]; simp
  have HP0 := hid (show Opn7 w0 (w.heap.size + 1) from by
    rw [← hw0]
    have := Box7.new (v0 := .int .i64 0) (v1 := .int .i64 0) (v2 := .int .i64 0) (v3 := .bool false) (v4 := .int .u8 0) (v5 := .slice none 0 0) (v6 := .slice none 0 0) (w.alloc (.cells #[.int .u8 3, .slice xd nd cd'] 35)) 38
    rw [World.size_alloc] at this
    exact ⟨_, _, _, _, _, _, _, this⟩)
  have HI0 := hid (HIN.out w0 hb0)
  have HB0 := hid hb0
  have HW0 := hid hw0
  clear h HIN hw0 hb0
  go_enter Tryd.func16, Tryd.ntmps16
  go_wp2_with fail
  rw [HW0.out]
  with_reducible refine HI0.out.mono ?_
  rintro e w1 ⟨cv, rv, rfl, ho1, ho2, hb1, hk1, hk2⟩
  obtain ⟨er, ⟨k, cd, md, al, rq, cs', rs'⟩⟩ := m
  dsimp only [acV] at ho1 ho2 ⊢
  obtain ⟨xv, nv, cv', rfl⟩ := own_slice ho1
  obtain ⟨xr, nr, cr', rfl⟩ := own_slice ho2
  have hz1 := hb1.size
  have HB1 := hid (below_t HB0.out hb1)
  have HOP := hid (HP0.out.step hb1)
  have HO1 := hid ho1
  have HO2 := hid ho2
  have HK1 := hid (show ∀ j ∈ blkV (.slice xv nv cv'), w.heap.size + 1 < j from fun j q => by have := hk1 j q; omega)
  have HK2 := hid (show ∀ j ∈ blkV (.slice xr nr cr'), w.heap.size + 1 < j from fun j q => by have := hk2 j q; omega)
  obtain ⟨z0, z1, z2, z3, z4, z5, z6, y0, y1, y2, y3, y4, y5, y6, y7, y8, y9, ya, yb, yc, yd⟩ := HOP.out.out
  clear ho1 ho2 hb1 hk1 hk2
  go_wp2
  obtain ⟨k0, k1, k2, k3, k4, k5, k6, -⟩ := Opn7.put (w := w1) (b := (w.heap.size + 1)) HOP.out (.int .i64 k) (.int .i64 cd) (.int .i64 md) (.bool al) (.int .u8 rq) (.slice xv nv cv') (.slice xr nr cr')
  have HF := hid (show ErD (er, ⟨k, cd, md, al, rq, cs', rs'⟩) w (.returned (.tuple #[acV ⟨k, cd, md, al, rq, cs', rs'⟩ (.slice xv nv cv') (.slice xr nr cr'), .int .i64 er])) (put7 w1 (w.heap.size + 1) (.int .i64 k) (.int .i64 cd) (.int .i64 md) (.bool al) (.int .u8 rq) (.slice xv nv cv') (.slice xr nr cr')) from ⟨_, _, rfl, put7_own HO1.out HK1.out _ _ _ _ _ _ _, put7_own HO2.out HK2.out _ _ _ _ _ _ _, put7_below HB1.out (by omega) _ _ _ _ _ _ _, fun j q => by have := HK1.out j q; omega, fun j q => by have := HK2.out j q; omega⟩)
  revert HF k0 k1 k2 k3 k4 k5 k6
  generalize hW : put7 w1 (w.heap.size + 1) (.int .i64 k) (.int .i64 cd) (.int .i64 md) (.bool al) (.int .u8 rq) (.slice xv nv cv') (.slice xr nr cr') = Wf
  intro k0 k1 k2 k3 k4 k5 k6 HF
  unfold put7 at hW
  rw [hW]
  exact bodyPost_ret (v := .tuple #[.agg #[.int .i64 k, .int .i64 cd, .int .i64 md, .bool al, .int .u8 rq, .slice xv nv cv', .slice xr nr cr'], .int .i64 er]) (by simp [results, Tryd.results16, go_sem, k0, k1, k2, k3, k4, k5, k6]) rfl HF.out
set_option maxRecDepth 100000 in
set_option maxHeartbeats 4000000 in
theorem act_no (id : Int) (dv : Value) (xs : List Int) (w : World) (h : Reads w dv xs) (h1 : id ≠ 1) (h3 : id ≠ 3) (h9 : id ≠ 9) (h12 : id ≠ 12) (h13 : id ≠ 13) (h14 : id ≠ 14) (h64 : id ≠ 64) : Calls Tryd.prog 16 #[.agg #[.int .u8 id, dv]] w (ErD (10, acZ) w) := by
  have HE := hid (fun w' hb => er_plain (m := (10, acZ)) (w := w) (w' := w') rfl rfl hb)
  obtain ⟨xd, cd', rfl⟩ := reads_sl h
  have e1 : (id == 1) = false := by simpa using h1
  have e3 : (id == 3) = false := by simpa using h3
  have e9 : (id == 9) = false := by simpa using h9
  have e12 : (id == 12) = false := by simpa using h12
  have e13 : (id == 13) = false := by simpa using h13
  have e14 : (id == 14) = false := by simpa using h14
  have e64 : (id == 64) = false := by simpa using h64
  clear h h1 h3 h9 h12 h13 h14 h64
  go_enter Tryd.func16, Tryd.ntmps16
  go_wp2
  refine bodyPost_ret (v := .tuple #[.agg #[.int .i64 0, .int .i64 0, .int .i64 0, .bool false, .int .u8 0, .slice none 0 0, .slice none 0 0], .int .i64 10]) (by simp [results, Tryd.results16, go_sem]) rfl (HE.out _ ?_)
  exact bal (bal (Below.refl _ _) _) _
theorem act_any (d : SfD) (dv : Value) (w : World) (h : Reads w dv d.data) (hl : d.data.length ≤ 10000000) (hC : Cods w) : Calls Tryd.prog 16 #[.agg #[.int .u8 d.id, dv]] w (ErD (actF d) w) := by
  obtain ⟨id, xs⟩ := d
  dsimp only at h hl ⊢
  by_cases h1 : id = 1
  · subst h1
    exact act_1 dv xs w h hl hC
  by_cases h3 : id = 3
  · subst h3
    exact act_3 dv xs w h
  by_cases h9 : id = 9
  · subst h9
    exact act_9 dv xs w h hl
  by_cases h12 : id = 12
  · subst h12
    exact act_12 dv xs w h hl
  by_cases h13 : id = 13
  · subst h13
    exact act_13 dv xs w h hl
  by_cases h14 : id = 14
  · subst h14
    exact act_14 dv xs w h hl
  by_cases h64 : id = 64
  · subst h64
    exact act_64 dv xs w h hl hC
  have e : actF ⟨id, xs⟩ = (10, acZ) := by
    unfold actF
    simp only [h1, h3, h9, h12, h13, h14, h64, if_false]
  rw [e]
  exact act_no id dv xs w h h1 h3 h9 h12 h13 h14 h64
end Go.Proofs.YtdpgmepblmlaaaaDoor
