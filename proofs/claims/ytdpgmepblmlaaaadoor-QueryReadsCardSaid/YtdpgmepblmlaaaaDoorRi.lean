/-
  sfield: the partition; what a field asks for.
-/
import Derived.Test.YtdpgmepblmlaaaaDoorRh
import Derived.Deep.DeepCutAuto
namespace Go.Proofs.YtdpgmepblmlaaaaDoor
open Go.RowKit Go.Lib Go.Deep

set_option maxRecDepth 100000 in
set_option maxHeartbeats 2000000 in
theorem part_any (a : AcD) (cv rv : Value) (hcv : ∃ x n c, cv = .slice x n c) (hrv : ∃ x n c, rv = .slice x n c) (w : World) : Calls Tryd.prog 71 #[acV a cv rv] w fun e w' => e = .returned (.int .u8 (partA a)) ∧ Below w.heap.size w w' := by
  obtain ⟨x, n, c, rfl⟩ := hcv
  obtain ⟨x', n', c', rfl⟩ := hrv
  obtain ⟨k, cd, md, al, rq, cs, rs⟩ := a
  unfold acV partA
  dsimp only
  by_cases h1 : k = 1
  · subst h1
    go_enter Tryd.func71, Tryd.ntmps71
    go_wp2
    go_ret
    exact ⟨rfl, bal (Below.refl _ _) _⟩
  by_cases h2 : k = 2
  · subst h2
    go_enter Tryd.func71, Tryd.ntmps71
    go_wp2
    go_ret
    exact ⟨rfl, bal (Below.refl _ _) _⟩
  have e : (if k = 1 ∨ k = 2 then (255 : Int) else 0) = 0 := if_neg (by omega)
  rw [e]
  have e1 : (k == 1) = false := by simpa using h1
  have e2 : (k == 2) = false := by simpa using h2
  clear e h1 h2
  go_enter Tryd.func71, Tryd.ntmps71
  go_wp2
  go_ret
  exact ⟨rfl, bal (Below.refl _ _) _⟩
theorem Opn7.putZ {w0 w : World} {b : Nat} {m : Int × AcD} (h : Below w0.heap.size w0 w) (hb : w0.heap.size ≤ b) (hm : m.2 = acZ) : ErD m w0 (.returned (.tuple #[acV acZ (.slice none 0 0) (.slice none 0 0), .int .i64 m.1])) (put7 w b (.int .i64 0) (.int .i64 0) (.int .i64 0) (.bool false) (.int .u8 0) (.slice none 0 0) (.slice none 0 0)) := by
  have q := er_plain (m := m) (w := w0) (w' := put7 w b (.int .i64 0) (.int .i64 0) (.int .i64 0) (.bool false) (.int .u8 0) (.slice none 0 0) (.slice none 0 0)) (by rw [hm]; rfl) (by rw [hm]; rfl) (put7_below h hb _ _ _ _ _ _ _)
  rwa [hm] at q
/-- Seven cells, a slice and a byte of it, beside a box that may be written. -/
abbrev Prt (w0 w : World) (g o : Nat) (q : Int) (B0 : Nat) (dv : Value) (B6 : Nat) (v0 v1 v2 v3 v4 v5 v6 : Value) (B1 : Nat) : Prop := w.cell? ⟨B0, 1, none⟩ = some dv ∧ w.cell? ⟨g, o, none⟩ = some (.int .u8 q) ∧ w.cell? ⟨B6, 0, none⟩ = some v0 ∧ w.cell? ⟨B6, 1, none⟩ = some v1 ∧ w.cell? ⟨B6, 2, none⟩ = some v2 ∧ w.cell? ⟨B6, 3, none⟩ = some v3 ∧ w.cell? ⟨B6, 4, none⟩ = some v4 ∧ w.cell? ⟨B6, 5, none⟩ = some v5 ∧ w.cell? ⟨B6, 6, none⟩ = some v6 ∧ Opn7 w B1 ∧ Below w0.heap.size w0 w
theorem prt_step {w0 w w' : World} {g o : Nat} {q : Int} {B0 : Nat} {dv : Value} {B6 : Nat} {v0 v1 v2 v3 v4 v5 v6 : Value} {B1 : Nat} (h : Prt w0 w g o q B0 dv B6 v0 v1 v2 v3 v4 v5 v6 B1) (hb : Below w.heap.size w w') : Prt w0 w' g o q B0 dv B6 v0 v1 v2 v3 v4 v5 v6 B1 := by
  obtain ⟨h0, h1, h2, h3, h4, h5, h6, h7, h8, h9, ha⟩ := h
  exact ⟨keepc hb h0, keepc hb h1, keepc hb h2, keepc hb h3, keepc hb h4, keepc hb h5, keepc hb h6, keepc hb h7, keepc hb h8, h9.step hb, below_t ha hb⟩
theorem Prt.drew {w0 w : World} {g o : Nat} {q : Int} {B0 : Nat} {dv : Value} {B6 : Nat} {v0 v1 v2 v3 v4 v5 v6 : Value} {B1 : Nat} (h : Prt w0 w g o q B0 dv B6 v0 v1 v2 v3 v4 v5 v6 B1) : Prt w0 w.drew g o q B0 dv B6 v0 v1 v2 v3 v4 v5 v6 B1 := prt_step h (Below.refl _ _).drew
set_option maxRecDepth 100000 in
set_option maxHeartbeats 4000000 in
theorem inp_readAct (id : Int) (v : Value) (xs : List Int) (w : World) (h : Reads w v xs) (hl : xs.length ≤ 10000000) (hC : Cods w) : Calls Tryd.prog 48 #[.agg #[.int .u8 id, v], .func (.func 49) #[] #[]] w (ErD (inP readM xs) w) := by
  rcases reads_cons h with ⟨x, c, rfl, rfl⟩ | ⟨g, o, c, r, q, hq, rfl, rfl, c0, hc, hm⟩
  · have HE := hid (fun w' hb => er_plain (m := inP readM []) (w := w) (w' := w') rfl rfl hb)
    clear h
    go_enter Tryd.func48, Tryd.ntmps48
    go_wp2
    refine bodyPost_ret (v := .tuple #[.agg #[.int .i64 0, .int .i64 0, .int .i64 0, .bool false, .int .u8 0, .slice none 0 0, .slice none 0 0], .int .i64 4]) (by simp [results, Tryd.results48, go_sem]) rfl (HE.out _ ?_)
    exact bal (bal (Below.refl _ _) _) _
  have hgl : g < w.heap.size := World.block_lt_of_cell? w _ c0
  have hl0 : 0 < r.length + 1 := by omega
  have hM := inP_cons readM (q : Int) r
  obtain ⟨w0, hw0⟩ : ∃ w0, (w.alloc (.cells #[.int .u8 id, .slice (some ⟨g, o, none⟩) (r.length + 1) c] 35)).alloc (.cells #[.int .i64 0, .int .i64 0, .int .i64 0, .bool false, .int .u8 0, .slice none 0 0, .slice none 0 0] 38) = w0 := ⟨_, rfl⟩
  have hb0 : Below w.heap.size w w0 := by rw [← hw0]; exact bal (bal (Below.refl _ _) _) _
  have hz0 : w0.heap.size = w.heap.size + 2 := by rw [← hw0]; simp
  have hf0 : w0.cell? ⟨w.heap.size, 1, none⟩ = some (.slice (some ⟨g, o, none⟩) (r.length + 1) c) := by rw [← hw0]; simp [go_sem]
  have HP0 := hid (show Opn7 w0 (w.heap.size + 1) from by
    rw [← hw0]
    have := Box7.new (v0 := .int .i64 0) (v1 := .int .i64 0) (v2 := .int .i64 0) (v3 := .bool false) (v4 := .int .u8 0) (v5 := .slice none 0 0) (v6 := .slice none 0 0) (w.alloc (.cells #[.int .u8 id, .slice (some ⟨g, o, none⟩) (r.length + 1) c] 35)) 38
    rw [World.size_alloc] at this
    exact ⟨_, _, _, _, _, _, _, this⟩)
  have e0 : (((r.length + 1 : Nat) : Int) == 0) = false := by simp; omega
  have hn1 : (0 : Int) < ((r.length + 1 : Nat) : Int) := by omega
  obtain ⟨xs, cs, hsl0, hrd⟩ := from_all h 1 (by simp)
  have hdr : ((q : Int) :: r).drop 1 = r := rfl
  rw [hdr] at hrd
  have hlen : ((q : Int) :: r).length - 1 = r.length := by simp
  rw [hlen] at hsl0 hrd
  have HME := hid (fun W (hW : Below w.heap.size w W) => readAct_any _ r W (hrd W (reads_below h hW)) (by simp at hl; omega) (hC.go hW))
  have HME0 := hid (HME.out w0 hb0)
  have hsl : ∀ w', (Instr.sliceAt 22 (.slice (some ⟨g, o, none⟩) (r.length + 1) c) (some (.int .i64 1)) none none).run Tryd.prog w' = .ok (.slice xs r.length cs) w' := hsl0
  have HB0 := hid hb0
  have HF0 := hid hf0
  have HC0 := hid c0
  generalize inP readM ((q : Int) :: r) = R at hM ⊢
  generalize r.length = n at *
  have hn1' : (1 : Nat) ≤ n + 1 := by omega
  generalize n + 1 = N at *
  clear h hsl0 hlen hdr hrd hl hc hm HME hf0 hC
  generalize readM r = m at HME0 hM
  have HRR := hid hM.symm
  clear hM
  have HW0 := hid hw0
  have IZ := hid hn1
  have JZ := hid hl0
  clear hw0 hb0
  go_enter Tryd.func48, Tryd.ntmps48
  go_wp2_with fail
  rw [HW0.out]
  with_reducible refine HME0.out.mono ?_
  rintro e w1 ⟨cv, rv, rfl, ho1, ho2, hb1, hk1, hk2⟩
  obtain ⟨⟨k, cd, md, al, rq, cs', rs'⟩, res⟩ := m
  dsimp only [acV] at ho1 ho2 ⊢
  obtain ⟨xv, nv, cv', rfl⟩ := own_slice ho1
  obtain ⟨xr, nr, cr', rfl⟩ := own_slice ho2
  have hz1 := hb1.size
  have HB1 := hid (below_t HB0.out hb1)
  have HP1 := hid (HP0.out.step hb1)
  have hf1 := keepc hb1 HF0.out
  have hc1 := keepc (below_t HB0.out hb1) HC0.out
  have HO1 := hid ho1
  have HO2 := hid ho2
  have HK1 := hid (show ∀ j ∈ blkV (.slice xv nv cv'), w.heap.size + 1 < j from fun j q => by have := hk1 j q; omega)
  have HK2 := hid (show ∀ j ∈ blkV (.slice xr nr cr'), w.heap.size + 1 < j from fun j q => by have := hk2 j q; omega)
  obtain ⟨w2, hw2⟩ : ∃ w2, w1.alloc (.cells #[.int .i64 k, .int .i64 cd, .int .i64 md, .bool al, .int .u8 rq, .slice xv nv cv', .slice xr nr cr'] 38) = w2 := ⟨_, rfl⟩
  have hb2 : Below w1.heap.size w1 w2 := by rw [← hw2]; exact bal (Below.refl _ _) _
  have HB2 := hid (below_t HB1.out hb2)
  have HOP := hid (HP1.out.step hb2)
  have HO1' := hid (HO1.out.step hb2)
  have HO2' := hid (HO2.out.step hb2)
  have HX2 := hid (show Prt w2 w2 g o q w.heap.size (.slice (some ⟨g, o, none⟩) N c) w1.heap.size (.int .i64 k) (.int .i64 cd) (.int .i64 md) (.bool al) (.int .u8 rq) (.slice xv nv cv') (.slice xr nr cr') (w.heap.size + 1) from by
    have b7 := Box7.new (v0 := .int .i64 k) (v1 := .int .i64 cd) (v2 := .int .i64 md) (v3 := .bool al) (v4 := .int .u8 rq) (v5 := .slice xv nv cv') (v6 := .slice xr nr cr') w1 38
    rw [hw2] at b7
    exact ⟨keepc hb2 hf1, keepc hb2 hc1, b7.c0, b7.c1, b7.c2, b7.c3, b7.c4, b7.c5, b7.c6, HOP.out, Below.refl _ _⟩)
  have HPA := hid (fun W => part_any ⟨k, cd, md, al, rq, cs', rs'⟩ (.slice xv nv cv') (.slice xr nr cr') ⟨_, _, _, rfl⟩ ⟨_, _, _, rfl⟩ W)
  unfold acV at HPA
  dsimp only at HPA
  have HW2 := hid hw2
  clear ho1 ho2 hb1 hb2 hk1 hk2 hw2
  cases res
  · obtain rfl : R = (4, acZ) := HRR.out.symm.trans (if_neg Bool.false_ne_true)
    obtain ⟨z0, z1, z2, z3, z4, z5, z6, y0, y1, y2, y3, y4, y5, y6, y7, y8, y9, ya, yb, yc, yd⟩ := HOP.out.out

    clear hf1 hc1
    have hw2 := HW2.out
    go_wp2
    obtain ⟨k0, k1, k2, k3, k4, k5, k6, -⟩ := Opn7.put (w := w2) (b := (w.heap.size + 1)) HOP.out (.int .i64 0) (.int .i64 0) (.int .i64 0) (.bool false) (.int .u8 0) (.slice none 0 0) (.slice none 0 0)
    have HF := hid (show ErD (4, acZ) w (.returned (.tuple #[acV acZ (.slice none 0 0) (.slice none 0 0), .int .i64 4])) (put7 w2 (w.heap.size + 1) (.int .i64 0) (.int .i64 0) (.int .i64 0) (.bool false) (.int .u8 0) (.slice none 0 0) (.slice none 0 0)) from Opn7.putZ (m := (4, acZ)) HB2.out (by omega) rfl)
    revert HF k0 k1 k2 k3 k4 k5 k6
    generalize hW : put7 w2 (w.heap.size + 1) (.int .i64 0) (.int .i64 0) (.int .i64 0) (.bool false) (.int .u8 0) (.slice none 0 0) (.slice none 0 0) = Wf
    intro k0 k1 k2 k3 k4 k5 k6 HF
    unfold put7 at hW
    rw [hW]
    exact bodyPost_ret (v := .tuple #[.agg #[.int .i64 0, .int .i64 0, .int .i64 0, .bool false, .int .u8 0, .slice none 0 0, .slice none 0 0], .int .i64 4]) (by simp [results, Tryd.results48, go_sem, k0, k1, k2, k3, k4, k5, k6]) rfl HF.out
  · go_upto_region 6 with fail
    rw [HW2.out]
    clear hf1 hc1 c0
    have HX2' := hid HX2.out.drew
    clear hl0 hn1 e0 hn1' hgl
    go_cut [30] (fun v wx => v = .bool ((q : Int) != partA ⟨k, cd, md, al, rq, cs', rs'⟩) ∧ Prt w2 wx g o q w.heap.size (.slice (some ⟨g, o, none⟩) N c) w1.heap.size (.int .i64 k) (.int .i64 cd) (.int .i64 md) (.bool al) (.int .u8 rq) (.slice xv nv cv') (.slice xr nr cr') (w.heap.size + 1))
    case first =>
      have i0 : (0 : Int) < N := IZ.out
      have j0 : 0 < N := JZ.out
      go_region_held3 (fun w' => w'.cell? ⟨w.heap.size, 1, none⟩ = some (.slice (some ⟨g, o, none⟩) N c) ∧ w'.cell? ⟨g, o, none⟩ = some (.int .u8 q) ∧ w'.cell? ⟨w1.heap.size, 0, none⟩ = some (.int .i64 k) ∧ w'.cell? ⟨w1.heap.size, 1, none⟩ = some (.int .i64 cd) ∧ w'.cell? ⟨w1.heap.size, 2, none⟩ = some (.int .i64 md) ∧ w'.cell? ⟨w1.heap.size, 3, none⟩ = some (.bool al) ∧ w'.cell? ⟨w1.heap.size, 4, none⟩ = some (.int .u8 rq) ∧ w'.cell? ⟨w1.heap.size, 5, none⟩ = some (.slice xv nv cv') ∧ w'.cell? ⟨w1.heap.size, 6, none⟩ = some (.slice xr nr cr') ∧ Opn7 w' (w.heap.size + 1) ∧ Below w2.heap.size w2 w') (first | with_reducible exact HX2'.out | with_reducible exact prt_step (by assumption) (by assumption) | fail) (first | (go_at_call 71; (with_reducible refine (HPA.out _).mono ?_); rintro e w3 ⟨rfl, hb3⟩))
      all_goals
        go_wp2_with fail
        go_meet
        exact ⟨rfl, by assumption⟩
    case rest =>
      obtain ⟨hv, hp⟩ := hcut
      have HOP := hid hp.2.2.2.2.2.2.2.2.2.1
      have HBc := hid hp.2.2.2.2.2.2.2.2.2.2
      have HB3 := hid (below_t HB2.out HBc.out)
      have HO1c := hid (HO1'.out.step HBc.out)
      have HO2c := hid (HO2'.out.step HBc.out)
      obtain ⟨z0, z1, z2, z3, z4, z5, z6, y0, y1, y2, y3, y4, y5, y6, y7, y8, y9, ya, yb, yc, yd⟩ := HOP.out.out
      by_cases hq2 : (q : Int) = partA ⟨k, cd, md, al, rq, cs', rs'⟩
      · obtain rfl : R = (0, ⟨k, cd, md, al, rq, cs', rs'⟩) := HRR.out.symm.trans ((if_pos rfl).trans (if_pos hq2))
        have hb : ((q : Int) != partA ⟨k, cd, md, al, rq, cs', rs'⟩) = false := by simpa using hq2
        rw [hb] at hv
        subst hv
        obtain ⟨-, -, x0, x1, x2, x3, x4, x5, x6, -, -⟩ := hp
        clear hb hq2
        go_wp2
        obtain ⟨k0, k1, k2, k3, k4, k5, k6, -⟩ := Opn7.put (w := wc) (b := (w.heap.size + 1)) HOP.out (.int .i64 k) (.int .i64 cd) (.int .i64 md) (.bool al) (.int .u8 rq) (.slice xv nv cv') (.slice xr nr cr')
        have HF := hid (show ErD (0, ⟨k, cd, md, al, rq, cs', rs'⟩) w (.returned (.tuple #[acV ⟨k, cd, md, al, rq, cs', rs'⟩ (.slice xv nv cv') (.slice xr nr cr'), .int .i64 0])) (put7 wc (w.heap.size + 1) (.int .i64 k) (.int .i64 cd) (.int .i64 md) (.bool al) (.int .u8 rq) (.slice xv nv cv') (.slice xr nr cr')) from ⟨_, _, rfl, put7_own HO1c.out HK1.out _ _ _ _ _ _ _, put7_own HO2c.out HK2.out _ _ _ _ _ _ _, put7_below HB3.out (by omega) _ _ _ _ _ _ _, fun j q => by have := HK1.out j q; omega, fun j q => by have := HK2.out j q; omega⟩)
        revert HF k0 k1 k2 k3 k4 k5 k6
        generalize hW : put7 wc (w.heap.size + 1) (.int .i64 k) (.int .i64 cd) (.int .i64 md) (.bool al) (.int .u8 rq) (.slice xv nv cv') (.slice xr nr cr') = Wf
        intro k0 k1 k2 k3 k4 k5 k6 HF
        unfold put7 at hW
        rw [hW]
        exact bodyPost_ret (v := .tuple #[.agg #[.int .i64 k, .int .i64 cd, .int .i64 md, .bool al, .int .u8 rq, .slice xv nv cv', .slice xr nr cr'], .int .i64 0]) (by simp [results, Tryd.results48, go_sem, k0, k1, k2, k3, k4, k5, k6]) rfl HF.out
      · obtain rfl : R = (1, acZ) := HRR.out.symm.trans ((if_pos rfl).trans (if_neg hq2))
        have hb : ((q : Int) != partA ⟨k, cd, md, al, rq, cs', rs'⟩) = true := by simpa using hq2
        rw [hb] at hv
        subst hv
        clear hb hq2 hp
        go_wp2
        obtain ⟨k0, k1, k2, k3, k4, k5, k6, -⟩ := Opn7.put (w := wc) (b := (w.heap.size + 1)) HOP.out (.int .i64 0) (.int .i64 0) (.int .i64 0) (.bool false) (.int .u8 0) (.slice none 0 0) (.slice none 0 0)
        have HF := hid (show ErD (1, acZ) w (.returned (.tuple #[acV acZ (.slice none 0 0) (.slice none 0 0), .int .i64 1])) (put7 wc (w.heap.size + 1) (.int .i64 0) (.int .i64 0) (.int .i64 0) (.bool false) (.int .u8 0) (.slice none 0 0) (.slice none 0 0)) from Opn7.putZ (m := (1, acZ)) HB3.out (by omega) rfl)
        revert HF k0 k1 k2 k3 k4 k5 k6
        generalize hW : put7 wc (w.heap.size + 1) (.int .i64 0) (.int .i64 0) (.int .i64 0) (.bool false) (.int .u8 0) (.slice none 0 0) (.slice none 0 0) = Wf
        intro k0 k1 k2 k3 k4 k5 k6 HF
        unfold put7 at hW
        rw [hW]
        exact bodyPost_ret (v := .tuple #[.agg #[.int .i64 0, .int .i64 0, .int .i64 0, .bool false, .int .u8 0, .slice none 0 0, .slice none 0 0], .int .i64 1]) (by simp [results, Tryd.results48, go_sem, k0, k1, k2, k3, k4, k5, k6]) rfl HF.out
set_option maxRecDepth 100000 in
set_option maxHeartbeats 4000000 in
theorem inp_modeAct (id : Int) (v : Value) (xs : List Int) (w : World) (h : Reads w v xs) (hl : xs.length ≤ 10000000) : Calls Tryd.prog 48 #[.agg #[.int .u8 id, v], .func (.func 51) #[] #[]] w (ErD (inP modeM xs) w) := by
  rcases reads_cons h with ⟨x, c, rfl, rfl⟩ | ⟨g, o, c, r, q, hq, rfl, rfl, c0, hc, hm⟩
  · have HE := hid (fun w' hb => er_plain (m := inP modeM []) (w := w) (w' := w') rfl rfl hb)
    clear h
    go_enter Tryd.func48, Tryd.ntmps48
    go_wp2
    refine bodyPost_ret (v := .tuple #[.agg #[.int .i64 0, .int .i64 0, .int .i64 0, .bool false, .int .u8 0, .slice none 0 0, .slice none 0 0], .int .i64 4]) (by simp [results, Tryd.results48, go_sem]) rfl (HE.out _ ?_)
    exact bal (bal (Below.refl _ _) _) _
  have hgl : g < w.heap.size := World.block_lt_of_cell? w _ c0
  have hl0 : 0 < r.length + 1 := by omega
  have hM := inP_cons modeM (q : Int) r
  obtain ⟨w0, hw0⟩ : ∃ w0, (w.alloc (.cells #[.int .u8 id, .slice (some ⟨g, o, none⟩) (r.length + 1) c] 35)).alloc (.cells #[.int .i64 0, .int .i64 0, .int .i64 0, .bool false, .int .u8 0, .slice none 0 0, .slice none 0 0] 38) = w0 := ⟨_, rfl⟩
  have hb0 : Below w.heap.size w w0 := by rw [← hw0]; exact bal (bal (Below.refl _ _) _) _
  have hz0 : w0.heap.size = w.heap.size + 2 := by rw [← hw0]; simp
  have hf0 : w0.cell? ⟨w.heap.size, 1, none⟩ = some (.slice (some ⟨g, o, none⟩) (r.length + 1) c) := by rw [← hw0]; simp [go_sem]
  have HP0 := hid (show Opn7 w0 (w.heap.size + 1) from by
    rw [← hw0]
    have := Box7.new (v0 := .int .i64 0) (v1 := .int .i64 0) (v2 := .int .i64 0) (v3 := .bool false) (v4 := .int .u8 0) (v5 := .slice none 0 0) (v6 := .slice none 0 0) (w.alloc (.cells #[.int .u8 id, .slice (some ⟨g, o, none⟩) (r.length + 1) c] 35)) 38
    rw [World.size_alloc] at this
    exact ⟨_, _, _, _, _, _, _, this⟩)
  have e0 : (((r.length + 1 : Nat) : Int) == 0) = false := by simp; omega
  have hn1 : (0 : Int) < ((r.length + 1 : Nat) : Int) := by omega
  obtain ⟨xs, cs, hsl0, hrd⟩ := from_all h 1 (by simp)
  have hdr : ((q : Int) :: r).drop 1 = r := rfl
  rw [hdr] at hrd
  have hlen : ((q : Int) :: r).length - 1 = r.length := by simp
  rw [hlen] at hsl0 hrd
  have HME := hid (fun W (hW : Below w.heap.size w W) => modeAct_any _ r W (hrd W (reads_below h hW)))
  have HME0 := hid (HME.out w0 hb0)
  have hsl : ∀ w', (Instr.sliceAt 22 (.slice (some ⟨g, o, none⟩) (r.length + 1) c) (some (.int .i64 1)) none none).run Tryd.prog w' = .ok (.slice xs r.length cs) w' := hsl0
  have HB0 := hid hb0
  have HF0 := hid hf0
  have HC0 := hid c0
  generalize inP modeM ((q : Int) :: r) = R at hM ⊢
  generalize r.length = n at *
  have hn1' : (1 : Nat) ≤ n + 1 := by omega
  generalize n + 1 = N at *
  clear h hsl0 hlen hdr hrd hl hc hm HME hf0
  generalize modeM r = m at HME0 hM
  have HRR := hid hM.symm
  clear hM
  have HW0 := hid hw0
  have IZ := hid hn1
  have JZ := hid hl0
  clear hw0 hb0
  go_enter Tryd.func48, Tryd.ntmps48
  go_wp2_with fail
  rw [HW0.out]
  with_reducible refine HME0.out.mono ?_
  rintro e w1 ⟨cv, rv, rfl, ho1, ho2, hb1, hk1, hk2⟩
  obtain ⟨⟨k, cd, md, al, rq, cs', rs'⟩, res⟩ := m
  dsimp only [acV] at ho1 ho2 ⊢
  obtain ⟨xv, nv, cv', rfl⟩ := own_slice ho1
  obtain ⟨xr, nr, cr', rfl⟩ := own_slice ho2
  have hz1 := hb1.size
  have HB1 := hid (below_t HB0.out hb1)
  have HP1 := hid (HP0.out.step hb1)
  have hf1 := keepc hb1 HF0.out
  have hc1 := keepc (below_t HB0.out hb1) HC0.out
  have HO1 := hid ho1
  have HO2 := hid ho2
  have HK1 := hid (show ∀ j ∈ blkV (.slice xv nv cv'), w.heap.size + 1 < j from fun j q => by have := hk1 j q; omega)
  have HK2 := hid (show ∀ j ∈ blkV (.slice xr nr cr'), w.heap.size + 1 < j from fun j q => by have := hk2 j q; omega)
  obtain ⟨w2, hw2⟩ : ∃ w2, w1.alloc (.cells #[.int .i64 k, .int .i64 cd, .int .i64 md, .bool al, .int .u8 rq, .slice xv nv cv', .slice xr nr cr'] 38) = w2 := ⟨_, rfl⟩
  have hb2 : Below w1.heap.size w1 w2 := by rw [← hw2]; exact bal (Below.refl _ _) _
  have HB2 := hid (below_t HB1.out hb2)
  have HOP := hid (HP1.out.step hb2)
  have HO1' := hid (HO1.out.step hb2)
  have HO2' := hid (HO2.out.step hb2)
  have HX2 := hid (show Prt w2 w2 g o q w.heap.size (.slice (some ⟨g, o, none⟩) N c) w1.heap.size (.int .i64 k) (.int .i64 cd) (.int .i64 md) (.bool al) (.int .u8 rq) (.slice xv nv cv') (.slice xr nr cr') (w.heap.size + 1) from by
    have b7 := Box7.new (v0 := .int .i64 k) (v1 := .int .i64 cd) (v2 := .int .i64 md) (v3 := .bool al) (v4 := .int .u8 rq) (v5 := .slice xv nv cv') (v6 := .slice xr nr cr') w1 38
    rw [hw2] at b7
    exact ⟨keepc hb2 hf1, keepc hb2 hc1, b7.c0, b7.c1, b7.c2, b7.c3, b7.c4, b7.c5, b7.c6, HOP.out, Below.refl _ _⟩)
  have HPA := hid (fun W => part_any ⟨k, cd, md, al, rq, cs', rs'⟩ (.slice xv nv cv') (.slice xr nr cr') ⟨_, _, _, rfl⟩ ⟨_, _, _, rfl⟩ W)
  unfold acV at HPA
  dsimp only at HPA
  have HW2 := hid hw2
  clear ho1 ho2 hb1 hb2 hk1 hk2 hw2
  cases res
  · obtain rfl : R = (4, acZ) := HRR.out.symm.trans (if_neg Bool.false_ne_true)
    obtain ⟨z0, z1, z2, z3, z4, z5, z6, y0, y1, y2, y3, y4, y5, y6, y7, y8, y9, ya, yb, yc, yd⟩ := HOP.out.out

    clear hf1 hc1
    have hw2 := HW2.out
    go_wp2
    obtain ⟨k0, k1, k2, k3, k4, k5, k6, -⟩ := Opn7.put (w := w2) (b := (w.heap.size + 1)) HOP.out (.int .i64 0) (.int .i64 0) (.int .i64 0) (.bool false) (.int .u8 0) (.slice none 0 0) (.slice none 0 0)
    have HF := hid (show ErD (4, acZ) w (.returned (.tuple #[acV acZ (.slice none 0 0) (.slice none 0 0), .int .i64 4])) (put7 w2 (w.heap.size + 1) (.int .i64 0) (.int .i64 0) (.int .i64 0) (.bool false) (.int .u8 0) (.slice none 0 0) (.slice none 0 0)) from Opn7.putZ (m := (4, acZ)) HB2.out (by omega) rfl)
    revert HF k0 k1 k2 k3 k4 k5 k6
    generalize hW : put7 w2 (w.heap.size + 1) (.int .i64 0) (.int .i64 0) (.int .i64 0) (.bool false) (.int .u8 0) (.slice none 0 0) (.slice none 0 0) = Wf
    intro k0 k1 k2 k3 k4 k5 k6 HF
    unfold put7 at hW
    rw [hW]
    exact bodyPost_ret (v := .tuple #[.agg #[.int .i64 0, .int .i64 0, .int .i64 0, .bool false, .int .u8 0, .slice none 0 0, .slice none 0 0], .int .i64 4]) (by simp [results, Tryd.results48, go_sem, k0, k1, k2, k3, k4, k5, k6]) rfl HF.out
  · go_upto_region 6 with fail
    rw [HW2.out]
    clear hf1 hc1 c0
    have HX2' := hid HX2.out.drew
    clear hl0 hn1 e0 hn1' hgl
    go_cut [30] (fun v wx => v = .bool ((q : Int) != partA ⟨k, cd, md, al, rq, cs', rs'⟩) ∧ Prt w2 wx g o q w.heap.size (.slice (some ⟨g, o, none⟩) N c) w1.heap.size (.int .i64 k) (.int .i64 cd) (.int .i64 md) (.bool al) (.int .u8 rq) (.slice xv nv cv') (.slice xr nr cr') (w.heap.size + 1))
    case first =>
      have i0 : (0 : Int) < N := IZ.out
      have j0 : 0 < N := JZ.out
      go_region_held3 (fun w' => w'.cell? ⟨w.heap.size, 1, none⟩ = some (.slice (some ⟨g, o, none⟩) N c) ∧ w'.cell? ⟨g, o, none⟩ = some (.int .u8 q) ∧ w'.cell? ⟨w1.heap.size, 0, none⟩ = some (.int .i64 k) ∧ w'.cell? ⟨w1.heap.size, 1, none⟩ = some (.int .i64 cd) ∧ w'.cell? ⟨w1.heap.size, 2, none⟩ = some (.int .i64 md) ∧ w'.cell? ⟨w1.heap.size, 3, none⟩ = some (.bool al) ∧ w'.cell? ⟨w1.heap.size, 4, none⟩ = some (.int .u8 rq) ∧ w'.cell? ⟨w1.heap.size, 5, none⟩ = some (.slice xv nv cv') ∧ w'.cell? ⟨w1.heap.size, 6, none⟩ = some (.slice xr nr cr') ∧ Opn7 w' (w.heap.size + 1) ∧ Below w2.heap.size w2 w') (first | with_reducible exact HX2'.out | with_reducible exact prt_step (by assumption) (by assumption) | fail) (first | (go_at_call 71; (with_reducible refine (HPA.out _).mono ?_); rintro e w3 ⟨rfl, hb3⟩))
      all_goals
        go_wp2_with fail
        go_meet
        exact ⟨rfl, by assumption⟩
    case rest =>
      obtain ⟨hv, hp⟩ := hcut
      have HOP := hid hp.2.2.2.2.2.2.2.2.2.1
      have HBc := hid hp.2.2.2.2.2.2.2.2.2.2
      have HB3 := hid (below_t HB2.out HBc.out)
      have HO1c := hid (HO1'.out.step HBc.out)
      have HO2c := hid (HO2'.out.step HBc.out)
      obtain ⟨z0, z1, z2, z3, z4, z5, z6, y0, y1, y2, y3, y4, y5, y6, y7, y8, y9, ya, yb, yc, yd⟩ := HOP.out.out
      by_cases hq2 : (q : Int) = partA ⟨k, cd, md, al, rq, cs', rs'⟩
      · obtain rfl : R = (0, ⟨k, cd, md, al, rq, cs', rs'⟩) := HRR.out.symm.trans ((if_pos rfl).trans (if_pos hq2))
        have hb : ((q : Int) != partA ⟨k, cd, md, al, rq, cs', rs'⟩) = false := by simpa using hq2
        rw [hb] at hv
        subst hv
        obtain ⟨-, -, x0, x1, x2, x3, x4, x5, x6, -, -⟩ := hp
        clear hb hq2
        go_wp2
        obtain ⟨k0, k1, k2, k3, k4, k5, k6, -⟩ := Opn7.put (w := wc) (b := (w.heap.size + 1)) HOP.out (.int .i64 k) (.int .i64 cd) (.int .i64 md) (.bool al) (.int .u8 rq) (.slice xv nv cv') (.slice xr nr cr')
        have HF := hid (show ErD (0, ⟨k, cd, md, al, rq, cs', rs'⟩) w (.returned (.tuple #[acV ⟨k, cd, md, al, rq, cs', rs'⟩ (.slice xv nv cv') (.slice xr nr cr'), .int .i64 0])) (put7 wc (w.heap.size + 1) (.int .i64 k) (.int .i64 cd) (.int .i64 md) (.bool al) (.int .u8 rq) (.slice xv nv cv') (.slice xr nr cr')) from ⟨_, _, rfl, put7_own HO1c.out HK1.out _ _ _ _ _ _ _, put7_own HO2c.out HK2.out _ _ _ _ _ _ _, put7_below HB3.out (by omega) _ _ _ _ _ _ _, fun j q => by have := HK1.out j q; omega, fun j q => by have := HK2.out j q; omega⟩)
        revert HF k0 k1 k2 k3 k4 k5 k6
        generalize hW : put7 wc (w.heap.size + 1) (.int .i64 k) (.int .i64 cd) (.int .i64 md) (.bool al) (.int .u8 rq) (.slice xv nv cv') (.slice xr nr cr') = Wf
        intro k0 k1 k2 k3 k4 k5 k6 HF
        unfold put7 at hW
        rw [hW]
        exact bodyPost_ret (v := .tuple #[.agg #[.int .i64 k, .int .i64 cd, .int .i64 md, .bool al, .int .u8 rq, .slice xv nv cv', .slice xr nr cr'], .int .i64 0]) (by simp [results, Tryd.results48, go_sem, k0, k1, k2, k3, k4, k5, k6]) rfl HF.out
      · obtain rfl : R = (1, acZ) := HRR.out.symm.trans ((if_pos rfl).trans (if_neg hq2))
        have hb : ((q : Int) != partA ⟨k, cd, md, al, rq, cs', rs'⟩) = true := by simpa using hq2
        rw [hb] at hv
        subst hv
        clear hb hq2 hp
        go_wp2
        obtain ⟨k0, k1, k2, k3, k4, k5, k6, -⟩ := Opn7.put (w := wc) (b := (w.heap.size + 1)) HOP.out (.int .i64 0) (.int .i64 0) (.int .i64 0) (.bool false) (.int .u8 0) (.slice none 0 0) (.slice none 0 0)
        have HF := hid (show ErD (1, acZ) w (.returned (.tuple #[acV acZ (.slice none 0 0) (.slice none 0 0), .int .i64 1])) (put7 wc (w.heap.size + 1) (.int .i64 0) (.int .i64 0) (.int .i64 0) (.bool false) (.int .u8 0) (.slice none 0 0) (.slice none 0 0)) from Opn7.putZ (m := (1, acZ)) HB3.out (by omega) rfl)
        revert HF k0 k1 k2 k3 k4 k5 k6
        generalize hW : put7 wc (w.heap.size + 1) (.int .i64 0) (.int .i64 0) (.int .i64 0) (.bool false) (.int .u8 0) (.slice none 0 0) (.slice none 0 0) = Wf
        intro k0 k1 k2 k3 k4 k5 k6 HF
        unfold put7 at hW
        rw [hW]
        exact bodyPost_ret (v := .tuple #[.agg #[.int .i64 0, .int .i64 0, .int .i64 0, .bool false, .int .u8 0, .slice none 0 0, .slice none 0 0], .int .i64 1]) (by simp [results, Tryd.results48, go_sem, k0, k1, k2, k3, k4, k5, k6]) rfl HF.out
set_option maxRecDepth 100000 in
set_option maxHeartbeats 4000000 in
theorem inp_createAct (id : Int) (v : Value) (xs : List Int) (w : World) (h : Reads w v xs) (hl : xs.length ≤ 10000000) : Calls Tryd.prog 48 #[.agg #[.int .u8 id, v], .func (.func 52) #[] #[]] w (ErD (inP createM xs) w) := by
  rcases reads_cons h with ⟨x, c, rfl, rfl⟩ | ⟨g, o, c, r, q, hq, rfl, rfl, c0, hc, hm⟩
  · have HE := hid (fun w' hb => er_plain (m := inP createM []) (w := w) (w' := w') rfl rfl hb)
    clear h
    go_enter Tryd.func48, Tryd.ntmps48
    go_wp2
    refine bodyPost_ret (v := .tuple #[.agg #[.int .i64 0, .int .i64 0, .int .i64 0, .bool false, .int .u8 0, .slice none 0 0, .slice none 0 0], .int .i64 4]) (by simp [results, Tryd.results48, go_sem]) rfl (HE.out _ ?_)
    exact bal (bal (Below.refl _ _) _) _
  have hgl : g < w.heap.size := World.block_lt_of_cell? w _ c0
  have hl0 : 0 < r.length + 1 := by omega
  have hM := inP_cons createM (q : Int) r
  obtain ⟨w0, hw0⟩ : ∃ w0, (w.alloc (.cells #[.int .u8 id, .slice (some ⟨g, o, none⟩) (r.length + 1) c] 35)).alloc (.cells #[.int .i64 0, .int .i64 0, .int .i64 0, .bool false, .int .u8 0, .slice none 0 0, .slice none 0 0] 38) = w0 := ⟨_, rfl⟩
  have hb0 : Below w.heap.size w w0 := by rw [← hw0]; exact bal (bal (Below.refl _ _) _) _
  have hz0 : w0.heap.size = w.heap.size + 2 := by rw [← hw0]; simp
  have hf0 : w0.cell? ⟨w.heap.size, 1, none⟩ = some (.slice (some ⟨g, o, none⟩) (r.length + 1) c) := by rw [← hw0]; simp [go_sem]
  have HP0 := hid (show Opn7 w0 (w.heap.size + 1) from by
    rw [← hw0]
    have := Box7.new (v0 := .int .i64 0) (v1 := .int .i64 0) (v2 := .int .i64 0) (v3 := .bool false) (v4 := .int .u8 0) (v5 := .slice none 0 0) (v6 := .slice none 0 0) (w.alloc (.cells #[.int .u8 id, .slice (some ⟨g, o, none⟩) (r.length + 1) c] 35)) 38
    rw [World.size_alloc] at this
    exact ⟨_, _, _, _, _, _, _, this⟩)
  have e0 : (((r.length + 1 : Nat) : Int) == 0) = false := by simp; omega
  have hn1 : (0 : Int) < ((r.length + 1 : Nat) : Int) := by omega
  obtain ⟨xs, cs, hsl0, hrd⟩ := from_all h 1 (by simp)
  have hdr : ((q : Int) :: r).drop 1 = r := rfl
  rw [hdr] at hrd
  have hlen : ((q : Int) :: r).length - 1 = r.length := by simp
  rw [hlen] at hsl0 hrd
  have HME := hid (fun W (hW : Below w.heap.size w W) => createAct_any _ r W (hrd W (reads_below h hW)))
  have HME0 := hid (HME.out w0 hb0)
  have hsl : ∀ w', (Instr.sliceAt 22 (.slice (some ⟨g, o, none⟩) (r.length + 1) c) (some (.int .i64 1)) none none).run Tryd.prog w' = .ok (.slice xs r.length cs) w' := hsl0
  have HB0 := hid hb0
  have HF0 := hid hf0
  have HC0 := hid c0
  generalize inP createM ((q : Int) :: r) = R at hM ⊢
  generalize r.length = n at *
  have hn1' : (1 : Nat) ≤ n + 1 := by omega
  generalize n + 1 = N at *
  clear h hsl0 hlen hdr hrd hl hc hm HME hf0
  generalize createM r = m at HME0 hM
  have HRR := hid hM.symm
  clear hM
  have HW0 := hid hw0
  have IZ := hid hn1
  have JZ := hid hl0
  clear hw0 hb0
  go_enter Tryd.func48, Tryd.ntmps48
  go_wp2_with fail
  rw [HW0.out]
  with_reducible refine HME0.out.mono ?_
  rintro e w1 ⟨cv, rv, rfl, ho1, ho2, hb1, hk1, hk2⟩
  obtain ⟨⟨k, cd, md, al, rq, cs', rs'⟩, res⟩ := m
  dsimp only [acV] at ho1 ho2 ⊢
  obtain ⟨xv, nv, cv', rfl⟩ := own_slice ho1
  obtain ⟨xr, nr, cr', rfl⟩ := own_slice ho2
  have hz1 := hb1.size
  have HB1 := hid (below_t HB0.out hb1)
  have HP1 := hid (HP0.out.step hb1)
  have hf1 := keepc hb1 HF0.out
  have hc1 := keepc (below_t HB0.out hb1) HC0.out
  have HO1 := hid ho1
  have HO2 := hid ho2
  have HK1 := hid (show ∀ j ∈ blkV (.slice xv nv cv'), w.heap.size + 1 < j from fun j q => by have := hk1 j q; omega)
  have HK2 := hid (show ∀ j ∈ blkV (.slice xr nr cr'), w.heap.size + 1 < j from fun j q => by have := hk2 j q; omega)
  obtain ⟨w2, hw2⟩ : ∃ w2, w1.alloc (.cells #[.int .i64 k, .int .i64 cd, .int .i64 md, .bool al, .int .u8 rq, .slice xv nv cv', .slice xr nr cr'] 38) = w2 := ⟨_, rfl⟩
  have hb2 : Below w1.heap.size w1 w2 := by rw [← hw2]; exact bal (Below.refl _ _) _
  have HB2 := hid (below_t HB1.out hb2)
  have HOP := hid (HP1.out.step hb2)
  have HO1' := hid (HO1.out.step hb2)
  have HO2' := hid (HO2.out.step hb2)
  have HX2 := hid (show Prt w2 w2 g o q w.heap.size (.slice (some ⟨g, o, none⟩) N c) w1.heap.size (.int .i64 k) (.int .i64 cd) (.int .i64 md) (.bool al) (.int .u8 rq) (.slice xv nv cv') (.slice xr nr cr') (w.heap.size + 1) from by
    have b7 := Box7.new (v0 := .int .i64 k) (v1 := .int .i64 cd) (v2 := .int .i64 md) (v3 := .bool al) (v4 := .int .u8 rq) (v5 := .slice xv nv cv') (v6 := .slice xr nr cr') w1 38
    rw [hw2] at b7
    exact ⟨keepc hb2 hf1, keepc hb2 hc1, b7.c0, b7.c1, b7.c2, b7.c3, b7.c4, b7.c5, b7.c6, HOP.out, Below.refl _ _⟩)
  have HPA := hid (fun W => part_any ⟨k, cd, md, al, rq, cs', rs'⟩ (.slice xv nv cv') (.slice xr nr cr') ⟨_, _, _, rfl⟩ ⟨_, _, _, rfl⟩ W)
  unfold acV at HPA
  dsimp only at HPA
  have HW2 := hid hw2
  clear ho1 ho2 hb1 hb2 hk1 hk2 hw2
  cases res
  · obtain rfl : R = (4, acZ) := HRR.out.symm.trans (if_neg Bool.false_ne_true)
    obtain ⟨z0, z1, z2, z3, z4, z5, z6, y0, y1, y2, y3, y4, y5, y6, y7, y8, y9, ya, yb, yc, yd⟩ := HOP.out.out

    clear hf1 hc1
    have hw2 := HW2.out
    go_wp2
    obtain ⟨k0, k1, k2, k3, k4, k5, k6, -⟩ := Opn7.put (w := w2) (b := (w.heap.size + 1)) HOP.out (.int .i64 0) (.int .i64 0) (.int .i64 0) (.bool false) (.int .u8 0) (.slice none 0 0) (.slice none 0 0)
    have HF := hid (show ErD (4, acZ) w (.returned (.tuple #[acV acZ (.slice none 0 0) (.slice none 0 0), .int .i64 4])) (put7 w2 (w.heap.size + 1) (.int .i64 0) (.int .i64 0) (.int .i64 0) (.bool false) (.int .u8 0) (.slice none 0 0) (.slice none 0 0)) from Opn7.putZ (m := (4, acZ)) HB2.out (by omega) rfl)
    revert HF k0 k1 k2 k3 k4 k5 k6
    generalize hW : put7 w2 (w.heap.size + 1) (.int .i64 0) (.int .i64 0) (.int .i64 0) (.bool false) (.int .u8 0) (.slice none 0 0) (.slice none 0 0) = Wf
    intro k0 k1 k2 k3 k4 k5 k6 HF
    unfold put7 at hW
    rw [hW]
    exact bodyPost_ret (v := .tuple #[.agg #[.int .i64 0, .int .i64 0, .int .i64 0, .bool false, .int .u8 0, .slice none 0 0, .slice none 0 0], .int .i64 4]) (by simp [results, Tryd.results48, go_sem, k0, k1, k2, k3, k4, k5, k6]) rfl HF.out
  · go_upto_region 6 with fail
    rw [HW2.out]
    clear hf1 hc1 c0
    have HX2' := hid HX2.out.drew
    clear hl0 hn1 e0 hn1' hgl
    go_cut [30] (fun v wx => v = .bool ((q : Int) != partA ⟨k, cd, md, al, rq, cs', rs'⟩) ∧ Prt w2 wx g o q w.heap.size (.slice (some ⟨g, o, none⟩) N c) w1.heap.size (.int .i64 k) (.int .i64 cd) (.int .i64 md) (.bool al) (.int .u8 rq) (.slice xv nv cv') (.slice xr nr cr') (w.heap.size + 1))
    case first =>
      have i0 : (0 : Int) < N := IZ.out
      have j0 : 0 < N := JZ.out
      go_region_held3 (fun w' => w'.cell? ⟨w.heap.size, 1, none⟩ = some (.slice (some ⟨g, o, none⟩) N c) ∧ w'.cell? ⟨g, o, none⟩ = some (.int .u8 q) ∧ w'.cell? ⟨w1.heap.size, 0, none⟩ = some (.int .i64 k) ∧ w'.cell? ⟨w1.heap.size, 1, none⟩ = some (.int .i64 cd) ∧ w'.cell? ⟨w1.heap.size, 2, none⟩ = some (.int .i64 md) ∧ w'.cell? ⟨w1.heap.size, 3, none⟩ = some (.bool al) ∧ w'.cell? ⟨w1.heap.size, 4, none⟩ = some (.int .u8 rq) ∧ w'.cell? ⟨w1.heap.size, 5, none⟩ = some (.slice xv nv cv') ∧ w'.cell? ⟨w1.heap.size, 6, none⟩ = some (.slice xr nr cr') ∧ Opn7 w' (w.heap.size + 1) ∧ Below w2.heap.size w2 w') (first | with_reducible exact HX2'.out | with_reducible exact prt_step (by assumption) (by assumption) | fail) (first | (go_at_call 71; (with_reducible refine (HPA.out _).mono ?_); rintro e w3 ⟨rfl, hb3⟩))
      all_goals
        go_wp2_with fail
        go_meet
        exact ⟨rfl, by assumption⟩
    case rest =>
      obtain ⟨hv, hp⟩ := hcut
      have HOP := hid hp.2.2.2.2.2.2.2.2.2.1
      have HBc := hid hp.2.2.2.2.2.2.2.2.2.2
      have HB3 := hid (below_t HB2.out HBc.out)
      have HO1c := hid (HO1'.out.step HBc.out)
      have HO2c := hid (HO2'.out.step HBc.out)
      obtain ⟨z0, z1, z2, z3, z4, z5, z6, y0, y1, y2, y3, y4, y5, y6, y7, y8, y9, ya, yb, yc, yd⟩ := HOP.out.out
      by_cases hq2 : (q : Int) = partA ⟨k, cd, md, al, rq, cs', rs'⟩
      · obtain rfl : R = (0, ⟨k, cd, md, al, rq, cs', rs'⟩) := HRR.out.symm.trans ((if_pos rfl).trans (if_pos hq2))
        have hb : ((q : Int) != partA ⟨k, cd, md, al, rq, cs', rs'⟩) = false := by simpa using hq2
        rw [hb] at hv
        subst hv
        obtain ⟨-, -, x0, x1, x2, x3, x4, x5, x6, -, -⟩ := hp
        clear hb hq2
        go_wp2
        obtain ⟨k0, k1, k2, k3, k4, k5, k6, -⟩ := Opn7.put (w := wc) (b := (w.heap.size + 1)) HOP.out (.int .i64 k) (.int .i64 cd) (.int .i64 md) (.bool al) (.int .u8 rq) (.slice xv nv cv') (.slice xr nr cr')
        have HF := hid (show ErD (0, ⟨k, cd, md, al, rq, cs', rs'⟩) w (.returned (.tuple #[acV ⟨k, cd, md, al, rq, cs', rs'⟩ (.slice xv nv cv') (.slice xr nr cr'), .int .i64 0])) (put7 wc (w.heap.size + 1) (.int .i64 k) (.int .i64 cd) (.int .i64 md) (.bool al) (.int .u8 rq) (.slice xv nv cv') (.slice xr nr cr')) from ⟨_, _, rfl, put7_own HO1c.out HK1.out _ _ _ _ _ _ _, put7_own HO2c.out HK2.out _ _ _ _ _ _ _, put7_below HB3.out (by omega) _ _ _ _ _ _ _, fun j q => by have := HK1.out j q; omega, fun j q => by have := HK2.out j q; omega⟩)
        revert HF k0 k1 k2 k3 k4 k5 k6
        generalize hW : put7 wc (w.heap.size + 1) (.int .i64 k) (.int .i64 cd) (.int .i64 md) (.bool al) (.int .u8 rq) (.slice xv nv cv') (.slice xr nr cr') = Wf
        intro k0 k1 k2 k3 k4 k5 k6 HF
        unfold put7 at hW
        rw [hW]
        exact bodyPost_ret (v := .tuple #[.agg #[.int .i64 k, .int .i64 cd, .int .i64 md, .bool al, .int .u8 rq, .slice xv nv cv', .slice xr nr cr'], .int .i64 0]) (by simp [results, Tryd.results48, go_sem, k0, k1, k2, k3, k4, k5, k6]) rfl HF.out
      · obtain rfl : R = (1, acZ) := HRR.out.symm.trans ((if_pos rfl).trans (if_neg hq2))
        have hb : ((q : Int) != partA ⟨k, cd, md, al, rq, cs', rs'⟩) = true := by simpa using hq2
        rw [hb] at hv
        subst hv
        clear hb hq2 hp
        go_wp2
        obtain ⟨k0, k1, k2, k3, k4, k5, k6, -⟩ := Opn7.put (w := wc) (b := (w.heap.size + 1)) HOP.out (.int .i64 0) (.int .i64 0) (.int .i64 0) (.bool false) (.int .u8 0) (.slice none 0 0) (.slice none 0 0)
        have HF := hid (show ErD (1, acZ) w (.returned (.tuple #[acV acZ (.slice none 0 0) (.slice none 0 0), .int .i64 1])) (put7 wc (w.heap.size + 1) (.int .i64 0) (.int .i64 0) (.int .i64 0) (.bool false) (.int .u8 0) (.slice none 0 0) (.slice none 0 0)) from Opn7.putZ (m := (1, acZ)) HB3.out (by omega) rfl)
        revert HF k0 k1 k2 k3 k4 k5 k6
        generalize hW : put7 wc (w.heap.size + 1) (.int .i64 0) (.int .i64 0) (.int .i64 0) (.bool false) (.int .u8 0) (.slice none 0 0) (.slice none 0 0) = Wf
        intro k0 k1 k2 k3 k4 k5 k6 HF
        unfold put7 at hW
        rw [hW]
        exact bodyPost_ret (v := .tuple #[.agg #[.int .i64 0, .int .i64 0, .int .i64 0, .bool false, .int .u8 0, .slice none 0 0, .slice none 0 0], .int .i64 1]) (by simp [results, Tryd.results48, go_sem, k0, k1, k2, k3, k4, k5, k6]) rfl HF.out
set_option maxRecDepth 100000 in
set_option maxHeartbeats 4000000 in
theorem inp_destroyAct (id : Int) (v : Value) (xs : List Int) (w : World) (h : Reads w v xs) (hl : xs.length ≤ 10000000) : Calls Tryd.prog 48 #[.agg #[.int .u8 id, v], .func (.func 53) #[] #[]] w (ErD (inP destroyM xs) w) := by
  rcases reads_cons h with ⟨x, c, rfl, rfl⟩ | ⟨g, o, c, r, q, hq, rfl, rfl, c0, hc, hm⟩
  · have HE := hid (fun w' hb => er_plain (m := inP destroyM []) (w := w) (w' := w') rfl rfl hb)
    clear h
    go_enter Tryd.func48, Tryd.ntmps48
    go_wp2
    refine bodyPost_ret (v := .tuple #[.agg #[.int .i64 0, .int .i64 0, .int .i64 0, .bool false, .int .u8 0, .slice none 0 0, .slice none 0 0], .int .i64 4]) (by simp [results, Tryd.results48, go_sem]) rfl (HE.out _ ?_)
    exact bal (bal (Below.refl _ _) _) _
  have hgl : g < w.heap.size := World.block_lt_of_cell? w _ c0
  have hl0 : 0 < r.length + 1 := by omega
  have hM := inP_cons destroyM (q : Int) r
  obtain ⟨w0, hw0⟩ : ∃ w0, (w.alloc (.cells #[.int .u8 id, .slice (some ⟨g, o, none⟩) (r.length + 1) c] 35)).alloc (.cells #[.int .i64 0, .int .i64 0, .int .i64 0, .bool false, .int .u8 0, .slice none 0 0, .slice none 0 0] 38) = w0 := ⟨_, rfl⟩
  have hb0 : Below w.heap.size w w0 := by rw [← hw0]; exact bal (bal (Below.refl _ _) _) _
  have hz0 : w0.heap.size = w.heap.size + 2 := by rw [← hw0]; simp
  have hf0 : w0.cell? ⟨w.heap.size, 1, none⟩ = some (.slice (some ⟨g, o, none⟩) (r.length + 1) c) := by rw [← hw0]; simp [go_sem]
  have HP0 := hid (show Opn7 w0 (w.heap.size + 1) from by
    rw [← hw0]
    have := Box7.new (v0 := .int .i64 0) (v1 := .int .i64 0) (v2 := .int .i64 0) (v3 := .bool false) (v4 := .int .u8 0) (v5 := .slice none 0 0) (v6 := .slice none 0 0) (w.alloc (.cells #[.int .u8 id, .slice (some ⟨g, o, none⟩) (r.length + 1) c] 35)) 38
    rw [World.size_alloc] at this
    exact ⟨_, _, _, _, _, _, _, this⟩)
  have e0 : (((r.length + 1 : Nat) : Int) == 0) = false := by simp; omega
  have hn1 : (0 : Int) < ((r.length + 1 : Nat) : Int) := by omega
  obtain ⟨xs, cs, hsl0, hrd⟩ := from_all h 1 (by simp)
  have hdr : ((q : Int) :: r).drop 1 = r := rfl
  rw [hdr] at hrd
  have hlen : ((q : Int) :: r).length - 1 = r.length := by simp
  rw [hlen] at hsl0 hrd
  have HME := hid (fun W (hW : Below w.heap.size w W) => destroyAct_any _ r W (hrd W (reads_below h hW)))
  have HME0 := hid (HME.out w0 hb0)
  have hsl : ∀ w', (Instr.sliceAt 22 (.slice (some ⟨g, o, none⟩) (r.length + 1) c) (some (.int .i64 1)) none none).run Tryd.prog w' = .ok (.slice xs r.length cs) w' := hsl0
  have HB0 := hid hb0
  have HF0 := hid hf0
  have HC0 := hid c0
  generalize inP destroyM ((q : Int) :: r) = R at hM ⊢
  generalize r.length = n at *
  have hn1' : (1 : Nat) ≤ n + 1 := by omega
  generalize n + 1 = N at *
  clear h hsl0 hlen hdr hrd hl hc hm HME hf0
  generalize destroyM r = m at HME0 hM
  have HRR := hid hM.symm
  clear hM
  have HW0 := hid hw0
  have IZ := hid hn1
  have JZ := hid hl0
  clear hw0 hb0
  go_enter Tryd.func48, Tryd.ntmps48
  go_wp2_with fail
  rw [HW0.out]
  with_reducible refine HME0.out.mono ?_
  rintro e w1 ⟨cv, rv, rfl, ho1, ho2, hb1, hk1, hk2⟩
  obtain ⟨⟨k, cd, md, al, rq, cs', rs'⟩, res⟩ := m
  dsimp only [acV] at ho1 ho2 ⊢
  obtain ⟨xv, nv, cv', rfl⟩ := own_slice ho1
  obtain ⟨xr, nr, cr', rfl⟩ := own_slice ho2
  have hz1 := hb1.size
  have HB1 := hid (below_t HB0.out hb1)
  have HP1 := hid (HP0.out.step hb1)
  have hf1 := keepc hb1 HF0.out
  have hc1 := keepc (below_t HB0.out hb1) HC0.out
  have HO1 := hid ho1
  have HO2 := hid ho2
  have HK1 := hid (show ∀ j ∈ blkV (.slice xv nv cv'), w.heap.size + 1 < j from fun j q => by have := hk1 j q; omega)
  have HK2 := hid (show ∀ j ∈ blkV (.slice xr nr cr'), w.heap.size + 1 < j from fun j q => by have := hk2 j q; omega)
  obtain ⟨w2, hw2⟩ : ∃ w2, w1.alloc (.cells #[.int .i64 k, .int .i64 cd, .int .i64 md, .bool al, .int .u8 rq, .slice xv nv cv', .slice xr nr cr'] 38) = w2 := ⟨_, rfl⟩
  have hb2 : Below w1.heap.size w1 w2 := by rw [← hw2]; exact bal (Below.refl _ _) _
  have HB2 := hid (below_t HB1.out hb2)
  have HOP := hid (HP1.out.step hb2)
  have HO1' := hid (HO1.out.step hb2)
  have HO2' := hid (HO2.out.step hb2)
  have HX2 := hid (show Prt w2 w2 g o q w.heap.size (.slice (some ⟨g, o, none⟩) N c) w1.heap.size (.int .i64 k) (.int .i64 cd) (.int .i64 md) (.bool al) (.int .u8 rq) (.slice xv nv cv') (.slice xr nr cr') (w.heap.size + 1) from by
    have b7 := Box7.new (v0 := .int .i64 k) (v1 := .int .i64 cd) (v2 := .int .i64 md) (v3 := .bool al) (v4 := .int .u8 rq) (v5 := .slice xv nv cv') (v6 := .slice xr nr cr') w1 38
    rw [hw2] at b7
    exact ⟨keepc hb2 hf1, keepc hb2 hc1, b7.c0, b7.c1, b7.c2, b7.c3, b7.c4, b7.c5, b7.c6, HOP.out, Below.refl _ _⟩)
  have HPA := hid (fun W => part_any ⟨k, cd, md, al, rq, cs', rs'⟩ (.slice xv nv cv') (.slice xr nr cr') ⟨_, _, _, rfl⟩ ⟨_, _, _, rfl⟩ W)
  unfold acV at HPA
  dsimp only at HPA
  have HW2 := hid hw2
  clear ho1 ho2 hb1 hb2 hk1 hk2 hw2
  cases res
  · obtain rfl : R = (4, acZ) := HRR.out.symm.trans (if_neg Bool.false_ne_true)
    obtain ⟨z0, z1, z2, z3, z4, z5, z6, y0, y1, y2, y3, y4, y5, y6, y7, y8, y9, ya, yb, yc, yd⟩ := HOP.out.out

    clear hf1 hc1
    have hw2 := HW2.out
    go_wp2
    obtain ⟨k0, k1, k2, k3, k4, k5, k6, -⟩ := Opn7.put (w := w2) (b := (w.heap.size + 1)) HOP.out (.int .i64 0) (.int .i64 0) (.int .i64 0) (.bool false) (.int .u8 0) (.slice none 0 0) (.slice none 0 0)
    have HF := hid (show ErD (4, acZ) w (.returned (.tuple #[acV acZ (.slice none 0 0) (.slice none 0 0), .int .i64 4])) (put7 w2 (w.heap.size + 1) (.int .i64 0) (.int .i64 0) (.int .i64 0) (.bool false) (.int .u8 0) (.slice none 0 0) (.slice none 0 0)) from Opn7.putZ (m := (4, acZ)) HB2.out (by omega) rfl)
    revert HF k0 k1 k2 k3 k4 k5 k6
    generalize hW : put7 w2 (w.heap.size + 1) (.int .i64 0) (.int .i64 0) (.int .i64 0) (.bool false) (.int .u8 0) (.slice none 0 0) (.slice none 0 0) = Wf
    intro k0 k1 k2 k3 k4 k5 k6 HF
    unfold put7 at hW
    rw [hW]
    exact bodyPost_ret (v := .tuple #[.agg #[.int .i64 0, .int .i64 0, .int .i64 0, .bool false, .int .u8 0, .slice none 0 0, .slice none 0 0], .int .i64 4]) (by simp [results, Tryd.results48, go_sem, k0, k1, k2, k3, k4, k5, k6]) rfl HF.out
  · go_upto_region 6 with fail
    rw [HW2.out]
    clear hf1 hc1 c0
    have HX2' := hid HX2.out.drew
    clear hl0 hn1 e0 hn1' hgl
    go_cut [30] (fun v wx => v = .bool ((q : Int) != partA ⟨k, cd, md, al, rq, cs', rs'⟩) ∧ Prt w2 wx g o q w.heap.size (.slice (some ⟨g, o, none⟩) N c) w1.heap.size (.int .i64 k) (.int .i64 cd) (.int .i64 md) (.bool al) (.int .u8 rq) (.slice xv nv cv') (.slice xr nr cr') (w.heap.size + 1))
    case first =>
      have i0 : (0 : Int) < N := IZ.out
      have j0 : 0 < N := JZ.out
      go_region_held3 (fun w' => w'.cell? ⟨w.heap.size, 1, none⟩ = some (.slice (some ⟨g, o, none⟩) N c) ∧ w'.cell? ⟨g, o, none⟩ = some (.int .u8 q) ∧ w'.cell? ⟨w1.heap.size, 0, none⟩ = some (.int .i64 k) ∧ w'.cell? ⟨w1.heap.size, 1, none⟩ = some (.int .i64 cd) ∧ w'.cell? ⟨w1.heap.size, 2, none⟩ = some (.int .i64 md) ∧ w'.cell? ⟨w1.heap.size, 3, none⟩ = some (.bool al) ∧ w'.cell? ⟨w1.heap.size, 4, none⟩ = some (.int .u8 rq) ∧ w'.cell? ⟨w1.heap.size, 5, none⟩ = some (.slice xv nv cv') ∧ w'.cell? ⟨w1.heap.size, 6, none⟩ = some (.slice xr nr cr') ∧ Opn7 w' (w.heap.size + 1) ∧ Below w2.heap.size w2 w') (first | with_reducible exact HX2'.out | with_reducible exact prt_step (by assumption) (by assumption) | fail) (first | (go_at_call 71; (with_reducible refine (HPA.out _).mono ?_); rintro e w3 ⟨rfl, hb3⟩))
      all_goals
        go_wp2_with fail
        go_meet
        exact ⟨rfl, by assumption⟩
    case rest =>
      obtain ⟨hv, hp⟩ := hcut
      have HOP := hid hp.2.2.2.2.2.2.2.2.2.1
      have HBc := hid hp.2.2.2.2.2.2.2.2.2.2
      have HB3 := hid (below_t HB2.out HBc.out)
      have HO1c := hid (HO1'.out.step HBc.out)
      have HO2c := hid (HO2'.out.step HBc.out)
      obtain ⟨z0, z1, z2, z3, z4, z5, z6, y0, y1, y2, y3, y4, y5, y6, y7, y8, y9, ya, yb, yc, yd⟩ := HOP.out.out
      by_cases hq2 : (q : Int) = partA ⟨k, cd, md, al, rq, cs', rs'⟩
      · obtain rfl : R = (0, ⟨k, cd, md, al, rq, cs', rs'⟩) := HRR.out.symm.trans ((if_pos rfl).trans (if_pos hq2))
        have hb : ((q : Int) != partA ⟨k, cd, md, al, rq, cs', rs'⟩) = false := by simpa using hq2
        rw [hb] at hv
        subst hv
        obtain ⟨-, -, x0, x1, x2, x3, x4, x5, x6, -, -⟩ := hp
        clear hb hq2
        go_wp2
        obtain ⟨k0, k1, k2, k3, k4, k5, k6, -⟩ := Opn7.put (w := wc) (b := (w.heap.size + 1)) HOP.out (.int .i64 k) (.int .i64 cd) (.int .i64 md) (.bool al) (.int .u8 rq) (.slice xv nv cv') (.slice xr nr cr')
        have HF := hid (show ErD (0, ⟨k, cd, md, al, rq, cs', rs'⟩) w (.returned (.tuple #[acV ⟨k, cd, md, al, rq, cs', rs'⟩ (.slice xv nv cv') (.slice xr nr cr'), .int .i64 0])) (put7 wc (w.heap.size + 1) (.int .i64 k) (.int .i64 cd) (.int .i64 md) (.bool al) (.int .u8 rq) (.slice xv nv cv') (.slice xr nr cr')) from ⟨_, _, rfl, put7_own HO1c.out HK1.out _ _ _ _ _ _ _, put7_own HO2c.out HK2.out _ _ _ _ _ _ _, put7_below HB3.out (by omega) _ _ _ _ _ _ _, fun j q => by have := HK1.out j q; omega, fun j q => by have := HK2.out j q; omega⟩)
        revert HF k0 k1 k2 k3 k4 k5 k6
        generalize hW : put7 wc (w.heap.size + 1) (.int .i64 k) (.int .i64 cd) (.int .i64 md) (.bool al) (.int .u8 rq) (.slice xv nv cv') (.slice xr nr cr') = Wf
        intro k0 k1 k2 k3 k4 k5 k6 HF
        unfold put7 at hW
        rw [hW]
        exact bodyPost_ret (v := .tuple #[.agg #[.int .i64 k, .int .i64 cd, .int .i64 md, .bool al, .int .u8 rq, .slice xv nv cv', .slice xr nr cr'], .int .i64 0]) (by simp [results, Tryd.results48, go_sem, k0, k1, k2, k3, k4, k5, k6]) rfl HF.out
      · obtain rfl : R = (1, acZ) := HRR.out.symm.trans ((if_pos rfl).trans (if_neg hq2))
        have hb : ((q : Int) != partA ⟨k, cd, md, al, rq, cs', rs'⟩) = true := by simpa using hq2
        rw [hb] at hv
        subst hv
        clear hb hq2 hp
        go_wp2
        obtain ⟨k0, k1, k2, k3, k4, k5, k6, -⟩ := Opn7.put (w := wc) (b := (w.heap.size + 1)) HOP.out (.int .i64 0) (.int .i64 0) (.int .i64 0) (.bool false) (.int .u8 0) (.slice none 0 0) (.slice none 0 0)
        have HF := hid (show ErD (1, acZ) w (.returned (.tuple #[acV acZ (.slice none 0 0) (.slice none 0 0), .int .i64 1])) (put7 wc (w.heap.size + 1) (.int .i64 0) (.int .i64 0) (.int .i64 0) (.bool false) (.int .u8 0) (.slice none 0 0) (.slice none 0 0)) from Opn7.putZ (m := (1, acZ)) HB3.out (by omega) rfl)
        revert HF k0 k1 k2 k3 k4 k5 k6
        generalize hW : put7 wc (w.heap.size + 1) (.int .i64 0) (.int .i64 0) (.int .i64 0) (.bool false) (.int .u8 0) (.slice none 0 0) (.slice none 0 0) = Wf
        intro k0 k1 k2 k3 k4 k5 k6 HF
        unfold put7 at hW
        rw [hW]
        exact bodyPost_ret (v := .tuple #[.agg #[.int .i64 0, .int .i64 0, .int .i64 0, .bool false, .int .u8 0, .slice none 0 0, .slice none 0 0], .int .i64 1]) (by simp [results, Tryd.results48, go_sem, k0, k1, k2, k3, k4, k5, k6]) rfl HF.out
set_option maxRecDepth 100000 in
set_option maxHeartbeats 4000000 in
theorem inp_activateAct (id : Int) (v : Value) (xs : List Int) (w : World) (h : Reads w v xs) (hl : xs.length ≤ 10000000) : Calls Tryd.prog 48 #[.agg #[.int .u8 id, v], .func (.func 54) #[] #[]] w (ErD (inP activateM xs) w) := by
  rcases reads_cons h with ⟨x, c, rfl, rfl⟩ | ⟨g, o, c, r, q, hq, rfl, rfl, c0, hc, hm⟩
  · have HE := hid (fun w' hb => er_plain (m := inP activateM []) (w := w) (w' := w') rfl rfl hb)
    clear h
    go_enter Tryd.func48, Tryd.ntmps48
    go_wp2
    refine bodyPost_ret (v := .tuple #[.agg #[.int .i64 0, .int .i64 0, .int .i64 0, .bool false, .int .u8 0, .slice none 0 0, .slice none 0 0], .int .i64 4]) (by simp [results, Tryd.results48, go_sem]) rfl (HE.out _ ?_)
    exact bal (bal (Below.refl _ _) _) _
  have hgl : g < w.heap.size := World.block_lt_of_cell? w _ c0
  have hl0 : 0 < r.length + 1 := by omega
  have hM := inP_cons activateM (q : Int) r
  obtain ⟨w0, hw0⟩ : ∃ w0, (w.alloc (.cells #[.int .u8 id, .slice (some ⟨g, o, none⟩) (r.length + 1) c] 35)).alloc (.cells #[.int .i64 0, .int .i64 0, .int .i64 0, .bool false, .int .u8 0, .slice none 0 0, .slice none 0 0] 38) = w0 := ⟨_, rfl⟩
  have hb0 : Below w.heap.size w w0 := by rw [← hw0]; exact bal (bal (Below.refl _ _) _) _
  have hz0 : w0.heap.size = w.heap.size + 2 := by rw [← hw0]; simp
  have hf0 : w0.cell? ⟨w.heap.size, 1, none⟩ = some (.slice (some ⟨g, o, none⟩) (r.length + 1) c) := by rw [← hw0]; simp [go_sem]
  have HP0 := hid (show Opn7 w0 (w.heap.size + 1) from by
    rw [← hw0]
    have := Box7.new (v0 := .int .i64 0) (v1 := .int .i64 0) (v2 := .int .i64 0) (v3 := .bool false) (v4 := .int .u8 0) (v5 := .slice none 0 0) (v6 := .slice none 0 0) (w.alloc (.cells #[.int .u8 id, .slice (some ⟨g, o, none⟩) (r.length + 1) c] 35)) 38
    rw [World.size_alloc] at this
    exact ⟨_, _, _, _, _, _, _, this⟩)
  have e0 : (((r.length + 1 : Nat) : Int) == 0) = false := by simp; omega
  have hn1 : (0 : Int) < ((r.length + 1 : Nat) : Int) := by omega
  obtain ⟨xs, cs, hsl0, hrd⟩ := from_all h 1 (by simp)
  have hdr : ((q : Int) :: r).drop 1 = r := rfl
  rw [hdr] at hrd
  have hlen : ((q : Int) :: r).length - 1 = r.length := by simp
  rw [hlen] at hsl0 hrd
  have HME := hid (fun W (hW : Below w.heap.size w W) => activateAct_any _ r W (hrd W (reads_below h hW)))
  have HME0 := hid (HME.out w0 hb0)
  have hsl : ∀ w', (Instr.sliceAt 22 (.slice (some ⟨g, o, none⟩) (r.length + 1) c) (some (.int .i64 1)) none none).run Tryd.prog w' = .ok (.slice xs r.length cs) w' := hsl0
  have HB0 := hid hb0
  have HF0 := hid hf0
  have HC0 := hid c0
  generalize inP activateM ((q : Int) :: r) = R at hM ⊢
  generalize r.length = n at *
  have hn1' : (1 : Nat) ≤ n + 1 := by omega
  generalize n + 1 = N at *
  clear h hsl0 hlen hdr hrd hl hc hm HME hf0
  generalize activateM r = m at HME0 hM
  have HRR := hid hM.symm
  clear hM
  have HW0 := hid hw0
  have IZ := hid hn1
  have JZ := hid hl0
  clear hw0 hb0
  go_enter Tryd.func48, Tryd.ntmps48
  go_wp2_with fail
  rw [HW0.out]
  with_reducible refine HME0.out.mono ?_
  rintro e w1 ⟨cv, rv, rfl, ho1, ho2, hb1, hk1, hk2⟩
  obtain ⟨⟨k, cd, md, al, rq, cs', rs'⟩, res⟩ := m
  dsimp only [acV] at ho1 ho2 ⊢
  obtain ⟨xv, nv, cv', rfl⟩ := own_slice ho1
  obtain ⟨xr, nr, cr', rfl⟩ := own_slice ho2
  have hz1 := hb1.size
  have HB1 := hid (below_t HB0.out hb1)
  have HP1 := hid (HP0.out.step hb1)
  have hf1 := keepc hb1 HF0.out
  have hc1 := keepc (below_t HB0.out hb1) HC0.out
  have HO1 := hid ho1
  have HO2 := hid ho2
  have HK1 := hid (show ∀ j ∈ blkV (.slice xv nv cv'), w.heap.size + 1 < j from fun j q => by have := hk1 j q; omega)
  have HK2 := hid (show ∀ j ∈ blkV (.slice xr nr cr'), w.heap.size + 1 < j from fun j q => by have := hk2 j q; omega)
  obtain ⟨w2, hw2⟩ : ∃ w2, w1.alloc (.cells #[.int .i64 k, .int .i64 cd, .int .i64 md, .bool al, .int .u8 rq, .slice xv nv cv', .slice xr nr cr'] 38) = w2 := ⟨_, rfl⟩
  have hb2 : Below w1.heap.size w1 w2 := by rw [← hw2]; exact bal (Below.refl _ _) _
  have HB2 := hid (below_t HB1.out hb2)
  have HOP := hid (HP1.out.step hb2)
  have HO1' := hid (HO1.out.step hb2)
  have HO2' := hid (HO2.out.step hb2)
  have HX2 := hid (show Prt w2 w2 g o q w.heap.size (.slice (some ⟨g, o, none⟩) N c) w1.heap.size (.int .i64 k) (.int .i64 cd) (.int .i64 md) (.bool al) (.int .u8 rq) (.slice xv nv cv') (.slice xr nr cr') (w.heap.size + 1) from by
    have b7 := Box7.new (v0 := .int .i64 k) (v1 := .int .i64 cd) (v2 := .int .i64 md) (v3 := .bool al) (v4 := .int .u8 rq) (v5 := .slice xv nv cv') (v6 := .slice xr nr cr') w1 38
    rw [hw2] at b7
    exact ⟨keepc hb2 hf1, keepc hb2 hc1, b7.c0, b7.c1, b7.c2, b7.c3, b7.c4, b7.c5, b7.c6, HOP.out, Below.refl _ _⟩)
  have HPA := hid (fun W => part_any ⟨k, cd, md, al, rq, cs', rs'⟩ (.slice xv nv cv') (.slice xr nr cr') ⟨_, _, _, rfl⟩ ⟨_, _, _, rfl⟩ W)
  unfold acV at HPA
  dsimp only at HPA
  have HW2 := hid hw2
  clear ho1 ho2 hb1 hb2 hk1 hk2 hw2
  cases res
  · obtain rfl : R = (4, acZ) := HRR.out.symm.trans (if_neg Bool.false_ne_true)
    obtain ⟨z0, z1, z2, z3, z4, z5, z6, y0, y1, y2, y3, y4, y5, y6, y7, y8, y9, ya, yb, yc, yd⟩ := HOP.out.out

    clear hf1 hc1
    have hw2 := HW2.out
    go_wp2
    obtain ⟨k0, k1, k2, k3, k4, k5, k6, -⟩ := Opn7.put (w := w2) (b := (w.heap.size + 1)) HOP.out (.int .i64 0) (.int .i64 0) (.int .i64 0) (.bool false) (.int .u8 0) (.slice none 0 0) (.slice none 0 0)
    have HF := hid (show ErD (4, acZ) w (.returned (.tuple #[acV acZ (.slice none 0 0) (.slice none 0 0), .int .i64 4])) (put7 w2 (w.heap.size + 1) (.int .i64 0) (.int .i64 0) (.int .i64 0) (.bool false) (.int .u8 0) (.slice none 0 0) (.slice none 0 0)) from Opn7.putZ (m := (4, acZ)) HB2.out (by omega) rfl)
    revert HF k0 k1 k2 k3 k4 k5 k6
    generalize hW : put7 w2 (w.heap.size + 1) (.int .i64 0) (.int .i64 0) (.int .i64 0) (.bool false) (.int .u8 0) (.slice none 0 0) (.slice none 0 0) = Wf
    intro k0 k1 k2 k3 k4 k5 k6 HF
    unfold put7 at hW
    rw [hW]
    exact bodyPost_ret (v := .tuple #[.agg #[.int .i64 0, .int .i64 0, .int .i64 0, .bool false, .int .u8 0, .slice none 0 0, .slice none 0 0], .int .i64 4]) (by simp [results, Tryd.results48, go_sem, k0, k1, k2, k3, k4, k5, k6]) rfl HF.out
  · go_upto_region 6 with fail
    rw [HW2.out]
    clear hf1 hc1 c0
    have HX2' := hid HX2.out.drew
    clear hl0 hn1 e0 hn1' hgl
    go_cut [30] (fun v wx => v = .bool ((q : Int) != partA ⟨k, cd, md, al, rq, cs', rs'⟩) ∧ Prt w2 wx g o q w.heap.size (.slice (some ⟨g, o, none⟩) N c) w1.heap.size (.int .i64 k) (.int .i64 cd) (.int .i64 md) (.bool al) (.int .u8 rq) (.slice xv nv cv') (.slice xr nr cr') (w.heap.size + 1))
    case first =>
      have i0 : (0 : Int) < N := IZ.out
      have j0 : 0 < N := JZ.out
      go_region_held3 (fun w' => w'.cell? ⟨w.heap.size, 1, none⟩ = some (.slice (some ⟨g, o, none⟩) N c) ∧ w'.cell? ⟨g, o, none⟩ = some (.int .u8 q) ∧ w'.cell? ⟨w1.heap.size, 0, none⟩ = some (.int .i64 k) ∧ w'.cell? ⟨w1.heap.size, 1, none⟩ = some (.int .i64 cd) ∧ w'.cell? ⟨w1.heap.size, 2, none⟩ = some (.int .i64 md) ∧ w'.cell? ⟨w1.heap.size, 3, none⟩ = some (.bool al) ∧ w'.cell? ⟨w1.heap.size, 4, none⟩ = some (.int .u8 rq) ∧ w'.cell? ⟨w1.heap.size, 5, none⟩ = some (.slice xv nv cv') ∧ w'.cell? ⟨w1.heap.size, 6, none⟩ = some (.slice xr nr cr') ∧ Opn7 w' (w.heap.size + 1) ∧ Below w2.heap.size w2 w') (first | with_reducible exact HX2'.out | with_reducible exact prt_step (by assumption) (by assumption) | fail) (first | (go_at_call 71; (with_reducible refine (HPA.out _).mono ?_); rintro e w3 ⟨rfl, hb3⟩))
      all_goals
        go_wp2_with fail
        go_meet
        exact ⟨rfl, by assumption⟩
    case rest =>
      obtain ⟨hv, hp⟩ := hcut
      have HOP := hid hp.2.2.2.2.2.2.2.2.2.1
      have HBc := hid hp.2.2.2.2.2.2.2.2.2.2
      have HB3 := hid (below_t HB2.out HBc.out)
      have HO1c := hid (HO1'.out.step HBc.out)
      have HO2c := hid (HO2'.out.step HBc.out)
      obtain ⟨z0, z1, z2, z3, z4, z5, z6, y0, y1, y2, y3, y4, y5, y6, y7, y8, y9, ya, yb, yc, yd⟩ := HOP.out.out
      by_cases hq2 : (q : Int) = partA ⟨k, cd, md, al, rq, cs', rs'⟩
      · obtain rfl : R = (0, ⟨k, cd, md, al, rq, cs', rs'⟩) := HRR.out.symm.trans ((if_pos rfl).trans (if_pos hq2))
        have hb : ((q : Int) != partA ⟨k, cd, md, al, rq, cs', rs'⟩) = false := by simpa using hq2
        rw [hb] at hv
        subst hv
        obtain ⟨-, -, x0, x1, x2, x3, x4, x5, x6, -, -⟩ := hp
        clear hb hq2
        go_wp2
        obtain ⟨k0, k1, k2, k3, k4, k5, k6, -⟩ := Opn7.put (w := wc) (b := (w.heap.size + 1)) HOP.out (.int .i64 k) (.int .i64 cd) (.int .i64 md) (.bool al) (.int .u8 rq) (.slice xv nv cv') (.slice xr nr cr')
        have HF := hid (show ErD (0, ⟨k, cd, md, al, rq, cs', rs'⟩) w (.returned (.tuple #[acV ⟨k, cd, md, al, rq, cs', rs'⟩ (.slice xv nv cv') (.slice xr nr cr'), .int .i64 0])) (put7 wc (w.heap.size + 1) (.int .i64 k) (.int .i64 cd) (.int .i64 md) (.bool al) (.int .u8 rq) (.slice xv nv cv') (.slice xr nr cr')) from ⟨_, _, rfl, put7_own HO1c.out HK1.out _ _ _ _ _ _ _, put7_own HO2c.out HK2.out _ _ _ _ _ _ _, put7_below HB3.out (by omega) _ _ _ _ _ _ _, fun j q => by have := HK1.out j q; omega, fun j q => by have := HK2.out j q; omega⟩)
        revert HF k0 k1 k2 k3 k4 k5 k6
        generalize hW : put7 wc (w.heap.size + 1) (.int .i64 k) (.int .i64 cd) (.int .i64 md) (.bool al) (.int .u8 rq) (.slice xv nv cv') (.slice xr nr cr') = Wf
        intro k0 k1 k2 k3 k4 k5 k6 HF
        unfold put7 at hW
        rw [hW]
        exact bodyPost_ret (v := .tuple #[.agg #[.int .i64 k, .int .i64 cd, .int .i64 md, .bool al, .int .u8 rq, .slice xv nv cv', .slice xr nr cr'], .int .i64 0]) (by simp [results, Tryd.results48, go_sem, k0, k1, k2, k3, k4, k5, k6]) rfl HF.out
      · obtain rfl : R = (1, acZ) := HRR.out.symm.trans ((if_pos rfl).trans (if_neg hq2))
        have hb : ((q : Int) != partA ⟨k, cd, md, al, rq, cs', rs'⟩) = true := by simpa using hq2
        rw [hb] at hv
        subst hv
        clear hb hq2 hp
        go_wp2
        obtain ⟨k0, k1, k2, k3, k4, k5, k6, -⟩ := Opn7.put (w := wc) (b := (w.heap.size + 1)) HOP.out (.int .i64 0) (.int .i64 0) (.int .i64 0) (.bool false) (.int .u8 0) (.slice none 0 0) (.slice none 0 0)
        have HF := hid (show ErD (1, acZ) w (.returned (.tuple #[acV acZ (.slice none 0 0) (.slice none 0 0), .int .i64 1])) (put7 wc (w.heap.size + 1) (.int .i64 0) (.int .i64 0) (.int .i64 0) (.bool false) (.int .u8 0) (.slice none 0 0) (.slice none 0 0)) from Opn7.putZ (m := (1, acZ)) HB3.out (by omega) rfl)
        revert HF k0 k1 k2 k3 k4 k5 k6
        generalize hW : put7 wc (w.heap.size + 1) (.int .i64 0) (.int .i64 0) (.int .i64 0) (.bool false) (.int .u8 0) (.slice none 0 0) (.slice none 0 0) = Wf
        intro k0 k1 k2 k3 k4 k5 k6 HF
        unfold put7 at hW
        rw [hW]
        exact bodyPost_ret (v := .tuple #[.agg #[.int .i64 0, .int .i64 0, .int .i64 0, .bool false, .int .u8 0, .slice none 0 0, .slice none 0 0], .int .i64 1]) (by simp [results, Tryd.results48, go_sem, k0, k1, k2, k3, k4, k5, k6]) rfl HF.out
set_option maxRecDepth 100000 in
set_option maxHeartbeats 4000000 in
theorem inp_outboundAct (id : Int) (v : Value) (xs : List Int) (w : World) (h : Reads w v xs) (hl : xs.length ≤ 10000000) (hC : Cods w) : Calls Tryd.prog 48 #[.agg #[.int .u8 id, v], .func (.func 55) #[] #[]] w (ErD (inP outM xs) w) := by
  rcases reads_cons h with ⟨x, c, rfl, rfl⟩ | ⟨g, o, c, r, q, hq, rfl, rfl, c0, hc, hm⟩
  · have HE := hid (fun w' hb => er_plain (m := inP outM []) (w := w) (w' := w') rfl rfl hb)
    clear h
    go_enter Tryd.func48, Tryd.ntmps48
    go_wp2
    refine bodyPost_ret (v := .tuple #[.agg #[.int .i64 0, .int .i64 0, .int .i64 0, .bool false, .int .u8 0, .slice none 0 0, .slice none 0 0], .int .i64 4]) (by simp [results, Tryd.results48, go_sem]) rfl (HE.out _ ?_)
    exact bal (bal (Below.refl _ _) _) _
  have hgl : g < w.heap.size := World.block_lt_of_cell? w _ c0
  have hl0 : 0 < r.length + 1 := by omega
  have hM := inP_cons outM (q : Int) r
  obtain ⟨w0, hw0⟩ : ∃ w0, (w.alloc (.cells #[.int .u8 id, .slice (some ⟨g, o, none⟩) (r.length + 1) c] 35)).alloc (.cells #[.int .i64 0, .int .i64 0, .int .i64 0, .bool false, .int .u8 0, .slice none 0 0, .slice none 0 0] 38) = w0 := ⟨_, rfl⟩
  have hb0 : Below w.heap.size w w0 := by rw [← hw0]; exact bal (bal (Below.refl _ _) _) _
  have hz0 : w0.heap.size = w.heap.size + 2 := by rw [← hw0]; simp
  have hf0 : w0.cell? ⟨w.heap.size, 1, none⟩ = some (.slice (some ⟨g, o, none⟩) (r.length + 1) c) := by rw [← hw0]; simp [go_sem]
  have HP0 := hid (show Opn7 w0 (w.heap.size + 1) from by
    rw [← hw0]
    have := Box7.new (v0 := .int .i64 0) (v1 := .int .i64 0) (v2 := .int .i64 0) (v3 := .bool false) (v4 := .int .u8 0) (v5 := .slice none 0 0) (v6 := .slice none 0 0) (w.alloc (.cells #[.int .u8 id, .slice (some ⟨g, o, none⟩) (r.length + 1) c] 35)) 38
    rw [World.size_alloc] at this
    exact ⟨_, _, _, _, _, _, _, this⟩)
  have e0 : (((r.length + 1 : Nat) : Int) == 0) = false := by simp; omega
  have hn1 : (0 : Int) < ((r.length + 1 : Nat) : Int) := by omega
  obtain ⟨xs, cs, hsl0, hrd⟩ := from_all h 1 (by simp)
  have hdr : ((q : Int) :: r).drop 1 = r := rfl
  rw [hdr] at hrd
  have hlen : ((q : Int) :: r).length - 1 = r.length := by simp
  rw [hlen] at hsl0 hrd
  have HME := hid (fun W (hW : Below w.heap.size w W) => outboundAct_any _ r W (hrd W (reads_below h hW)) (by simp at hl; omega) (hC.go hW))
  have HME0 := hid (HME.out w0 hb0)
  have hsl : ∀ w', (Instr.sliceAt 22 (.slice (some ⟨g, o, none⟩) (r.length + 1) c) (some (.int .i64 1)) none none).run Tryd.prog w' = .ok (.slice xs r.length cs) w' := hsl0
  have HB0 := hid hb0
  have HF0 := hid hf0
  have HC0 := hid c0
  generalize inP outM ((q : Int) :: r) = R at hM ⊢
  generalize r.length = n at *
  have hn1' : (1 : Nat) ≤ n + 1 := by omega
  generalize n + 1 = N at *
  clear h hsl0 hlen hdr hrd hl hc hm HME hf0 hC
  generalize outM r = m at HME0 hM
  have HRR := hid hM.symm
  clear hM
  have HW0 := hid hw0
  have IZ := hid hn1
  have JZ := hid hl0
  clear hw0 hb0
  go_enter Tryd.func48, Tryd.ntmps48
  go_wp2_with fail
  rw [HW0.out]
  with_reducible refine HME0.out.mono ?_
  rintro e w1 ⟨cv, rv, rfl, ho1, ho2, hb1, hk1, hk2⟩
  obtain ⟨⟨k, cd, md, al, rq, cs', rs'⟩, res⟩ := m
  dsimp only [acV] at ho1 ho2 ⊢
  obtain ⟨xv, nv, cv', rfl⟩ := own_slice ho1
  obtain ⟨xr, nr, cr', rfl⟩ := own_slice ho2
  have hz1 := hb1.size
  have HB1 := hid (below_t HB0.out hb1)
  have HP1 := hid (HP0.out.step hb1)
  have hf1 := keepc hb1 HF0.out
  have hc1 := keepc (below_t HB0.out hb1) HC0.out
  have HO1 := hid ho1
  have HO2 := hid ho2
  have HK1 := hid (show ∀ j ∈ blkV (.slice xv nv cv'), w.heap.size + 1 < j from fun j q => by have := hk1 j q; omega)
  have HK2 := hid (show ∀ j ∈ blkV (.slice xr nr cr'), w.heap.size + 1 < j from fun j q => by have := hk2 j q; omega)
  obtain ⟨w2, hw2⟩ : ∃ w2, w1.alloc (.cells #[.int .i64 k, .int .i64 cd, .int .i64 md, .bool al, .int .u8 rq, .slice xv nv cv', .slice xr nr cr'] 38) = w2 := ⟨_, rfl⟩
  have hb2 : Below w1.heap.size w1 w2 := by rw [← hw2]; exact bal (Below.refl _ _) _
  have HB2 := hid (below_t HB1.out hb2)
  have HOP := hid (HP1.out.step hb2)
  have HO1' := hid (HO1.out.step hb2)
  have HO2' := hid (HO2.out.step hb2)
  have HX2 := hid (show Prt w2 w2 g o q w.heap.size (.slice (some ⟨g, o, none⟩) N c) w1.heap.size (.int .i64 k) (.int .i64 cd) (.int .i64 md) (.bool al) (.int .u8 rq) (.slice xv nv cv') (.slice xr nr cr') (w.heap.size + 1) from by
    have b7 := Box7.new (v0 := .int .i64 k) (v1 := .int .i64 cd) (v2 := .int .i64 md) (v3 := .bool al) (v4 := .int .u8 rq) (v5 := .slice xv nv cv') (v6 := .slice xr nr cr') w1 38
    rw [hw2] at b7
    exact ⟨keepc hb2 hf1, keepc hb2 hc1, b7.c0, b7.c1, b7.c2, b7.c3, b7.c4, b7.c5, b7.c6, HOP.out, Below.refl _ _⟩)
  have HPA := hid (fun W => part_any ⟨k, cd, md, al, rq, cs', rs'⟩ (.slice xv nv cv') (.slice xr nr cr') ⟨_, _, _, rfl⟩ ⟨_, _, _, rfl⟩ W)
  unfold acV at HPA
  dsimp only at HPA
  have HW2 := hid hw2
  clear ho1 ho2 hb1 hb2 hk1 hk2 hw2
  cases res
  · obtain rfl : R = (4, acZ) := HRR.out.symm.trans (if_neg Bool.false_ne_true)
    obtain ⟨z0, z1, z2, z3, z4, z5, z6, y0, y1, y2, y3, y4, y5, y6, y7, y8, y9, ya, yb, yc, yd⟩ := HOP.out.out

    clear hf1 hc1
    have hw2 := HW2.out
    go_wp2
    obtain ⟨k0, k1, k2, k3, k4, k5, k6, -⟩ := Opn7.put (w := w2) (b := (w.heap.size + 1)) HOP.out (.int .i64 0) (.int .i64 0) (.int .i64 0) (.bool false) (.int .u8 0) (.slice none 0 0) (.slice none 0 0)
    have HF := hid (show ErD (4, acZ) w (.returned (.tuple #[acV acZ (.slice none 0 0) (.slice none 0 0), .int .i64 4])) (put7 w2 (w.heap.size + 1) (.int .i64 0) (.int .i64 0) (.int .i64 0) (.bool false) (.int .u8 0) (.slice none 0 0) (.slice none 0 0)) from Opn7.putZ (m := (4, acZ)) HB2.out (by omega) rfl)
    revert HF k0 k1 k2 k3 k4 k5 k6
    generalize hW : put7 w2 (w.heap.size + 1) (.int .i64 0) (.int .i64 0) (.int .i64 0) (.bool false) (.int .u8 0) (.slice none 0 0) (.slice none 0 0) = Wf
    intro k0 k1 k2 k3 k4 k5 k6 HF
    unfold put7 at hW
    rw [hW]
    exact bodyPost_ret (v := .tuple #[.agg #[.int .i64 0, .int .i64 0, .int .i64 0, .bool false, .int .u8 0, .slice none 0 0, .slice none 0 0], .int .i64 4]) (by simp [results, Tryd.results48, go_sem, k0, k1, k2, k3, k4, k5, k6]) rfl HF.out
  · go_upto_region 6 with fail
    rw [HW2.out]
    clear hf1 hc1 c0
    have HX2' := hid HX2.out.drew
    clear hl0 hn1 e0 hn1' hgl
    go_cut [30] (fun v wx => v = .bool ((q : Int) != partA ⟨k, cd, md, al, rq, cs', rs'⟩) ∧ Prt w2 wx g o q w.heap.size (.slice (some ⟨g, o, none⟩) N c) w1.heap.size (.int .i64 k) (.int .i64 cd) (.int .i64 md) (.bool al) (.int .u8 rq) (.slice xv nv cv') (.slice xr nr cr') (w.heap.size + 1))
    case first =>
      have i0 : (0 : Int) < N := IZ.out
      have j0 : 0 < N := JZ.out
      go_region_held3 (fun w' => w'.cell? ⟨w.heap.size, 1, none⟩ = some (.slice (some ⟨g, o, none⟩) N c) ∧ w'.cell? ⟨g, o, none⟩ = some (.int .u8 q) ∧ w'.cell? ⟨w1.heap.size, 0, none⟩ = some (.int .i64 k) ∧ w'.cell? ⟨w1.heap.size, 1, none⟩ = some (.int .i64 cd) ∧ w'.cell? ⟨w1.heap.size, 2, none⟩ = some (.int .i64 md) ∧ w'.cell? ⟨w1.heap.size, 3, none⟩ = some (.bool al) ∧ w'.cell? ⟨w1.heap.size, 4, none⟩ = some (.int .u8 rq) ∧ w'.cell? ⟨w1.heap.size, 5, none⟩ = some (.slice xv nv cv') ∧ w'.cell? ⟨w1.heap.size, 6, none⟩ = some (.slice xr nr cr') ∧ Opn7 w' (w.heap.size + 1) ∧ Below w2.heap.size w2 w') (first | with_reducible exact HX2'.out | with_reducible exact prt_step (by assumption) (by assumption) | fail) (first | (go_at_call 71; (with_reducible refine (HPA.out _).mono ?_); rintro e w3 ⟨rfl, hb3⟩))
      all_goals
        go_wp2_with fail
        go_meet
        exact ⟨rfl, by assumption⟩
    case rest =>
      obtain ⟨hv, hp⟩ := hcut
      have HOP := hid hp.2.2.2.2.2.2.2.2.2.1
      have HBc := hid hp.2.2.2.2.2.2.2.2.2.2
      have HB3 := hid (below_t HB2.out HBc.out)
      have HO1c := hid (HO1'.out.step HBc.out)
      have HO2c := hid (HO2'.out.step HBc.out)
      obtain ⟨z0, z1, z2, z3, z4, z5, z6, y0, y1, y2, y3, y4, y5, y6, y7, y8, y9, ya, yb, yc, yd⟩ := HOP.out.out
      by_cases hq2 : (q : Int) = partA ⟨k, cd, md, al, rq, cs', rs'⟩
      · obtain rfl : R = (0, ⟨k, cd, md, al, rq, cs', rs'⟩) := HRR.out.symm.trans ((if_pos rfl).trans (if_pos hq2))
        have hb : ((q : Int) != partA ⟨k, cd, md, al, rq, cs', rs'⟩) = false := by simpa using hq2
        rw [hb] at hv
        subst hv
        obtain ⟨-, -, x0, x1, x2, x3, x4, x5, x6, -, -⟩ := hp
        clear hb hq2
        go_wp2
        obtain ⟨k0, k1, k2, k3, k4, k5, k6, -⟩ := Opn7.put (w := wc) (b := (w.heap.size + 1)) HOP.out (.int .i64 k) (.int .i64 cd) (.int .i64 md) (.bool al) (.int .u8 rq) (.slice xv nv cv') (.slice xr nr cr')
        have HF := hid (show ErD (0, ⟨k, cd, md, al, rq, cs', rs'⟩) w (.returned (.tuple #[acV ⟨k, cd, md, al, rq, cs', rs'⟩ (.slice xv nv cv') (.slice xr nr cr'), .int .i64 0])) (put7 wc (w.heap.size + 1) (.int .i64 k) (.int .i64 cd) (.int .i64 md) (.bool al) (.int .u8 rq) (.slice xv nv cv') (.slice xr nr cr')) from ⟨_, _, rfl, put7_own HO1c.out HK1.out _ _ _ _ _ _ _, put7_own HO2c.out HK2.out _ _ _ _ _ _ _, put7_below HB3.out (by omega) _ _ _ _ _ _ _, fun j q => by have := HK1.out j q; omega, fun j q => by have := HK2.out j q; omega⟩)
        revert HF k0 k1 k2 k3 k4 k5 k6
        generalize hW : put7 wc (w.heap.size + 1) (.int .i64 k) (.int .i64 cd) (.int .i64 md) (.bool al) (.int .u8 rq) (.slice xv nv cv') (.slice xr nr cr') = Wf
        intro k0 k1 k2 k3 k4 k5 k6 HF
        unfold put7 at hW
        rw [hW]
        exact bodyPost_ret (v := .tuple #[.agg #[.int .i64 k, .int .i64 cd, .int .i64 md, .bool al, .int .u8 rq, .slice xv nv cv', .slice xr nr cr'], .int .i64 0]) (by simp [results, Tryd.results48, go_sem, k0, k1, k2, k3, k4, k5, k6]) rfl HF.out
      · obtain rfl : R = (1, acZ) := HRR.out.symm.trans ((if_pos rfl).trans (if_neg hq2))
        have hb : ((q : Int) != partA ⟨k, cd, md, al, rq, cs', rs'⟩) = true := by simpa using hq2
        rw [hb] at hv
        subst hv
        clear hb hq2 hp
        go_wp2
        obtain ⟨k0, k1, k2, k3, k4, k5, k6, -⟩ := Opn7.put (w := wc) (b := (w.heap.size + 1)) HOP.out (.int .i64 0) (.int .i64 0) (.int .i64 0) (.bool false) (.int .u8 0) (.slice none 0 0) (.slice none 0 0)
        have HF := hid (show ErD (1, acZ) w (.returned (.tuple #[acV acZ (.slice none 0 0) (.slice none 0 0), .int .i64 1])) (put7 wc (w.heap.size + 1) (.int .i64 0) (.int .i64 0) (.int .i64 0) (.bool false) (.int .u8 0) (.slice none 0 0) (.slice none 0 0)) from Opn7.putZ (m := (1, acZ)) HB3.out (by omega) rfl)
        revert HF k0 k1 k2 k3 k4 k5 k6
        generalize hW : put7 wc (w.heap.size + 1) (.int .i64 0) (.int .i64 0) (.int .i64 0) (.bool false) (.int .u8 0) (.slice none 0 0) (.slice none 0 0) = Wf
        intro k0 k1 k2 k3 k4 k5 k6 HF
        unfold put7 at hW
        rw [hW]
        exact bodyPost_ret (v := .tuple #[.agg #[.int .i64 0, .int .i64 0, .int .i64 0, .bool false, .int .u8 0, .slice none 0 0, .slice none 0 0], .int .i64 1]) (by simp [results, Tryd.results48, go_sem, k0, k1, k2, k3, k4, k5, k6]) rfl HF.out
end Go.Proofs.YtdpgmepblmlaaaaDoor
