/-
  sfield: what the data behind a Read Partition's mean.
-/
import Derived.Test.YtdpgmepblmlaaaaDoorRg
namespace Go.Proofs.YtdpgmepblmlaaaaDoor
open Go.RowKit Go.Lib Go.Deep

set_option maxRecDepth 100000 in
set_option maxHeartbeats 4000000 in
theorem readAct_any (v : Value) (xs : List Int) (w : World) (h : Reads w v xs) (hl : xs.length ≤ 10000000) (hC : Cods w) : Calls Tryd.prog 49 #[v] w (MeanD (readM xs) w) := by
  rcases reads_cons h with ⟨x, c, rfl, rfl⟩ | ⟨g, o, c, r, q, hq, rfl, rfl, c0, hc, hm⟩
  · have HE := hid (fun w' hb => mean_plain (m := readM []) (w := w) (w' := w') rfl rfl hb)
    clear h
    go_enter Tryd.func49, Tryd.ntmps49
    go_wp2
    refine bodyPost_ret (v := .tuple #[.agg #[.int .i64 0, .int .i64 0, .int .i64 0, .bool false, .int .u8 0, .slice none 0 0, .slice none 0 0], .bool false]) (by simp [results, Tryd.results49, go_sem]) rfl (HE.out _ ?_)
    exact (Below.refl _ _).alloc (Nat.le_refl _) _
  have hgl : g < w.heap.size := World.block_lt_of_cell? w _ c0
  have hl0 : 0 < r.length + 1 := by omega
  have hM := readM_cons (q : Int) r
  by_cases h2 : (q : Int) = 2
  · rw [if_pos h2] at hM
    obtain rfl : q = 2 := by omega
    by_cases hr : r = []
    · have HE := hid (fun w' hb => (show MeanD (readM (((2 : Nat) : Int) :: r)) w _ w' from by rw [hM, hr]; exact mean_plain (m := (acK 1, true)) (w := w) (w' := w') rfl rfl hb))
      subst hr
      clear h hc hm hM hl hC
      simp only [List.length_nil, Nat.zero_add] at *
      go_enter Tryd.func49, Tryd.ntmps49
      go_wp2
      refine bodyPost_ret (v := .tuple #[.agg #[.int .i64 1, .int .i64 0, .int .i64 0, .bool false, .int .u8 0, .slice none 0 0, .slice none 0 0], .bool true]) (by simp [results, Tryd.results49, go_sem]) rfl (HE.out _ ?_)
      exact (Below.refl _ _).alloc (Nat.le_refl _) _
    · have hr0 : 0 < r.length := List.length_pos_iff.2 hr
      have HE := hid (fun w' hb => (show MeanD (readM (((2 : Nat) : Int) :: r)) w _ w' from by rw [hM, show r.isEmpty = false from List.isEmpty_eq_false_iff.2 hr]; exact mean_plain (m := (acK 1, false)) (w := w) (w' := w') rfl rfl hb))
      have e1 : (((r.length + 1 : Nat) : Int) == 1) = false := by simp; omega
      have e0 : (((r.length + 1 : Nat) : Int) == 0) = false := by simp; omega
      have hn1 : (0 : Int) < ((r.length + 1 : Nat) : Int) := by omega
      generalize r.length + 1 = N at *
      clear h hc hm hM hl hC hr0 hr
      go_enter Tryd.func49, Tryd.ntmps49
      go_wp2
      refine bodyPost_ret (v := .tuple #[.agg #[.int .i64 1, .int .i64 0, .int .i64 0, .bool false, .int .u8 0, .slice none 0 0, .slice none 0 0], .bool false]) (by simp [results, Tryd.results49, go_sem]) rfl (HE.out _ ?_)
      exact (Below.refl _ _).alloc (Nat.le_refl _) _
  rw [if_neg h2] at hM
  have HR := hid h
  have hal : Below w.heap.size w (w.alloc (.cells #[.int .i64 0, .int .i64 0, .int .i64 0, .bool false, .int .u8 0, .slice none 0 0, .slice none 0 0] 38)) := bal (Below.refl _ _) _
  have HBX := hid (Box7.new (v0 := .int .i64 0) (v1 := .int .i64 0) (v2 := .int .i64 0) (v3 := .bool false) (v4 := .int .u8 0) (v5 := .slice none 0 0) (v6 := .slice none 0 0) w 38)
  have HAL := hid hal
  have e0 : (((r.length + 1 : Nat) : Int) == 0) = false := by simp; omega
  have hn1 : (0 : Int) < ((r.length + 1 : Nat) : Int) := by omega
  by_cases h3 : (q : Int) = 3
  · rw [if_pos h3] at hM
    obtain rfl : q = 3 := by omega
    rw [hM]
    obtain ⟨xs, cs, hsl0, hrd⟩ := from_all h 1 (by simp)
    have hdr : (((3 : Nat) : Int) :: r).drop 1 = r := rfl
    rw [hdr] at hrd
    have hlen : (((3 : Nat) : Int) :: r).length - 1 = r.length := by simp
    rw [hlen] at hsl0 hrd
    have HLA := hid (listAct_any _ r _ (hrd _ (reads_below h hal)) (by simp at hl; omega))
    have hn1' : (1 : Nat) ≤ r.length + 1 := by omega
    have hsl : ∀ w', (Instr.sliceAt 22 (.slice (some ⟨g, o, none⟩) (r.length + 1) c) (some (.int .i64 1)) none none).run Tryd.prog w' = .ok (.slice xs r.length cs) w' := hsl0
    generalize r.length = n at *
    generalize n + 1 = N at *
    clear h hM hsl0 hlen hdr hrd hl hC hc hm h2
    generalize listM r = m at HLA ⊢
    go_enter Tryd.func49, Tryd.ntmps49
    go_wp2_with fail
    with_reducible refine HLA.out.mono ?_
    rintro e w1 ⟨cv, rv, rfl, ho1, ho2, hb1, hk1, hk2⟩
    obtain ⟨⟨k, cd, md, al, rq, cs', rs'⟩, res⟩ := m
    dsimp only [acV] at ho1 ho2 ⊢
    obtain ⟨xv, nv, cv', rfl⟩ := own_slice ho1
    obtain ⟨xr, nr, cr', rfl⟩ := own_slice ho2
    have HOP := hid (show Opn7 w1 w.heap.size from ⟨_, _, _, _, _, _, _, HBX.out.step hb1⟩)
    have HO1 := hid ho1
    have HO2 := hid ho2
    have HB1 := hid (below_t HAL.out hb1)
    have HK1 := hid (show ∀ k ∈ blkV (.slice xv nv cv'), w.heap.size < k from fun k q => by have := hk1 k q; simp at this; omega)
    have HK2 := hid (show ∀ k ∈ blkV (.slice xr nr cr'), w.heap.size < k from fun k q => by have := hk2 k q; simp at this; omega)
    obtain ⟨z0, z1, z2, z3, z4, z5, z6, y0, y1, y2, y3, y4, y5, y6, y7, y8, y9, ya, yb, yc, yd⟩ := HOP.out.out
    clear ho1 ho2 hb1 hk1 hk2 c0
    go_wp2
    obtain ⟨k0, k1, k2, k3, k4, k5, k6, -⟩ := Opn7.put (w := w1) (b := w.heap.size) HOP.out (.int .i64 k) (.int .i64 cd) (.int .i64 md) (.bool al) (.int .u8 rq) (.slice xv nv cv') (.slice xr nr cr')
    have HF := hid (show MeanD (⟨k, cd, md, al, rq, cs', rs'⟩, res) w (.returned (.tuple #[acV ⟨k, cd, md, al, rq, cs', rs'⟩ (.slice xv nv cv') (.slice xr nr cr'), .bool res])) (put7 w1 w.heap.size (.int .i64 k) (.int .i64 cd) (.int .i64 md) (.bool al) (.int .u8 rq) (.slice xv nv cv') (.slice xr nr cr')) from ⟨_, _, rfl, put7_own HO1.out HK1.out _ _ _ _ _ _ _, put7_own HO2.out HK2.out _ _ _ _ _ _ _, put7_below HB1.out (Nat.le_refl _) _ _ _ _ _ _ _, fun k q => Nat.le_of_lt (HK1.out k q), fun k q => Nat.le_of_lt (HK2.out k q)⟩)
    revert HF k0 k1 k2 k3 k4 k5 k6
    generalize hW : put7 w1 w.heap.size (.int .i64 k) (.int .i64 cd) (.int .i64 md) (.bool al) (.int .u8 rq) (.slice xv nv cv') (.slice xr nr cr') = Wf
    intro k0 k1 k2 k3 k4 k5 k6 HF
    unfold put7 at hW
    rw [hW]
    exact bodyPost_ret (v := .tuple #[.agg #[.int .i64 k, .int .i64 cd, .int .i64 md, .bool al, .int .u8 rq, .slice xv nv cv', .slice xr nr cr'], .bool res]) (by simp [results, Tryd.results49, go_sem, k0, k1, k2, k3, k4, k5, k6]) rfl HF.out
  rw [if_neg h3] at hM
  rw [hM]
  have HCM := hid (command_any q hq _ (hC.go hal))
  have HRD := hid (fun W => reads_w (cmdF (q : Int)).1 W)
  have q2 : ((q : Int) == 2) = false := by simpa using h2
  have q3 : ((q : Int) == 3) = false := by simpa using h3
  unfold cmdOK
  generalize cmdF (q : Int) = cm at HCM HRD ⊢
  obtain ⟨C, F⟩ := cm
  dsimp only at HCM HRD ⊢
  generalize (decide (5 ≤ C) && decide (C ≤ 7)) = T at HRD ⊢
  have hre : r.isEmpty = (((r.length + 1 : Nat) : Int) == 1) := by
    match r with
    | [] => rfl
    | _ :: _ => simp; omega
  have HRE := hid hre
  generalize r.isEmpty = Em at HRE ⊢
  obtain ⟨Rs, hRs⟩ : ∃ Rs, (F && T && Em) = Rs := ⟨_, rfl⟩
  rw [hRs]
  have HRS := hid hRs
  clear hRs
  generalize r.length + 1 = N at *
  clear h hM hl hC hc hm h2 h3 hre hal HR
  go_enter Tryd.func49, Tryd.ntmps49
  go_wp2_with fail
  with_reducible refine HCM.out.mono ?_
  rintro e w1 ⟨rfl, hb1⟩
  have HOP := hid (show Opn7 w1 w.heap.size from ⟨_, _, _, _, _, _, _, HBX.out.step hb1⟩)
  have HB1 := hid (below_t HAL.out hb1)
  obtain ⟨z0, z1, z2, z3, z4, z5, z6, y0, y1, y2, y3, y4, y5, y6, y7, y8, y9, ya, yb, yc, yd⟩ := HOP.out.out
  clear hb1 c0
  cases F
  · obtain rfl : Rs = false := by rw [← HRS.out]; rfl
    go_wp2
    obtain ⟨k0, k1, k2, k3, k4, k5, k6, -⟩ := Opn7.put (w := w1) (b := w.heap.size) HOP.out (.int .i64 3) (.int .i64 C) (.int .i64 0) (.bool false) (.int .u8 0) (.slice none 0 0) (.slice none 0 0)
    have HF := hid (show MeanD (⟨3, C, 0, false, 0, [], []⟩, false) w (.returned (.tuple #[acV ⟨3, C, 0, false, 0, [], []⟩ (.slice none 0 0) (.slice none 0 0), .bool false])) (put7 w1 w.heap.size (.int .i64 3) (.int .i64 C) (.int .i64 0) (.bool false) (.int .u8 0) (.slice none 0 0) (.slice none 0 0)) from ⟨_, _, rfl, OwnB.nil _, OwnB.nil _, put7_below HB1.out (Nat.le_refl _) _ _ _ _ _ _ _, fun _ q => (by cases q), fun _ q => (by cases q)⟩)
    revert HF k0 k1 k2 k3 k4 k5 k6
    generalize hW : put7 w1 w.heap.size (.int .i64 3) (.int .i64 C) (.int .i64 0) (.bool false) (.int .u8 0) (.slice none 0 0) (.slice none 0 0) = Wf
    intro k0 k1 k2 k3 k4 k5 k6 HF
    unfold put7 at hW
    rw [hW]
    exact bodyPost_ret (v := .tuple #[.agg #[.int .i64 3, .int .i64 C, .int .i64 0, .bool false, .int .u8 0, .slice none 0 0, .slice none 0 0], .bool false]) (by simp [results, Tryd.results49, go_sem, k0, k1, k2, k3, k4, k5, k6]) rfl HF.out
  · cases T
    · obtain rfl : Rs = false := by rw [← HRS.out]; rfl
      go_wp2_with fail
      with_reducible refine (HRD.out _).mono ?_
      rintro e w1' ⟨rfl, hw⟩
      obtain rfl := hw.symm
      go_wp2
      obtain ⟨k0, k1, k2, k3, k4, k5, k6, -⟩ := Opn7.put (w := w1) (b := w.heap.size) HOP.out (.int .i64 3) (.int .i64 C) (.int .i64 0) (.bool false) (.int .u8 0) (.slice none 0 0) (.slice none 0 0)
      have HF := hid (show MeanD (⟨3, C, 0, false, 0, [], []⟩, false) w (.returned (.tuple #[acV ⟨3, C, 0, false, 0, [], []⟩ (.slice none 0 0) (.slice none 0 0), .bool false])) (put7 w1 w.heap.size (.int .i64 3) (.int .i64 C) (.int .i64 0) (.bool false) (.int .u8 0) (.slice none 0 0) (.slice none 0 0)) from ⟨_, _, rfl, OwnB.nil _, OwnB.nil _, put7_below HB1.out (Nat.le_refl _) _ _ _ _ _ _ _, fun _ q => (by cases q), fun _ q => (by cases q)⟩)
      revert HF k0 k1 k2 k3 k4 k5 k6
      generalize hW : put7 w1 w.heap.size (.int .i64 3) (.int .i64 C) (.int .i64 0) (.bool false) (.int .u8 0) (.slice none 0 0) (.slice none 0 0) = Wf
      intro k0 k1 k2 k3 k4 k5 k6 HF
      unfold put7 at hW
      rw [hW]
      exact bodyPost_ret (v := .tuple #[.agg #[.int .i64 3, .int .i64 C, .int .i64 0, .bool false, .int .u8 0, .slice none 0 0, .slice none 0 0], .bool false]) (by simp [results, Tryd.results49, go_sem, k0, k1, k2, k3, k4, k5, k6]) rfl HF.out
    · cases Em
      · have hne := HRE.out.symm
        obtain rfl : Rs = false := by rw [← HRS.out]; rfl
        go_wp2_with fail
        with_reducible refine (HRD.out _).mono ?_
        rintro e w1' ⟨rfl, hw⟩
        obtain rfl := hw.symm
        go_wp2
        obtain ⟨k0, k1, k2, k3, k4, k5, k6, -⟩ := Opn7.put (w := w1) (b := w.heap.size) HOP.out (.int .i64 3) (.int .i64 C) (.int .i64 0) (.bool false) (.int .u8 0) (.slice none 0 0) (.slice none 0 0)
        have HF := hid (show MeanD (⟨3, C, 0, false, 0, [], []⟩, false) w (.returned (.tuple #[acV ⟨3, C, 0, false, 0, [], []⟩ (.slice none 0 0) (.slice none 0 0), .bool false])) (put7 w1 w.heap.size (.int .i64 3) (.int .i64 C) (.int .i64 0) (.bool false) (.int .u8 0) (.slice none 0 0) (.slice none 0 0)) from ⟨_, _, rfl, OwnB.nil _, OwnB.nil _, put7_below HB1.out (Nat.le_refl _) _ _ _ _ _ _ _, fun _ q => (by cases q), fun _ q => (by cases q)⟩)
        revert HF k0 k1 k2 k3 k4 k5 k6
        generalize hW : put7 w1 w.heap.size (.int .i64 3) (.int .i64 C) (.int .i64 0) (.bool false) (.int .u8 0) (.slice none 0 0) (.slice none 0 0) = Wf
        intro k0 k1 k2 k3 k4 k5 k6 HF
        unfold put7 at hW
        rw [hW]
        exact bodyPost_ret (v := .tuple #[.agg #[.int .i64 3, .int .i64 C, .int .i64 0, .bool false, .int .u8 0, .slice none 0 0, .slice none 0 0], .bool false]) (by simp [results, Tryd.results49, go_sem, k0, k1, k2, k3, k4, k5, k6]) rfl HF.out
      · have hne := HRE.out.symm
        obtain rfl : Rs = true := by rw [← HRS.out]; rfl
        go_wp2_with fail
        with_reducible refine (HRD.out _).mono ?_
        rintro e w1' ⟨rfl, hw⟩
        obtain rfl := hw.symm
        go_wp2
        obtain ⟨k0, k1, k2, k3, k4, k5, k6, -⟩ := Opn7.put (w := w1) (b := w.heap.size) HOP.out (.int .i64 3) (.int .i64 C) (.int .i64 0) (.bool false) (.int .u8 0) (.slice none 0 0) (.slice none 0 0)
        have HF := hid (show MeanD (⟨3, C, 0, false, 0, [], []⟩, true) w (.returned (.tuple #[acV ⟨3, C, 0, false, 0, [], []⟩ (.slice none 0 0) (.slice none 0 0), .bool true])) (put7 w1 w.heap.size (.int .i64 3) (.int .i64 C) (.int .i64 0) (.bool false) (.int .u8 0) (.slice none 0 0) (.slice none 0 0)) from ⟨_, _, rfl, OwnB.nil _, OwnB.nil _, put7_below HB1.out (Nat.le_refl _) _ _ _ _ _ _ _, fun _ q => (by cases q), fun _ q => (by cases q)⟩)
        revert HF k0 k1 k2 k3 k4 k5 k6
        generalize hW : put7 w1 w.heap.size (.int .i64 3) (.int .i64 C) (.int .i64 0) (.bool false) (.int .u8 0) (.slice none 0 0) (.slice none 0 0) = Wf
        intro k0 k1 k2 k3 k4 k5 k6 HF
        unfold put7 at hW
        rw [hW]
        exact bodyPost_ret (v := .tuple #[.agg #[.int .i64 3, .int .i64 C, .int .i64 0, .bool false, .int .u8 0, .slice none 0 0, .slice none 0 0], .bool true]) (by simp [results, Tryd.results49, go_sem, k0, k1, k2, k3, k4, k5, k6]) rfl HF.out

end Go.Proofs.YtdpgmepblmlaaaaDoor
