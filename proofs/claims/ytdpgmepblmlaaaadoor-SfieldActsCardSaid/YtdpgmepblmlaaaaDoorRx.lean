/-
  The reference's Few.
-/
import Derived.Test.YtdpgmepblmlaaaaDoorRw
namespace Go.Proofs.YtdpgmepblmlaaaaDoor
open Go.RowKit Go.Lib Go.Deep

theorem Box7.set6 {w : World} {b : Nat} {v0 v1 v2 v3 v4 v5 v6 : Value} (h : Box7 w b v0 v1 v2 v3 v4 v5 v6) (u : Value) : Box7 (w.setCell ⟨b, 6, none⟩ u) b v0 v1 v2 v3 v4 v5 u :=
  ⟨set_o (by omega) h.c0, set_o (by omega) h.c1, set_o (by omega) h.c2, set_o (by omega) h.c3, set_o (by omega) h.c4, set_o (by omega) h.c5, set_s h.c6, fun i hi => by simp [h.fr i hi]⟩
theorem Box7.set5 {w : World} {b : Nat} {v0 v1 v2 v3 v4 v5 v6 : Value} (h : Box7 w b v0 v1 v2 v3 v4 v5 v6) (u : Value) : Box7 (w.setCell ⟨b, 5, none⟩ u) b v0 v1 v2 v3 v4 u v6 :=
  ⟨set_o (by omega) h.c0, set_o (by omega) h.c1, set_o (by omega) h.c2, set_o (by omega) h.c3, set_o (by omega) h.c4, set_s h.c5, set_o (by omega) h.c6, fun i hi => by simp [h.fr i hi]⟩
set_option maxRecDepth 100000 in
set_option maxHeartbeats 4000000 in
theorem few_any (a : AcD) (cv rv : Value) (w : World) (h1 : Reads w cv a.codes) (h2 : Reads w rv a.rcd) : Calls Tryd.prog 23 #[acV a cv rv] w fun e w' => ∃ cv rv, e = .returned (acV (fewF a) cv rv) ∧ ActM w w' (fewF a) cv rv := by
  obtain ⟨k, cd, md, al, rq, cs, rs⟩ := a
  unfold acV
  dsimp only at h1 h2 ⊢
  have HC := hid (fun W (hW : w.heap.size + 2 ≤ W.heap.size ∧ Below w.heap.size w W) => (show Calls Tryd.prog 11 #[cv, .int .i64 20] W (OwnDone (cs.take 20) W) from rcut_own _ 20 (by omega) cs W (reads_below h1 hW.2)))
  have HR := hid (fun W (hW : w.heap.size + 2 ≤ W.heap.size ∧ Below w.heap.size w W) => (show Calls Tryd.prog 11 #[rv, .int .i64 300] W (OwnDone (rs.take 300) W) from rcut_own _ 300 (by omega) rs W (reads_below h2 hW.2)))
  obtain ⟨x1, c1, rfl⟩ := reads_sl h1
  obtain ⟨x2, c2, rfl⟩ := reads_sl h2
  clear h1 h2
  generalize cs.length = n1 at *
  generalize rs.length = n2 at *
  go_enter Tryd.func23, Tryd.ntmps23
  go_wp2
  have HX := hid (show Box7 ((w.alloc (.cells #[.int .i64 k, .int .i64 cd, .int .i64 md, .bool al, .int .u8 rq, .slice x1 n1 c1, .slice x2 n2 c2] 41)).alloc (.cells #[.int .i64 0, .int .i64 0, .int .i64 0, .bool false, .int .u8 0, .slice none 0 0, .slice none 0 0] 41)).drew w.heap.size _ _ _ _ _ _ _ from ((Box7.new w _).step (bal (Below.refl _ _) _)).step (Below.refl _ _).drew)
  have HY := hid (show Box7 (((w.alloc (.cells #[.int .i64 k, .int .i64 cd, .int .i64 md, .bool al, .int .u8 rq, .slice x1 n1 c1, .slice x2 n2 c2] 41)).alloc (.cells #[.int .i64 0, .int .i64 0, .int .i64 0, .bool false, .int .u8 0, .slice none 0 0, .slice none 0 0] 41)).drew) (w.heap.size + 1) _ _ _ _ _ _ _ from by
    have q := (Box7.new (v0 := .int .i64 0) (v1 := .int .i64 0) (v2 := .int .i64 0) (v3 := .bool false) (v4 := .int .u8 0) (v5 := .slice none 0 0) (v6 := .slice none 0 0) (w.alloc (.cells #[.int .i64 k, .int .i64 cd, .int .i64 md, .bool al, .int .u8 rq, .slice x1 n1 c1, .slice x2 n2 c2] 41)) 41).step (Below.refl _ _).drew
    rwa [show (w.alloc (.cells #[.int .i64 k, .int .i64 cd, .int .i64 md, .bool al, .int .u8 rq, .slice x1 n1 c1, .slice x2 n2 c2] 41)).heap.size = w.heap.size + 1 by simp] at q)
  refine wp_region_held_drew (S := fun V => w.heap.size + 2 ≤ V.heap.size ∧ Below w.heap.size w V) (by kernel_rfl) ?_ (fun hHeld => ?_)
  · exact ⟨by simp, (bal (bal (Below.refl _ _) _) _).drew⟩
  refine takeD (i := 0) (v := ?_) 3 rfl rfl (by kernel_rfl) (by kernel_rfl) (by kernel_rfl) (fun _ _ _ h => h) (by assumption) (Or.inl ⟨by rfl, ?_⟩) ?_
  rotate_left
  · intro w hSw
    (try dsimp only at hSw)
    go_simp
    try with_reducible rfl
  simp only [List.setIfInBounds_toArray, List.set_cons_zero, List.set_cons_succ]
  refine takeD (i := 3) (v := ?_) 6 rfl rfl (by kernel_rfl) (by kernel_rfl) (by kernel_rfl) (fun _ _ _ h => h) (by assumption) (Or.inl ⟨by rfl, ?_⟩) ?_
  rotate_left
  · intro w hSw
    (try dsimp only at hSw)
    go_simp
    try with_reducible rfl
  simp only [List.setIfInBounds_toArray, List.set_cons_zero, List.set_cons_succ]
  refine wpAnyH_ready (rs := [1, 4]) (by kernel_rfl) (by simp) ?_
  refine AllReadyH.cons (by simp only [List.getElem?_toArray, List.getElem?_cons_succ, List.getElem?_cons_zero]; rfl) (fun K hK => ?_) (AllReadyH.cons (by simp only [List.getElem?_toArray, List.getElem?_cons_succ, List.getElem?_cons_zero]; rfl) (fun K hK => ?_) AllReadyH.nil)
  · have q5 := HX.out.c5
    go_simp
    refine hK.out _ _ ?_ (fun hHeldN => ?_)
    · exact hHeld
    clear q5
    clear hK K hHeld
    have hHeld := hHeldN
    clear hHeldN
    (try simp only [Act.put, List.setIfInBounds_toArray, List.set_cons_zero, List.set_cons_succ])
    refine wpAnyH_ready (rs := [2, 4]) (by kernel_rfl) (by simp) ?_
    refine AllReadyH.cons (by simp only [List.getElem?_toArray, List.getElem?_cons_succ, List.getElem?_cons_zero]; rfl) (fun K hK => ?_) (AllReadyH.cons (by simp only [List.getElem?_toArray, List.getElem?_cons_succ, List.getElem?_cons_zero]; rfl) (fun K hK => ?_) AllReadyH.nil)
    · go_simp
      go_at_call 11; (with_reducible refine (HC.out _ hHeld).mono ?_); rintro e w5 ⟨v5, rfl, ho5, hb5, hk5⟩
      refine hK.out _ _ ?_ (fun hHeldN => ?_)
      · exact ⟨Nat.le_trans hHeld.1 hb5.size, below_t hHeld.2 hb5⟩
      obtain ⟨x5, n5, c5, rfl⟩ := own_slice ho5
      replace HX := hid (HX.out.step hb5)
      replace HY := hid (HY.out.step hb5)
      (try replace HO5 := hid (HO5.out.step hb5))
      (try replace HO6 := hid (HO6.out.step hb5))
      have HO5 := hid ho5
      have HK5 := hid (fun k hk => Nat.le_trans hHeld.1 (hk5 k hk))
      clear ho5 hb5 hk5
      clear hK K hHeld
      have hHeld := hHeldN
      clear hHeldN
      (try simp only [Act.put, List.setIfInBounds_toArray, List.set_cons_zero, List.set_cons_succ])
      refine wpAnyH_ready (rs := [4]) (by kernel_rfl) (by simp) ?_
      refine AllReadyH.cons (by simp only [List.getElem?_toArray, List.getElem?_cons_succ, List.getElem?_cons_zero]; rfl) (fun K hK => ?_) AllReadyH.nil
      have q6 := HX.out.c6
      go_simp
      refine hK.out _ _ ?_ (fun hHeldN => ?_)
      · exact hHeld
      clear q6
      clear hK K hHeld
      have hHeld := hHeldN
      clear hHeldN
      (try simp only [Act.put, List.setIfInBounds_toArray, List.set_cons_zero, List.set_cons_succ])
      refine takeD (i := 6) (v := ?_) 9 rfl rfl (by kernel_rfl) (by kernel_rfl) (by kernel_rfl) (fun _ _ _ h => h) (by assumption) (Or.inl ⟨by rfl, ?_⟩) ?_
      rotate_left
      · intro w hSw
        (try dsimp only at hSw)
        go_simp
        try with_reducible rfl
      simp only [List.setIfInBounds_toArray, List.set_cons_zero, List.set_cons_succ]
      refine wpAnyH_ready (rs := [5]) (by kernel_rfl) (by simp) ?_
      refine AllReadyH.cons (by simp only [List.getElem?_toArray, List.getElem?_cons_succ, List.getElem?_cons_zero]; rfl) (fun K hK => ?_) AllReadyH.nil
      go_simp
      go_at_call 11; (with_reducible refine (HR.out _ hHeld).mono ?_); rintro e w6 ⟨v6, rfl, ho6, hb6, hk6⟩
      refine hK.out _ _ ?_ (fun hHeldN => ?_)
      · exact ⟨Nat.le_trans hHeld.1 hb6.size, below_t hHeld.2 hb6⟩
      obtain ⟨x6, n6, c6, rfl⟩ := own_slice ho6
      replace HX := hid (HX.out.step hb6)
      replace HY := hid (HY.out.step hb6)
      (try replace HO5 := hid (HO5.out.step hb6))
      (try replace HO6 := hid (HO6.out.step hb6))
      have HO6 := hid ho6
      have HK6 := hid (fun k hk => Nat.le_trans hHeld.1 (hk6 k hk))
      clear ho6 hb6 hk6
      clear hK K hHeld
      have hHeld := hHeldN
      clear hHeldN
      (try simp only [Act.put, List.setIfInBounds_toArray, List.set_cons_zero, List.set_cons_succ])
      refine wpAnyH_ready (rs := [7]) (by kernel_rfl) (by simp) ?_
      refine AllReadyH.cons (by simp only [List.getElem?_toArray, List.getElem?_cons_succ, List.getElem?_cons_zero]; rfl) (fun K hK => ?_) AllReadyH.nil
      have q5 := HX.out.c5
      have y5 := HX.out.fr 5 (by omega)
      go_simp
      refine hK.out _ _ ?_ (fun hHeldN => ?_)
      · exact ⟨by simpa using hHeld.1, hHeld.2.setCell (by exact Nat.le_refl _) _⟩
      replace HX := hid (HX.out.set5 (.slice x5 n5 c5))
      replace HY := hid (HY.out.moved (Moved.set (S := [w.heap.size]) (List.mem_singleton_self _) 5 (.slice x5 n5 c5)) (fun q => by have := List.mem_singleton.1 q; omega))
      (try replace HO5 := hid (HO5.out.moved (Moved.set (S := [w.heap.size]) (List.mem_singleton_self _) 5 (.slice x5 n5 c5)) (fun k hk q => by have := HK5.out k hk; have := List.mem_singleton.1 q; omega)))
      (try replace HO6 := hid (HO6.out.moved (Moved.set (S := [w.heap.size]) (List.mem_singleton_self _) 5 (.slice x5 n5 c5)) (fun k hk q => by have := HK6.out k hk; have := List.mem_singleton.1 q; omega)))
      clear hK K hHeld
      have hHeld := hHeldN
      clear hHeldN
      (try simp only [Act.put, List.setIfInBounds_toArray, List.set_cons_zero, List.set_cons_succ])
      refine takeD (i := 8) (v := ?_) 10 rfl rfl (by kernel_rfl) (by kernel_rfl) (by kernel_rfl) (fun _ _ _ h => h) (by assumption) (Or.inl ⟨by rfl, ?_⟩) ?_
      rotate_left
      · intro w hSw
        (try dsimp only at hSw)
        go_simp
        try with_reducible rfl
      simp only [List.setIfInBounds_toArray, List.set_cons_zero, List.set_cons_succ]
      refine wpAnyH_ready (rs := [9]) (by kernel_rfl) (by simp) ?_
      refine AllReadyH.cons (by simp only [List.getElem?_toArray, List.getElem?_cons_succ, List.getElem?_cons_zero]; rfl) (fun K hK => ?_) AllReadyH.nil
      have q6 := HX.out.c6
      have y6 := HX.out.fr 6 (by omega)
      go_simp
      refine hK.out _ _ ?_ (fun hHeldN => ?_)
      · exact ⟨by simpa using hHeld.1, hHeld.2.setCell (by exact Nat.le_refl _) _⟩
      (try replace HO5 := hid (HO5.out.moved (Moved.set (S := [w.heap.size]) (List.mem_singleton_self _) 6 (.slice x6 n6 c6)) (fun k hk q => by have := HK5.out k hk; have := List.mem_singleton.1 q; omega)))
      (try replace HO6 := hid (HO6.out.moved (Moved.set (S := [w.heap.size]) (List.mem_singleton_self _) 6 (.slice x6 n6 c6)) (fun k hk q => by have := HK6.out k hk; have := List.mem_singleton.1 q; omega)))
      clear hK K hHeld
      have hHeld := hHeldN
      clear hHeldN
      (try simp only [Act.put, List.setIfInBounds_toArray, List.set_cons_zero, List.set_cons_succ])
      refine wpAnyH_done (by kernel_rfl) ?_ _
      have HEND := hHeld
      clear hHeld
      have HO5 := hid HO5.out
      have HO6 := hid HO6.out
      have HX2 := hid (HX.out.set6 (.slice x6 n6 c6))
      have HY2 := hid (HY.out.moved (Moved.set (S := [w.heap.size]) (List.mem_singleton_self _) 6 (.slice x6 n6 c6)) (fun q => by have := List.mem_singleton.1 q; omega))
      have HS2 := hid HEND.2
      clear HX HY HEND
      revert HO5 HO6 HX2 HY2 HS2
      generalize ((w6.setCell ⟨w.heap.size, 5, none⟩ (.slice x5 n5 c5)).setCell ⟨w.heap.size, 6, none⟩ (.slice x6 n6 c6)) = W9
      intro HO5 HO6 HX2 HY2 HS2
      have HO5 := hid (put7_own HO5.out (b := w.heap.size + 1) (fun k hk => Nat.lt_of_lt_of_le (Nat.lt_succ_self _) (HK5.out k hk)) (.int .i64 k) (.int .i64 cd) (.int .i64 md) (.bool al) (.int .u8 rq) (.slice x5 n5 c5) (.slice x6 n6 c6))
      have HO6 := hid (put7_own HO6.out (b := w.heap.size + 1) (fun k hk => Nat.lt_of_lt_of_le (Nat.lt_succ_self _) (HK6.out k hk)) (.int .i64 k) (.int .i64 cd) (.int .i64 md) (.bool al) (.int .u8 rq) (.slice x5 n5 c5) (.slice x6 n6 c6))
      have HBP := hid (put7_below (b := w.heap.size + 1) HS2.out (Nat.le_succ w.heap.size) (.int .i64 k) (.int .i64 cd) (.int .i64 md) (.bool al) (.int .u8 rq) (.slice x5 n5 c5) (.slice x6 n6 c6))
      obtain ⟨k0, k1, k2, k3, k4, k5, k6, -⟩ := HY2.out.put (.int .i64 k) (.int .i64 cd) (.int .i64 md) (.bool al) (.int .u8 rq) (.slice x5 n5 c5) (.slice x6 n6 c6)
      obtain ⟨q0, q1, q2, q3, q4, q5, q6, -⟩ := HX2.out
      obtain ⟨z0, z1, z2, z3, z4, z5, z6, zf⟩ := HY2.out
      have f0 := zf 0 (by omega)
      have f1 := zf 1 (by omega)
      have f2 := zf 2 (by omega)
      have f3 := zf 3 (by omega)
      have f4 := zf 4 (by omega)
      have f5 := zf 5 (by omega)
      have f6 := zf 6 (by omega)
      clear zf HX2 HY2 HS2
      revert HO5 HO6 HBP k0 k1 k2 k3 k4 k5 k6
      generalize hW : put7 W9 (w.heap.size + 1) (.int .i64 k) (.int .i64 cd) (.int .i64 md) (.bool al) (.int .u8 rq) (.slice x5 n5 c5) (.slice x6 n6 c6) = Wf
      intro HO5 HO6 HBP k0 k1 k2 k3 k4 k5 k6
      unfold put7 at hW
      go_wp2
      (try rw [hW])
      refine bodyPost_ret (v := .agg #[.int .i64 k, .int .i64 cd, .int .i64 md, .bool al, .int .u8 rq, .slice x5 n5 c5, .slice x6 n6 c6]) (by simp [results, Tryd.results23, go_sem, k0, k1, k2, k3, k4, k5, k6]) rfl ?_
      exact ⟨_, _, rfl, HO5.out, HO6.out, HBP.out, fun k hk => Nat.le_trans (Nat.le_add_right _ 2) (HK5.out k hk), fun k hk => Nat.le_trans (Nat.le_add_right _ 2) (HK6.out k hk)⟩
    · have q6 := HX.out.c6
      go_simp
      refine hK.out _ _ ?_ (fun hHeldN => ?_)
      · exact hHeld
      clear q6
      clear hK K hHeld
      have hHeld := hHeldN
      clear hHeldN
      (try simp only [Act.put, List.setIfInBounds_toArray, List.set_cons_zero, List.set_cons_succ])
      refine wpAnyH_ready (rs := [2]) (by kernel_rfl) (by simp) ?_
      refine AllReadyH.cons (by simp only [List.getElem?_toArray, List.getElem?_cons_succ, List.getElem?_cons_zero]; rfl) (fun K hK => ?_) AllReadyH.nil
      go_simp
      go_at_call 11; (with_reducible refine (HC.out _ hHeld).mono ?_); rintro e w5 ⟨v5, rfl, ho5, hb5, hk5⟩
      refine hK.out _ _ ?_ (fun hHeldN => ?_)
      · exact ⟨Nat.le_trans hHeld.1 hb5.size, below_t hHeld.2 hb5⟩
      obtain ⟨x5, n5, c5, rfl⟩ := own_slice ho5
      replace HX := hid (HX.out.step hb5)
      replace HY := hid (HY.out.step hb5)
      (try replace HO5 := hid (HO5.out.step hb5))
      (try replace HO6 := hid (HO6.out.step hb5))
      have HO5 := hid ho5
      have HK5 := hid (fun k hk => Nat.le_trans hHeld.1 (hk5 k hk))
      clear ho5 hb5 hk5
      clear hK K hHeld
      have hHeld := hHeldN
      clear hHeldN
      (try simp only [Act.put, List.setIfInBounds_toArray, List.set_cons_zero, List.set_cons_succ])
      refine takeD (i := 6) (v := ?_) 9 rfl rfl (by kernel_rfl) (by kernel_rfl) (by kernel_rfl) (fun _ _ _ h => h) (by assumption) (Or.inl ⟨by rfl, ?_⟩) ?_
      rotate_left
      · intro w hSw
        (try dsimp only at hSw)
        go_simp
        try with_reducible rfl
      simp only [List.setIfInBounds_toArray, List.set_cons_zero, List.set_cons_succ]
      refine wpAnyH_ready (rs := [5]) (by kernel_rfl) (by simp) ?_
      refine AllReadyH.cons (by simp only [List.getElem?_toArray, List.getElem?_cons_succ, List.getElem?_cons_zero]; rfl) (fun K hK => ?_) AllReadyH.nil
      go_simp
      go_at_call 11; (with_reducible refine (HR.out _ hHeld).mono ?_); rintro e w6 ⟨v6, rfl, ho6, hb6, hk6⟩
      refine hK.out _ _ ?_ (fun hHeldN => ?_)
      · exact ⟨Nat.le_trans hHeld.1 hb6.size, below_t hHeld.2 hb6⟩
      obtain ⟨x6, n6, c6, rfl⟩ := own_slice ho6
      replace HX := hid (HX.out.step hb6)
      replace HY := hid (HY.out.step hb6)
      (try replace HO5 := hid (HO5.out.step hb6))
      (try replace HO6 := hid (HO6.out.step hb6))
      have HO6 := hid ho6
      have HK6 := hid (fun k hk => Nat.le_trans hHeld.1 (hk6 k hk))
      clear ho6 hb6 hk6
      clear hK K hHeld
      have hHeld := hHeldN
      clear hHeldN
      (try simp only [Act.put, List.setIfInBounds_toArray, List.set_cons_zero, List.set_cons_succ])
      refine wpAnyH_ready (rs := [7]) (by kernel_rfl) (by simp) ?_
      refine AllReadyH.cons (by simp only [List.getElem?_toArray, List.getElem?_cons_succ, List.getElem?_cons_zero]; rfl) (fun K hK => ?_) AllReadyH.nil
      have q5 := HX.out.c5
      have y5 := HX.out.fr 5 (by omega)
      go_simp
      refine hK.out _ _ ?_ (fun hHeldN => ?_)
      · exact ⟨by simpa using hHeld.1, hHeld.2.setCell (by exact Nat.le_refl _) _⟩
      replace HX := hid (HX.out.set5 (.slice x5 n5 c5))
      replace HY := hid (HY.out.moved (Moved.set (S := [w.heap.size]) (List.mem_singleton_self _) 5 (.slice x5 n5 c5)) (fun q => by have := List.mem_singleton.1 q; omega))
      (try replace HO5 := hid (HO5.out.moved (Moved.set (S := [w.heap.size]) (List.mem_singleton_self _) 5 (.slice x5 n5 c5)) (fun k hk q => by have := HK5.out k hk; have := List.mem_singleton.1 q; omega)))
      (try replace HO6 := hid (HO6.out.moved (Moved.set (S := [w.heap.size]) (List.mem_singleton_self _) 5 (.slice x5 n5 c5)) (fun k hk q => by have := HK6.out k hk; have := List.mem_singleton.1 q; omega)))
      clear hK K hHeld
      have hHeld := hHeldN
      clear hHeldN
      (try simp only [Act.put, List.setIfInBounds_toArray, List.set_cons_zero, List.set_cons_succ])
      refine takeD (i := 8) (v := ?_) 10 rfl rfl (by kernel_rfl) (by kernel_rfl) (by kernel_rfl) (fun _ _ _ h => h) (by assumption) (Or.inl ⟨by rfl, ?_⟩) ?_
      rotate_left
      · intro w hSw
        (try dsimp only at hSw)
        go_simp
        try with_reducible rfl
      simp only [List.setIfInBounds_toArray, List.set_cons_zero, List.set_cons_succ]
      refine wpAnyH_ready (rs := [9]) (by kernel_rfl) (by simp) ?_
      refine AllReadyH.cons (by simp only [List.getElem?_toArray, List.getElem?_cons_succ, List.getElem?_cons_zero]; rfl) (fun K hK => ?_) AllReadyH.nil
      have q6 := HX.out.c6
      have y6 := HX.out.fr 6 (by omega)
      go_simp
      refine hK.out _ _ ?_ (fun hHeldN => ?_)
      · exact ⟨by simpa using hHeld.1, hHeld.2.setCell (by exact Nat.le_refl _) _⟩
      (try replace HO5 := hid (HO5.out.moved (Moved.set (S := [w.heap.size]) (List.mem_singleton_self _) 6 (.slice x6 n6 c6)) (fun k hk q => by have := HK5.out k hk; have := List.mem_singleton.1 q; omega)))
      (try replace HO6 := hid (HO6.out.moved (Moved.set (S := [w.heap.size]) (List.mem_singleton_self _) 6 (.slice x6 n6 c6)) (fun k hk q => by have := HK6.out k hk; have := List.mem_singleton.1 q; omega)))
      clear hK K hHeld
      have hHeld := hHeldN
      clear hHeldN
      (try simp only [Act.put, List.setIfInBounds_toArray, List.set_cons_zero, List.set_cons_succ])
      refine wpAnyH_done (by kernel_rfl) ?_ _
      have HEND := hHeld
      clear hHeld
      have HO5 := hid HO5.out
      have HO6 := hid HO6.out
      have HX2 := hid (HX.out.set6 (.slice x6 n6 c6))
      have HY2 := hid (HY.out.moved (Moved.set (S := [w.heap.size]) (List.mem_singleton_self _) 6 (.slice x6 n6 c6)) (fun q => by have := List.mem_singleton.1 q; omega))
      have HS2 := hid HEND.2
      clear HX HY HEND
      revert HO5 HO6 HX2 HY2 HS2
      generalize ((w6.setCell ⟨w.heap.size, 5, none⟩ (.slice x5 n5 c5)).setCell ⟨w.heap.size, 6, none⟩ (.slice x6 n6 c6)) = W9
      intro HO5 HO6 HX2 HY2 HS2
      have HO5 := hid (put7_own HO5.out (b := w.heap.size + 1) (fun k hk => Nat.lt_of_lt_of_le (Nat.lt_succ_self _) (HK5.out k hk)) (.int .i64 k) (.int .i64 cd) (.int .i64 md) (.bool al) (.int .u8 rq) (.slice x5 n5 c5) (.slice x6 n6 c6))
      have HO6 := hid (put7_own HO6.out (b := w.heap.size + 1) (fun k hk => Nat.lt_of_lt_of_le (Nat.lt_succ_self _) (HK6.out k hk)) (.int .i64 k) (.int .i64 cd) (.int .i64 md) (.bool al) (.int .u8 rq) (.slice x5 n5 c5) (.slice x6 n6 c6))
      have HBP := hid (put7_below (b := w.heap.size + 1) HS2.out (Nat.le_succ w.heap.size) (.int .i64 k) (.int .i64 cd) (.int .i64 md) (.bool al) (.int .u8 rq) (.slice x5 n5 c5) (.slice x6 n6 c6))
      obtain ⟨k0, k1, k2, k3, k4, k5, k6, -⟩ := HY2.out.put (.int .i64 k) (.int .i64 cd) (.int .i64 md) (.bool al) (.int .u8 rq) (.slice x5 n5 c5) (.slice x6 n6 c6)
      obtain ⟨q0, q1, q2, q3, q4, q5, q6, -⟩ := HX2.out
      obtain ⟨z0, z1, z2, z3, z4, z5, z6, zf⟩ := HY2.out
      have f0 := zf 0 (by omega)
      have f1 := zf 1 (by omega)
      have f2 := zf 2 (by omega)
      have f3 := zf 3 (by omega)
      have f4 := zf 4 (by omega)
      have f5 := zf 5 (by omega)
      have f6 := zf 6 (by omega)
      clear zf HX2 HY2 HS2
      revert HO5 HO6 HBP k0 k1 k2 k3 k4 k5 k6
      generalize hW : put7 W9 (w.heap.size + 1) (.int .i64 k) (.int .i64 cd) (.int .i64 md) (.bool al) (.int .u8 rq) (.slice x5 n5 c5) (.slice x6 n6 c6) = Wf
      intro HO5 HO6 HBP k0 k1 k2 k3 k4 k5 k6
      unfold put7 at hW
      go_wp2
      (try rw [hW])
      refine bodyPost_ret (v := .agg #[.int .i64 k, .int .i64 cd, .int .i64 md, .bool al, .int .u8 rq, .slice x5 n5 c5, .slice x6 n6 c6]) (by simp [results, Tryd.results23, go_sem, k0, k1, k2, k3, k4, k5, k6]) rfl ?_
      exact ⟨_, _, rfl, HO5.out, HO6.out, HBP.out, fun k hk => Nat.le_trans (Nat.le_add_right _ 2) (HK5.out k hk), fun k hk => Nat.le_trans (Nat.le_add_right _ 2) (HK6.out k hk)⟩
  · have q6 := HX.out.c6
    go_simp
    refine hK.out _ _ ?_ (fun hHeldN => ?_)
    · exact hHeld
    clear q6
    clear hK K hHeld
    have hHeld := hHeldN
    clear hHeldN
    (try simp only [Act.put, List.setIfInBounds_toArray, List.set_cons_zero, List.set_cons_succ])
    refine wpAnyH_ready (rs := [1]) (by kernel_rfl) (by simp) ?_
    refine AllReadyH.cons (by simp only [List.getElem?_toArray, List.getElem?_cons_succ, List.getElem?_cons_zero]; rfl) (fun K hK => ?_) AllReadyH.nil
    have q5 := HX.out.c5
    go_simp
    refine hK.out _ _ ?_ (fun hHeldN => ?_)
    · exact hHeld
    clear q5
    clear hK K hHeld
    have hHeld := hHeldN
    clear hHeldN
    (try simp only [Act.put, List.setIfInBounds_toArray, List.set_cons_zero, List.set_cons_succ])
    refine wpAnyH_ready (rs := [2]) (by kernel_rfl) (by simp) ?_
    refine AllReadyH.cons (by simp only [List.getElem?_toArray, List.getElem?_cons_succ, List.getElem?_cons_zero]; rfl) (fun K hK => ?_) AllReadyH.nil
    go_simp
    go_at_call 11; (with_reducible refine (HC.out _ hHeld).mono ?_); rintro e w5 ⟨v5, rfl, ho5, hb5, hk5⟩
    refine hK.out _ _ ?_ (fun hHeldN => ?_)
    · exact ⟨Nat.le_trans hHeld.1 hb5.size, below_t hHeld.2 hb5⟩
    obtain ⟨x5, n5, c5, rfl⟩ := own_slice ho5
    replace HX := hid (HX.out.step hb5)
    replace HY := hid (HY.out.step hb5)
    (try replace HO5 := hid (HO5.out.step hb5))
    (try replace HO6 := hid (HO6.out.step hb5))
    have HO5 := hid ho5
    have HK5 := hid (fun k hk => Nat.le_trans hHeld.1 (hk5 k hk))
    clear ho5 hb5 hk5
    clear hK K hHeld
    have hHeld := hHeldN
    clear hHeldN
    (try simp only [Act.put, List.setIfInBounds_toArray, List.set_cons_zero, List.set_cons_succ])
    refine takeD (i := 6) (v := ?_) 9 rfl rfl (by kernel_rfl) (by kernel_rfl) (by kernel_rfl) (fun _ _ _ h => h) (by assumption) (Or.inl ⟨by rfl, ?_⟩) ?_
    rotate_left
    · intro w hSw
      (try dsimp only at hSw)
      go_simp
      try with_reducible rfl
    simp only [List.setIfInBounds_toArray, List.set_cons_zero, List.set_cons_succ]
    refine wpAnyH_ready (rs := [5]) (by kernel_rfl) (by simp) ?_
    refine AllReadyH.cons (by simp only [List.getElem?_toArray, List.getElem?_cons_succ, List.getElem?_cons_zero]; rfl) (fun K hK => ?_) AllReadyH.nil
    go_simp
    go_at_call 11; (with_reducible refine (HR.out _ hHeld).mono ?_); rintro e w6 ⟨v6, rfl, ho6, hb6, hk6⟩
    refine hK.out _ _ ?_ (fun hHeldN => ?_)
    · exact ⟨Nat.le_trans hHeld.1 hb6.size, below_t hHeld.2 hb6⟩
    obtain ⟨x6, n6, c6, rfl⟩ := own_slice ho6
    replace HX := hid (HX.out.step hb6)
    replace HY := hid (HY.out.step hb6)
    (try replace HO5 := hid (HO5.out.step hb6))
    (try replace HO6 := hid (HO6.out.step hb6))
    have HO6 := hid ho6
    have HK6 := hid (fun k hk => Nat.le_trans hHeld.1 (hk6 k hk))
    clear ho6 hb6 hk6
    clear hK K hHeld
    have hHeld := hHeldN
    clear hHeldN
    (try simp only [Act.put, List.setIfInBounds_toArray, List.set_cons_zero, List.set_cons_succ])
    refine wpAnyH_ready (rs := [7]) (by kernel_rfl) (by simp) ?_
    refine AllReadyH.cons (by simp only [List.getElem?_toArray, List.getElem?_cons_succ, List.getElem?_cons_zero]; rfl) (fun K hK => ?_) AllReadyH.nil
    have q5 := HX.out.c5
    have y5 := HX.out.fr 5 (by omega)
    go_simp
    refine hK.out _ _ ?_ (fun hHeldN => ?_)
    · exact ⟨by simpa using hHeld.1, hHeld.2.setCell (by exact Nat.le_refl _) _⟩
    replace HX := hid (HX.out.set5 (.slice x5 n5 c5))
    replace HY := hid (HY.out.moved (Moved.set (S := [w.heap.size]) (List.mem_singleton_self _) 5 (.slice x5 n5 c5)) (fun q => by have := List.mem_singleton.1 q; omega))
    (try replace HO5 := hid (HO5.out.moved (Moved.set (S := [w.heap.size]) (List.mem_singleton_self _) 5 (.slice x5 n5 c5)) (fun k hk q => by have := HK5.out k hk; have := List.mem_singleton.1 q; omega)))
    (try replace HO6 := hid (HO6.out.moved (Moved.set (S := [w.heap.size]) (List.mem_singleton_self _) 5 (.slice x5 n5 c5)) (fun k hk q => by have := HK6.out k hk; have := List.mem_singleton.1 q; omega)))
    clear hK K hHeld
    have hHeld := hHeldN
    clear hHeldN
    (try simp only [Act.put, List.setIfInBounds_toArray, List.set_cons_zero, List.set_cons_succ])
    refine takeD (i := 8) (v := ?_) 10 rfl rfl (by kernel_rfl) (by kernel_rfl) (by kernel_rfl) (fun _ _ _ h => h) (by assumption) (Or.inl ⟨by rfl, ?_⟩) ?_
    rotate_left
    · intro w hSw
      (try dsimp only at hSw)
      go_simp
      try with_reducible rfl
    simp only [List.setIfInBounds_toArray, List.set_cons_zero, List.set_cons_succ]
    refine wpAnyH_ready (rs := [9]) (by kernel_rfl) (by simp) ?_
    refine AllReadyH.cons (by simp only [List.getElem?_toArray, List.getElem?_cons_succ, List.getElem?_cons_zero]; rfl) (fun K hK => ?_) AllReadyH.nil
    have q6 := HX.out.c6
    have y6 := HX.out.fr 6 (by omega)
    go_simp
    refine hK.out _ _ ?_ (fun hHeldN => ?_)
    · exact ⟨by simpa using hHeld.1, hHeld.2.setCell (by exact Nat.le_refl _) _⟩
    (try replace HO5 := hid (HO5.out.moved (Moved.set (S := [w.heap.size]) (List.mem_singleton_self _) 6 (.slice x6 n6 c6)) (fun k hk q => by have := HK5.out k hk; have := List.mem_singleton.1 q; omega)))
    (try replace HO6 := hid (HO6.out.moved (Moved.set (S := [w.heap.size]) (List.mem_singleton_self _) 6 (.slice x6 n6 c6)) (fun k hk q => by have := HK6.out k hk; have := List.mem_singleton.1 q; omega)))
    clear hK K hHeld
    have hHeld := hHeldN
    clear hHeldN
    (try simp only [Act.put, List.setIfInBounds_toArray, List.set_cons_zero, List.set_cons_succ])
    refine wpAnyH_done (by kernel_rfl) ?_ _
    have HEND := hHeld
    clear hHeld
    have HO5 := hid HO5.out
    have HO6 := hid HO6.out
    have HX2 := hid (HX.out.set6 (.slice x6 n6 c6))
    have HY2 := hid (HY.out.moved (Moved.set (S := [w.heap.size]) (List.mem_singleton_self _) 6 (.slice x6 n6 c6)) (fun q => by have := List.mem_singleton.1 q; omega))
    have HS2 := hid HEND.2
    clear HX HY HEND
    revert HO5 HO6 HX2 HY2 HS2
    generalize ((w6.setCell ⟨w.heap.size, 5, none⟩ (.slice x5 n5 c5)).setCell ⟨w.heap.size, 6, none⟩ (.slice x6 n6 c6)) = W9
    intro HO5 HO6 HX2 HY2 HS2
    have HO5 := hid (put7_own HO5.out (b := w.heap.size + 1) (fun k hk => Nat.lt_of_lt_of_le (Nat.lt_succ_self _) (HK5.out k hk)) (.int .i64 k) (.int .i64 cd) (.int .i64 md) (.bool al) (.int .u8 rq) (.slice x5 n5 c5) (.slice x6 n6 c6))
    have HO6 := hid (put7_own HO6.out (b := w.heap.size + 1) (fun k hk => Nat.lt_of_lt_of_le (Nat.lt_succ_self _) (HK6.out k hk)) (.int .i64 k) (.int .i64 cd) (.int .i64 md) (.bool al) (.int .u8 rq) (.slice x5 n5 c5) (.slice x6 n6 c6))
    have HBP := hid (put7_below (b := w.heap.size + 1) HS2.out (Nat.le_succ w.heap.size) (.int .i64 k) (.int .i64 cd) (.int .i64 md) (.bool al) (.int .u8 rq) (.slice x5 n5 c5) (.slice x6 n6 c6))
    obtain ⟨k0, k1, k2, k3, k4, k5, k6, -⟩ := HY2.out.put (.int .i64 k) (.int .i64 cd) (.int .i64 md) (.bool al) (.int .u8 rq) (.slice x5 n5 c5) (.slice x6 n6 c6)
    obtain ⟨q0, q1, q2, q3, q4, q5, q6, -⟩ := HX2.out
    obtain ⟨z0, z1, z2, z3, z4, z5, z6, zf⟩ := HY2.out
    have f0 := zf 0 (by omega)
    have f1 := zf 1 (by omega)
    have f2 := zf 2 (by omega)
    have f3 := zf 3 (by omega)
    have f4 := zf 4 (by omega)
    have f5 := zf 5 (by omega)
    have f6 := zf 6 (by omega)
    clear zf HX2 HY2 HS2
    revert HO5 HO6 HBP k0 k1 k2 k3 k4 k5 k6
    generalize hW : put7 W9 (w.heap.size + 1) (.int .i64 k) (.int .i64 cd) (.int .i64 md) (.bool al) (.int .u8 rq) (.slice x5 n5 c5) (.slice x6 n6 c6) = Wf
    intro HO5 HO6 HBP k0 k1 k2 k3 k4 k5 k6
    unfold put7 at hW
    go_wp2
    (try rw [hW])
    refine bodyPost_ret (v := .agg #[.int .i64 k, .int .i64 cd, .int .i64 md, .bool al, .int .u8 rq, .slice x5 n5 c5, .slice x6 n6 c6]) (by simp [results, Tryd.results23, go_sem, k0, k1, k2, k3, k4, k5, k6]) rfl ?_
    exact ⟨_, _, rfl, HO5.out, HO6.out, HBP.out, fun k hk => Nat.le_trans (Nat.le_add_right _ 2) (HK5.out k hk), fun k hk => Nat.le_trans (Nat.le_add_right _ 2) (HK6.out k hk)⟩
end Go.Proofs.YtdpgmepblmlaaaaDoor
