/-
  EntryWrites' walk.
-/
import Derived.Test.YtlhaefgchmakfaaPs
import Derived.Test.YtlhaefgchmakfaaPm
namespace Go.Proofs.Ytlhaefgchmakfaa
open Go.RowKit Go.Lib Go.Deep

/-- Entries that came in. -/
def EntArg (w : World) (v : Value) (es : List EnV) : Prop := (∃ x cap, v = .slice x es.length cap ∧ ∀ i (hi : i < es.length), ∃ g off, x = some ⟨g, off, none⟩ ∧ w.cell? ⟨g, off + i * 2, none⟩ = some (.int .i64 es[i].d.addr) ∧ w.cell? ⟨g, off + i * 2 + 1, none⟩ = some es[i].tv) ∧ (∀ x ∈ es, Reads w x.tv x.d.text) ∧ (es.length : Int) ≤ 9223372036854775807
/-- As much of an entry as the law takes. -/
def cutE (x : EnD) : EnD := ⟨x.addr, x.text.take 30⟩
def fewE (es : List EnD) (k : Nat) : List EnD := ((es.take k).take 6).map cutE
theorem fewE_on {es : List EnD} {k : Nat} (h : k < es.length) (h6 : k < 6) : fewE es (k + 1) = fewE es k ++ [cutE es[k]] := by
  unfold fewE
  rw [List.take_take, List.take_take, Nat.min_eq_right (by omega), Nat.min_eq_right (by omega), take_snoc_at h, List.map_append]
  rfl
theorem fewE_off (es : List EnD) {k : Nat} (h6 : ¬ k < 6) : fewE es (k + 1) = fewE es k := by
  unfold fewE
  rw [List.take_take, List.take_take, Nat.min_eq_left (by omega), Nat.min_eq_left (by omega)]
theorem fewE_tot (es : List EnD) (k : Nat) : totE (fewE es k) ≤ 186 := by
  have h : ∀ (l : List EnD), totE (l.map cutE) ≤ 31 * l.length := by
    intro l
    induction l with
    | nil => exact Nat.zero_le _
    | cons x r ih =>
      have e : totE ((x :: r).map cutE) = ((x.text.take 30).length + 1) + totE (r.map cutE) := by simp [totE, cutE]
      rw [e, List.length_take, List.length_cons]
      omega
  have h2 := h ((es.take k).take 6)
  have h3 : ((es.take k).take 6).length ≤ 6 := by rw [List.length_take]; omega
  unfold fewE
  omega
theorem fewE_len (es : List EnD) (k : Nat) : (fewE es k).length ≤ 6 := by unfold fewE; rw [List.length_map, List.length_take]; omega
theorem fewE_mapV {es : List EnV} {k : Nat} (h : k < es.length) (h6 : k < 6) : fewE (es.map EnV.d) (k + 1) = fewE (es.map EnV.d) k ++ [cutE es[k].d] := by
  rw [fewE_on (es := es.map EnV.d) (by simpa using h) h6, List.getElem_map]
set_option maxRecDepth 100000 in
set_option maxHeartbeats 4000000 in
theorem writes_any (ai : Int) (sh : Bool) (cu : Int) (v : Value) (es : List EnV) (w : World) (h : EntArg w v es) (hai : 0 ≤ ai ∧ ai < 256) :
    Calls Try.prog 6 #[.agg #[.int .u8 ai, .bool sh, .int .i64 cu, v]] w fun e w' => e = .returned (.bool true) ∧ Below w.heap.size w w' := by
  obtain ⟨i0, hi, hz0, hz1, hz2⟩ := info_parts infoQE
  have HAW := hid (fun W => awake20 W)
  obtain ⟨⟨xe, ce, rfl, hat⟩, htx, hmx⟩ := h
  have HAT0 := hid hat
  have HTX := hid htx
  have HFM := hid (fun k (q : k < es.length) q6 => fewE_mapV q q6)
  have HFO := hid (fun k (q : ¬ k < 6) => fewE_off (es.map EnV.d) q)
  have HTT := hid (fun k => fewE_tot (es.map EnV.d) k)
  have HFN := hid (fun k => fewE_len (es.map EnV.d) k)
  have HAI := hid hai
  obtain ⟨n, hn⟩ : ∃ n, es.length = n := ⟨_, rfl⟩
  have HLN := hid hn
  rw [hn] at hmx ⊢
  have HX1 := hid (Bx4.new (v0 := .int .u8 ai) (v1 := .bool sh) (v2 := .int .i64 cu) (v3 := .slice xe n ce) w 62)
  have HB1 := hid (bal (Below.refl w.heap.size w) (.cells #[.int .u8 ai, .bool sh, .int .i64 cu, .slice xe n ce] 62))
  clear hn hat htx hai
  go_enter Try.func6, Try.ntmps6
  go_wp2_with fail
  with_reducible refine (HAW.out _).mono ?_
  rintro e w1 ⟨rfl, hb1⟩
  have HX2 := hid (HX1.out.step hb1)
  have HB2 := hid (below_t HB1.out hb1)
  have hbx3 := HX2.out.c3
  clear hb1
  go_wp2_with fail
  go_loopw [3, 17] (fun p i W => ∃ (k : Nat) (fs : List EnV), k ≤ n ∧ i = .int .i64 k ∧ Hid (EntM 64 (w.heap.size + 1) W p fs) ∧ Hid (fs.map EnV.d = fewE (es.map EnV.d) k) ∧ Hid (Below w.heap.size w W) ∧ Hid (Bx4 W w.heap.size (.int .u8 ai) (.bool sh) (.int .i64 cu) (.slice xe n ce))) (fun _ i _ => n - (intOf i).toNat)
  case atStart => exact ⟨0, [], Nat.zero_le _, rfl, EntM.nil _ _ _, rfl, HB2.out, HX2.out⟩
  case round =>
    obtain ⟨k, fs, hk, rfl, HM, HF, HB, HX⟩ := hrel
    obtain ⟨xc, cc, rfl⟩ := row_slice HM.out.row
    by_cases hlt : k < n
    · have hke : k < es.length := by rw [HLN.out]; exact hlt
      have hki : (k : Int) < n := by omega
      obtain ⟨g, off, rfl, p0, p1⟩ := HAT0.out k hke
      have htr := HTX.out _ (List.getElem_mem hke)
      have HFK := hid (fun q6 => HFM.out k hke q6)
      generalize es[k] = x at p0 p1 htr HFK
      obtain ⟨⟨ad, tx⟩, tv⟩ := x
      dsimp only at p0 p1 htr HFK
      obtain ⟨xt, ct, rfl⟩ := reads_sl htr
      have a0 := keepc HB.out p0
      have a1 := keepc HB.out p1
      have HBE := hid (bal (Below.refl wr.heap.size wr) (.cells #[.int .i64 ad, .slice xt tx.length ct] 64))
      have HCU := hid (fun V (hV : Below wr.heap.size wr V) => show Calls Try.prog 26 #[.slice xt tx.length ct, .int .i64 30] V (OwnDone (tx.take 30) V) from rcut_own _ 30 (by omega) tx V (reads_below (reads_below htr HB.out) hV))
      generalize tx.length = tl at a1 HBE HCU
      have HBS := hid (show w.heap.size + 1 ≤ wr.heap.size from HX.out.lt)
      have HCL := hid (show ∀ k ∈ blkV (.slice xc fs.length cc), k < wr.heap.size from own_lt HM.out.row)
      have HFL := hid (show fs.length ≤ 6 by have := congrArg List.length HF.out; rw [List.length_map] at this; have := HFN.out k; omega)
      clear p0 p1 htr
      by_cases h6 : k < 6
      · have e6 : (k : Int) < 6 := by omega
        have HFK2 := hid (HFK.out h6)
        clear HFK
        have hx0 : (wr.alloc (.cells #[.int .i64 ad, .slice xt tl ct] 64)).cell? ⟨wr.heap.size, 0, none⟩ = some (.int .i64 ad) := by simp [go_sem]
        have hx1 : (wr.alloc (.cells #[.int .i64 ad, .slice xt tl ct] 64)).cell? ⟨wr.heap.size, 1, none⟩ = some (.slice xt tl ct) := by simp [go_sem]
        have hdr : Below (wr.alloc (.cells #[.int .i64 ad, .slice xt tl ct] 64)).heap.size (wr.alloc (.cells #[.int .i64 ad, .slice xt tl ct] 64)) (wr.alloc (.cells #[.int .i64 ad, .slice xt tl ct] 64)).drew := (Below.refl _ _).drew
        have HWL := hid (show wr.heap.size < (wr.alloc (.cells #[.int .i64 ad, .slice xt tl ct] 64)).heap.size by simp)
        have HNX := hid (show wr.heap.size ∉ blkV (.slice xc fs.length cc) from fun q => by have := own_lt HM.out.row _ q; omega)
        go_wp2_with fail
        generalize wr.alloc (.cells #[.int .i64 ad, .slice xt tl ct] 64) = WE at HBE hx0 hx1 hdr HWL ⊢
        refine wp_region_held_drew (S := fun V => V.cell? ⟨wr.heap.size, 0, none⟩ = some (.int .i64 ad) ∧ V.cell? ⟨wr.heap.size, 1, none⟩ = some (.slice xt tl ct)) (by kernel_rfl) ?_ (fun hHeld => ?_)
        · exact ⟨keepc hdr hx0, keepc hdr hx1⟩
        refine takeD_o (i := 0) (v := ?_) 24 rfl rfl (by kernel_rfl) (by kernel_rfl) (by kernel_rfl) (fun _ _ _ h => h) (by assumption) (Or.inl ⟨by rfl, ?_⟩) ?_
        rotate_left
        · intro w hSw
          (try dsimp only at hSw)
          go_simp
          try with_reducible rfl
        simp only [List.setIfInBounds_toArray, List.set_cons_zero, List.set_cons_succ]
        refine takeD_o (i := 1) (v := ?_) 25 rfl rfl (by kernel_rfl) (by kernel_rfl) (by kernel_rfl) (fun _ _ _ h => h) (by assumption) (Or.inl ⟨by rfl, ?_⟩) ?_
        rotate_left
        · intro w hSw
          (try dsimp only at hSw)
          go_simp
          try with_reducible rfl
        simp only [List.setIfInBounds_toArray, List.set_cons_zero, List.set_cons_succ]
        refine takeD_o (i := 2) (v := ?_) 26 rfl rfl (by kernel_rfl) (by kernel_rfl) (by kernel_rfl) (fun _ _ _ h => h) (by assumption) (Or.inl ⟨by rfl, ?_⟩) ?_
        rotate_left
        · intro w hSw
          (try dsimp only at hSw)
          go_simp
          try with_reducible rfl
        simp only [List.setIfInBounds_toArray, List.set_cons_zero, List.set_cons_succ]
        refine takeD_o (i := 3) (v := ?_) 27 rfl rfl (by kernel_rfl) (by kernel_rfl) (by kernel_rfl) (fun _ _ _ h => h) (by assumption) (Or.inl ⟨by rfl, ?_⟩) ?_
        rotate_left
        · intro w hSw
          (try dsimp only at hSw)
          go_simp
          try with_reducible rfl
        simp only [List.setIfInBounds_toArray, List.set_cons_zero, List.set_cons_succ]
        refine takeD_o (i := 4) (v := ?_) 28 rfl rfl (by kernel_rfl) (by kernel_rfl) (by kernel_rfl) (fun _ _ _ h => h) (by assumption) (Or.inl ⟨by rfl, ?_⟩) ?_
        rotate_left
        · intro w hSw
          (try dsimp only at hSw)
          go_simp
          try with_reducible rfl
        simp only [List.setIfInBounds_toArray, List.set_cons_zero, List.set_cons_succ]
        refine wpAnyH_ready (rs := [5]) (by kernel_rfl) (by simp) ?_
        refine AllReadyH.cons (by simp only [List.getElem?_toArray, List.getElem?_cons_succ, List.getElem?_cons_zero]; rfl) (fun K hK => ?_) AllReadyH.nil
        go_simp
        go_at_call 26; (with_reducible refine (HCU.out _ (below_t HBE.out hdr)).mono ?_); rintro e w4 ⟨v4, rfl, ho4, hb4, hk4⟩
        refine hK.out _ _ ?_ (fun hHeldN => ?_)
        · exact ⟨keepc hb4 hHeld.1, keepc hb4 hHeld.2⟩
        obtain ⟨x4, n4, c4, rfl⟩ := own_slice ho4
        have hb5 := bal (Below.refl w4.heap.size w4) (.cells #[.int .i64 ad, .slice x4 n4 c4] 64)
        have HM5 := hid (((HM.out.step (below_t HBE.out hdr)).step hb4).step hb5)
        have HO5 := hid (ho4.step hb5)
        have HK4 := hid (show ∀ k ∈ blkV (.slice x4 n4 c4), wr.heap.size < k from fun k hk => by have := hk4 k hk; have := hdr.size; have := HWL.out; omega)
        have HNS := hid (news_two w4 (.int .i64 ad) (.slice x4 n4 c4) 64)
        have HB5 := hid (below_t HB.out (below_t (below_t (below_t HBE.out hdr) hb4) hb5))
        have HX5 := hid (((HX.out.step (below_t HBE.out hdr)).step hb4).step hb5)
        have HY5 := hid (keepc hb5 (keepc hb4 hHeld.1))
        have HY6 := hid (keepc hb5 (keepc hb4 hHeld.2))
        clear ho4 hk4 hb4 hb5
        clear hK K hHeld
        have hHeld := hHeldN
        clear hHeldN
        (try simp only [Act.put, List.setIfInBounds_toArray, List.set_cons_zero, List.set_cons_succ])
        refine takeD_o (i := 6) (v := ?_) 30 rfl rfl (by kernel_rfl) (by kernel_rfl) (by kernel_rfl) (fun _ _ _ h => h) (by assumption) (Or.inl ⟨by rfl, ?_⟩) ?_
        rotate_left
        · intro w hSw
          (try dsimp only at hSw)
          go_simp
          try with_reducible rfl
        simp only [List.setIfInBounds_toArray, List.set_cons_zero, List.set_cons_succ]
        refine wpAnyH_ready (rs := [7]) (by kernel_rfl) (by simp) ?_
        refine AllReadyH.cons (by simp only [List.getElem?_toArray, List.getElem?_cons_succ, List.getElem?_cons_zero]; rfl) (fun K hK => ?_) AllReadyH.nil
        go_simp
        refine hK.out _ _ ?_ (fun hHeldN => ?_)
        · exact ⟨HY5.out, HY6.out⟩
        clear hK K hHeld
        have hHeld := hHeldN
        clear hHeldN
        (try simp only [Act.put, List.setIfInBounds_toArray, List.set_cons_zero, List.set_cons_succ])
        refine wpAnyH_ready (rs := [8]) (by kernel_rfl) (by simp) ?_
        refine AllReadyH.cons (by simp only [List.getElem?_toArray, List.getElem?_cons_succ, List.getElem?_cons_zero]; rfl) (fun K hK => ?_) AllReadyH.nil
        obtain ⟨v', w9, hrun, hown, hgr, -, hk⟩ := run_append_blk (P := Try.prog) (w4.alloc (.cells #[.int .i64 ad, .slice x4 n4 c4] 64)) 60 60 64 i0 _ 2 32 Try.underlying60 hi hz0 hz1 hz2 rfl (by decide) _ fs.length _ HM5.out.row ⟨w4.heap.size, 0, none⟩ 1 1 [.int .i64 ad, .slice x4 n4 c4] rfl HNS.out (one_enC _ _ rfl) (by have := HFL.out; unfold maxLen; omega) (by have := HFL.out; omega)
        refine step_append_run (by rfl) _ _ _ (by rfl) _ _ _ _ (by rfl) (by rfl) hrun ?_
        have hm9 := Moved.grown hgr (fun k hk => mem_blkV.2 hk) hk
        have HY7 := hid (cell_moved hm9 HY5.out (fun q => HNX.out q))
        have HY8 := hid (cell_moved hm9 HY6.out (fun q => HNX.out q))
        have HM9 := hid (EntM.add HM5.out (Nat.succ_le_of_lt HX5.out.lt) ⟨⟨ad, tx.take 30⟩, .slice x4 n4 c4⟩ HO5.out (fun k hk => by have := HK4.out k hk; have := HBS.out; omega) (fun k hk q => by have := HK4.out k hk; have := HCL.out k q; omega) (fun y hy k hk q => by have := HK4.out k q; have := (HM.out.txt y hy).lt k hk; omega) hown hgr hk)
        have HB9 := hid (HB5.out.grown hgr HB5.out.size (fun k hk => by have := HM.out.bv k (mem_blkV.2 hk); omega))
        have HX9 := hid (HX5.out.moved hm9 (fun q => by have := HM.out.bv _ q; omega))
        obtain ⟨xv, nv, cv, rfl⟩ : ∃ x n c, v' = .slice x n c := by obtain ⟨x, c, e⟩ := row_slice HM9.out.row; exact ⟨x, _, c, e⟩
        refine hK.out _ _ ?_ (fun hHeldN => ?_)
        · exact ⟨HY7.out, HY8.out⟩
        clear hrun hown hgr hk hm9
        clear hK K hHeld
        have hHeld := hHeldN
        clear hHeldN
        (try simp only [Act.put, List.setIfInBounds_toArray, List.set_cons_zero, List.set_cons_succ])
        refine takeD_o (i := 9) (v := ?_) 3 rfl rfl (by kernel_rfl) (by kernel_rfl) (by kernel_rfl) (fun _ _ _ h => h) (by assumption) (Or.inl ⟨by rfl, ?_⟩) ?_
        rotate_left
        · intro w hSw
          (try dsimp only at hSw)
          go_simp
          try with_reducible rfl
        simp only [List.setIfInBounds_toArray, List.set_cons_zero, List.set_cons_succ]
        refine wpAnyH_done (by kernel_rfl) ?_ _
        clear hHeld
        go_wp2
        go_roundw
        case rel =>
          refine ⟨k + 1, _, by omega, by go_num, HM9.out, ?_, HB9.out, HX9.out⟩
          show List.map _ _ = _
          rw [HFK2.out, List.map_append, HF.out]
          rfl
        case measure => simp [intOf]; omega
      · have e6 : ¬ (k : Int) < 6 := by omega
        have HFK2 := hid (HFO.out k h6)
        have HM9 := hid (HM.out.step HBE.out)
        have HB9 := hid (below_t HB.out HBE.out)
        have HX9 := hid (HX.out.step HBE.out)
        clear HFK h6
        go_wp2
        go_roundw
        case rel => exact ⟨k + 1, fs, by omega, by go_num, HM9.out, HF.out.trans HFK2.out.symm, HB9.out, HX9.out⟩
        case measure => simp [intOf]; omega
    · obtain rfl : k = n := by omega
      have HTO := hid (show totE (fs.map EnV.d) ≤ 186 by rw [HF.out]; exact HTT.out k)
      obtain ⟨m, hm⟩ : ∃ m, fs.length = m := ⟨_, rfl⟩
      rw [hm] at HM ⊢
      have HMN := hid hm
      have HXS := hid (HX.out.set3 (.slice xc m cc))
      have hm3 : Moved wr (wr.setCell ⟨w.heap.size, 3, none⟩ (.slice xc m cc)) [w.heap.size] [w.heap.size] := Moved.set (by simp) 3 _
      have HMS := hid (HM.out.moved hm3 (fun j hj => by rw [List.mem_singleton.1 hj]; omega))
      have HBS := hid (show Below w.heap.size w (wr.setCell ⟨w.heap.size, 3, none⟩ (.slice xc m cc)) from HB.out.setCell (by show w.heap.size ≤ w.heap.size; omega) _)
      have c0 := HX.out.c0
      have c1 := HX.out.c1
      have c2 := HX.out.c2
      have c3 := HX.out.c3
      have f3 := HX.out.fr 3 (by omega)
      have hzz := HX.out.lt
      clear hm hm3
      go_wp2_with fail
      generalize wr.setCell ⟨w.heap.size, 3, none⟩ (.slice xc m cc) = W3 at HXS HMS HBS ⊢
      clear c0 c1 c2 c3 f3 hzz
      have HEI := hid (fun V (hV : Below W3.heap.size W3 V) => show EntIn V (.slice xc m cc) fs from by
        have q := (HMS.out.step hV).row
        rw [← HMN.out] at q ⊢
        exact entIn_of q (fun x hx => ((HMS.out.step hV).txt x hx).reads))
      have HOW := hid (rown_any ai sh cu _ fs W3 (HEI.out W3 (Below.refl _ _)) (by have := HTO.out; omega))
      with_reducible refine HOW.out.mono ?_
      rintro e w4 ⟨v4, gs, rfl, hm4, hd4, hb4⟩
      have HEB := hid (ebytes_any ai sh cu _ gs _ _ hm4 (by rw [hd4]; have := HTO.out; omega) HAI.out)
      rw [hd4] at HEB
      have HB4 := hid (below_t HBS.out hb4)
      have HBB4 := hid hb4
      obtain ⟨x4, c4, rfl⟩ := row_slice hm4.row
      generalize gs.length = n4 at HEB ⊢
      clear hm4 hd4 hb4
      have HTLD := hid (parE_told ⟨ai, sh, cu, fs.map EnV.d⟩)
      have HBL := hid (Nat.le_trans (bytE_len ⟨ai, sh, cu, fs.map EnV.d⟩) (show 3 + 8 * totE (fs.map EnV.d) ≤ 100000 by have := HTO.out; omega))
      have HRB := hid (fun V (hV : Below W3.heap.size W3 V) => rbytes_any ai sh cu (.slice xc m cc) fs V (HEI.out V hV) (fun x hx k hk => Nat.lt_of_lt_of_le ((HMS.out.txt x hx).lt k hk) hV.size) (by have := HTO.out; omega) HAI.out)
      generalize bytE ⟨ai, sh, cu, fs.map EnV.d⟩ = R at HEB HTLD HBL HRB
      obtain ⟨er, bs⟩ := R
      dsimp only at HTLD HBL
      go_wp2_with fail
      with_reducible refine HEB.out.mono ?_
      rintro e w5 ⟨v5, rfl, ho5, -, hb5⟩
      dsimp only at ho5 ⊢
      have HR5 := hid ho5.reads
      obtain ⟨x5, n5, c5, rfl⟩ := own_slice ho5
      have HB5 := hid (below_t HB4.out hb5)
      have HBB5 := hid (below_t HBB4.out hb5)
      have HX5 := hid (HXS.out.step HBB5.out)
      have y0 := HX5.out.c0
      have y1 := HX5.out.c1
      have y2 := HX5.out.c2
      have y3 := HX5.out.c3
      clear ho5 hb5
      go_wp2_with fail
      with_reducible refine (HRB.out _ HBB5.out).mono ?_
      rintro e w6 ⟨v6, rfl, ho6, -, hb6⟩
      dsimp only at ho6 ⊢
      have HR6 := hid (reads_below HR5.out hb6)
      have HSB := hid (same_true _ _ bs w6 (reads_below HR5.out hb6) ho6.reads)
      obtain ⟨x6, n6, c6, rfl⟩ := own_slice ho6
      have HB6 := hid (below_t HB5.out hb6)
      have HBB6 := hid (below_t HBB5.out hb6)
      have HX6 := hid (HX5.out.step hb6)
      clear ho6 hb6 y0 y1 y2 y3
      go_wp2_with fail
      with_reducible refine HSB.out.mono ?_
      rintro e w6' ⟨rfl, rfl⟩
      by_cases he : er = 0
      · subst he
        have HP := hid (eparse_any _ bs w6 HR6.out HBL.out)
        rw [HTLD.out rfl] at HP
        have z1 := HX6.out.c1
        have z1l := HX6.out.lt
        cases sh
        · rw [if_neg (by decide)] at HP
          go_wp2_with fail
          with_reducible refine HP.out.mono ?_
          rintro e w7 ⟨v7, hs, rfl, hm7, hd7, hb7⟩
          dsimp only at hd7 ⊢
          have HM7 := hid hm7
          have HD7 := hid hd7
          obtain ⟨x7, c7, rfl⟩ := row_slice hm7.row
          generalize hn7 : hs.length = n7 at HM7 ⊢
          have HN7 := hid hn7
          have HB7 := hid (below_t HB6.out hb7)
          have HBB7 := hid (below_t HBB6.out hb7)
          have HBX := hid (bal (Below.refl w7.heap.size w7) (.cells #[.int .u8 ai, .bool false, .int .i64 cu, .slice x7 n7 c7] 69))
          have HQ1 := hid ((HX6.out.step hb7).step HBX.out)
          have HQ2 := hid (Bx4.new (v0 := .int .u8 ai) (v1 := .bool false) (v2 := .int .i64 cu) (v3 := .slice x7 n7 c7) w7 69)
          have HMA := hid (HM7.out.step HBX.out)
          have HB8 := hid (below_t HB7.out HBX.out)
          have HBB8 := hid (below_t HBB7.out HBX.out)
          have z1 := HQ1.out.c1
          clear hm7 hd7 hb7 hn7
          go_wp2_with fail
          generalize w7.alloc (.cells #[.int .u8 ai, .bool false, .int .i64 cu, .slice x7 n7 c7] 69) = W8 at HQ1 HQ2 HMA HB8 HBB8 ⊢
          have HBK := hid (fun W (hb : Below W8.heap.size W8 W) => rback_any ai false cu _ hs _ W (HMA.out.step hb) (by have e1 := totE_len (hs.map EnV.d); rw [HD7.out, ← HD7.out, List.length_map] at e1; have e2 := HTO.out; rw [← HD7.out] at e2; omega))
          have HSM0 := hid (fun W (hb : Below W8.heap.size W8 W) (v : Value) (hv : W.ownsRow (W8.drew.heap.size) 64 2 v hs.length (cellsE hs)) => rsame20 ai false cu v (.slice xc m cc) hs fs HD7.out W (entIn_of hv (fun x hx => ((HMA.out.step hb).txt x hx).reads)) (HEI.out W (below_t HBB8.out hb)) (by have e1 := totE_len (hs.map EnV.d); rw [List.length_map] at e1; have e2 := HTO.out; rw [← HD7.out] at e2; omega))
          refine wp_region_held_drew (S := fun V => V.cell? ⟨w.heap.size, 0, none⟩ = some (.int .u8 ai) ∧ V.cell? ⟨w.heap.size, 1, none⟩ = some (.bool false) ∧ V.cell? ⟨w.heap.size, 2, none⟩ = some (.int .i64 cu) ∧ V.cell? ⟨w.heap.size, 3, none⟩ = some (.slice xc m cc) ∧ V.cell? ⟨w7.heap.size, 0, none⟩ = some (.int .u8 ai) ∧ V.cell? ⟨w7.heap.size, 1, none⟩ = some (.bool false) ∧ V.cell? ⟨w7.heap.size, 2, none⟩ = some (.int .i64 cu) ∧ V.cell? ⟨w7.heap.size, 3, none⟩ = some (.slice x7 n7 c7) ∧ Below W8.heap.size W8 V) (by kernel_rfl) ?_ (fun hHeld => ?_)
          · have hdr : Below W8.heap.size W8 W8.drew := (Below.refl _ _).drew
            exact ⟨keepc hdr (HQ1.out.c0), keepc hdr (HQ1.out.c1), keepc hdr (HQ1.out.c2), keepc hdr (HQ1.out.c3), keepc hdr (HQ2.out.c0), keepc hdr (HQ2.out.c1), keepc hdr (HQ2.out.c2), keepc hdr (HQ2.out.c3), hdr⟩
          refine takeD_o (i := 0) (v := ?_) 67 rfl rfl (by kernel_rfl) (by kernel_rfl) (by kernel_rfl) (fun _ _ _ h => h) (by assumption) (Or.inl ⟨by rfl, ?_⟩) ?_
          rotate_left
          · intro w hSw
            (try dsimp only at hSw)
            go_simp
            try with_reducible rfl
          simp only [List.setIfInBounds_toArray, List.set_cons_zero, List.set_cons_succ]
          refine takeD_o (i := 1) (v := ?_) 68 rfl rfl (by kernel_rfl) (by kernel_rfl) (by kernel_rfl) (fun _ _ _ h => h) (by assumption) (Or.inl ⟨by rfl, ?_⟩) ?_
          rotate_left
          · intro w hSw
            (try dsimp only at hSw)
            go_simp
            try with_reducible rfl
          simp only [List.setIfInBounds_toArray, List.set_cons_zero, List.set_cons_succ]
          refine takeD_o (i := 2) (v := ?_) 69 rfl rfl (by kernel_rfl) (by kernel_rfl) (by kernel_rfl) (fun _ _ _ h => h) (by assumption) (Or.inl ⟨by rfl, ?_⟩) ?_
          rotate_left
          · intro w hSw
            (try dsimp only at hSw)
            go_simp
            try with_reducible rfl
          simp only [List.setIfInBounds_toArray, List.set_cons_zero, List.set_cons_succ]
          refine takeD_o (i := 3) (v := ?_) 70 rfl rfl (by kernel_rfl) (by kernel_rfl) (by kernel_rfl) (fun _ _ _ h => h) (by assumption) (Or.inl ⟨by rfl, ?_⟩) ?_
          rotate_left
          · intro w hSw
            (try dsimp only at hSw)
            go_simp
            try with_reducible rfl
          simp only [List.setIfInBounds_toArray, List.set_cons_zero, List.set_cons_succ]
          refine takeD_o (i := 5) (v := ?_) 72 rfl rfl (by kernel_rfl) (by kernel_rfl) (by kernel_rfl) (fun _ _ _ h => h) (by assumption) (Or.inl ⟨by rfl, ?_⟩) ?_
          rotate_left
          · intro w hSw
            (try dsimp only at hSw)
            go_simp
            try with_reducible rfl
          simp only [List.setIfInBounds_toArray, List.set_cons_zero, List.set_cons_succ]
          refine wpAnyH_ready (rs := [4]) (by kernel_rfl) (by simp) ?_
          refine AllReadyH.cons (by simp only [List.getElem?_toArray, List.getElem?_cons_succ, List.getElem?_cons_zero]; rfl) (fun K hK => ?_) AllReadyH.nil
          go_simp
          go_at_call 32; (with_reducible refine (HBK.out _ hHeld.2.2.2.2.2.2.2.2).mono ?_); rintro e w9 ⟨v9, rfl, ho9, hb9⟩
          refine hK.out _ _ ?_ (fun hHeldN => ?_)
          · exact ⟨keepc hb9 hHeld.1, keepc hb9 hHeld.2.1, keepc hb9 hHeld.2.2.1, keepc hb9 hHeld.2.2.2.1, keepc hb9 hHeld.2.2.2.2.1, keepc hb9 hHeld.2.2.2.2.2.1, keepc hb9 hHeld.2.2.2.2.2.2.1, keepc hb9 hHeld.2.2.2.2.2.2.2.1, below_t hHeld.2.2.2.2.2.2.2.2 hb9⟩
          have HB89 := hid (below_t hHeld.2.2.2.2.2.2.2.2 hb9)
          have HSM := hid (HSM0.out w9 HB89.out _ ho9)
          obtain ⟨x9, c9, rfl⟩ := row_slice ho9
          clear ho9 hb9
          clear hK K hHeld
          have hHeld := hHeldN
          clear hHeldN
          (try simp only [Act.put, List.setIfInBounds_toArray, List.set_cons_zero, List.set_cons_succ])
          refine wpAnyH_ready (rs := [6]) (by kernel_rfl) (by simp) ?_
          refine AllReadyH.cons (by simp only [List.getElem?_toArray, List.getElem?_cons_succ, List.getElem?_cons_zero]; rfl) (fun K hK => ?_) AllReadyH.nil
          go_simp
          go_at_call 31; (with_reducible refine HSM.out.mono ?_); rintro e w10 ⟨rfl, hb10⟩
          refine hK.out _ _ ?_ (fun hHeldN => ?_)
          · exact ⟨keepc hb10 hHeld.1, keepc hb10 hHeld.2.1, keepc hb10 hHeld.2.2.1, keepc hb10 hHeld.2.2.2.1, keepc hb10 hHeld.2.2.2.2.1, keepc hb10 hHeld.2.2.2.2.2.1, keepc hb10 hHeld.2.2.2.2.2.2.1, keepc hb10 hHeld.2.2.2.2.2.2.2.1, below_t hHeld.2.2.2.2.2.2.2.2 hb10⟩
          have HB9 := hid (below_t HB89.out hb10)
          clear hb10
          clear hK K hHeld
          have hHeld := hHeldN
          clear hHeldN
          (try simp only [Act.put, List.setIfInBounds_toArray, List.set_cons_zero, List.set_cons_succ])
          refine takeD_o (i := 7) (v := ?_) 74 rfl rfl (by kernel_rfl) (by kernel_rfl) (by kernel_rfl) (fun _ _ _ h => h) (by assumption) (Or.inl ⟨by rfl, ?_⟩) ?_
          rotate_left
          · intro w hSw
            (try dsimp only at hSw)
            go_simp
            try with_reducible rfl
          simp only [List.setIfInBounds_toArray, List.set_cons_zero, List.set_cons_succ]
          refine takeD_o (i := 8) (v := ?_) 2 rfl rfl (by kernel_rfl) (by kernel_rfl) (by kernel_rfl) (fun _ _ _ h => h) (by assumption) (Or.inl ⟨by rfl, ?_⟩) ?_
          rotate_left
          · intro w hSw
            (try dsimp only at hSw)
            go_simp
            try with_reducible rfl
          simp only [List.setIfInBounds_toArray, List.set_cons_zero, List.set_cons_succ]
          refine wpAnyH_done (by kernel_rfl) ?_ _
          clear hHeld
          go_wp2
          go_ret
          exact ⟨rfl, below_t HB8.out HB9.out⟩
        · rw [if_pos rfl] at HP
          go_wp2_with fail
          with_reducible refine HP.out.mono ?_
          rintro e w7 ⟨v7, hs, rfl, hm7, hd7, hb7⟩
          dsimp only at hd7 ⊢
          have hh : hs = [] := List.map_eq_nil_iff.1 hd7
          subst hh
          have HM7 := hid hm7
          obtain ⟨x7, c7, rfl⟩ := row_slice hm7.row
          have HB7 := hid (below_t HB6.out hb7)
          have HQ7 := hid (HX6.out.step hb7)
          have HQ0 := hid (HQ7.out.step (bal (Below.refl w7.heap.size w7) (.cells #[.int .u8 ai, .bool true, .int .i64 0, .slice x7 0 c7] 69)))
          have HS2 := hid (show Bx4 (w7.setCell ⟨w.heap.size, 2, none⟩ (.int .i64 0)) w.heap.size (.int .u8 ai) (.bool true) (.int .i64 0) (.slice xc m cc) from ⟨set_o (by omega) HQ7.out.c0, set_o (by omega) HQ7.out.c1, set_s HQ7.out.c2, set_o (by omega) HQ7.out.c3, fun i hi => by simp [HQ7.out.fr i hi]⟩)
          have HS3 := hid (HS2.out.set3 (.slice none 0 0))
          have HQ3 := hid (HS2.out.step (bal (Below.refl _ _) (.cells #[.int .u8 ai, .bool true, .int .i64 0, .slice x7 0 c7] 69)))
          have z1 := HQ0.out.c1
          have z2 := HQ0.out.c2
          have f2 := HQ0.out.fr 2 (by omega)
          have z3 := HQ3.out.c3
          have f3 := HQ3.out.fr 3 (by omega)
          have zl := HQ0.out.lt
          have zl2 := HQ7.out.lt
          have hset : Moved w7 ((w7.setCell ⟨w.heap.size, 2, none⟩ (.int .i64 0)).setCell ⟨w.heap.size, 3, none⟩ (.slice none 0 0)) [w.heap.size] [w.heap.size] := (Moved.set (by simp) 2 _).trans (Moved.set (by simp) 3 _)
          have hsz : ((w7.setCell ⟨w.heap.size, 2, none⟩ (.int .i64 0)).setCell ⟨w.heap.size, 3, none⟩ (.slice none 0 0)).heap.size = w7.heap.size := by simp
          have HBX := hid (bal (Below.refl ((w7.setCell ⟨w.heap.size, 2, none⟩ (.int .i64 0)).setCell ⟨w.heap.size, 3, none⟩ (.slice none 0 0)).heap.size ((w7.setCell ⟨w.heap.size, 2, none⟩ (.int .i64 0)).setCell ⟨w.heap.size, 3, none⟩ (.slice none 0 0))) (.cells #[.int .u8 ai, .bool true, .int .i64 0, .slice x7 0 c7] 69))
          have HQ1 := hid (HS3.out.step HBX.out)
          have HQ2 := hid (show Bx4 (((w7.setCell ⟨w.heap.size, 2, none⟩ (.int .i64 0)).setCell ⟨w.heap.size, 3, none⟩ (.slice none 0 0)).alloc (.cells #[.int .u8 ai, .bool true, .int .i64 0, .slice x7 0 c7] 69)) w7.heap.size (.int .u8 ai) (.bool true) (.int .i64 0) (.slice x7 0 c7) from by
            have q := Bx4.new (v0 := .int .u8 ai) (v1 := .bool true) (v2 := .int .i64 0) (v3 := .slice x7 0 c7) ((w7.setCell ⟨w.heap.size, 2, none⟩ (.int .i64 0)).setCell ⟨w.heap.size, 3, none⟩ (.slice none 0 0)) 69
            rw [hsz] at q
            exact q)
          have HMA := hid ((HM7.out.moved hset (fun j hj => by rw [List.mem_singleton.1 hj]; exact HX6.out.lt)).step HBX.out)
          have HB8 := hid (below_t (show Below w.heap.size w ((w7.setCell ⟨w.heap.size, 2, none⟩ (.int .i64 0)).setCell ⟨w.heap.size, 3, none⟩ (.slice none 0 0)) from (HB7.out.setCell (by show w.heap.size ≤ w.heap.size; omega) _).setCell (by show w.heap.size ≤ w.heap.size; omega) _) HBX.out)
          clear hm7 hd7 hb7 hset hsz
          go_wp2_with fail
          generalize ((w7.setCell ⟨w.heap.size, 2, none⟩ (.int .i64 0)).setCell ⟨w.heap.size, 3, none⟩ (.slice none 0 0)).alloc (.cells #[.int .u8 ai, .bool true, .int .i64 0, .slice x7 0 c7] 69) = W8 at HQ1 HQ2 HMA HB8 ⊢
          have HBK := hid (fun W (hb : Below W8.heap.size W8 W) => show Calls Try.prog 32 #[.agg #[.int .u8 ai, .bool true, .int .i64 0, .slice x7 0 c7]] W (BakD ai true 0 [] W) from rback_any ai true 0 _ [] _ W (HMA.out.step hb) (Nat.zero_le _))
          have HSM0 := hid (fun W (hb : Below W8.heap.size W8 W) (v : Value) (hv : W.ownsRow (W8.drew.heap.size) 64 2 v 0 (cellsE [])) => rsame20 ai true 0 v (.slice none 0 0) [] [] rfl W (entIn_of (es := []) hv (fun x hx => (by cases hx))) ⟨⟨none, 0, rfl, fun i hi => absurd hi (Nat.not_lt_zero i)⟩, fun x hx => (by cases hx)⟩ (Nat.zero_le _))
          refine wp_region_held_drew (S := fun V => V.cell? ⟨w.heap.size, 0, none⟩ = some (.int .u8 ai) ∧ V.cell? ⟨w.heap.size, 1, none⟩ = some (.bool true) ∧ V.cell? ⟨w.heap.size, 2, none⟩ = some (.int .i64 0) ∧ V.cell? ⟨w.heap.size, 3, none⟩ = some (.slice none 0 0) ∧ V.cell? ⟨w7.heap.size, 0, none⟩ = some (.int .u8 ai) ∧ V.cell? ⟨w7.heap.size, 1, none⟩ = some (.bool true) ∧ V.cell? ⟨w7.heap.size, 2, none⟩ = some (.int .i64 0) ∧ V.cell? ⟨w7.heap.size, 3, none⟩ = some (.slice x7 0 c7) ∧ Below W8.heap.size W8 V) (by kernel_rfl) ?_ (fun hHeld => ?_)
          · have hdr : Below W8.heap.size W8 W8.drew := (Below.refl _ _).drew
            exact ⟨keepc hdr (HQ1.out.c0), keepc hdr (HQ1.out.c1), keepc hdr (HQ1.out.c2), keepc hdr (HQ1.out.c3), keepc hdr (HQ2.out.c0), keepc hdr (HQ2.out.c1), keepc hdr (HQ2.out.c2), keepc hdr (HQ2.out.c3), hdr⟩
          refine takeD_o (i := 0) (v := ?_) 67 rfl rfl (by kernel_rfl) (by kernel_rfl) (by kernel_rfl) (fun _ _ _ h => h) (by assumption) (Or.inl ⟨by rfl, ?_⟩) ?_
          rotate_left
          · intro w hSw
            (try dsimp only at hSw)
            go_simp
            try with_reducible rfl
          simp only [List.setIfInBounds_toArray, List.set_cons_zero, List.set_cons_succ]
          refine takeD_o (i := 1) (v := ?_) 68 rfl rfl (by kernel_rfl) (by kernel_rfl) (by kernel_rfl) (fun _ _ _ h => h) (by assumption) (Or.inl ⟨by rfl, ?_⟩) ?_
          rotate_left
          · intro w hSw
            (try dsimp only at hSw)
            go_simp
            try with_reducible rfl
          simp only [List.setIfInBounds_toArray, List.set_cons_zero, List.set_cons_succ]
          refine takeD_o (i := 2) (v := ?_) 69 rfl rfl (by kernel_rfl) (by kernel_rfl) (by kernel_rfl) (fun _ _ _ h => h) (by assumption) (Or.inl ⟨by rfl, ?_⟩) ?_
          rotate_left
          · intro w hSw
            (try dsimp only at hSw)
            go_simp
            try with_reducible rfl
          simp only [List.setIfInBounds_toArray, List.set_cons_zero, List.set_cons_succ]
          refine takeD_o (i := 3) (v := ?_) 70 rfl rfl (by kernel_rfl) (by kernel_rfl) (by kernel_rfl) (fun _ _ _ h => h) (by assumption) (Or.inl ⟨by rfl, ?_⟩) ?_
          rotate_left
          · intro w hSw
            (try dsimp only at hSw)
            go_simp
            try with_reducible rfl
          simp only [List.setIfInBounds_toArray, List.set_cons_zero, List.set_cons_succ]
          refine takeD_o (i := 5) (v := ?_) 72 rfl rfl (by kernel_rfl) (by kernel_rfl) (by kernel_rfl) (fun _ _ _ h => h) (by assumption) (Or.inl ⟨by rfl, ?_⟩) ?_
          rotate_left
          · intro w hSw
            (try dsimp only at hSw)
            go_simp
            try with_reducible rfl
          simp only [List.setIfInBounds_toArray, List.set_cons_zero, List.set_cons_succ]
          refine wpAnyH_ready (rs := [4]) (by kernel_rfl) (by simp) ?_
          refine AllReadyH.cons (by simp only [List.getElem?_toArray, List.getElem?_cons_succ, List.getElem?_cons_zero]; rfl) (fun K hK => ?_) AllReadyH.nil
          go_simp
          go_at_call 32; (with_reducible refine (HBK.out _ hHeld.2.2.2.2.2.2.2.2).mono ?_); rintro e w9 ⟨v9, rfl, ho9, hb9⟩
          refine hK.out _ _ ?_ (fun hHeldN => ?_)
          · exact ⟨keepc hb9 hHeld.1, keepc hb9 hHeld.2.1, keepc hb9 hHeld.2.2.1, keepc hb9 hHeld.2.2.2.1, keepc hb9 hHeld.2.2.2.2.1, keepc hb9 hHeld.2.2.2.2.2.1, keepc hb9 hHeld.2.2.2.2.2.2.1, keepc hb9 hHeld.2.2.2.2.2.2.2.1, below_t hHeld.2.2.2.2.2.2.2.2 hb9⟩
          replace ho9 : w9.ownsRow W8.drew.heap.size 64 2 v9 0 (cellsE []) := ho9
          have HB89 := hid (below_t hHeld.2.2.2.2.2.2.2.2 hb9)
          have HSM := hid (HSM0.out w9 HB89.out _ ho9)
          obtain ⟨x9, c9, rfl⟩ := row_slice ho9
          clear ho9 hb9
          clear hK K hHeld
          have hHeld := hHeldN
          clear hHeldN
          (try simp only [Act.put, List.setIfInBounds_toArray, List.set_cons_zero, List.set_cons_succ])
          refine wpAnyH_ready (rs := [6]) (by kernel_rfl) (by simp) ?_
          refine AllReadyH.cons (by simp only [List.getElem?_toArray, List.getElem?_cons_succ, List.getElem?_cons_zero]; rfl) (fun K hK => ?_) AllReadyH.nil
          go_simp
          go_at_call 31; (with_reducible refine HSM.out.mono ?_); rintro e w10 ⟨rfl, hb10⟩
          refine hK.out _ _ ?_ (fun hHeldN => ?_)
          · exact ⟨keepc hb10 hHeld.1, keepc hb10 hHeld.2.1, keepc hb10 hHeld.2.2.1, keepc hb10 hHeld.2.2.2.1, keepc hb10 hHeld.2.2.2.2.1, keepc hb10 hHeld.2.2.2.2.2.1, keepc hb10 hHeld.2.2.2.2.2.2.1, keepc hb10 hHeld.2.2.2.2.2.2.2.1, below_t hHeld.2.2.2.2.2.2.2.2 hb10⟩
          have HB9 := hid (below_t HB89.out hb10)
          clear hb10
          clear hK K hHeld
          have hHeld := hHeldN
          clear hHeldN
          (try simp only [Act.put, List.setIfInBounds_toArray, List.set_cons_zero, List.set_cons_succ])
          refine takeD_o (i := 7) (v := ?_) 74 rfl rfl (by kernel_rfl) (by kernel_rfl) (by kernel_rfl) (fun _ _ _ h => h) (by assumption) (Or.inl ⟨by rfl, ?_⟩) ?_
          rotate_left
          · intro w hSw
            (try dsimp only at hSw)
            go_simp
            try with_reducible rfl
          simp only [List.setIfInBounds_toArray, List.set_cons_zero, List.set_cons_succ]
          refine takeD_o (i := 8) (v := ?_) 2 rfl rfl (by kernel_rfl) (by kernel_rfl) (by kernel_rfl) (fun _ _ _ h => h) (by assumption) (Or.inl ⟨by rfl, ?_⟩) ?_
          rotate_left
          · intro w hSw
            (try dsimp only at hSw)
            go_simp
            try with_reducible rfl
          simp only [List.setIfInBounds_toArray, List.set_cons_zero, List.set_cons_succ]
          refine wpAnyH_done (by kernel_rfl) ?_ _
          clear hHeld
          go_wp2
          go_ret
          exact ⟨rfl, below_t HB8.out HB9.out⟩
      · have e0 : (er == 0) = false := by simpa using he
        have e1 : (er != 0) = true := by simpa using he
        clear he
        go_wp2
        go_ret
        exact ⟨rfl, HB6.out⟩
end Go.Proofs.Ytlhaefgchmakfaa
