/-
  A report as the program has it, of the reference's.
-/
import Derived.Test.YtlhaefgchmakfaaPr
namespace Go.Proofs.Ytlhaefgchmakfaa
open Go.RowKit Go.Lib Go.Deep

section
variable {P : Program} {ops : Array Oper} {o : Oper} {a : Act} {w : World} {K : Act → World → Prop} {Q : Exit → Act → World → Prop} {E : Prop}
theorem step_append_run (hgd : o.guard = none) (s x : Operand) (t : TypeId) (ho : o.op = .call { callee := .builtin .append, args := #[s, x], argTypes := #[t, t] }) (vs vx v' : Value) (w' : World) (hs : a.eval s = vs) (hx : a.eval x = vx)
    (hr : (Builtin.append_ #[t, t] o.type #[vs, vx]).run P w = .ok v' w') (h : K (a.put o.dst v') w') :
    if Region.wanted o (yielded ops a.tmps) = true then Oper.wp P o a w K Q else E := by
  have hw : Region.wanted o (yielded ops a.tmps) = true := by simp [Region.wanted, hgd]
  rw [if_pos hw]
  unfold Oper.wp execOp
  simp only [ho, resolve, invoke, builtin, Sem.run_bind, Sem.run_pure, Result.andThen_ok, List.map_toArray, List.map_cons, List.map_nil, hs, hx, hr]
  exact h
end
/-- One entry more, with its text. -/
theorem EntM.add {t : TypeId} {B : Nat} {w w' : World} {v v' : Value} {xs : List EnV} (h : EntM t B w v xs) (hB : B ≤ w.heap.size) (x : EnV) (ho : OwnB w x.tv x.d.text) (hxb : ∀ k ∈ blkV x.tv, B ≤ k) (hxv : ∀ k ∈ blkV x.tv, k ∉ blkV v) (hxs : ∀ y ∈ xs, ∀ k ∈ blkV y.tv, k ∉ blkV x.tv)
    (hrow : w'.ownsRow 0 t 2 v' (xs.length + 1) (cellsE xs ++ [.int .i64 x.d.addr, x.tv])) (hg : w.grownBy w' v.ownBlock) (hb : ∀ k ∈ blkV v', k ∈ blkV v ∨ w.heap.size ≤ k) : EntM t B w' v' (xs ++ [x]) := by
  have hm : Moved w w' (blkV v) (blkV v') := Moved.grown hg (fun k hk => mem_blkV.2 hk) hb
  refine ⟨?_, fun y hy => ?_, fun y hy k hk q => ?_, ?_, fun k hk => ?_, fun y hy k hk => ?_⟩
  · rw [cellsE_append, List.length_append]
    exact hrow
  · rcases List.mem_append.1 hy with hy | hy
    · exact (h.txt y hy).moved hm (h.ap y hy)
    · rw [List.mem_singleton.1 hy]; exact ho.moved hm hxv
  · rcases List.mem_append.1 hy with hy | hy
    · rcases hb k q with r | r
      · exact h.ap y hy k hk r
      · have := (h.txt y hy).lt k hk; omega
    · rw [List.mem_singleton.1 hy] at hk
      rcases hb k q with r | r
      · exact hxv k hk r
      · have := ho.lt k hk; omega
  · rw [List.pairwise_append]
    refine ⟨h.sep, List.pairwise_singleton _ _, fun y hy z hz k hk q => ?_⟩
    rw [List.mem_singleton.1 hz] at q
    exact hxs y hy k hk q
  · rcases hb k hk with r | r
    · exact h.bv k r
    · omega
  · rcases List.mem_append.1 hy with hy | hy
    · exact h.bt y hy k hk
    · rw [List.mem_singleton.1 hy] at hk; exact hxb k hk
/-- Own: the row and the texts anew. -/
def OwrD (ai : Int) (sh : Bool) (cu : Int) (es : List EnD) (w : World) (e : Ending) (w' : World) : Prop := ∃ v fs, e = .returned (.agg #[.int .u8 ai, .bool sh, .int .i64 cu, v]) ∧ EntM 107 w.heap.size w' v fs ∧ fs.map EnV.d = es ∧ Below w.heap.size w w'
theorem set_b {w : World} {b g : Nat} {i j : Nat} {u v : Value} (h : w.cell? ⟨b, i, none⟩ = some u) (hb : g ≠ b) : (w.setCell ⟨g, j, none⟩ v).cell? ⟨b, i, none⟩ = some u := by
  rw [World.cell?_setCell_other _ _ _ _ (fun q => by injection q with q1 _ _; exact hb q1)]
  exact h
set_option maxRecDepth 100000 in
set_option maxHeartbeats 4000000 in
theorem rown_any (ai : Int) (sh : Bool) (cu : Int) (v : Value) (es : List EnV) (w : World) (h : EntIn w v es) (hl : totE (es.map EnV.d) ≤ 100000) :
    Calls Try.prog 28 #[.agg #[.int .u8 ai, .bool sh, .int .i64 cu, v]] w (OwrD ai sh cu (es.map EnV.d) w) := by
  obtain ⟨i0, hi, hz0, hz1, hz2⟩ := info_parts infoEn
  obtain ⟨⟨xe, ce, rfl, hat⟩, htx⟩ := h
  have HAT0 := hid hat
  have HTX := hid htx
  have hnn : es.length ≤ 100000 := by have := totE_len (es.map EnV.d); rw [List.length_map] at this; omega
  have HTL0 := hid (fun x (q : x ∈ es) => Nat.le_trans (Nat.le_of_lt (totE_mem (List.mem_map_of_mem (f := EnV.d) q))) hl)
  have HSN := hid (fun k (q : k < es.length) => show (es.map EnV.d).take (k + 1) = (es.map EnV.d).take k ++ [es[k].d] by rw [take_snoc_at (xs := es.map EnV.d) (by simpa using q), List.getElem_map])
  have HEND := hid (show (es.map EnV.d).take es.length = es.map EnV.d by rw [← List.length_map (f := EnV.d), List.take_length])
  obtain ⟨n, hn⟩ : ∃ n, es.length = n := ⟨_, rfl⟩
  have HLN := hid hn
  rw [hn] at hnn HEND ⊢
  have HB3 := hid (show Below w.heap.size w (((w.alloc (.cells #[.int .u8 ai, .bool sh, .int .i64 cu, .slice xe n ce] 62)).alloc (.cells #[.int .u8 0, .bool false, .int .i64 0, .slice none 0 0] 69)).alloc (.cells #[.int .u8 ai, .bool sh, .int .i64 cu, .slice none 0 0] 69)) from bal (bal (bal (Below.refl _ _) _) _) _)
  have HX1 := hid (show Bx4 (((w.alloc (.cells #[.int .u8 ai, .bool sh, .int .i64 cu, .slice xe n ce] 62)).alloc (.cells #[.int .u8 0, .bool false, .int .i64 0, .slice none 0 0] 69)).alloc (.cells #[.int .u8 ai, .bool sh, .int .i64 cu, .slice none 0 0] 69)) (w.heap.size + 1) (.int .u8 0) (.bool false) (.int .i64 0) (.slice none 0 0) from by
    have q := (Bx4.new (v0 := .int .u8 0) (v1 := .bool false) (v2 := .int .i64 0) (v3 := .slice none 0 0) (w.alloc (.cells #[.int .u8 ai, .bool sh, .int .i64 cu, .slice xe n ce] 62)) 69).step (bal (Below.refl _ _) (.cells #[.int .u8 ai, .bool sh, .int .i64 cu, .slice none 0 0] 69))
    rwa [World.size_alloc] at q)
  have HX2 := hid (show Bx4 (((w.alloc (.cells #[.int .u8 ai, .bool sh, .int .i64 cu, .slice xe n ce] 62)).alloc (.cells #[.int .u8 0, .bool false, .int .i64 0, .slice none 0 0] 69)).alloc (.cells #[.int .u8 ai, .bool sh, .int .i64 cu, .slice none 0 0] 69)) (w.heap.size + 2) (.int .u8 ai) (.bool sh) (.int .i64 cu) (.slice none 0 0) from by
    have q := Bx4.new (v0 := .int .u8 ai) (v1 := .bool sh) (v2 := .int .i64 cu) (v3 := .slice none 0 0) ((w.alloc (.cells #[.int .u8 ai, .bool sh, .int .i64 cu, .slice xe n ce] 62)).alloc (.cells #[.int .u8 0, .bool false, .int .i64 0, .slice none 0 0] 69)) 69
    rwa [World.size_alloc, World.size_alloc] at q)
  clear hn hat htx hl
  go_enter Try.func28, Try.ntmps28
  go_wp2
  generalize ((w.alloc (.cells #[.int .u8 ai, .bool sh, .int .i64 cu, .slice xe n ce] 62)).alloc (.cells #[.int .u8 0, .bool false, .int .i64 0, .slice none 0 0] 69)).alloc (.cells #[.int .u8 ai, .bool sh, .int .i64 cu, .slice none 0 0] 69) = W0 at HB3 HX1 HX2 ⊢
  have hz3 := HX2.out.lt
  go_loopw [16] (fun i W => ∃ (k : Nat) (cur : Value) (fs : List EnV), k ≤ n ∧ i = .int .i64 k ∧ Hid (EntM 107 (w.heap.size + 3) W cur fs) ∧ Hid (fs.map EnV.d = (es.map EnV.d).take k) ∧ Hid (Below w.heap.size w W) ∧ Hid (Bx4 W (w.heap.size + 1) (.int .u8 0) (.bool false) (.int .i64 0) (.slice none 0 0)) ∧ Hid (Bx4 W (w.heap.size + 2) (.int .u8 ai) (.bool sh) (.int .i64 cu) cur)) (fun i _ => n - (intOf i).toNat)
  case atStart => exact ⟨0, .slice none 0 0, [], Nat.zero_le _, rfl, EntM.nil _ _ _, rfl, HB3.out, HX1.out, HX2.out⟩
  case round =>
    obtain ⟨k, cur, fs, hk, rfl, HM, HF, HBW, HY1, HY2⟩ := hrel
    obtain ⟨xc, cc, rfl⟩ := row_slice HM.out.row
    by_cases hlt : k < n
    · have hke : k < es.length := by rw [HLN.out]; exact hlt
      obtain ⟨g, rfl, p0, p1⟩ := HAT0.out k hke
      have htr := HTX.out _ (List.getElem_mem hke)
      have htl := HTL0.out _ (List.getElem_mem hke)
      have HTK := hid (HSN.out k hke)
      generalize es[k] = x at p0 p1 htr htl HTK
      obtain ⟨⟨ad, tx⟩, tv⟩ := x
      dsimp only at p0 p1 htr htl HTK
      obtain ⟨xt, ct, rfl⟩ := reads_sl htr
      have hki : (k : Int) < n := by omega
      have hc0 := keepc HBW.out p0
      have hc1 := keepc HBW.out p1
      have HBE := hid (bal (Below.refl wr.heap.size wr) (.cells #[.int .i64 ad, .slice xt tx.length ct] 64))
      have HCP := hid (fun V (hV : Below (wr.alloc (.cells #[.int .i64 ad, .slice xt tx.length ct] 64)).heap.size (wr.alloc (.cells #[.int .i64 ad, .slice xt tx.length ct] 64)) V) => rcopy_own (.slice xt tx.length ct) tx V (reads_below (reads_below (reads_below htr HBW.out) HBE.out) hV) (by omega))
      have HFL := hid (show fs.length ≤ 100000 by have := congrArg List.length HF.out; rw [List.length_map, List.length_take] at this; omega)
      generalize tx.length = tl at hc1 HBE HCP
      have hx0 : (wr.alloc (.cells #[.int .i64 ad, .slice xt tl ct] 64)).cell? ⟨wr.heap.size, 0, none⟩ = some (.int .i64 ad) := by simp [go_sem]
      have hx1 : (wr.alloc (.cells #[.int .i64 ad, .slice xt tl ct] 64)).cell? ⟨wr.heap.size, 1, none⟩ = some (.slice xt tl ct) := by simp [go_sem]
      have HNX := hid (show wr.heap.size ∉ blkV (.slice xc fs.length cc) from fun q => by have := own_lt HM.out.row _ q; omega)
      have HCL := hid (show ∀ k ∈ blkV (.slice xc fs.length cc), k < wr.heap.size from own_lt HM.out.row)
      have HBS := hid (show w.heap.size + 3 ≤ wr.heap.size from HY2.out.lt)
      have HWB := hid (show w.heap.size + 2 < wr.heap.size from HY2.out.lt)
      have hc3 := keepc HBE.out HY2.out.c3
      have HWL := hid (show wr.heap.size < (wr.alloc (.cells #[.int .i64 ad, .slice xt tl ct] 64)).heap.size by simp)
      clear p0 p1 htr htl
      go_wp2_with fail
      generalize wr.alloc (.cells #[.int .i64 ad, .slice xt tl ct] 64) = WE at HBE HCP hx0 hx1 hc3 HWL ⊢
      have hdr : Below WE.heap.size WE WE.drew := (Below.refl _ _).drew
      have hcd := keepc hdr hc3
      refine wp_region_held_drew (S := fun V => V.cell? ⟨wr.heap.size, 0, none⟩ = some (.int .i64 ad) ∧ V.cell? ⟨wr.heap.size, 1, none⟩ = some (.slice xt tl ct)) (by kernel_rfl) ?_ (fun hHeld => ?_)
      · exact ⟨keepc hdr hx0, keepc hdr hx1⟩
      refine takeD_o (i := 0) (v := ?_) 20 rfl rfl (by kernel_rfl) (by kernel_rfl) (by kernel_rfl) (fun _ _ _ h => h) (by assumption) (Or.inl ⟨by rfl, ?_⟩) ?_
      rotate_left
      · intro w hSw
        (try dsimp only at hSw)
        go_simp
        try with_reducible rfl
      simp only [List.setIfInBounds_toArray, List.set_cons_zero, List.set_cons_succ]
      refine takeD_o (i := 2) (v := ?_) 22 rfl rfl (by kernel_rfl) (by kernel_rfl) (by kernel_rfl) (fun _ _ _ h => h) (by assumption) (Or.inl ⟨by rfl, ?_⟩) ?_
      rotate_left
      · intro w hSw
        (try dsimp only at hSw)
        go_simp
        try with_reducible rfl
      simp only [List.setIfInBounds_toArray, List.set_cons_zero, List.set_cons_succ]
      refine takeD_o (i := 3) (v := ?_) 23 rfl rfl (by kernel_rfl) (by kernel_rfl) (by kernel_rfl) (fun _ _ _ h => h) (by assumption) (Or.inl ⟨by rfl, ?_⟩) ?_
      rotate_left
      · intro w hSw
        (try dsimp only at hSw)
        go_simp
        try with_reducible rfl
      simp only [List.setIfInBounds_toArray, List.set_cons_zero, List.set_cons_succ]
      refine takeD_o (i := 4) (v := ?_) 24 rfl rfl (by kernel_rfl) (by kernel_rfl) (by kernel_rfl) (fun _ _ _ h => h) (by assumption) (Or.inl ⟨by rfl, ?_⟩) ?_
      rotate_left
      · intro w hSw
        (try dsimp only at hSw)
        go_simp
        try with_reducible rfl
      simp only [List.setIfInBounds_toArray, List.set_cons_zero, List.set_cons_succ]
      refine takeD_o (i := 5) (v := ?_) 25 rfl rfl (by kernel_rfl) (by kernel_rfl) (by kernel_rfl) (fun _ _ _ h => h) (by assumption) (Or.inl ⟨by rfl, ?_⟩) ?_
      rotate_left
      · intro w hSw
        (try dsimp only at hSw)
        go_simp
        try with_reducible rfl
      simp only [List.setIfInBounds_toArray, List.set_cons_zero, List.set_cons_succ]
      refine wpAnyH_ready (rs := [1, 6]) (by kernel_rfl) (by simp) ?_
      refine AllReadyH.cons (by simp only [List.getElem?_toArray, List.getElem?_cons_succ, List.getElem?_cons_zero]; rfl) (fun K hK => ?_) (AllReadyH.cons (by simp only [List.getElem?_toArray, List.getElem?_cons_succ, List.getElem?_cons_zero]; rfl) (fun K hK => ?_) AllReadyH.nil)
      · go_simp
        refine hK.out _ _ ?_ (fun hHeldN => ?_)
        · exact hHeld
        clear hK K hHeld
        have hHeld := hHeldN
        clear hHeldN
        (try simp only [Act.put, List.setIfInBounds_toArray, List.set_cons_zero, List.set_cons_succ])
        refine wpAnyH_ready (rs := [6]) (by kernel_rfl) (by simp) ?_
        refine AllReadyH.cons (by simp only [List.getElem?_toArray, List.getElem?_cons_succ, List.getElem?_cons_zero]; rfl) (fun K hK => ?_) AllReadyH.nil
        go_simp
        go_at_call 56; (with_reducible refine (HCP.out _ hdr).mono ?_); rintro e w4 ⟨v4, rfl, ho4, hb4, hk4⟩
        refine hK.out _ _ ?_ (fun hHeldN => ?_)
        · exact ⟨keepc hb4 hHeld.1, keepc hb4 hHeld.2⟩
        obtain ⟨x4, n4, c4, rfl⟩ := own_slice ho4
        have hdw := below_t HBW.out (below_t HBE.out (below_t hdr hb4))
        have hc4 := keepc hb4 hcd
        have hb5 := bal (Below.refl w4.heap.size w4) (.cells #[.int .i64 ad, .slice x4 n4 c4] 107)
        have hc5 := keepc hb5 hc4
        have HB4 := hid hdw
        have HM5 := hid (((HM.out.step (below_t HBE.out hdr)).step hb4).step hb5)
        have HO5 := hid (ho4.step hb5)
        have HK4 := hid (show ∀ k ∈ blkV (.slice x4 n4 c4), wr.heap.size < k from fun k hk => by have := hk4 k hk; have := hdr.size; have := HWL.out; omega)
        have HNS := hid (news_two w4 (.int .i64 ad) (.slice x4 n4 c4) 107)
        have HB5 := hid (below_t HB4.out hb5)
        have HX5 := hid (keepc hb5 (keepc hb4 hHeld.1))
        have HX6 := hid (keepc hb5 (keepc hb4 hHeld.2))
        have HS5 := hid (show wr.heap.size < w4.heap.size from by have := hb4.size; have := hdr.size; have := HWL.out; omega)
        clear ho4 hk4 hdw hb5
        clear hK K hHeld
        have hHeld := hHeldN
        clear hHeldN
        (try simp only [Act.put, List.setIfInBounds_toArray, List.set_cons_zero, List.set_cons_succ])
        refine takeD_o (i := 7) (v := ?_) 27 rfl rfl (by kernel_rfl) (by kernel_rfl) (by kernel_rfl) (fun _ _ _ h => h) (by assumption) (Or.inl ⟨by rfl, ?_⟩) ?_
        rotate_left
        · intro w hSw
          (try dsimp only at hSw)
          go_simp
          try with_reducible rfl
        simp only [List.setIfInBounds_toArray, List.set_cons_zero, List.set_cons_succ]
        refine wpAnyH_ready (rs := [8]) (by kernel_rfl) (by simp) ?_
        refine AllReadyH.cons (by simp only [List.getElem?_toArray, List.getElem?_cons_succ, List.getElem?_cons_zero]; rfl) (fun K hK => ?_) AllReadyH.nil
        go_simp
        refine hK.out _ _ ?_ (fun hHeldN => ?_)
        · exact ⟨HX5.out, HX6.out⟩
        clear hK K hHeld
        have hHeld := hHeldN
        clear hHeldN
        (try simp only [Act.put, List.setIfInBounds_toArray, List.set_cons_zero, List.set_cons_succ])
        refine wpAnyH_ready (rs := [9]) (by kernel_rfl) (by simp) ?_
        refine AllReadyH.cons (by simp only [List.getElem?_toArray, List.getElem?_cons_succ, List.getElem?_cons_zero]; rfl) (fun K hK => ?_) AllReadyH.nil
        obtain ⟨v', w9, hrun, hown, hgr, -, hk⟩ := run_append_blk (P := Try.prog) (w4.alloc (.cells #[.int .i64 ad, .slice x4 n4 c4] 107)) 67 67 107 i0 _ 2 32 Try.underlying67 hi hz0 hz1 hz2 rfl (by decide) _ fs.length _ HM5.out.row ⟨w4.heap.size, 0, none⟩ 1 1 [.int .i64 ad, .slice x4 n4 c4] rfl HNS.out (one_enC _ _ rfl) (by have := HFL.out; unfold maxLen; omega) (by have := HFL.out; omega)
        refine step_append_run (by rfl) _ _ _ (by rfl) _ _ _ _ (by rfl) (by rfl) hrun ?_
        have hm9 := Moved.grown hgr (fun k hk => mem_blkV.2 hk) hk
        have HX7 := hid (cell_moved hm9 HX5.out (fun q => HNX.out q))
        have HX8 := hid (cell_moved hm9 HX6.out (fun q => HNX.out q))
        have HM9 := hid (EntM.add HM5.out (by have := HB5.out.size; have := HBS.out; simp at this ⊢; have := HS5.out; omega) ⟨⟨ad, tx⟩, .slice x4 n4 c4⟩ HO5.out (fun k hk => by have := HK4.out k hk; have := HBS.out; omega) (fun k hk q => by have := HK4.out k hk; have := HCL.out k q; omega) (fun y hy k hk q => by have := HK4.out k q; have := (HM.out.txt y hy).lt k hk; omega) hown hgr hk)
        have HB9 := hid (HB5.out.grown hgr HB5.out.size (fun k hk => by have := HM.out.bv k (mem_blkV.2 hk); omega))
        obtain ⟨xv, nv, cv, rfl⟩ : ∃ x n c, v' = .slice x n c := by obtain ⟨x, c, e⟩ := row_slice HM9.out.row; exact ⟨x, _, c, e⟩
        have HZ9 := hid ((HY2.out.step (below_t (below_t (below_t HBE.out hdr) hb4) (bal (Below.refl w4.heap.size w4) (.cells #[.int .i64 ad, .slice x4 n4 c4] 107)))).moved hm9 (fun q => by have := HM.out.bv _ q; omega))
        have HZ8 := hid ((HY1.out.step (below_t (below_t (below_t HBE.out hdr) hb4) (bal (Below.refl w4.heap.size w4) (.cells #[.int .i64 ad, .slice x4 n4 c4] 107)))).moved hm9 (fun q => by have := HM.out.bv _ q; omega))
        have k3 := HZ9.out.c3
        have f3 := HZ9.out.fr 3 (by omega)
        have hz9 := HZ9.out.lt
        refine hK.out _ _ ?_ (fun hHeldN => ?_)
        · exact ⟨HX7.out, HX8.out⟩
        clear hrun hown hgr hk hm9
        clear hK K hHeld
        have hHeld := hHeldN
        clear hHeldN
        (try simp only [Act.put, List.setIfInBounds_toArray, List.set_cons_zero, List.set_cons_succ])
        refine takeD_o (i := 10) (v := ?_) 30 rfl rfl (by kernel_rfl) (by kernel_rfl) (by kernel_rfl) (fun _ _ _ h => h) (by assumption) (Or.inl ⟨by rfl, ?_⟩) ?_
        rotate_left
        · intro w hSw
          (try dsimp only at hSw)
          go_simp
          try with_reducible rfl
        simp only [List.setIfInBounds_toArray, List.set_cons_zero, List.set_cons_succ]
        refine wpAnyH_ready (rs := [11]) (by kernel_rfl) (by simp) ?_
        refine AllReadyH.cons (by simp only [List.getElem?_toArray, List.getElem?_cons_succ, List.getElem?_cons_zero]; rfl) (fun K hK => ?_) AllReadyH.nil
        go_simp
        refine hK.out _ _ ?_ (fun hHeldN => ?_)
        · exact ⟨set_b HX7.out (by have := HWB.out; omega), set_b HX8.out (by have := HWB.out; omega)⟩
        clear hK K hHeld
        have hHeld := hHeldN
        clear hHeldN
        (try simp only [Act.put, List.setIfInBounds_toArray, List.set_cons_zero, List.set_cons_succ])
        refine wpAnyH_done (by kernel_rfl) ?_ _
        clear hHeld
        go_wp2
        go_roundw
        case rel =>
          refine ⟨k + 1, .slice xv nv cv, _, by omega, by go_num, HM9.out.moved (Moved.set (S := [w.heap.size + 2]) (by simp) 3 _) (fun j hj => by rw [List.mem_singleton.1 hj]; omega), ?_, HB9.out.setCell (by show w.heap.size ≤ w.heap.size + 2; omega) _, HZ8.out.moved (Moved.set (S := [w.heap.size + 2]) (by simp) 3 _) (by simp), HZ9.out.set3 _⟩
          show List.map _ _ = _
          rw [List.map_append, HF.out, HTK.out]
          rfl
        case measure => simp [intOf]; omega
      · go_simp
        go_at_call 56; (with_reducible refine (HCP.out _ hdr).mono ?_); rintro e w4 ⟨v4, rfl, ho4, hb4, hk4⟩
        refine hK.out _ _ ?_ (fun hHeldN => ?_)
        · exact ⟨keepc hb4 hHeld.1, keepc hb4 hHeld.2⟩
        obtain ⟨x4, n4, c4, rfl⟩ := own_slice ho4
        have hdw := below_t HBW.out (below_t HBE.out (below_t hdr hb4))
        have hc4 := keepc hb4 hcd
        have hb5 := bal (Below.refl w4.heap.size w4) (.cells #[.int .i64 ad, .slice x4 n4 c4] 107)
        have hc5 := keepc hb5 hc4
        have HB4 := hid hdw
        have HM5 := hid (((HM.out.step (below_t HBE.out hdr)).step hb4).step hb5)
        have HO5 := hid (ho4.step hb5)
        have HK4 := hid (show ∀ k ∈ blkV (.slice x4 n4 c4), wr.heap.size < k from fun k hk => by have := hk4 k hk; have := hdr.size; have := HWL.out; omega)
        have HNS := hid (news_two w4 (.int .i64 ad) (.slice x4 n4 c4) 107)
        have HB5 := hid (below_t HB4.out hb5)
        have HX5 := hid (keepc hb5 (keepc hb4 hHeld.1))
        have HX6 := hid (keepc hb5 (keepc hb4 hHeld.2))
        have HS5 := hid (show wr.heap.size < w4.heap.size from by have := hb4.size; have := hdr.size; have := HWL.out; omega)
        clear ho4 hk4 hdw hb5
        clear hK K hHeld
        have hHeld := hHeldN
        clear hHeldN
        (try simp only [Act.put, List.setIfInBounds_toArray, List.set_cons_zero, List.set_cons_succ])
        refine takeD_o (i := 7) (v := ?_) 27 rfl rfl (by kernel_rfl) (by kernel_rfl) (by kernel_rfl) (fun _ _ _ h => h) (by assumption) (Or.inl ⟨by rfl, ?_⟩) ?_
        rotate_left
        · intro w hSw
          (try dsimp only at hSw)
          go_simp
          try with_reducible rfl
        simp only [List.setIfInBounds_toArray, List.set_cons_zero, List.set_cons_succ]
        refine wpAnyH_ready (rs := [1, 8]) (by kernel_rfl) (by simp) ?_
        refine AllReadyH.cons (by simp only [List.getElem?_toArray, List.getElem?_cons_succ, List.getElem?_cons_zero]; rfl) (fun K hK => ?_) (AllReadyH.cons (by simp only [List.getElem?_toArray, List.getElem?_cons_succ, List.getElem?_cons_zero]; rfl) (fun K hK => ?_) AllReadyH.nil)
        · go_simp
          refine hK.out _ _ ?_ (fun hHeldN => ?_)
          · exact hHeld
          clear hK K hHeld
          have hHeld := hHeldN
          clear hHeldN
          (try simp only [Act.put, List.setIfInBounds_toArray, List.set_cons_zero, List.set_cons_succ])
          refine wpAnyH_ready (rs := [8]) (by kernel_rfl) (by simp) ?_
          refine AllReadyH.cons (by simp only [List.getElem?_toArray, List.getElem?_cons_succ, List.getElem?_cons_zero]; rfl) (fun K hK => ?_) AllReadyH.nil
          go_simp
          refine hK.out _ _ ?_ (fun hHeldN => ?_)
          · exact ⟨HX5.out, HX6.out⟩
          clear hK K hHeld
          have hHeld := hHeldN
          clear hHeldN
          (try simp only [Act.put, List.setIfInBounds_toArray, List.set_cons_zero, List.set_cons_succ])
          refine wpAnyH_ready (rs := [9]) (by kernel_rfl) (by simp) ?_
          refine AllReadyH.cons (by simp only [List.getElem?_toArray, List.getElem?_cons_succ, List.getElem?_cons_zero]; rfl) (fun K hK => ?_) AllReadyH.nil
          obtain ⟨v', w9, hrun, hown, hgr, -, hk⟩ := run_append_blk (P := Try.prog) (w4.alloc (.cells #[.int .i64 ad, .slice x4 n4 c4] 107)) 67 67 107 i0 _ 2 32 Try.underlying67 hi hz0 hz1 hz2 rfl (by decide) _ fs.length _ HM5.out.row ⟨w4.heap.size, 0, none⟩ 1 1 [.int .i64 ad, .slice x4 n4 c4] rfl HNS.out (one_enC _ _ rfl) (by have := HFL.out; unfold maxLen; omega) (by have := HFL.out; omega)
          refine step_append_run (by rfl) _ _ _ (by rfl) _ _ _ _ (by rfl) (by rfl) hrun ?_
          have hm9 := Moved.grown hgr (fun k hk => mem_blkV.2 hk) hk
          have HX7 := hid (cell_moved hm9 HX5.out (fun q => HNX.out q))
          have HX8 := hid (cell_moved hm9 HX6.out (fun q => HNX.out q))
          have HM9 := hid (EntM.add HM5.out (by have := HB5.out.size; have := HBS.out; simp at this ⊢; have := HS5.out; omega) ⟨⟨ad, tx⟩, .slice x4 n4 c4⟩ HO5.out (fun k hk => by have := HK4.out k hk; have := HBS.out; omega) (fun k hk q => by have := HK4.out k hk; have := HCL.out k q; omega) (fun y hy k hk q => by have := HK4.out k q; have := (HM.out.txt y hy).lt k hk; omega) hown hgr hk)
          have HB9 := hid (HB5.out.grown hgr HB5.out.size (fun k hk => by have := HM.out.bv k (mem_blkV.2 hk); omega))
          obtain ⟨xv, nv, cv, rfl⟩ : ∃ x n c, v' = .slice x n c := by obtain ⟨x, c, e⟩ := row_slice HM9.out.row; exact ⟨x, _, c, e⟩
          have HZ9 := hid ((HY2.out.step (below_t (below_t (below_t HBE.out hdr) hb4) (bal (Below.refl w4.heap.size w4) (.cells #[.int .i64 ad, .slice x4 n4 c4] 107)))).moved hm9 (fun q => by have := HM.out.bv _ q; omega))
          have HZ8 := hid ((HY1.out.step (below_t (below_t (below_t HBE.out hdr) hb4) (bal (Below.refl w4.heap.size w4) (.cells #[.int .i64 ad, .slice x4 n4 c4] 107)))).moved hm9 (fun q => by have := HM.out.bv _ q; omega))
          have k3 := HZ9.out.c3
          have f3 := HZ9.out.fr 3 (by omega)
          have hz9 := HZ9.out.lt
          refine hK.out _ _ ?_ (fun hHeldN => ?_)
          · exact ⟨HX7.out, HX8.out⟩
          clear hrun hown hgr hk hm9
          clear hK K hHeld
          have hHeld := hHeldN
          clear hHeldN
          (try simp only [Act.put, List.setIfInBounds_toArray, List.set_cons_zero, List.set_cons_succ])
          refine takeD_o (i := 10) (v := ?_) 30 rfl rfl (by kernel_rfl) (by kernel_rfl) (by kernel_rfl) (fun _ _ _ h => h) (by assumption) (Or.inl ⟨by rfl, ?_⟩) ?_
          rotate_left
          · intro w hSw
            (try dsimp only at hSw)
            go_simp
            try with_reducible rfl
          simp only [List.setIfInBounds_toArray, List.set_cons_zero, List.set_cons_succ]
          refine wpAnyH_ready (rs := [11]) (by kernel_rfl) (by simp) ?_
          refine AllReadyH.cons (by simp only [List.getElem?_toArray, List.getElem?_cons_succ, List.getElem?_cons_zero]; rfl) (fun K hK => ?_) AllReadyH.nil
          go_simp
          refine hK.out _ _ ?_ (fun hHeldN => ?_)
          · exact ⟨set_b HX7.out (by have := HWB.out; omega), set_b HX8.out (by have := HWB.out; omega)⟩
          clear hK K hHeld
          have hHeld := hHeldN
          clear hHeldN
          (try simp only [Act.put, List.setIfInBounds_toArray, List.set_cons_zero, List.set_cons_succ])
          refine wpAnyH_done (by kernel_rfl) ?_ _
          clear hHeld
          go_wp2
          go_roundw
          case rel =>
            refine ⟨k + 1, .slice xv nv cv, _, by omega, by go_num, HM9.out.moved (Moved.set (S := [w.heap.size + 2]) (by simp) 3 _) (fun j hj => by rw [List.mem_singleton.1 hj]; omega), ?_, HB9.out.setCell (by show w.heap.size ≤ w.heap.size + 2; omega) _, HZ8.out.moved (Moved.set (S := [w.heap.size + 2]) (by simp) 3 _) (by simp), HZ9.out.set3 _⟩
            show List.map _ _ = _
            rw [List.map_append, HF.out, HTK.out]
            rfl
          case measure => simp [intOf]; omega
        · go_simp
          refine hK.out _ _ ?_ (fun hHeldN => ?_)
          · exact ⟨HX5.out, HX6.out⟩
          clear hK K hHeld
          have hHeld := hHeldN
          clear hHeldN
          (try simp only [Act.put, List.setIfInBounds_toArray, List.set_cons_zero, List.set_cons_succ])
          refine wpAnyH_ready (rs := [1]) (by kernel_rfl) (by simp) ?_
          refine AllReadyH.cons (by simp only [List.getElem?_toArray, List.getElem?_cons_succ, List.getElem?_cons_zero]; rfl) (fun K hK => ?_) AllReadyH.nil
          go_simp
          refine hK.out _ _ ?_ (fun hHeldN => ?_)
          · exact hHeld
          clear hK K hHeld
          have hHeld := hHeldN
          clear hHeldN
          (try simp only [Act.put, List.setIfInBounds_toArray, List.set_cons_zero, List.set_cons_succ])
          refine wpAnyH_ready (rs := [9]) (by kernel_rfl) (by simp) ?_
          refine AllReadyH.cons (by simp only [List.getElem?_toArray, List.getElem?_cons_succ, List.getElem?_cons_zero]; rfl) (fun K hK => ?_) AllReadyH.nil
          obtain ⟨v', w9, hrun, hown, hgr, -, hk⟩ := run_append_blk (P := Try.prog) (w4.alloc (.cells #[.int .i64 ad, .slice x4 n4 c4] 107)) 67 67 107 i0 _ 2 32 Try.underlying67 hi hz0 hz1 hz2 rfl (by decide) _ fs.length _ HM5.out.row ⟨w4.heap.size, 0, none⟩ 1 1 [.int .i64 ad, .slice x4 n4 c4] rfl HNS.out (one_enC _ _ rfl) (by have := HFL.out; unfold maxLen; omega) (by have := HFL.out; omega)
          refine step_append_run (by rfl) _ _ _ (by rfl) _ _ _ _ (by rfl) (by rfl) hrun ?_
          have hm9 := Moved.grown hgr (fun k hk => mem_blkV.2 hk) hk
          have HX7 := hid (cell_moved hm9 HX5.out (fun q => HNX.out q))
          have HX8 := hid (cell_moved hm9 HX6.out (fun q => HNX.out q))
          have HM9 := hid (EntM.add HM5.out (by have := HB5.out.size; have := HBS.out; simp at this ⊢; have := HS5.out; omega) ⟨⟨ad, tx⟩, .slice x4 n4 c4⟩ HO5.out (fun k hk => by have := HK4.out k hk; have := HBS.out; omega) (fun k hk q => by have := HK4.out k hk; have := HCL.out k q; omega) (fun y hy k hk q => by have := HK4.out k q; have := (HM.out.txt y hy).lt k hk; omega) hown hgr hk)
          have HB9 := hid (HB5.out.grown hgr HB5.out.size (fun k hk => by have := HM.out.bv k (mem_blkV.2 hk); omega))
          obtain ⟨xv, nv, cv, rfl⟩ : ∃ x n c, v' = .slice x n c := by obtain ⟨x, c, e⟩ := row_slice HM9.out.row; exact ⟨x, _, c, e⟩
          have HZ9 := hid ((HY2.out.step (below_t (below_t (below_t HBE.out hdr) hb4) (bal (Below.refl w4.heap.size w4) (.cells #[.int .i64 ad, .slice x4 n4 c4] 107)))).moved hm9 (fun q => by have := HM.out.bv _ q; omega))
          have HZ8 := hid ((HY1.out.step (below_t (below_t (below_t HBE.out hdr) hb4) (bal (Below.refl w4.heap.size w4) (.cells #[.int .i64 ad, .slice x4 n4 c4] 107)))).moved hm9 (fun q => by have := HM.out.bv _ q; omega))
          have k3 := HZ9.out.c3
          have f3 := HZ9.out.fr 3 (by omega)
          have hz9 := HZ9.out.lt
          refine hK.out _ _ ?_ (fun hHeldN => ?_)
          · exact ⟨HX7.out, HX8.out⟩
          clear hrun hown hgr hk hm9
          clear hK K hHeld
          have hHeld := hHeldN
          clear hHeldN
          (try simp only [Act.put, List.setIfInBounds_toArray, List.set_cons_zero, List.set_cons_succ])
          refine takeD_o (i := 10) (v := ?_) 30 rfl rfl (by kernel_rfl) (by kernel_rfl) (by kernel_rfl) (fun _ _ _ h => h) (by assumption) (Or.inl ⟨by rfl, ?_⟩) ?_
          rotate_left
          · intro w hSw
            (try dsimp only at hSw)
            go_simp
            try with_reducible rfl
          simp only [List.setIfInBounds_toArray, List.set_cons_zero, List.set_cons_succ]
          refine wpAnyH_ready (rs := [11]) (by kernel_rfl) (by simp) ?_
          refine AllReadyH.cons (by simp only [List.getElem?_toArray, List.getElem?_cons_succ, List.getElem?_cons_zero]; rfl) (fun K hK => ?_) AllReadyH.nil
          go_simp
          refine hK.out _ _ ?_ (fun hHeldN => ?_)
          · exact ⟨set_b HX7.out (by have := HWB.out; omega), set_b HX8.out (by have := HWB.out; omega)⟩
          clear hK K hHeld
          have hHeld := hHeldN
          clear hHeldN
          (try simp only [Act.put, List.setIfInBounds_toArray, List.set_cons_zero, List.set_cons_succ])
          refine wpAnyH_done (by kernel_rfl) ?_ _
          clear hHeld
          go_wp2
          go_roundw
          case rel =>
            refine ⟨k + 1, .slice xv nv cv, _, by omega, by go_num, HM9.out.moved (Moved.set (S := [w.heap.size + 2]) (by simp) 3 _) (fun j hj => by rw [List.mem_singleton.1 hj]; omega), ?_, HB9.out.setCell (by show w.heap.size ≤ w.heap.size + 2; omega) _, HZ8.out.moved (Moved.set (S := [w.heap.size + 2]) (by simp) 3 _) (by simp), HZ9.out.set3 _⟩
            show List.map _ _ = _
            rw [List.map_append, HF.out, HTK.out]
            rfl
          case measure => simp [intOf]; omega
    · obtain rfl : k = n := by omega
      have X0 := HY1.out
      have X2 := HY2.out
      have hl0 := X2.lt
      have HP := hid (X0.put (.int .u8 ai) (.bool sh) (.int .i64 cu) (.slice xc fs.length cc))
      have m1 := pt4_moved wr (w.heap.size + 1) (.int .u8 ai) (.bool sh) (.int .i64 cu) (.slice xc fs.length cc)
      have HFF := hid (show OwrD ai sh cu (es.map EnV.d) w (.returned (.agg #[.int .u8 ai, .bool sh, .int .i64 cu, .slice xc fs.length cc])) (pt4 wr (w.heap.size + 1) (.int .u8 ai) (.bool sh) (.int .i64 cu) (.slice xc fs.length cc)) from ⟨_, fs, rfl, (HM.out.moved m1 (fun j hj => by rw [List.mem_singleton.1 hj]; omega)).weak (by omega), by rw [HF.out, HEND.out], HBW.out.trans (m1.toBelow HBW.out.size (fun j hj => by simp at hj; omega))⟩)
      obtain ⟨c0, c1, c2, c3, fc⟩ := X0
      obtain ⟨d0, d1, d2, d3, -⟩ := X2
      have f0 := fc 0 (by omega)
      have f1 := fc 1 (by omega)
      have f2 := fc 2 (by omega)
      have f3 := fc 3 (by omega)
      clear fc m1
      go_wp2
      revert HP HFF
      generalize hW : pt4 wr (w.heap.size + 1) (.int .u8 ai) (.bool sh) (.int .i64 cu) (.slice xc fs.length cc) = Wf
      intro HP HFF
      obtain ⟨k0, k1, k2, k3, -⟩ := HP.out
      unfold pt4 at hW
      rw [hW]
      clear hW
      exact bodyPost_ret (v := .agg #[.int .u8 ai, .bool sh, .int .i64 cu, .slice xc fs.length cc]) (by simp [results, Try.results28, go_sem, k0, k1, k2, k3]) rfl HFF.out
end Go.Proofs.Ytlhaefgchmakfaa
