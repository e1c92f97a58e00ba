/-
  SfieldRecords: a record of acts asks for them again.
-/
import Derived.Test.YtdpgmepblmlaaaaDoorSh
import Derived.Deep.RegionHeld3
namespace Go.Proofs.YtdpgmepblmlaaaaDoor
open Go.RowKit Go.Lib Go.Deep

theorem fewF_few (a : AcD) : fewF (fewF a) = fewF a := by
  unfold fewF
  simp [List.take_take]
theorem makeF_small {a : AcD} (h1 : a.codes.length ≤ 1000) (h2 : a.rcd.length ≤ 1000) : (makeF a).2.data.length ≤ 1003 := by
  have hf : (fieldF a).data.length ≤ 1003 := by
    unfold fieldF
    split
    · show 2 ≤ 1003; omega
    split
    · show (([255, 3, a.req] : List Int) ++ a.codes).length ≤ 1003
      rw [List.length_append]; show 3 + a.codes.length ≤ 1003; omega
    split
    · show 2 ≤ 1003; omega
    split
    · show 1 ≤ 1003; omega
    split
    · show 2 ≤ 1003; omega
    split
    · show (([0] : List Int) ++ a.rcd).length ≤ 1003
      rw [List.length_append]; show 1 + a.rcd.length ≤ 1003; omega
    · show 1 ≤ 1003; omega
  have e : makeF a = if a.kind < 1 ∨ 9 < a.kind then (1, sfZ) else if (actF (fieldF a)).1 ≠ 0 ∨ (actF (fieldF a)).2 ≠ plainF a then (4, sfZ) else (0, fieldF a) := rfl
  rw [e]
  split
  · exact Nat.zero_le _
  split
  · exact Nat.zero_le _
  · exact hf
theorem byte_few (a : AcD) : (byteF (makeF (fewF a)).2).1 = 0 := by
  have h := makeF_small (a := fewF a) (by show (a.codes.take 20).length ≤ 1000; rw [List.length_take]; omega) (by show (a.rcd.take 300).length ≤ 1000; rw [List.length_take]; omega)
  rw [byteF_ok (by omega)]
theorem RowA.other {t t' : TypeId} {B B' sz n : Nat} {w w' : World} {v v' : Value} {xs : List AcV} {cs : List Value} (ht : t ≠ t') (h5 : (5 : TypeId) ≠ t') (h : RowA t B w v xs) (hr : w.ownsRow B' t' sz v' n cs) (hg : w.grownBy w' v'.ownBlock) : RowA t B w' v xs := by
  have hm : Moved w w' (blkV v') [] := Moved.grown hg (fun k hk => mem_blkV.2 hk) (fun k hk => by cases hk)
  exact ⟨own_moved h.row hm (own_apart h.row hr ht), fun x hx => ⟨(h.dat x hx).1.moved hm (own_apart (h.dat x hx).1.2 hr h5), (h.dat x hx).2.moved hm (own_apart (h.dat x hx).2.2 hr h5)⟩, h.fr, h.fd⟩
theorem news_at (W : World) (x0 x1 x2 x3 x4 x5 x6 : Value) (t : TypeId) (b : Nat) (hb : b = W.heap.size) : ∀ j u, [x0, x1, x2, x3, x4, x5, x6][j]? = some u → (W.alloc (.cells #[x0, x1, x2, x3, x4, x5, x6] t)).cell? ((⟨b, 0, none⟩ : Addr).add j) = some u := by
  subst hb
  exact news_seven W x0 x1 x2 x3 x4 x5 x6 t
theorem news_step {w w' : World} {l : List Value} {p : Addr} (h : ∀ j u, l[j]? = some u → w.cell? (p.add j) = some u) (hb : Below w.heap.size w w') : ∀ j u, l[j]? = some u → w'.cell? (p.add j) = some u := fun j u hj => keepc hb (h j u hj)
theorem news_moved {w w' : World} {l : List Value} {b o : Nat} {S S' : List Nat} (h : ∀ j u, l[j]? = some u → w.cell? ((⟨b, o, none⟩ : Addr).add j) = some u) (m : Moved w w' S S') (hb : b ∉ S) : ∀ j u, l[j]? = some u → w'.cell? ((⟨b, o, none⟩ : Addr).add j) = some u := fun j u hj => by
  have q := h j u hj
  rw [addr_add] at q ⊢
  exact cell_moved m q hb
/-- Seven cells of a box. -/
abbrev C7 (w : World) (b : Nat) (v0 v1 v2 v3 v4 v5 v6 : Value) : Prop := w.cell? ⟨b, 0, none⟩ = some v0 ∧ w.cell? ⟨b, 1, none⟩ = some v1 ∧ w.cell? ⟨b, 2, none⟩ = some v2 ∧ w.cell? ⟨b, 3, none⟩ = some v3 ∧ w.cell? ⟨b, 4, none⟩ = some v4 ∧ w.cell? ⟨b, 5, none⟩ = some v5 ∧ w.cell? ⟨b, 6, none⟩ = some v6
theorem c7_step {w w' : World} {b : Nat} {v0 v1 v2 v3 v4 v5 v6 : Value} (h : C7 w b v0 v1 v2 v3 v4 v5 v6) (hb : Below w.heap.size w w') : C7 w' b v0 v1 v2 v3 v4 v5 v6 := by
  obtain ⟨a0, a1, a2, a3, a4, a5, a6⟩ := h
  exact ⟨keepc hb a0, keepc hb a1, keepc hb a2, keepc hb a3, keepc hb a4, keepc hb a5, keepc hb a6⟩
theorem c7_moved {w w' : World} {b : Nat} {v0 v1 v2 v3 v4 v5 v6 : Value} {S S' : List Nat} (h : C7 w b v0 v1 v2 v3 v4 v5 v6) (m : Moved w w' S S') (hb : b ∉ S) : C7 w' b v0 v1 v2 v3 v4 v5 v6 := by
  obtain ⟨a0, a1, a2, a3, a4, a5, a6⟩ := h
  exact ⟨cell_moved m a0 hb, cell_moved m a1 hb, cell_moved m a2 hb, cell_moved m a3 hb, cell_moved m a4 hb, cell_moved m a5 hb, cell_moved m a6 hb⟩
abbrev D14 (w0 w : World) (g g' i : Nat) (v0 v1 v2 v3 v4 v5 v6 u0 u1 u2 u3 u4 u5 u6 : Value) : Prop := w.cell? ⟨g, i, none⟩ = some v0 ∧ w.cell? ⟨g, i + 1, none⟩ = some v1 ∧ w.cell? ⟨g, i + 2, none⟩ = some v2 ∧ w.cell? ⟨g, i + 3, none⟩ = some v3 ∧ w.cell? ⟨g, i + 4, none⟩ = some v4 ∧ w.cell? ⟨g, i + 5, none⟩ = some v5 ∧ w.cell? ⟨g, i + 6, none⟩ = some v6 ∧ w.cell? ⟨g', i, none⟩ = some u0 ∧ w.cell? ⟨g', i + 1, none⟩ = some u1 ∧ w.cell? ⟨g', i + 2, none⟩ = some u2 ∧ w.cell? ⟨g', i + 3, none⟩ = some u3 ∧ w.cell? ⟨g', i + 4, none⟩ = some u4 ∧ w.cell? ⟨g', i + 5, none⟩ = some u5 ∧ w.cell? ⟨g', i + 6, none⟩ = some u6 ∧ Below w0.heap.size w0 w
theorem d14_step {w0 w w' : World} {g g' i : Nat} {v0 v1 v2 v3 v4 v5 v6 u0 u1 u2 u3 u4 u5 u6 : Value} (h : w.cell? ⟨g, i, none⟩ = some v0 ∧ w.cell? ⟨g, i + 1, none⟩ = some v1 ∧ w.cell? ⟨g, i + 2, none⟩ = some v2 ∧ w.cell? ⟨g, i + 3, none⟩ = some v3 ∧ w.cell? ⟨g, i + 4, none⟩ = some v4 ∧ w.cell? ⟨g, i + 5, none⟩ = some v5 ∧ w.cell? ⟨g, i + 6, none⟩ = some v6 ∧ w.cell? ⟨g', i, none⟩ = some u0 ∧ w.cell? ⟨g', i + 1, none⟩ = some u1 ∧ w.cell? ⟨g', i + 2, none⟩ = some u2 ∧ w.cell? ⟨g', i + 3, none⟩ = some u3 ∧ w.cell? ⟨g', i + 4, none⟩ = some u4 ∧ w.cell? ⟨g', i + 5, none⟩ = some u5 ∧ w.cell? ⟨g', i + 6, none⟩ = some u6 ∧ Below w0.heap.size w0 w) (hb : Below w.heap.size w w') : D14 w0 w' g g' i v0 v1 v2 v3 v4 v5 v6 u0 u1 u2 u3 u4 u5 u6 := by
  obtain ⟨a0, a1, a2, a3, a4, a5, a6, b0, b1, b2, b3, b4, b5, b6, hB⟩ := h
  exact ⟨keepc hb a0, keepc hb a1, keepc hb a2, keepc hb a3, keepc hb a4, keepc hb a5, keepc hb a6, keepc hb b0, keepc hb b1, keepc hb b2, keepc hb b3, keepc hb b4, keepc hb b5, keepc hb b6, below_t hB hb⟩
set_option maxRecDepth 100000 in
set_option maxHeartbeats 4000000 in
theorem sfieldRecords_walk (v : Value) (es : List AcV) (w : World) (h : ActArg w v es) (hC : Cods w) : Calls Tryd.prog 5 #[v] w fun e w' => e = .returned (.bool true) ∧ Below w.heap.size w w' := by
  obtain ⟨i1, hi1, hx0, hx1, hx2⟩ := info_parts infoAr
  obtain ⟨i2, hi2, hy0, hy1, hy2⟩ := info_parts infoAc
  have HAW := hid (awake21 w hC)
  obtain ⟨⟨x, cap, rfl, hat⟩, hrd, hmx⟩ := h
  have HAT := hid hat
  have HSL := hid (fun i (hi : i < es.length) => (show (∃ a n c, es[i].cv = .slice a n c) ∧ ∃ a n c, es[i].rv = .slice a n c from ⟨by obtain ⟨a, c, e⟩ := reads_sl (hrd _ (List.getElem_mem hi)).1.1; exact ⟨a, _, c, e⟩, by obtain ⟨a, c, e⟩ := reads_sl (hrd _ (List.getElem_mem hi)).1.2; exact ⟨a, _, c, e⟩⟩))
  have HFW := hid (fun i (hi : i < es.length) W (hW : Below w.heap.size w W) => few_any es[i].d es[i].cv es[i].rv W (reads_below (hrd _ (List.getElem_mem hi)).1.1 hW) (reads_below (hrd _ (List.getElem_mem hi)).1.2 hW))
  have HOK := hid (fun i (hi : i < es.length) => (show ActOK (fewF es[i].d) ∧ (byteF (makeF (fewF es[i].d)).2).1 = 0 from ⟨⟨⟨by show (es[i].d.codes.take 20).length ≤ _; rw [List.length_take]; omega, by show (es[i].d.rcd.take 300).length ≤ _; rw [List.length_take]; omega⟩, (hrd _ (List.getElem_mem hi)).2.1, (hrd _ (List.getElem_mem hi)).2.2⟩, byte_few _⟩))
  have HCO := hid (fun W (hW : Below w.heap.size w W) => hC.go hW)
  obtain ⟨N, hN⟩ : ∃ N, es.length = N := ⟨_, rfl⟩
  have HN := hid hN
  rw [hN] at hmx ⊢
  clear hC hat hrd hN
  go_enter Tryd.func5, Tryd.ntmps5
  go_wp2_with fail
  with_reducible refine HAW.out.mono ?_
  rintro e w1 ⟨rfl, hb1⟩
  have HB1 := hid hb1
  clear hb1
  go_wp2_with fail
  go_loopw [3, 4, 18] (fun m l i wr => ∃ (k : Nat) (ys zs : List AcV), k ≤ N ∧ i = .int .i64 k ∧ Hid (RowA 38 w1.heap.size wr m ys) ∧ Hid (RowA 41 w1.heap.size wr l zs) ∧ Hid (ys.map AcV.d = zs.map AcV.d ∧ zs.length = min k 6 ∧ ∀ y ∈ zs, ActOK y.d ∧ (byteF (makeF y.d).2).1 = 0) ∧ Hid (Below w1.heap.size w1 wr)) (fun _ _ i _ => N - (intOf i).toNat)
  case atStart => exact ⟨0, [], [], Nat.zero_le _, rfl, hid (RowA.nil _ _ _), hid (RowA.nil _ _ _), hid ⟨rfl, rfl, fun _ h => (by cases h)⟩, hid (Below.refl _ _)⟩
  case round =>
    obtain ⟨k, ys, zs, hk, rfl, HM, HQ, HX, HB⟩ := hrel
    obtain ⟨xm, cm, rfl⟩ := row_any HM.out.row
    obtain ⟨xq, cq, rfl⟩ := row_any HQ.out.row
    by_cases hlt : k < N
    · have hki : (k : Int) < N := by omega
      have hkx : k < es.length := by rw [HN.out]; exact hlt
      have hbw := below_t HB1.out HB.out
      obtain ⟨g, off, rfl, a0, a1, a2, a3, a4, a5, a6⟩ := HAT.out k hkx
      obtain ⟨⟨xc, nc, cc, q1⟩, ⟨xr, nr, cr, q2⟩⟩ := HSL.out k hkx
      have HF := hid (HFW.out k hkx)
      have hok := HOK.out k hkx
      rw [q1, q2] at HF
      rw [q1] at a5
      rw [q2] at a6
      clear q1 q2
      generalize es[k].d = d at a0 a1 a2 a3 a4 HF hok
      obtain ⟨k2, cd, md, al, rq, cs, rs⟩ := d
      dsimp only at a0 a1 a2 a3 a4
      dsimp only [acV] at HF
      have a0 := keepc hbw a0
      have a1 := keepc hbw a1
      have a2 := keepc hbw a2
      have a3 := keepc hbw a3
      have a4 := keepc hbw a4
      have a5 := keepc hbw a5
      have a6 := keepc hbw a6
      have HOKK := hid hok
      have hbx : Below wr.heap.size wr (wr.alloc (.cells #[.int .i64 k2, .int .i64 cd, .int .i64 md, .bool al, .int .u8 rq, .slice xc nc cc, .slice xr nr cr] 41)) := bal (Below.refl _ _) _
      have HBX := hid hbx
      have HF0 := hid (HF.out _ (below_t hbw hbx))
      clear hbw hok
      by_cases h6 : k < 6
      · have h6i : (k : Int) < 6 := by omega
        have HXN := hid (Box7.new (v0 := .int .i64 k2) (v1 := .int .i64 cd) (v2 := .int .i64 md) (v3 := .bool al) (v4 := .int .u8 rq) (v5 := .slice xc nc cc) (v6 := .slice xr nr cr) wr 41)
        go_wp2_with fail
        with_reducible refine HF0.out.mono ?_
        rintro e V1 ⟨cw, rw', rfl, ho1, ho2, hb2, hk1, hk2⟩
        dsimp only [acV, fewF] at ho1 ho2 ⊢
        obtain ⟨yc, mc, dc, rfl⟩ := own_slice ho1
        obtain ⟨yr, mr, dr, rfl⟩ := own_slice ho2
        have hbw1 := below_t hbx hb2
        have HXV := hid (HXN.out.step hb2)
        have hsz1 : wr.heap.size < V1.heap.size := Nat.lt_of_lt_of_le (by simp) hb2.size
        have hOP : Opn7 V1 wr.heap.size := ⟨_, _, _, _, _, _, _, HXV.out⟩
        have hfr1 : ∀ b ∈ blkV (.slice yc mc dc), wr.heap.size < b := fun b hb => Nat.lt_of_lt_of_le (by simp) (hk1 b hb)
        have hfr2 : ∀ b ∈ blkV (.slice yr mr dr), wr.heap.size < b := fun b hb => Nat.lt_of_lt_of_le (by simp) (hk2 b hb)
        obtain ⟨V2, hV2⟩ : ∃ V2, put7 V1 wr.heap.size (.int .i64 k2) (.int .i64 cd) (.int .i64 md) (.bool al) (.int .u8 rq) (.slice yc mc dc) (.slice yr mr dr) = V2 := ⟨_, rfl⟩
        have hbw2 : Below wr.heap.size wr V2 := by rw [← hV2]; exact put7_below hbw1 (Nat.le_refl _) _ _ _ _ _ _ _
        have HBX7 := hid (show Box7 V2 wr.heap.size (.int .i64 k2) (.int .i64 cd) (.int .i64 md) (.bool al) (.int .u8 rq) (.slice yc mc dc) (.slice yr mr dr) by rw [← hV2]; exact hOP.put _ _ _ _ _ _ _)
        have HZ7 := hid (show C7 V2 wr.heap.size (.int .i64 k2) (.int .i64 cd) (.int .i64 md) (.bool al) (.int .u8 rq) (.slice yc mc dc) (.slice yr mr dr) from ⟨HBX7.out.c0, HBX7.out.c1, HBX7.out.c2, HBX7.out.c3, HBX7.out.c4, HBX7.out.c5, HBX7.out.c6⟩)
        have HT1 := hid (show OwnB V2 (.slice yc mc dc) (cs.take 20) by rw [← hV2]; exact put7_own ho1 hfr1 _ _ _ _ _ _ _)
        have HT2 := hid (show OwnB V2 (.slice yr mr dr) (rs.take 300) by rw [← hV2]; exact put7_own ho2 hfr2 _ _ _ _ _ _ _)
        have HTB1 := hid (show ∀ b ∈ blkV (.slice yc mc dc), w1.heap.size ≤ b from fun b hb => by have := hfr1 b hb; have := HB.out.size; omega)
        have HTB2 := hid (show ∀ b ∈ blkV (.slice yr mr dr), w1.heap.size ≤ b from fun b hb => by have := hfr2 b hb; have := HB.out.size; omega)
        have HLM := hid (own_lt HM.out.row)
        have HLQ := hid (own_lt HQ.out.row)
        have HYL := hid (show ys.length ≤ 6 by have h1 := congrArg List.length HX.out.1; rw [List.length_map, List.length_map] at h1; have := HX.out.2.1; omega)
        have HZL := hid (show zs.length ≤ 6 by have := HX.out.2.1; omega)
        have HW2 := hid (show wr.heap.size < V2.heap.size from Nat.lt_of_lt_of_le hsz1 (by rw [← hV2]; simp [put7, World.setCell]))
        have HBB0 := hid HB.out.size
        have HM0 := HM
        have HQ0 := HQ
        replace HM := hid (HM.out.step (below_t hbw2 (Below.refl V2.heap.size V2).drew))
        replace HQ := hid (HQ.out.step (below_t hbw2 (Below.refl V2.heap.size V2).drew))
        replace HT1 := hid (HT1.out.step (Below.refl V2.heap.size V2).drew)
        replace HT2 := hid (HT2.out.step (Below.refl V2.heap.size V2).drew)
        have HBB := hid (below_t HB.out (below_t hbw2 (Below.refl V2.heap.size V2).drew))
        have HSZ := hid (show V2.heap.size ≤ V2.drew.heap.size from Nat.le_refl _)
        obtain ⟨z0, z1, z2, z3, z4, z5, z6, zf⟩ := HXV.out
        have f0 := zf 0 (by omega)
        have f1 := zf 1 (by omega)
        have f2 := zf 2 (by omega)
        have f3 := zf 3 (by omega)
        have f4 := zf 4 (by omega)
        have f5 := zf 5 (by omega)
        have f6 := zf 6 (by omega)
        clear zf HXV HXN hOP hbw1 hbw2 hb2 hbx ho1 ho2 hk1 hk2 hfr1 hfr2 HBX7 HM0 HQ0 HF HF0 HBX a0 a1 a2 a3 a4 a5 a6
        unfold put7 at hV2
        go_upto_region 10 with fail
        (try rw [hV2])
        clear hV2 z0 z1 z2 z3 z4 z5 z6 f0 f1 f2 f3 f4 f5 f6 hsz1
        refine wp_region_held_drew (S := fun V => V.cell? ⟨wr.heap.size, 0, none⟩ = some (.int .i64 k2) ∧ V.cell? ⟨wr.heap.size, 1, none⟩ = some (.int .i64 cd) ∧ V.cell? ⟨wr.heap.size, 2, none⟩ = some (.int .i64 md) ∧ V.cell? ⟨wr.heap.size, 3, none⟩ = some (.bool al) ∧ V.cell? ⟨wr.heap.size, 4, none⟩ = some (.int .u8 rq) ∧ V.cell? ⟨wr.heap.size, 5, none⟩ = some (.slice yc mc dc) ∧ V.cell? ⟨wr.heap.size, 6, none⟩ = some (.slice yr mr dr)) (by kernel_rfl) ?_ (fun hHeld => ?_)
        · exact c7_step HZ7.out (Below.refl _ _).drew
        refine takeD (i := 0) (v := ?_) 27 rfl rfl (by kernel_rfl) (by kernel_rfl) (by kernel_rfl) (fun _ _ _ h => h) (by assumption) (Or.inl ⟨by rfl, ?_⟩) ?_
        rotate_left
        · intro w hSw
          (try dsimp only at hSw)
          go_simp
          try with_reducible rfl
        simp only [List.setIfInBounds_toArray, List.set_cons_zero, List.set_cons_succ]
        refine takeD (i := 1) (v := ?_) 28 rfl rfl (by kernel_rfl) (by kernel_rfl) (by kernel_rfl) (fun _ _ _ h => h) (by assumption) (Or.inl ⟨by rfl, ?_⟩) ?_
        rotate_left
        · intro w hSw
          (try dsimp only at hSw)
          go_simp
          try with_reducible rfl
        simp only [List.setIfInBounds_toArray, List.set_cons_zero, List.set_cons_succ]
        refine takeD (i := 5) (v := ?_) 32 rfl rfl (by kernel_rfl) (by kernel_rfl) (by kernel_rfl) (fun _ _ _ h => h) (by assumption) (Or.inl ⟨by rfl, ?_⟩) ?_
        rotate_left
        · intro w hSw
          (try dsimp only at hSw)
          go_simp
          try with_reducible rfl
        simp only [List.setIfInBounds_toArray, List.set_cons_zero, List.set_cons_succ]
        refine takeD (i := 6) (v := ?_) 33 rfl rfl (by kernel_rfl) (by kernel_rfl) (by kernel_rfl) (fun _ _ _ h => h) (by assumption) (Or.inl ⟨by rfl, ?_⟩) ?_
        rotate_left
        · intro w hSw
          (try dsimp only at hSw)
          go_simp
          try with_reducible rfl
        simp only [List.setIfInBounds_toArray, List.set_cons_zero, List.set_cons_succ]
        refine wpAnyH_ready (rs := [2, 7]) (by kernel_rfl) (by simp) ?_
        refine AllReadyH.cons (by simp only [List.getElem?_toArray, List.getElem?_cons_succ, List.getElem?_cons_zero]; rfl) (fun K hK => ?_) (AllReadyH.cons (by simp only [List.getElem?_toArray, List.getElem?_cons_succ, List.getElem?_cons_zero]; rfl) (fun K hK => ?_) AllReadyH.nil)
        · have HFQ := hid (few_any ⟨k2, cd, md, al, rq, cs.take 20, rs.take 300⟩ (.slice yc mc dc) (.slice yr mr dr) V2.drew HT1.out.reads HT2.out.reads)
          dsimp only [acV] at HFQ
          go_simp
          go_at_call 23; (with_reducible refine HFQ.out.mono ?_); rintro e w5 ⟨cv5, rv5, rfl, ho1, ho2, hb5, hk1, hk2⟩
          refine hK.out _ _ ?_ (fun hHeldN => ?_)
          · exact c7_step hHeld hb5
          have HSP := hid HSZ.out
          replace HM := hid (HM.out.step hb5)
          replace HQ := hid (HQ.out.step hb5)
          replace HT1 := hid (HT1.out.step hb5)
          replace HT2 := hid (HT2.out.step hb5)
          replace HBB := hid (below_t HBB.out hb5)
          replace HSZ := hid (Nat.le_trans HSZ.out hb5.size)
          dsimp only [fewF] at ho1 ho2
          dsimp only [acV, fewF]
          obtain ⟨zc, pc, ec, rfl⟩ := own_slice ho1
          obtain ⟨zr, pr, er, rfl⟩ := own_slice ho2
          have HU1 := hid ho1
          have HU2 := hid ho2
          have HK1 := hid (show ∀ b ∈ blkV (.slice zc pc ec), w1.heap.size ≤ b from fun b hb => by have h1 := HBB0.out; have h2 := HW2.out; have h4 : V2.heap.size ≤ b := Nat.le_trans HSP.out (hk1 b hb); omega)
          have HK2 := hid (show ∀ b ∈ blkV (.slice zr pr er), w1.heap.size ≤ b from fun b hb => by have h1 := HBB0.out; have h2 := HW2.out; have h4 : V2.heap.size ≤ b := Nat.le_trans HSP.out (hk2 b hb); omega)
          have HV5 := hid HSZ.out
          clear ho1 ho2 hb5 hk1 hk2
          clear HFQ
          clear hK K hHeld
          have hHeld := hHeldN
          clear hHeldN
          (try simp only [Act.put, List.setIfInBounds_toArray, List.set_cons_zero, List.set_cons_succ])
          refine wpAnyH_ready (rs := [3, 7]) (by kernel_rfl) (by simp) ?_
          refine AllReadyH.cons (by simp only [List.getElem?_toArray, List.getElem?_cons_succ, List.getElem?_cons_zero]; rfl) (fun K hK => ?_) (AllReadyH.cons (by simp only [List.getElem?_toArray, List.getElem?_cons_succ, List.getElem?_cons_zero]; rfl) (fun K hK => ?_) AllReadyH.nil)
          · go_simp
            refine hK.out _ _ ?_ (fun hHeldN => ?_)
            · exact c7_step hHeld (bal (Below.refl _ _) _)
            have hba : Below w5.heap.size w5 (w5.alloc (.cells #[.int .i64 k2, .int .i64 cd, .int .i64 md, .bool al, .int .u8 rq, .slice zc pc ec, .slice zr pr er] 38)) := bal (Below.refl _ _) _
            replace HM := hid (HM.out.step hba)
            replace HQ := hid (HQ.out.step hba)
            replace HT1 := hid (HT1.out.step hba)
            replace HT2 := hid (HT2.out.step hba)
            replace HBB := hid (below_t HBB.out hba)
            replace HSZ := hid (Nat.le_trans HSZ.out hba.size)
            replace HU1 := hid (HU1.out.step hba)
            replace HU2 := hid (HU2.out.step hba)
            have HN3 := hid (news_at w5 (.int .i64 k2) (.int .i64 cd) (.int .i64 md) (.bool al) (.int .u8 rq) (.slice zc pc ec) (.slice zr pr er) 38 (w5.heap.size) (by simp))
            clear hba
            clear hK K hHeld
            have hHeld := hHeldN
            clear hHeldN
            (try simp only [Act.put, List.setIfInBounds_toArray, List.set_cons_zero, List.set_cons_succ])
            refine wpAnyH_ready (rs := [4, 7]) (by kernel_rfl) (by simp) ?_
            refine AllReadyH.cons (by simp only [List.getElem?_toArray, List.getElem?_cons_succ, List.getElem?_cons_zero]; rfl) (fun K hK => ?_) (AllReadyH.cons (by simp only [List.getElem?_toArray, List.getElem?_cons_succ, List.getElem?_cons_zero]; rfl) (fun K hK => ?_) AllReadyH.nil)
            · obtain ⟨v9, w9, hrun, hown, hgr, -, hk9⟩ := run_append_blk (P := Tryd.prog) (w5.alloc (.cells #[.int .i64 k2, .int .i64 cd, .int .i64 md, .bool al, .int .u8 rq, .slice zc pc ec, .slice zr pr er] 38)) 45 45 38 i2 _ 7 80 Tryd.underlying45 hi2 hy0 hy1 hy2 rfl (by decide) _ ys.length _ HM.out.row ⟨w5.heap.size, 0, none⟩ 1 1 (acC ⟨⟨k2, cd, md, al, rq, (cs.take 20).take 20, (rs.take 300).take 300⟩, .slice zc pc ec, .slice zr pr er⟩) rfl HN3.out (one_acC _ rfl rfl) (by have := HYL.out; unfold maxLen; omega) (by have := HYL.out; omega)
              refine step_append_run (by rfl) _ _ _ (by rfl) _ _ _ _ (by rfl) (by rfl) hrun ?_
              have hm9 := Moved.grown hgr (fun k hk => mem_blkV.2 hk) hk9
              have HX9 := hid (c7_moved hHeld hm9 (fun q => by have := HLM.out _ q; omega))
              have HM9 := hid (RowA.snoc (x := ⟨⟨k2, cd, md, al, rq, (cs.take 20).take 20, (rs.take 300).take 300⟩, .slice zc pc ec, .slice zr pr er⟩) (by decide) HM.out HBB.out.size HU1.out HU2.out HK1.out HK2.out hown hgr hk9)
              replace HQ := hid (RowA.other (by decide) (by decide) HQ.out HM.out.row hgr)
              replace HT1 := hid (HT1.out.moved hm9 (own_apart HT1.out.2 HM.out.row (by decide)))
              replace HT2 := hid (HT2.out.moved hm9 (own_apart HT2.out.2 HM.out.row (by decide)))
              replace HBB := hid (HBB.out.grown hgr HBB.out.size (fun k hk => HM.out.fr k (mem_blkV.2 hk)))
              replace HSZ := hid (Nat.le_trans HSZ.out hgr.size)
              obtain ⟨xm9, cm9, rfl⟩ := row_any hown
              refine hK.out _ _ ?_ (fun hHeldN => ?_)
              · exact HX9.out
              clear HX9 hrun hown hgr hk9 hm9 HM HU1 HU2 HN3 HK1 HK2
              clear hK K hHeld
              have hHeld := hHeldN
              clear hHeldN
              (try simp only [Act.put, List.setIfInBounds_toArray, List.set_cons_zero, List.set_cons_succ])
              refine wpAnyH_ready (rs := [7]) (by kernel_rfl) (by simp) ?_
              refine AllReadyH.cons (by simp only [List.getElem?_toArray, List.getElem?_cons_succ, List.getElem?_cons_zero]; rfl) (fun K hK => ?_) AllReadyH.nil
              go_simp
              refine hK.out _ _ ?_ (fun hHeldN => ?_)
              · exact c7_step hHeld (bal (Below.refl _ _) _)
              have hba : Below w9.heap.size w9 (w9.alloc (.cells #[.int .i64 k2, .int .i64 cd, .int .i64 md, .bool al, .int .u8 rq, .slice yc mc dc, .slice yr mr dr] 41)) := bal (Below.refl _ _) _
              replace HM9 := hid (HM9.out.step hba)
              replace HQ := hid (HQ.out.step hba)
              replace HT1 := hid (HT1.out.step hba)
              replace HT2 := hid (HT2.out.step hba)
              replace HBB := hid (below_t HBB.out hba)
              replace HSZ := hid (Nat.le_trans HSZ.out hba.size)
              have HN7 := hid (news_at w9 (.int .i64 k2) (.int .i64 cd) (.int .i64 md) (.bool al) (.int .u8 rq) (.slice yc mc dc) (.slice yr mr dr) 41 (w9.heap.size) (by simp))
              clear hba
              clear hK K hHeld
              have hHeld := hHeldN
              clear hHeldN
              (try simp only [Act.put, List.setIfInBounds_toArray, List.set_cons_zero, List.set_cons_succ])
              refine wpAnyH_ready (rs := [8]) (by kernel_rfl) (by simp) ?_
              refine AllReadyH.cons (by simp only [List.getElem?_toArray, List.getElem?_cons_succ, List.getElem?_cons_zero]; rfl) (fun K hK => ?_) AllReadyH.nil
              obtain ⟨v10, w10, hrun, hown, hgr, -, hk9⟩ := run_append_blk (P := Tryd.prog) (w9.alloc (.cells #[.int .i64 k2, .int .i64 cd, .int .i64 md, .bool al, .int .u8 rq, .slice yc mc dc, .slice yr mr dr] 41)) 48 48 41 i1 _ 7 80 Tryd.underlying48 hi1 hx0 hx1 hx2 rfl (by decide) _ zs.length _ HQ.out.row ⟨w9.heap.size, 0, none⟩ 1 1 (acC ⟨⟨k2, cd, md, al, rq, cs.take 20, rs.take 300⟩, .slice yc mc dc, .slice yr mr dr⟩) rfl HN7.out (one_acC _ rfl rfl) (by have := HZL.out; unfold maxLen; omega) (by have := HZL.out; omega)
              refine step_append_run (by rfl) _ _ _ (by rfl) _ _ _ _ (by rfl) (by rfl) hrun ?_
              have hm9 := Moved.grown hgr (fun k hk => mem_blkV.2 hk) hk9
              have HX9 := hid (c7_moved hHeld hm9 (fun q => by have := HLQ.out _ q; omega))
              have HQ10 := hid (RowA.snoc (x := ⟨⟨k2, cd, md, al, rq, cs.take 20, rs.take 300⟩, .slice yc mc dc, .slice yr mr dr⟩) (by decide) HQ.out HBB.out.size HT1.out HT2.out HTB1.out HTB2.out hown hgr hk9)
              have HM10 := hid (RowA.other (by decide) (by decide) HM9.out HQ.out.row hgr)
              have HBE := hid (HBB.out.grown hgr HBB.out.size (fun k hk => HQ.out.fr k (mem_blkV.2 hk)))
              obtain ⟨xq9, cq9, rfl⟩ := row_any hown
              refine hK.out _ _ ?_ (fun hHeldN => ?_)
              · exact HX9.out
              clear HX9 hrun hown hgr hk9 hm9 HQ HM9 HN7 HBB
              clear hK K hHeld
              have hHeld := hHeldN
              clear hHeldN
              (try simp only [Act.put, List.setIfInBounds_toArray, List.set_cons_zero, List.set_cons_succ])
              refine takeD (i := 9) (v := ?_) 3 rfl rfl (by kernel_rfl) (by kernel_rfl) (by kernel_rfl) (fun _ _ _ h => h) (by assumption) (Or.inl ⟨by rfl, ?_⟩) ?_
              rotate_left
              · intro w hSw
                (try dsimp only at hSw)
                go_simp
                try with_reducible rfl
              simp only [List.setIfInBounds_toArray, List.set_cons_zero, List.set_cons_succ]
              refine takeD (i := 10) (v := ?_) 4 rfl rfl (by kernel_rfl) (by kernel_rfl) (by kernel_rfl) (fun _ _ _ h => h) (by assumption) (Or.inl ⟨by rfl, ?_⟩) ?_
              rotate_left
              · intro w hSw
                (try dsimp only at hSw)
                go_simp
                try with_reducible rfl
              simp only [List.setIfInBounds_toArray, List.set_cons_zero, List.set_cons_succ]
              refine wpAnyH_done (by kernel_rfl) ?_ _
              clear hHeld
              go_wp2
              go_roundw
              case rel => exact ⟨k + 1, _, _, by omega, by go_num, HM10, HQ10, hid ⟨by rw [List.map_append, List.map_append, HX.out.1]; congr 1; exact congrArg (fun a => [a]) (fewF_few ⟨k2, cd, md, al, rq, cs, rs⟩), by rw [List.length_append, HX.out.2.1]; show min k 6 + 1 = _; omega, fun y hy => (List.mem_append.1 hy).elim (HX.out.2.2 y) (fun e => by rw [List.mem_singleton.1 e]; exact HOKK.out)⟩, HBE⟩
              case measure => simp [intOf]; omega
            · go_simp
              refine hK.out _ _ ?_ (fun hHeldN => ?_)
              · exact c7_step hHeld (bal (Below.refl _ _) _)
              have hba : Below (w5.alloc (.cells #[.int .i64 k2, .int .i64 cd, .int .i64 md, .bool al, .int .u8 rq, .slice zc pc ec, .slice zr pr er] 38)).heap.size (w5.alloc (.cells #[.int .i64 k2, .int .i64 cd, .int .i64 md, .bool al, .int .u8 rq, .slice zc pc ec, .slice zr pr er] 38)) ((w5.alloc (.cells #[.int .i64 k2, .int .i64 cd, .int .i64 md, .bool al, .int .u8 rq, .slice zc pc ec, .slice zr pr er] 38)).alloc (.cells #[.int .i64 k2, .int .i64 cd, .int .i64 md, .bool al, .int .u8 rq, .slice yc mc dc, .slice yr mr dr] 41)) := bal (Below.refl _ _) _
              replace HM := hid (HM.out.step hba)
              replace HQ := hid (HQ.out.step hba)
              replace HT1 := hid (HT1.out.step hba)
              replace HT2 := hid (HT2.out.step hba)
              replace HBB := hid (below_t HBB.out hba)
              replace HSZ := hid (Nat.le_trans HSZ.out hba.size)
              replace HU1 := hid (HU1.out.step hba)
              replace HU2 := hid (HU2.out.step hba)
              replace HN3 := hid (news_step HN3.out hba)
              have HN7 := hid (news_at (w5.alloc (.cells #[.int .i64 k2, .int .i64 cd, .int .i64 md, .bool al, .int .u8 rq, .slice zc pc ec, .slice zr pr er] 38)) (.int .i64 k2) (.int .i64 cd) (.int .i64 md) (.bool al) (.int .u8 rq) (.slice yc mc dc) (.slice yr mr dr) 41 (w5.heap.size + 1) (by simp))
              clear hba
              clear hK K hHeld
              have hHeld := hHeldN
              clear hHeldN
              (try simp only [Act.put, List.setIfInBounds_toArray, List.set_cons_zero, List.set_cons_succ])
              refine wpAnyH_ready (rs := [4]) (by kernel_rfl) (by simp) ?_
              refine AllReadyH.cons (by simp only [List.getElem?_toArray, List.getElem?_cons_succ, List.getElem?_cons_zero]; rfl) (fun K hK => ?_) AllReadyH.nil
              obtain ⟨v9, w9, hrun, hown, hgr, -, hk9⟩ := run_append_blk (P := Tryd.prog) ((w5.alloc (.cells #[.int .i64 k2, .int .i64 cd, .int .i64 md, .bool al, .int .u8 rq, .slice zc pc ec, .slice zr pr er] 38)).alloc (.cells #[.int .i64 k2, .int .i64 cd, .int .i64 md, .bool al, .int .u8 rq, .slice yc mc dc, .slice yr mr dr] 41)) 45 45 38 i2 _ 7 80 Tryd.underlying45 hi2 hy0 hy1 hy2 rfl (by decide) _ ys.length _ HM.out.row ⟨w5.heap.size, 0, none⟩ 1 1 (acC ⟨⟨k2, cd, md, al, rq, (cs.take 20).take 20, (rs.take 300).take 300⟩, .slice zc pc ec, .slice zr pr er⟩) rfl HN3.out (one_acC _ rfl rfl) (by have := HYL.out; unfold maxLen; omega) (by have := HYL.out; omega)
              refine step_append_run (by rfl) _ _ _ (by rfl) _ _ _ _ (by rfl) (by rfl) hrun ?_
              have hm9 := Moved.grown hgr (fun k hk => mem_blkV.2 hk) hk9
              have HX9 := hid (c7_moved hHeld hm9 (fun q => by have := HLM.out _ q; omega))
              have HM9 := hid (RowA.snoc (x := ⟨⟨k2, cd, md, al, rq, (cs.take 20).take 20, (rs.take 300).take 300⟩, .slice zc pc ec, .slice zr pr er⟩) (by decide) HM.out HBB.out.size HU1.out HU2.out HK1.out HK2.out hown hgr hk9)
              replace HQ := hid (RowA.other (by decide) (by decide) HQ.out HM.out.row hgr)
              replace HT1 := hid (HT1.out.moved hm9 (own_apart HT1.out.2 HM.out.row (by decide)))
              replace HT2 := hid (HT2.out.moved hm9 (own_apart HT2.out.2 HM.out.row (by decide)))
              replace HBB := hid (HBB.out.grown hgr HBB.out.size (fun k hk => HM.out.fr k (mem_blkV.2 hk)))
              replace HSZ := hid (Nat.le_trans HSZ.out hgr.size)
              replace HN7 := hid (news_moved HN7.out hm9 (fun q => by have := HLM.out _ q; have := HW2.out; have := HV5.out; omega))
              obtain ⟨xm9, cm9, rfl⟩ := row_any hown
              refine hK.out _ _ ?_ (fun hHeldN => ?_)
              · exact HX9.out
              clear HX9 hrun hown hgr hk9 hm9 HM HU1 HU2 HN3 HK1 HK2
              clear hK K hHeld
              have hHeld := hHeldN
              clear hHeldN
              (try simp only [Act.put, List.setIfInBounds_toArray, List.set_cons_zero, List.set_cons_succ])
              refine wpAnyH_ready (rs := [8]) (by kernel_rfl) (by simp) ?_
              refine AllReadyH.cons (by simp only [List.getElem?_toArray, List.getElem?_cons_succ, List.getElem?_cons_zero]; rfl) (fun K hK => ?_) AllReadyH.nil
              obtain ⟨v10, w10, hrun, hown, hgr, -, hk9⟩ := run_append_blk (P := Tryd.prog) w9 48 48 41 i1 _ 7 80 Tryd.underlying48 hi1 hx0 hx1 hx2 rfl (by decide) _ zs.length _ HQ.out.row ⟨w5.heap.size + 1, 0, none⟩ 1 1 (acC ⟨⟨k2, cd, md, al, rq, cs.take 20, rs.take 300⟩, .slice yc mc dc, .slice yr mr dr⟩) rfl HN7.out (one_acC _ rfl rfl) (by have := HZL.out; unfold maxLen; omega) (by have := HZL.out; omega)
              refine step_append_run (by rfl) _ _ _ (by rfl) _ _ _ _ (by rfl) (by rfl) hrun ?_
              have hm9 := Moved.grown hgr (fun k hk => mem_blkV.2 hk) hk9
              have HX9 := hid (c7_moved hHeld hm9 (fun q => by have := HLQ.out _ q; omega))
              have HQ10 := hid (RowA.snoc (x := ⟨⟨k2, cd, md, al, rq, cs.take 20, rs.take 300⟩, .slice yc mc dc, .slice yr mr dr⟩) (by decide) HQ.out HBB.out.size HT1.out HT2.out HTB1.out HTB2.out hown hgr hk9)
              have HM10 := hid (RowA.other (by decide) (by decide) HM9.out HQ.out.row hgr)
              have HBE := hid (HBB.out.grown hgr HBB.out.size (fun k hk => HQ.out.fr k (mem_blkV.2 hk)))
              obtain ⟨xq9, cq9, rfl⟩ := row_any hown
              refine hK.out _ _ ?_ (fun hHeldN => ?_)
              · exact HX9.out
              clear HX9 hrun hown hgr hk9 hm9 HQ HM9 HN7 HBB
              clear hK K hHeld
              have hHeld := hHeldN
              clear hHeldN
              (try simp only [Act.put, List.setIfInBounds_toArray, List.set_cons_zero, List.set_cons_succ])
              refine takeD (i := 9) (v := ?_) 3 rfl rfl (by kernel_rfl) (by kernel_rfl) (by kernel_rfl) (fun _ _ _ h => h) (by assumption) (Or.inl ⟨by rfl, ?_⟩) ?_
              rotate_left
              · intro w hSw
                (try dsimp only at hSw)
                go_simp
                try with_reducible rfl
              simp only [List.setIfInBounds_toArray, List.set_cons_zero, List.set_cons_succ]
              refine takeD (i := 10) (v := ?_) 4 rfl rfl (by kernel_rfl) (by kernel_rfl) (by kernel_rfl) (fun _ _ _ h => h) (by assumption) (Or.inl ⟨by rfl, ?_⟩) ?_
              rotate_left
              · intro w hSw
                (try dsimp only at hSw)
                go_simp
                try with_reducible rfl
              simp only [List.setIfInBounds_toArray, List.set_cons_zero, List.set_cons_succ]
              refine wpAnyH_done (by kernel_rfl) ?_ _
              clear hHeld
              go_wp2
              go_roundw
              case rel => exact ⟨k + 1, _, _, by omega, by go_num, HM10, HQ10, hid ⟨by rw [List.map_append, List.map_append, HX.out.1]; congr 1; exact congrArg (fun a => [a]) (fewF_few ⟨k2, cd, md, al, rq, cs, rs⟩), by rw [List.length_append, HX.out.2.1]; show min k 6 + 1 = _; omega, fun y hy => (List.mem_append.1 hy).elim (HX.out.2.2 y) (fun e => by rw [List.mem_singleton.1 e]; exact HOKK.out)⟩, HBE⟩
              case measure => simp [intOf]; omega
          · go_simp
            refine hK.out _ _ ?_ (fun hHeldN => ?_)
            · exact c7_step hHeld (bal (Below.refl _ _) _)
            have hba : Below w5.heap.size w5 (w5.alloc (.cells #[.int .i64 k2, .int .i64 cd, .int .i64 md, .bool al, .int .u8 rq, .slice yc mc dc, .slice yr mr dr] 41)) := bal (Below.refl _ _) _
            replace HM := hid (HM.out.step hba)
            replace HQ := hid (HQ.out.step hba)
            replace HT1 := hid (HT1.out.step hba)
            replace HT2 := hid (HT2.out.step hba)
            replace HBB := hid (below_t HBB.out hba)
            replace HSZ := hid (Nat.le_trans HSZ.out hba.size)
            replace HU1 := hid (HU1.out.step hba)
            replace HU2 := hid (HU2.out.step hba)
            have HN7 := hid (news_at w5 (.int .i64 k2) (.int .i64 cd) (.int .i64 md) (.bool al) (.int .u8 rq) (.slice yc mc dc) (.slice yr mr dr) 41 (w5.heap.size) (by simp))
            clear hba
            clear hK K hHeld
            have hHeld := hHeldN
            clear hHeldN
            (try simp only [Act.put, List.setIfInBounds_toArray, List.set_cons_zero, List.set_cons_succ])
            refine wpAnyH_ready (rs := [3]) (by kernel_rfl) (by simp) ?_
            refine AllReadyH.cons (by simp only [List.getElem?_toArray, List.getElem?_cons_succ, List.getElem?_cons_zero]; rfl) (fun K hK => ?_) AllReadyH.nil
            go_simp
            refine hK.out _ _ ?_ (fun hHeldN => ?_)
            · exact c7_step hHeld (bal (Below.refl _ _) _)
            have hba : Below (w5.alloc (.cells #[.int .i64 k2, .int .i64 cd, .int .i64 md, .bool al, .int .u8 rq, .slice yc mc dc, .slice yr mr dr] 41)).heap.size (w5.alloc (.cells #[.int .i64 k2, .int .i64 cd, .int .i64 md, .bool al, .int .u8 rq, .slice yc mc dc, .slice yr mr dr] 41)) ((w5.alloc (.cells #[.int .i64 k2, .int .i64 cd, .int .i64 md, .bool al, .int .u8 rq, .slice yc mc dc, .slice yr mr dr] 41)).alloc (.cells #[.int .i64 k2, .int .i64 cd, .int .i64 md, .bool al, .int .u8 rq, .slice zc pc ec, .slice zr pr er] 38)) := bal (Below.refl _ _) _
            replace HM := hid (HM.out.step hba)
            replace HQ := hid (HQ.out.step hba)
            replace HT1 := hid (HT1.out.step hba)
            replace HT2 := hid (HT2.out.step hba)
            replace HBB := hid (below_t HBB.out hba)
            replace HSZ := hid (Nat.le_trans HSZ.out hba.size)
            replace HU1 := hid (HU1.out.step hba)
            replace HU2 := hid (HU2.out.step hba)
            replace HN7 := hid (news_step HN7.out hba)
            have HN3 := hid (news_at (w5.alloc (.cells #[.int .i64 k2, .int .i64 cd, .int .i64 md, .bool al, .int .u8 rq, .slice yc mc dc, .slice yr mr dr] 41)) (.int .i64 k2) (.int .i64 cd) (.int .i64 md) (.bool al) (.int .u8 rq) (.slice zc pc ec) (.slice zr pr er) 38 (w5.heap.size + 1) (by simp))
            clear hba
            clear hK K hHeld
            have hHeld := hHeldN
            clear hHeldN
            (try simp only [Act.put, List.setIfInBounds_toArray, List.set_cons_zero, List.set_cons_succ])
            refine wpAnyH_ready (rs := [4]) (by kernel_rfl) (by simp) ?_
            refine AllReadyH.cons (by simp only [List.getElem?_toArray, List.getElem?_cons_succ, List.getElem?_cons_zero]; rfl) (fun K hK => ?_) AllReadyH.nil
            obtain ⟨v9, w9, hrun, hown, hgr, -, hk9⟩ := run_append_blk (P := Tryd.prog) ((w5.alloc (.cells #[.int .i64 k2, .int .i64 cd, .int .i64 md, .bool al, .int .u8 rq, .slice yc mc dc, .slice yr mr dr] 41)).alloc (.cells #[.int .i64 k2, .int .i64 cd, .int .i64 md, .bool al, .int .u8 rq, .slice zc pc ec, .slice zr pr er] 38)) 45 45 38 i2 _ 7 80 Tryd.underlying45 hi2 hy0 hy1 hy2 rfl (by decide) _ ys.length _ HM.out.row ⟨w5.heap.size + 1, 0, none⟩ 1 1 (acC ⟨⟨k2, cd, md, al, rq, (cs.take 20).take 20, (rs.take 300).take 300⟩, .slice zc pc ec, .slice zr pr er⟩) rfl HN3.out (one_acC _ rfl rfl) (by have := HYL.out; unfold maxLen; omega) (by have := HYL.out; omega)
            refine step_append_run (by rfl) _ _ _ (by rfl) _ _ _ _ (by rfl) (by rfl) hrun ?_
            have hm9 := Moved.grown hgr (fun k hk => mem_blkV.2 hk) hk9
            have HX9 := hid (c7_moved hHeld hm9 (fun q => by have := HLM.out _ q; omega))
            have HM9 := hid (RowA.snoc (x := ⟨⟨k2, cd, md, al, rq, (cs.take 20).take 20, (rs.take 300).take 300⟩, .slice zc pc ec, .slice zr pr er⟩) (by decide) HM.out HBB.out.size HU1.out HU2.out HK1.out HK2.out hown hgr hk9)
            replace HQ := hid (RowA.other (by decide) (by decide) HQ.out HM.out.row hgr)
            replace HT1 := hid (HT1.out.moved hm9 (own_apart HT1.out.2 HM.out.row (by decide)))
            replace HT2 := hid (HT2.out.moved hm9 (own_apart HT2.out.2 HM.out.row (by decide)))
            replace HBB := hid (HBB.out.grown hgr HBB.out.size (fun k hk => HM.out.fr k (mem_blkV.2 hk)))
            replace HSZ := hid (Nat.le_trans HSZ.out hgr.size)
            replace HN7 := hid (news_moved HN7.out hm9 (fun q => by have := HLM.out _ q; have := HW2.out; have := HV5.out; omega))
            obtain ⟨xm9, cm9, rfl⟩ := row_any hown
            refine hK.out _ _ ?_ (fun hHeldN => ?_)
            · exact HX9.out
            clear HX9 hrun hown hgr hk9 hm9 HM HU1 HU2 HN3 HK1 HK2
            clear hK K hHeld
            have hHeld := hHeldN
            clear hHeldN
            (try simp only [Act.put, List.setIfInBounds_toArray, List.set_cons_zero, List.set_cons_succ])
            refine wpAnyH_ready (rs := [8]) (by kernel_rfl) (by simp) ?_
            refine AllReadyH.cons (by simp only [List.getElem?_toArray, List.getElem?_cons_succ, List.getElem?_cons_zero]; rfl) (fun K hK => ?_) AllReadyH.nil
            obtain ⟨v10, w10, hrun, hown, hgr, -, hk9⟩ := run_append_blk (P := Tryd.prog) w9 48 48 41 i1 _ 7 80 Tryd.underlying48 hi1 hx0 hx1 hx2 rfl (by decide) _ zs.length _ HQ.out.row ⟨w5.heap.size, 0, none⟩ 1 1 (acC ⟨⟨k2, cd, md, al, rq, cs.take 20, rs.take 300⟩, .slice yc mc dc, .slice yr mr dr⟩) rfl HN7.out (one_acC _ rfl rfl) (by have := HZL.out; unfold maxLen; omega) (by have := HZL.out; omega)
            refine step_append_run (by rfl) _ _ _ (by rfl) _ _ _ _ (by rfl) (by rfl) hrun ?_
            have hm9 := Moved.grown hgr (fun k hk => mem_blkV.2 hk) hk9
            have HX9 := hid (c7_moved hHeld hm9 (fun q => by have := HLQ.out _ q; omega))
            have HQ10 := hid (RowA.snoc (x := ⟨⟨k2, cd, md, al, rq, cs.take 20, rs.take 300⟩, .slice yc mc dc, .slice yr mr dr⟩) (by decide) HQ.out HBB.out.size HT1.out HT2.out HTB1.out HTB2.out hown hgr hk9)
            have HM10 := hid (RowA.other (by decide) (by decide) HM9.out HQ.out.row hgr)
            have HBE := hid (HBB.out.grown hgr HBB.out.size (fun k hk => HQ.out.fr k (mem_blkV.2 hk)))
            obtain ⟨xq9, cq9, rfl⟩ := row_any hown
            refine hK.out _ _ ?_ (fun hHeldN => ?_)
            · exact HX9.out
            clear HX9 hrun hown hgr hk9 hm9 HQ HM9 HN7 HBB
            clear hK K hHeld
            have hHeld := hHeldN
            clear hHeldN
            (try simp only [Act.put, List.setIfInBounds_toArray, List.set_cons_zero, List.set_cons_succ])
            refine takeD (i := 9) (v := ?_) 3 rfl rfl (by kernel_rfl) (by kernel_rfl) (by kernel_rfl) (fun _ _ _ h => h) (by assumption) (Or.inl ⟨by rfl, ?_⟩) ?_
            rotate_left
            · intro w hSw
              (try dsimp only at hSw)
              go_simp
              try with_reducible rfl
            simp only [List.setIfInBounds_toArray, List.set_cons_zero, List.set_cons_succ]
            refine takeD (i := 10) (v := ?_) 4 rfl rfl (by kernel_rfl) (by kernel_rfl) (by kernel_rfl) (fun _ _ _ h => h) (by assumption) (Or.inl ⟨by rfl, ?_⟩) ?_
            rotate_left
            · intro w hSw
              (try dsimp only at hSw)
              go_simp
              try with_reducible rfl
            simp only [List.setIfInBounds_toArray, List.set_cons_zero, List.set_cons_succ]
            refine wpAnyH_done (by kernel_rfl) ?_ _
            clear hHeld
            go_wp2
            go_roundw
            case rel => exact ⟨k + 1, _, _, by omega, by go_num, HM10, HQ10, hid ⟨by rw [List.map_append, List.map_append, HX.out.1]; congr 1; exact congrArg (fun a => [a]) (fewF_few ⟨k2, cd, md, al, rq, cs, rs⟩), by rw [List.length_append, HX.out.2.1]; show min k 6 + 1 = _; omega, fun y hy => (List.mem_append.1 hy).elim (HX.out.2.2 y) (fun e => by rw [List.mem_singleton.1 e]; exact HOKK.out)⟩, HBE⟩
            case measure => simp [intOf]; omega
        · go_simp
          refine hK.out _ _ ?_ (fun hHeldN => ?_)
          · exact c7_step hHeld (bal (Below.refl _ _) _)
          have hba : Below V2.drew.heap.size V2.drew (V2.drew.alloc (.cells #[.int .i64 k2, .int .i64 cd, .int .i64 md, .bool al, .int .u8 rq, .slice yc mc dc, .slice yr mr dr] 41)) := bal (Below.refl _ _) _
          replace HM := hid (HM.out.step hba)
          replace HQ := hid (HQ.out.step hba)
          replace HT1 := hid (HT1.out.step hba)
          replace HT2 := hid (HT2.out.step hba)
          replace HBB := hid (below_t HBB.out hba)
          replace HSZ := hid (Nat.le_trans HSZ.out hba.size)
          have HN7 := hid (news_at V2.drew (.int .i64 k2) (.int .i64 cd) (.int .i64 md) (.bool al) (.int .u8 rq) (.slice yc mc dc) (.slice yr mr dr) 41 (V2.heap.size) (by simp))
          clear hba
          clear hK K hHeld
          have hHeld := hHeldN
          clear hHeldN
          (try simp only [Act.put, List.setIfInBounds_toArray, List.set_cons_zero, List.set_cons_succ])
          refine wpAnyH_ready (rs := [2]) (by kernel_rfl) (by simp) ?_
          refine AllReadyH.cons (by simp only [List.getElem?_toArray, List.getElem?_cons_succ, List.getElem?_cons_zero]; rfl) (fun K hK => ?_) AllReadyH.nil
          have HFQ := hid (few_any ⟨k2, cd, md, al, rq, cs.take 20, rs.take 300⟩ (.slice yc mc dc) (.slice yr mr dr) (V2.alloc (.cells #[.int .i64 k2, .int .i64 cd, .int .i64 md, .bool al, .int .u8 rq, .slice yc mc dc, .slice yr mr dr] 41)).drew HT1.out.reads HT2.out.reads)
          dsimp only [acV] at HFQ
          go_simp
          go_at_call 23; (with_reducible refine HFQ.out.mono ?_); rintro e w5 ⟨cv5, rv5, rfl, ho1, ho2, hb5, hk1, hk2⟩
          refine hK.out _ _ ?_ (fun hHeldN => ?_)
          · exact c7_step hHeld hb5
          have HSP := hid HSZ.out
          replace HM := hid (HM.out.step hb5)
          replace HQ := hid (HQ.out.step hb5)
          replace HT1 := hid (HT1.out.step hb5)
          replace HT2 := hid (HT2.out.step hb5)
          replace HBB := hid (below_t HBB.out hb5)
          replace HSZ := hid (Nat.le_trans HSZ.out hb5.size)
          replace HN7 := hid (news_step HN7.out hb5)
          dsimp only [fewF] at ho1 ho2
          dsimp only [acV, fewF]
          obtain ⟨zc, pc, ec, rfl⟩ := own_slice ho1
          obtain ⟨zr, pr, er, rfl⟩ := own_slice ho2
          have HU1 := hid ho1
          have HU2 := hid ho2
          have HK1 := hid (show ∀ b ∈ blkV (.slice zc pc ec), w1.heap.size ≤ b from fun b hb => by have h1 := HBB0.out; have h2 := HW2.out; have h4 : V2.heap.size ≤ b := Nat.le_trans HSP.out (hk1 b hb); omega)
          have HK2 := hid (show ∀ b ∈ blkV (.slice zr pr er), w1.heap.size ≤ b from fun b hb => by have h1 := HBB0.out; have h2 := HW2.out; have h4 : V2.heap.size ≤ b := Nat.le_trans HSP.out (hk2 b hb); omega)
          have HV5 := hid HSZ.out
          clear ho1 ho2 hb5 hk1 hk2
          clear HFQ
          clear hK K hHeld
          have hHeld := hHeldN
          clear hHeldN
          (try simp only [Act.put, List.setIfInBounds_toArray, List.set_cons_zero, List.set_cons_succ])
          refine wpAnyH_ready (rs := [3]) (by kernel_rfl) (by simp) ?_
          refine AllReadyH.cons (by simp only [List.getElem?_toArray, List.getElem?_cons_succ, List.getElem?_cons_zero]; rfl) (fun K hK => ?_) AllReadyH.nil
          go_simp
          refine hK.out _ _ ?_ (fun hHeldN => ?_)
          · exact c7_step hHeld (bal (Below.refl _ _) _)
          have hba : Below w5.heap.size w5 (w5.alloc (.cells #[.int .i64 k2, .int .i64 cd, .int .i64 md, .bool al, .int .u8 rq, .slice zc pc ec, .slice zr pr er] 38)) := bal (Below.refl _ _) _
          replace HM := hid (HM.out.step hba)
          replace HQ := hid (HQ.out.step hba)
          replace HT1 := hid (HT1.out.step hba)
          replace HT2 := hid (HT2.out.step hba)
          replace HBB := hid (below_t HBB.out hba)
          replace HSZ := hid (Nat.le_trans HSZ.out hba.size)
          replace HU1 := hid (HU1.out.step hba)
          replace HU2 := hid (HU2.out.step hba)
          replace HN7 := hid (news_step HN7.out hba)
          have HN3 := hid (news_at w5 (.int .i64 k2) (.int .i64 cd) (.int .i64 md) (.bool al) (.int .u8 rq) (.slice zc pc ec) (.slice zr pr er) 38 (w5.heap.size) (by simp))
          clear hba
          clear hK K hHeld
          have hHeld := hHeldN
          clear hHeldN
          (try simp only [Act.put, List.setIfInBounds_toArray, List.set_cons_zero, List.set_cons_succ])
          refine wpAnyH_ready (rs := [4]) (by kernel_rfl) (by simp) ?_
          refine AllReadyH.cons (by simp only [List.getElem?_toArray, List.getElem?_cons_succ, List.getElem?_cons_zero]; rfl) (fun K hK => ?_) AllReadyH.nil
          obtain ⟨v9, w9, hrun, hown, hgr, -, hk9⟩ := run_append_blk (P := Tryd.prog) (w5.alloc (.cells #[.int .i64 k2, .int .i64 cd, .int .i64 md, .bool al, .int .u8 rq, .slice zc pc ec, .slice zr pr er] 38)) 45 45 38 i2 _ 7 80 Tryd.underlying45 hi2 hy0 hy1 hy2 rfl (by decide) _ ys.length _ HM.out.row ⟨w5.heap.size, 0, none⟩ 1 1 (acC ⟨⟨k2, cd, md, al, rq, (cs.take 20).take 20, (rs.take 300).take 300⟩, .slice zc pc ec, .slice zr pr er⟩) rfl HN3.out (one_acC _ rfl rfl) (by have := HYL.out; unfold maxLen; omega) (by have := HYL.out; omega)
          refine step_append_run (by rfl) _ _ _ (by rfl) _ _ _ _ (by rfl) (by rfl) hrun ?_
          have hm9 := Moved.grown hgr (fun k hk => mem_blkV.2 hk) hk9
          have HX9 := hid (c7_moved hHeld hm9 (fun q => by have := HLM.out _ q; omega))
          have HM9 := hid (RowA.snoc (x := ⟨⟨k2, cd, md, al, rq, (cs.take 20).take 20, (rs.take 300).take 300⟩, .slice zc pc ec, .slice zr pr er⟩) (by decide) HM.out HBB.out.size HU1.out HU2.out HK1.out HK2.out hown hgr hk9)
          replace HQ := hid (RowA.other (by decide) (by decide) HQ.out HM.out.row hgr)
          replace HT1 := hid (HT1.out.moved hm9 (own_apart HT1.out.2 HM.out.row (by decide)))
          replace HT2 := hid (HT2.out.moved hm9 (own_apart HT2.out.2 HM.out.row (by decide)))
          replace HBB := hid (HBB.out.grown hgr HBB.out.size (fun k hk => HM.out.fr k (mem_blkV.2 hk)))
          replace HSZ := hid (Nat.le_trans HSZ.out hgr.size)
          replace HN7 := hid (news_moved HN7.out hm9 (fun q => by have := HLM.out _ q; have := HW2.out;  omega))
          obtain ⟨xm9, cm9, rfl⟩ := row_any hown
          refine hK.out _ _ ?_ (fun hHeldN => ?_)
          · exact HX9.out
          clear HX9 hrun hown hgr hk9 hm9 HM HU1 HU2 HN3 HK1 HK2
          clear hK K hHeld
          have hHeld := hHeldN
          clear hHeldN
          (try simp only [Act.put, List.setIfInBounds_toArray, List.set_cons_zero, List.set_cons_succ])
          refine wpAnyH_ready (rs := [8]) (by kernel_rfl) (by simp) ?_
          refine AllReadyH.cons (by simp only [List.getElem?_toArray, List.getElem?_cons_succ, List.getElem?_cons_zero]; rfl) (fun K hK => ?_) AllReadyH.nil
          obtain ⟨v10, w10, hrun, hown, hgr, -, hk9⟩ := run_append_blk (P := Tryd.prog) w9 48 48 41 i1 _ 7 80 Tryd.underlying48 hi1 hx0 hx1 hx2 rfl (by decide) _ zs.length _ HQ.out.row ⟨V2.heap.size, 0, none⟩ 1 1 (acC ⟨⟨k2, cd, md, al, rq, cs.take 20, rs.take 300⟩, .slice yc mc dc, .slice yr mr dr⟩) rfl HN7.out (one_acC _ rfl rfl) (by have := HZL.out; unfold maxLen; omega) (by have := HZL.out; omega)
          refine step_append_run (by rfl) _ _ _ (by rfl) _ _ _ _ (by rfl) (by rfl) hrun ?_
          have hm9 := Moved.grown hgr (fun k hk => mem_blkV.2 hk) hk9
          have HX9 := hid (c7_moved hHeld hm9 (fun q => by have := HLQ.out _ q; omega))
          have HQ10 := hid (RowA.snoc (x := ⟨⟨k2, cd, md, al, rq, cs.take 20, rs.take 300⟩, .slice yc mc dc, .slice yr mr dr⟩) (by decide) HQ.out HBB.out.size HT1.out HT2.out HTB1.out HTB2.out hown hgr hk9)
          have HM10 := hid (RowA.other (by decide) (by decide) HM9.out HQ.out.row hgr)
          have HBE := hid (HBB.out.grown hgr HBB.out.size (fun k hk => HQ.out.fr k (mem_blkV.2 hk)))
          obtain ⟨xq9, cq9, rfl⟩ := row_any hown
          refine hK.out _ _ ?_ (fun hHeldN => ?_)
          · exact HX9.out
          clear HX9 hrun hown hgr hk9 hm9 HQ HM9 HN7 HBB
          clear hK K hHeld
          have hHeld := hHeldN
          clear hHeldN
          (try simp only [Act.put, List.setIfInBounds_toArray, List.set_cons_zero, List.set_cons_succ])
          refine takeD (i := 9) (v := ?_) 3 rfl rfl (by kernel_rfl) (by kernel_rfl) (by kernel_rfl) (fun _ _ _ h => h) (by assumption) (Or.inl ⟨by rfl, ?_⟩) ?_
          rotate_left
          · intro w hSw
            (try dsimp only at hSw)
            go_simp
            try with_reducible rfl
          simp only [List.setIfInBounds_toArray, List.set_cons_zero, List.set_cons_succ]
          refine takeD (i := 10) (v := ?_) 4 rfl rfl (by kernel_rfl) (by kernel_rfl) (by kernel_rfl) (fun _ _ _ h => h) (by assumption) (Or.inl ⟨by rfl, ?_⟩) ?_
          rotate_left
          · intro w hSw
            (try dsimp only at hSw)
            go_simp
            try with_reducible rfl
          simp only [List.setIfInBounds_toArray, List.set_cons_zero, List.set_cons_succ]
          refine wpAnyH_done (by kernel_rfl) ?_ _
          clear hHeld
          go_wp2
          go_roundw
          case rel => exact ⟨k + 1, _, _, by omega, by go_num, HM10, HQ10, hid ⟨by rw [List.map_append, List.map_append, HX.out.1]; congr 1; exact congrArg (fun a => [a]) (fewF_few ⟨k2, cd, md, al, rq, cs, rs⟩), by rw [List.length_append, HX.out.2.1]; show min k 6 + 1 = _; omega, fun y hy => (List.mem_append.1 hy).elim (HX.out.2.2 y) (fun e => by rw [List.mem_singleton.1 e]; exact HOKK.out)⟩, HBE⟩
          case measure => simp [intOf]; omega
      · have h6i : ¬ (k : Int) < 6 := by omega
        have HMX := hid (HM.out.step HBX.out)
        have HQX := hid (HQ.out.step HBX.out)
        have HBX2 := hid (below_t HB.out HBX.out)
        go_wp2
        go_roundw
        case rel => exact ⟨k + 1, ys, zs, by omega, by go_num, HMX, HQX, hid ⟨HX.out.1, by have := HX.out.2.1; omega, HX.out.2.2⟩, HBX2⟩
        case measure => simp [intOf]; omega
    · have hkn : N = k := by omega
      subst hkn
      have HBW := hid (below_t HB1.out HB.out)
      have HZL := hid (show zs.length ≤ 6 by have := HX.out.2.1; omega)
      have HYZ := hid (show ys.length = zs.length by have h1 := congrArg List.length HX.out.1; rw [List.length_map, List.length_map] at h1; exact h1)
      have HOKY := hid (show ∀ y ∈ ys, ActOK y.d from fun y hy => by
        have q : y.d ∈ zs.map AcV.d := by rw [← HX.out.1]; exact List.mem_map_of_mem hy
        obtain ⟨z, hz, e⟩ := List.mem_map.1 q
        rw [← e]
        exact (HX.out.2.2 z hz).1)
      have HRB := hid (show ∀ a ∈ zs.map AcV.d, (byteF (makeF a).2).1 = 0 from fun a ha => by
        obtain ⟨z, hz, rfl⟩ := List.mem_map.1 ha
        exact (HX.out.2.2 z hz).2)
      have HREC := hid (record_any _ ys wr ⟨HM.out.row, HM.out.dat⟩ (by have := HYZ.out; have := HZL.out; omega) HOKY.out (HCO.out _ HBW.out))
      rw [HX.out.1, recP_is _ HRB.out] at HREC
      have HRQ := hid (fun W (hW : Below wr.heap.size wr W) => rrecord_any _ zs W ⟨(HQ.out.step hW).row, (HQ.out.step hW).dat⟩ (by have := HZL.out; omega) (fun z hz => (HX.out.2.2 z hz).1))
      generalize hrr : recL [243] (zs.map AcV.d) = rr at HREC HRQ
      have HRR := hid hrr
      obtain ⟨er, bs⟩ := rr
      clear hrr hk hlt
      go_wp2_with fail
      with_reducible refine HREC.out.mono ?_
      rintro e w2 ⟨bv, rfl, hob, hb2, hkb⟩
      dsimp only at hob ⊢
      have HOB := hid hob
      obtain ⟨nb, hnb⟩ : ∃ nb, bs.length = nb := ⟨_, rfl⟩
      have HNB := hid hnb
      obtain ⟨xb, cb, rfl⟩ := own_len hob nb hnb
      have HR2 := hid (HRQ.out w2 hb2)
      have HB2 := hid hb2
      clear hob hb2 hkb hnb HREC
      go_wp2_with fail
      with_reducible refine HR2.out.mono ?_
      rintro e w3 ⟨qv, rfl, hoq, hb3, hkq⟩
      dsimp only at hoq ⊢
      have HOB3 := hid (HOB.out.step hb3)
      have HSM := hid (same_true (.slice xb nb cb) qv bs w3 HOB3.out.reads hoq.reads)
      have HB3 := hid (below_t HB2.out hb3)
      obtain ⟨yq, dq, rfl⟩ := own_len hoq nb HNB.out
      clear hoq hb3 hkq HOB HR2
      go_wp2_with fail
      with_reducible refine HSM.out.mono ?_
      rintro e w4 ⟨rfl, rfl⟩
      by_cases he : er = 0
      · subst he
        obtain ⟨Z, e1, e2, e3⟩ := recL_acts HRR.out
        have HOB4 := hid (show OwnB w3 (.slice xb nb cb) ([243] ++ Z) by rw [← e1]; exact HOB3.out)
        have HZLN := hid (show Z.length ≤ 8192 by rw [e1, List.length_append] at e2; omega)
        have HE3 := hid e3
        have hfa := from_all HOB4.out.reads 1 (by show 1 ≤ (243 :: Z).length; simp)
        obtain ⟨xs1, cs1, hsl0, hrs⟩ := hfa
        obtain ⟨nz, hnz⟩ : ∃ nz, Z.length = nz := ⟨_, rfl⟩
        have hz1 : ([243] ++ Z).length - 1 = nz := by rw [← hnz]; simp
        rw [hz1] at hsl0 hrs
        have hRZ := hrs w3 HOB4.out.reads
        have hsl : ∀ w', (Instr.sliceAt 22 (.slice xb nb cb) (some (.int .i64 1)) none none).run Tryd.prog w' = .ok (.slice xs1 nz cs1) w' := by
          intro w'
          have q := hsl0 w'
          push_cast at q
          exact q
        have HAC := hid (callsIn_wide.1 (sacts_in 8 (by omega) (.slice xs1 nz cs1) Z w3 hRZ (by have := HZLN.out; omega) (HCO.out _ (below_t HBW.out HB3.out))))
        rw [e3] at HAC
        clear hsl0 hrs hz1 hnz e1 e2 e3 hRZ HSM
        go_wp2_with fail
        with_reducible refine HAC.out.mono ?_
        rintro e w5 ⟨gv, gs, rfl, hga, hMa, hb5, -, -⟩
        dsimp only at hga ⊢
        have HGA := hid hga
        have HMA := hid hMa
        obtain ⟨xg, cg, rfl⟩ := row_any hMa.row
        have HB5 := hid (below_t HB3.out hb5)
        have HBF := hid (below_t HBW.out HB5.out)
        have HAN := hid (show gs.length = zs.length by have h1 := congrArg List.length hga; rw [List.length_map, List.length_map, List.length_map] at h1; exact h1)
        have HQ5 := hid (show AcM 41 w5 (.slice xq zs.length cq) zs from ⟨(HQ.out.step HB5.out).row, (HQ.out.step HB5.out).dat⟩)
        obtain ⟨g1, gc1, ee1, -, -, hat1⟩ := HMA.out.at
        injection ee1 with ee1a ee1b ee1c
        subst ee1a ee1c
        obtain ⟨g2, gc2, ee2, -, -, hat2⟩ := HQ5.out.at
        injection ee2 with ee2a ee2b ee2c
        subst ee2a ee2c
        have HAT1 := hid hat1
        have HAT2 := hid hat2
        have HS1 := hid (fun i (hi : i < gs.length) => (show (∃ a n c, gs[i].cv = .slice a n c) ∧ ∃ a n c, gs[i].rv = .slice a n c from ⟨own_slice (HMA.out.txt _ (List.getElem_mem hi)).1, own_slice (HMA.out.txt _ (List.getElem_mem hi)).2⟩))
        have HS2 := hid (fun i (hi : i < zs.length) => (show (∃ a n c, zs[i].cv = .slice a n c) ∧ ∃ a n c, zs[i].rv = .slice a n c from ⟨own_slice (HQ5.out.txt _ (List.getElem_mem hi)).1, own_slice (HQ5.out.txt _ (List.getElem_mem hi)).2⟩))
        have HPL := hid (fun i (hi : i < zs.length) W (hW : Below w5.heap.size w5 W) => plain_any zs[i].d zs[i].cv zs[i].rv W ((HQ5.out.txt _ (List.getElem_mem hi)).1.step hW).reads ((HQ5.out.txt _ (List.getElem_mem hi)).2.step hW).reads)
        have HRS := hid (fun i (hi : i < gs.length) cp rp W (hW : Below w5.heap.size w5 W) (q1 : Reads W cp gs[i].d.codes) (q2 : Reads W rp gs[i].d.rcd) => rsame_any gs[i].d gs[i].cv gs[i].rv cp rp W ((HMA.out.txt _ (List.getElem_mem hi)).1.step hW).reads ((HMA.out.txt _ (List.getElem_mem hi)).2.step hW).reads q1 q2)
        have HPD := hid (fun i (hi : i < gs.length) (hj : i < zs.length) => (show plainF zs[i].d = gs[i].d from by
          have q : (gs.map AcV.d)[i]? = ((zs.map AcV.d).map plainF)[i]? := by rw [HGA.out]
          rw [List.getElem?_eq_getElem (by rw [List.length_map]; exact hi), List.getElem?_eq_getElem (by rw [List.length_map, List.length_map]; exact hj), List.getElem_map, List.getElem_map, List.getElem_map] at q
          exact (Option.some.inj q).symm))
        obtain ⟨M, hM⟩ : ∃ M, zs.length = M := ⟨_, rfl⟩
        have HMN := hid hM
        have HAM := hid (HAN.out.trans hM)
        have hM6 : M ≤ 6 := by rw [← hM]; exact HZL.out
        rw [HAM.out, HMN.out]
        clear hga hMa hb5 ee1b ee2b hat1 hat2 hM HAC
        go_wp2_with fail

        go_loopw [75] (fun i wr => ∃ j : Nat, j ≤ M ∧ i = .int .i64 j ∧ Hid (Below w5.heap.size w5 wr)) (fun i _ => M - (intOf i).toNat)
        case atStart => exact ⟨0, Nat.zero_le _, rfl, hid (Below.refl _ _)⟩
        case round =>
          obtain ⟨j, hj, rfl, HBj⟩ := hrel
          by_cases hjl : j < M
          · have hji : (j : Int) < M := by omega
            have hj1 : j < gs.length := by rw [HAM.out]; exact hjl
            have hj2 : j < zs.length := by rw [HMN.out]; exact hjl
            obtain ⟨g, rfl, hg, a0, a1, a2, a3, a4, a5, a6⟩ := HAT1.out j hj1
            obtain ⟨g', rfl, hg', b0, b1, b2, b3, b4, b5, b6⟩ := HAT2.out j hj2
            obtain ⟨⟨xc, nc, cc, q1⟩, ⟨xr, nr, cr, q2⟩⟩ := HS1.out j hj1
            obtain ⟨⟨yc, mc, dc, q3⟩, ⟨yr, mr, dr, q4⟩⟩ := HS2.out j hj2
            have HP := hid (HPL.out j hj2)
            have HS := hid (HRS.out j hj1)
            have hpd := HPD.out j hj1 hj2
            rw [q1, q2] at HS
            rw [q3, q4, hpd] at HP
            rw [q1] at a5
            rw [q2] at a6
            rw [q3] at b5
            rw [q4] at b6
            clear q1 q2 q3 q4 hpd
            generalize gs[j].d = d1 at a0 a1 a2 a3 a4 HS HP
            generalize zs[j].d = d2 at b0 b1 b2 b3 b4 HP
            obtain ⟨k2, cd, md, al, rq, cs, rs⟩ := d1
            obtain ⟨k3, cd3, md3, al3, rq3, cs3, rs3⟩ := d2
            dsimp only at a0 a1 a2 a3 a4 b0 b1 b2 b3 b4
            dsimp only [acV] at HS HP
            have a0 := (HBj.out.cell (p := ⟨g, j * 7, none⟩) hg).trans a0
            have a1 := (HBj.out.cell (p := ⟨g, j * 7 + 1, none⟩) hg).trans a1
            have a2 := (HBj.out.cell (p := ⟨g, j * 7 + 2, none⟩) hg).trans a2
            have a3 := (HBj.out.cell (p := ⟨g, j * 7 + 3, none⟩) hg).trans a3
            have a4 := (HBj.out.cell (p := ⟨g, j * 7 + 4, none⟩) hg).trans a4
            have a5 := (HBj.out.cell (p := ⟨g, j * 7 + 5, none⟩) hg).trans a5
            have a6 := (HBj.out.cell (p := ⟨g, j * 7 + 6, none⟩) hg).trans a6
            have b0 := (HBj.out.cell (p := ⟨g', j * 7, none⟩) hg').trans b0
            have b1 := (HBj.out.cell (p := ⟨g', j * 7 + 1, none⟩) hg').trans b1
            have b2 := (HBj.out.cell (p := ⟨g', j * 7 + 2, none⟩) hg').trans b2
            have b3 := (HBj.out.cell (p := ⟨g', j * 7 + 3, none⟩) hg').trans b3
            have b4 := (HBj.out.cell (p := ⟨g', j * 7 + 4, none⟩) hg').trans b4
            have b5 := (HBj.out.cell (p := ⟨g', j * 7 + 5, none⟩) hg').trans b5
            have b6 := (HBj.out.cell (p := ⟨g', j * 7 + 6, none⟩) hg').trans b6
            have hdr : Below wr.heap.size wr wr.drew := (Below.refl _ _).drew
            have HP0 := hid (HP.out _ (below_t HBj.out hdr))
            have HBD := hid (below_t HBj.out hdr)
            have HX1 := hid (d14_step (w0 := w5) (w := wr) ⟨a0, a1, a2, a3, a4, a5, a6, b0, b1, b2, b3, b4, b5, b6, HBj.out⟩ hdr)
            go_wp2
            go_region_held3 (fun w' => w'.cell? ⟨g, j * 7, none⟩ = some (.int .i64 k2) ∧ w'.cell? ⟨g, j * 7 + 1, none⟩ = some (.int .i64 cd) ∧ w'.cell? ⟨g, j * 7 + 2, none⟩ = some (.int .i64 md) ∧ w'.cell? ⟨g, j * 7 + 3, none⟩ = some (.bool al) ∧ w'.cell? ⟨g, j * 7 + 4, none⟩ = some (.int .u8 rq) ∧ w'.cell? ⟨g, j * 7 + 5, none⟩ = some (.slice xc nc cc) ∧ w'.cell? ⟨g, j * 7 + 6, none⟩ = some (.slice xr nr cr) ∧ w'.cell? ⟨g', j * 7, none⟩ = some (.int .i64 k3) ∧ w'.cell? ⟨g', j * 7 + 1, none⟩ = some (.int .i64 cd3) ∧ w'.cell? ⟨g', j * 7 + 2, none⟩ = some (.int .i64 md3) ∧ w'.cell? ⟨g', j * 7 + 3, none⟩ = some (.bool al3) ∧ w'.cell? ⟨g', j * 7 + 4, none⟩ = some (.int .u8 rq3) ∧ w'.cell? ⟨g', j * 7 + 5, none⟩ = some (.slice yc mc dc) ∧ w'.cell? ⟨g', j * 7 + 6, none⟩ = some (.slice yr mr dr) ∧ Below w5.heap.size w5 w') (first | with_reducible exact HX1.out | with_reducible exact d14_step (by assumption) (by assumption)) (first | (go_at_call 29; (with_reducible refine HP0.out.mono ?_); rintro e w6 ⟨cp, rp, rfl, hq1, hq2, hb6⟩; dsimp only [acV]; have HSA := hid (HS.out cp rp w6 (below_t HBD.out hb6) hq1 hq2); obtain ⟨x5, c5, rfl⟩ := reads_sl hq1; obtain ⟨x6, c6, rfl⟩ := reads_sl hq2; clear hq1 hq2) | (go_at_call 18; (with_reducible refine HSA.out.mono ?_); rintro e w7 ⟨rfl, hb7⟩) | fail)
            all_goals
              rename_i hH
              obtain ⟨-, -, -, -, -, -, -, -, -, -, -, -, -, -, hBE⟩ := hH
              have HBE := hid hBE
              clear hBE a0 a1 a2 a3 a4 a5 a6 b0 b1 b2 b3 b4 b5 b6 hdr
              go_wp2
              go_roundw
              case rel => exact ⟨j + 1, by omega, by go_num, HBE⟩
              case measure => simp [intOf]; omega
          · have hjn : M = j := by omega
            subst hjn
            have HFIN := hid (below_t HBF.out HBj.out)
            go_wp2
            go_ret
            exact ⟨rfl, HFIN.out⟩
      · have hne : (er == 0) = false := by simpa using he
        have hne' : (er != 0) = true := by simpa using he
        have HFIN := hid (below_t HBW.out HB3.out)
        go_wp2
        go_ret
        exact ⟨rfl, HFIN.out⟩
end Go.Proofs.YtdpgmepblmlaaaaDoor
