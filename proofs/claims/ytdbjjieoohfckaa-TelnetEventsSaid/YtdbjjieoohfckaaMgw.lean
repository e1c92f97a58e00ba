/-
  TelnetMerges' walk.
-/
import Derived.Test.YtdbjjieoohfckaaMga
namespace Go.Proofs.Ytdbjjieoohfckaa
open Go.RowKit Go.Lib

def cutE (e : Ev) : Ev := { e with data := e.data.take 20 }
def cutL (xs : List (Ev × Value)) (k : Nat) : List Ev := (xs.take k).map fun x => cutE x.1
theorem cutL_succ (xs : List (Ev × Value)) (k : Nat) (h : k < xs.length) : cutL xs (k + 1) = cutL xs k ++ [cutE xs[k].1] := by
  unfold cutL
  rw [List.take_succ_eq_append_getElem h, List.map_append]; rfl
theorem cutL_len (xs : List (Ev × Value)) (k : Nat) : (cutL xs k).length = min k xs.length := by
  unfold cutL
  rw [List.length_map, List.length_take]
theorem wt_cutAll (l : List (Ev × Value)) : wt (l.map fun x => cutE x.1) ≤ 21 * l.length := by
  induction l with
  | nil => exact Nat.le_refl _
  | cons x l ih =>
    simp only [List.map_cons, wt, List.length_cons]
    have : (cutE x.1).data.length ≤ 20 := by show (x.1.data.take 20).length ≤ 20; rw [List.length_take]; omega
    omega
theorem wt_cut (xs : List (Ev × Value)) (k : Nat) : wt (cutL xs k) ≤ 21 * k := by
  have a := wt_cutAll (xs.take k)
  have b : (xs.take k).length ≤ k := by rw [List.length_take]; omega
  unfold cutL
  omega
section
variable {P : Program} {ops : Array Oper} {Q : Exit → Act → World → Prop} {md : Region.Mode} {S : World → Prop}
/-- An operation is taken first: its slot is written. -/
theorem takeD {i : Nat} {oi : Oper} {v : Value} (d : Tmp) {fuel : Nat} {listed : Array Bool} {ts : Array Value} {ds : List Deferred} {w : World} (hi : ops[i]? = some oi) (hd : oi.dst = some d)
    (hs : Region.noSelect ops = true) (hf : Region.free md ops listed i = true) (hr : (Region.ready md ops listed).contains i = true)
    (hQ : ∀ c a w, Q (.panic c) (a.put oi.dst v) w → Q (.panic c) a w) (hS : S w) (hy : YieldsIf P ops S oi v ⟨ts, ds⟩)
    (h : wpAnyH P md ops Q S fuel (listed.setIfInBounds i true) ⟨ts.setIfInBounds d v, ds⟩ w) : wpAnyH P md ops Q S (fuel + 1) listed ⟨ts, ds⟩ w :=
  wpAnyH_take hi hs hf hr hQ hy hS (by rw [hd]; exact h)
end
theorem s4_below {w w1 : World} {a b : Addr} {x y : Value} (h : w1.cell? a = some x ∧ w1.cell? b = some y ∧ w1.frozen? a = false ∧ Below w.heap.size w w1) : Below w.heap.size w w1 := h.2.2.2
theorem s4_kept {w w1 w2 : World} {a b : Addr} {x y : Value} (hb : Below w1.heap.size w1 w2) (h : w1.cell? a = some x ∧ w1.cell? b = some y ∧ w1.frozen? a = false ∧ Below w.heap.size w w1) : w2.cell? a = some x ∧ w2.cell? b = some y ∧ w2.frozen? a = false ∧ Below w.heap.size w w2 :=
  ⟨keepc hb h.1, keepc hb h.2.1, (hb.frozen (World.block_lt_of_cell? w1 _ h.1)).trans h.2.2.1, below_t h.2.2.2 hb⟩
theorem s4_grown {w w0 w1 w2 : World} {a b : Addr} {x y : Value} {v : Value} {n : Nat} {cs : List Value} (hg : w1.grownBy w2 v.ownBlock) (h : w1.cell? a = some x ∧ w1.cell? b = some y ∧ w1.frozen? a = false ∧ Below w.heap.size w w1) (ho : w1.ownsRow w0.heap.size 5 1 v n cs) (ha : a.block < w0.heap.size) (hb : b.block < w0.heap.size) (hw : w.heap.size ≤ w0.heap.size) : w2.cell? a = some x ∧ w2.cell? b = some y ∧ w2.frozen? a = false ∧ Below w.heap.size w w2 :=
  ⟨hg.cell h.1 (fun e => by have := (ho.lt _ e.symm).1; omega), hg.cell h.2.1 (fun e => by have := (ho.lt _ e.symm).1; omega), (World.frozen?_of_block (hg.block a.block (World.block_lt_of_cell? w1 _ h.1) (fun e => by have := (ho.lt _ e.symm).1; omega))).trans h.2.2.1, h.2.2.2.grown hg h.2.2.2.size (fun k hk => Nat.le_trans hw (ho.lt k hk).1)⟩
set_option maxRecDepth 100000 in
set_option maxHeartbeats 8000000 in
theorem telnetMerges_true (v : Value) (xs : List (Ev × Value)) (w : World) (h : EvsX w v xs) : Calls Try.prog 5 #[v] w fun e w' => e = .returned (.bool true) ∧ Below w.heap.size w w' := by
  obtain ⟨i0, hi, hz0, hz1, hz2⟩ := info_parts info37
  obtain ⟨i1, hi1, hy0, hy1, hy2⟩ := info_parts info36
  obtain ⟨i5, hi5, hx0, hx1, hx2⟩ := info_parts info5
  obtain ⟨x, cap, rfl, hc⟩ := h
  have HC := hid hc
  have HCL := hid (cutL_succ xs)
  clear hc
  obtain ⟨n, hn⟩ : ∃ n, n = xs.length := ⟨_, rfl⟩
  rw [← hn]
  have HLN := hid hn
  clear hn
  go_enter Try.func5, Try.ntmps5
  go_wp2_with fail
  refine (awake_true w).mono ?_
  rintro e w1 ⟨rfl, hb1⟩
  have HB1 := hid hb1
  clear hb1
  go_wp2
  go_loopw [3, 4, 14] (fun m s i w' => ∃ (k : Nat) (ms ws : List (Ev × Value)), k ≤ n ∧ k ≤ 30 ∧ i = .int .i64 k ∧ Hid (TwoL w' w.heap.size m s ms ws) ∧ Hid (ms.map (·.1) = cutL xs k) ∧ Hid (ws.map (·.1) = mergeL (cutL xs k)) ∧ Hid (Below w.heap.size w w')) (fun _ _ i _ => n - (intOf i).toNat)
  case atStart => exact ⟨0, [], [], Nat.zero_le _, Nat.zero_le _, rfl, ⟨World.ownsRow_nil _ _ _ _, World.ownsRow_nil _ _ _ _, (fun x hx => by rcases hx with q | q <;> cases q), (fun k hk => by rcases hk with q | q <;> cases q), (fun k hk => by cases hk)⟩, rfl, rfl, HB1.out⟩
  case round =>
    obtain ⟨k, ms, ws, hk, hk3, rfl, HT, HMS, HWS, HBB⟩ := hrel
    by_cases hlt : k < n
    · have hkx : k < xs.length := by rw [← HLN.out]; exact hlt
      obtain ⟨g, off, rfl, h6, hrd⟩ := HC.out k hkx
      have HS := hid (HCL.out k hkx)
      have HE6 := hid ((six_of h6).below HBB.out)
      have HRD := hid (reads_below hrd HBB.out)
      have hki : (k : Int) < n := by omega
      clear h6 hrd
      generalize xs[k] = xk at HS HE6 HRD
      obtain ⟨⟨ek, ev, eo, ed, el, eb⟩, dv⟩ := xk
      obtain ⟨xd, nd, cd, hde⟩ := reads_any_slice HRD.out
      dsimp only at hde
      subst hde
      have z0 := HE6.out.c0
      have z1 := HE6.out.c1
      have z2 := HE6.out.c2
      have z3 := HE6.out.c3
      have z4 := HE6.out.c4
      have z5 := HE6.out.c5
      dsimp only at z0 z1 z2 z3 z4 z5
      by_cases h30 : k < 30
      · have h30i : ¬ (30 : Int) ≤ k := by omega
        have HCUT := hid (cut_any (.slice xd nd cd) 20 (by decide) ed (wr.alloc (.cells #[.int .i64 ek, .int .u8 ev, .int .u8 eo, .slice xd nd cd, .bool el, .bool eb] 36)) (reads_below HRD.out ((Below.refl _ _).alloc (Nat.le_refl _) _)))
        have HT2 := hid HT.out
        go_wp2_with fail
        refine HCUT.out.mono ?_
        rintro e w2 ⟨d', rfl, hr2, hb2, ho2, -⟩
        obtain ⟨xd', nd', cd', rfl⟩ := reads_any_slice hr2
        have hnd : nd' = (ed.take 20).length := by
          obtain ⟨_, _, q, _⟩ := reads_uni hr2
          injection q
        have HND := hid hnd
        clear hnd
        obtain ⟨xw, cw, hwe⟩ := row_slice HT.out.rowW
        subst hwe
        have hbk : w2.heap[wr.heap.size]? = some (.cells #[.int .i64 ek, .int .u8 ev, .int .u8 eo, .slice xd nd cd, .bool el, .bool eb] 36 (0, 0)) := (hb2.block wr.heap.size (by simp)).trans (heap_alloc_new wr _)
        have y0 := cell_of_row w2 wr.heap.size 0 _ 36 _ hbk
        have y1 := cell_of_row w2 wr.heap.size 1 _ 36 _ hbk
        have y2 := cell_of_row w2 wr.heap.size 2 _ 36 _ hbk
        have y3 := cell_of_row w2 wr.heap.size 3 _ 36 _ hbk
        have y4 := cell_of_row w2 wr.heap.size 4 _ 36 _ hbk
        have y5 := cell_of_row w2 wr.heap.size 5 _ 36 _ hbk
        have yf := frozen_of_row w2 wr.heap.size 3 _ 36 hbk
        simp only [List.getElem?_toArray, List.getElem?_cons_zero, List.getElem?_cons_succ] at y0 y1 y2 y3 y4 y5
        have hlw : wr.heap.size < w2.heap.size := (Array.getElem?_eq_some_iff.1 hbk).1
        have hsz : (w2.setCell ⟨wr.heap.size, 3, none⟩ (.slice xd' nd' cd')).heap.size = w2.heap.size := by simp [World.setCell]
        have hbk3 : (w2.setCell ⟨wr.heap.size, 3, none⟩ (.slice xd' nd' cd')).heap[wr.heap.size]? = some (.cells #[.int .i64 ek, .int .u8 ev, .int .u8 eo, .slice xd' nd' cd', .bool el, .bool eb] 36 (0, 0)) := Go.heap_setCell_same w2 wr.heap.size 3 _ 36 (.slice xd' nd' cd') hbk
        have HB3 : Hid (Below wr.heap.size wr (w2.setCell ⟨wr.heap.size, 3, none⟩ (.slice xd' nd' cd'))) := (((Below.refl _ _).alloc (Nat.le_refl _) _).trans (hb2.mono (by simp))).setCell (Nat.le_refl _) _
        have hnw : ∀ k ∈ blkV (.slice xd' nd' cd'), wr.heap.size + 1 ≤ k ∧ k < w2.heap.size := fun k hk => by have := ho2.lt k (mem_blkV.1 hk); simpa using this
        have HT3 := hid (HT.out.below HB3.out)
        have HD3 : Hid (DIn (w2.setCell ⟨wr.heap.size, 3, none⟩ (.slice xd' nd' cd')) u3 (.slice xw ws.length cw) (.slice xd' nd' cd') (ed.take 20)) := by
          refine ⟨reads_moved hr2 (Moved.set (S := [wr.heap.size]) (g := wr.heap.size) (by simp) 3 _) (fun k hk q => ?_), fun k hk => ⟨?_, fun q => ?_, fun q => ?_⟩⟩
          · rw [List.mem_singleton.1 q] at hk; have := (hnw _ hk).1; omega
          · rw [hsz]; exact (hnw k hk).2
          · have := own_lt HT.out.rowM k q; have := (hnw k hk).1; omega
          · have := own_lt HT.out.rowW k q; have := (hnw k hk).1; omega
        have HT4 := hid (HT3.out.below ((Below.refl _ _).alloc (Nat.le_refl _) (.cells #[.int .i64 ek, .int .u8 ev, .int .u8 eo, .slice xd' nd' cd', .bool el, .bool eb] 37)))
        have HD4 := hid (HD3.out.below ((Below.refl _ _).alloc (Nat.le_refl _) (.cells #[.int .i64 ek, .int .u8 ev, .int .u8 eo, .slice xd' nd' cd', .bool el, .bool eb] 37)))
        have HNS := hid (news_six (w2.setCell ⟨wr.heap.size, 3, none⟩ (.slice xd' nd' cd')) (.int .i64 ek) (.int .u8 ev) (.int .u8 eo) (.slice xd' nd' cd') (.bool el) (.bool eb) 37)
        rw [hsz] at HNS
        have HBK := hid ((Below.heap_alloc (w2.setCell ⟨wr.heap.size, 3, none⟩ (.slice xd' nd' cd')) (.cells #[.int .i64 ek, .int .u8 ev, .int .u8 eo, .slice xd' nd' cd', .bool el, .bool eb] 37) wr.heap.size (by rw [hsz]; exact hlw)).trans hbk3)
        have HML := hid (show ms.length ≤ 30 by have := congrArg List.length HMS.out; rw [List.length_map, cutL_len] at this; omega)
        have HWL := hid (show ws.length ≤ 1000 by have a := wt_length (ws.map (·.1)); rw [List.length_map] at a; rw [HWS.out] at a; have b := wt_merge (cutL xs k); have c := wt_cut xs k; omega)
        have HNB := hid (show some wr.heap.size ≠ u3.ownBlock from fun e => by have := own_lt HT.out.rowM _ (mem_blkV.2 e.symm); omega)
        have HNC := hid (show wr.heap.size ∉ blkV (.slice xw ws.length cw) from fun e => by have := own_lt HT.out.rowW _ e; omega)
        clear hr2 hb2 ho2 hbk hbk3 hnw z0 z1 z2 z3 z4 z5 HCUT HE6
        go_upto_region 11 with (first
          | (at_builtin; refine wpList_append_blk _ rfl _ _ 25 rfl 37 i0 _ 6 48 Try.underlying25 hi hz0 hz1 hz2 rfl (by decide) _ _ _ rfl HT4.out.rowM ⟨w2.heap.size, 0, none⟩ 1 1 (evC ⟨ek, ev, eo, ed.take 20, el, eb⟩ (.slice xd' nd' cd')) rfl rfl HNS.out (one_evC _ _ rfl) (by have := HML.out; unfold maxLen; omega) (by have := HML.out; omega) ?_; intro mv' w5 ho hg hn' hk'; have HO5 := hid ho; have HG5 := hid hg; have HK5 := hid hk'; clear ho hg hn' hk'))
        have hBs : w.heap.size ≤ ((w2.setCell ⟨wr.heap.size, 3, none⟩ (.slice xd' nd' cd')).alloc (.cells #[.int .i64 ek, .int .u8 ev, .int .u8 eo, .slice xd' nd' cd', .bool el, .bool eb] 37)).heap.size := by have := HBB.out.size; have := HB3.out.size; simp at this ⊢; omega
        have r := HT4.out.addM (e := ⟨ek, ev, eo, ed.take 20, el, eb⟩) HD4.out hBs HO5.out HG5.out HK5.out
        have HT5 := hid r.1
        have HD5 := hid r.2.1
        have HB5 := hid (((HBB.out.trans (HB3.out.mono HBB.out.size)).alloc (by have := HBB.out.size; have := HB3.out.size; omega) (.cells #[.int .i64 ek, .int .u8 ev, .int .u8 eo, .slice xd' nd' cd', .bool el, .bool eb] 37)).trans r.2.2)
        have hbk5 : w5.heap[wr.heap.size]? = some (.cells #[.int .i64 ek, .int .u8 ev, .int .u8 eo, .slice xd' nd' cd', .bool el, .bool eb] 36 (0, 0)) := (HG5.out.block wr.heap.size (by simp [hsz]; omega) HNB.out).trans HBK.out
        have HBK5 := hid hbk5
        have y0 := cell_of_row w5 wr.heap.size 0 _ 36 _ hbk5
        have y1 := cell_of_row w5 wr.heap.size 1 _ 36 _ hbk5
        have y2 := cell_of_row w5 wr.heap.size 2 _ 36 _ hbk5
        have y3 := cell_of_row w5 wr.heap.size 3 _ 36 _ hbk5
        have y4 := cell_of_row w5 wr.heap.size 4 _ 36 _ hbk5
        have y5 := cell_of_row w5 wr.heap.size 5 _ 36 _ hbk5
        simp only [List.getElem?_toArray, List.getElem?_cons_zero, List.getElem?_cons_succ] at y0 y1 y2 y3 y4 y5
        have hl5 : wr.heap.size < w5.heap.size := (Array.getElem?_eq_some_iff.1 hbk5).1
        have HMS5 : Hid ((ms ++ [((⟨ek, ev, eo, ed.take 20, el, eb⟩ : Ev), (Value.slice xd' nd' cd'))]).map (·.1) = cutL xs (k + 1)) := by
          show _ = _
          rw [map_snoc, HMS.out, HS.out]; rfl
        have HWS5 : Hid (mergeL (cutL xs (k + 1)) = mstep (ws.map (·.1)) ⟨ek, ev, eo, ed.take 20, el, eb⟩) := by
          show _ = _
          rw [HS.out, mergeL_snoc, HWS.out]; rfl
        clear r hbk5 hBs hsz HO5 HG5 HK5 HT4 HD4 HNS HBK HT3 HD3 HB3 HNB HT HBB HMS HS HRD yf
        by_cases hz : ek = 0
        · subst hz
          by_cases hl0 : nd' = 0
          · have e0 : ed.take 20 = [] := List.length_eq_zero_iff.1 (by rw [← HND.out]; exact hl0)
            have HW6 : Hid (ws.map (·.1) = mergeL (cutL xs (k + 1))) := by
              show _ = _
              rw [HWS5.out, mstep_dat (e := ⟨0, ev, eo, ed.take 20, el, eb⟩) _ rfl, e0, addD_nil]
            subst hl0
            clear e0 HND
            go_wp2
            go_roundw
            case rel => exact ⟨k + 1, _, ws, by omega, by omega, by go_num, HT5.out, HMS5.out, HW6.out, HB5.out⟩
            case measure => simp [intOf]; omega
          · have l1 : ((nd' : Int) == 0) = false := by simp; omega
            have hne : ed.take 20 ≠ [] := fun e => hl0 (by rw [HND.out, e]; rfl)
            clear hl0
            rcases List.eq_nil_or_concat ws with hws | ⟨ys, xl, hws⟩
            · subst hws
              have HN0 := hid hne
              clear hne HND
              have HT6 := hid (HT5.out.below ((Below.refl _ _).alloc (Nat.le_refl _) (.cells #[.int .i64 0, .int .u8 0, .int .u8 0, .slice xd' nd' cd', .bool false, .bool false] 36)))
              have HD6 := hid (HD5.out.below ((Below.refl _ _).alloc (Nat.le_refl _) (.cells #[.int .i64 0, .int .u8 0, .int .u8 0, .slice xd' nd' cd', .bool false, .bool false] 36)))
              have HNS6 := hid (news_six w5 (.int .i64 0) (.int .u8 0) (.int .u8 0) (.slice xd' nd' cd') (.bool false) (.bool false) 36)
              go_wp2_with (first
                | (at_builtin; refine wpList_append_blk _ rfl _ _ 28 rfl 36 i1 _ 6 48 Try.underlying28 hi1 hy0 hy1 hy2 rfl (by decide) _ _ _ rfl HT6.out.rowW ⟨w5.heap.size, 0, none⟩ 1 1 (evC (dat (ed.take 20)) (.slice xd' nd' cd')) rfl rfl HNS6.out (one_evC _ _ rfl) (by have := HWL.out; unfold maxLen; omega) (by have := HWL.out; omega) ?_; intro wv' w7 ho hg hn' hk'; have HO7 := hid ho; have HG7 := hid hg; have HK7 := hid hk'; clear ho hg hn' hk'))
              have r := HT6.out.addW (e := (dat (ed.take 20))) HD6.out (by have := HB5.out.size; simp; omega) HO7.out HG7.out HK7.out
              have HT7 := hid r.1
              have HB7 := hid ((HB5.out.alloc HB5.out.size _).trans r.2)
              clear r
              go_roundw
              case rel => exact ⟨k + 1, _, _, by omega, by omega, by go_num, HT7.out, HMS5.out, (by show _ = _; rw [map_snoc, HWS5.out]; rw [mstep_dat (e := ⟨0, ev, eo, ed.take 20, el, eb⟩) _ rfl]; exact (addD_empty HN0.out).symm), HB7.out⟩
              case measure => simp [intOf]; omega
            · have hws' : ws = ys ++ [xl] := by simpa using hws
              subst hws'
              clear hws
              have HN0 := hid hne
              clear hne HND
              have hll : (ys ++ [xl]).length = ys.length + 1 := by simp
              have hrw := HT5.out.rowW
              rcases hrw.2 with ⟨e1, e2⟩ | ⟨gw, cap', cur, e1, -⟩
              · exact absurd e2 (by simp)
              injection e1 with q1 q2 q3
              subst q1 q3
              have HC6 := hid (show ∀ j, j < 6 → w5.cell? ⟨gw, ys.length * 6 + j, none⟩ = (evC xl.1 xl.2)[j]? from fun j hj => by
                rw [World.ownsRow.cellAt hrw _ (by omega), cellsE_at _ ys.length (by omega) j hj]; simp)
              have HFZ := hid (World.ownsRow.frozenAt hrw (ys.length * 6 + 3))
              have x0 : w5.cell? ⟨gw, ys.length * 6, none⟩ = some (.int .i64 xl.1.kind) := HC6.out 0 (by omega)
              have x3 : w5.cell? ⟨gw, ys.length * 6 + 3, none⟩ = some xl.2 := HC6.out 3 (by omega)
              clear hrw q2 cur HC6
              have HLL := hid hll
              have hm : ys.length ≤ 1000 := by have := HWL.out; omega
              rw [hll]
              obtain ⟨m, hme⟩ : ∃ m, m = ys.length := ⟨_, rfl⟩
              rw [← hme] at x0 x3 hm HFZ ⊢
              have HME := hid hme
              clear hll hme
              by_cases hxk : xl.1.kind = 0
              · rw [hxk] at x0
                have HXK := hid hxk
                clear hxk
                have HDL := hid (HT5.out.data xl (.inr (by simp))).1
                have HDB := hid HD5.out.1
                obtain ⟨xz, nz, cz, hxe⟩ := reads_any_slice HDL.out
                have HXE := hid hxe
                rw [hxe] at x3
                have HDL' := HDL.out
                rw [hxe] at HDL'
                obtain ⟨ad, hxa⟩ : ∃ ad, xd' = some ad := by
                  rcases HDB.out.2 with ⟨_, q⟩ | ⟨ad, _, q, _⟩
                  · exact absurd q HN0.out
                  · injection q with q1; exact ⟨ad, q1⟩
                subst hxa
                have HSRC := hid (reads_src HDB.out)
                have hdl20 : (ed.take 20).length ≤ 20 := by rw [List.length_take]; omega
                have HXL := hid (show xl.1.data.length ≤ 1000 by
                  have a := wt_mem (l := (ys ++ [xl]).map (·.1)) (e := xl.1) (by simp)
                  rw [HWS.out] at a
                  have b := wt_merge (cutL xs k)
                  have c := wt_cut xs k
                  omega)
                have HCP := hid (fun W (hb : Below w5.heap.size w5 W) => copy_any (.slice xz nz cz) xl.1.data W (reads_below HDL' hb) (by have := HXL.out; omega))
                have HX : Hid (w5.drew.cell? ⟨gw, m * 6 + 3, none⟩ = some (.slice xz nz cz) ∧ w5.drew.cell? ⟨wr.heap.size, 3, none⟩ = some (.slice (some ad) nd' cd') ∧ w5.drew.frozen? ⟨gw, m * 6 + 3, none⟩ = false ∧ Below w5.heap.size w5 w5.drew) := ⟨x3, y3, HFZ.out, (Below.refl _ _).drew⟩
                have HGW5 := hid (World.block_lt_of_cell? w5.drew _ HX.out.1)
                have HWR5 := hid (World.block_lt_of_cell? w5.drew _ HX.out.2.1)
                have hmi : (0 : Int) < (m : Int) + 1 := by omega
                have hm0 : (0 : Int) ≤ (m : Int) := by omega
                have hml : (m : Int) < (m : Int) + 1 := by omega
                clear hxe HDL'
                go_upto_region 17 with fail
                clear x0 x3 y0 y1 y2 y3 y4 y5 l1
                have hwrp : IntKind.i64.wrap ((m : Int) + 1 - 1) = (m : Int) := by rw [show (m : Int) + 1 - 1 = m by omega, IntKind.wrap_i64]; omega
                have hwrp2 : IntKind.i64.wrap (m : Int) = (m : Int) := by rw [IntKind.wrap_i64]; omega
                have HGN := hid (show gw ≠ wr.heap.size from fun e => HNC.out (by simp [blkV, Value.ownBlock, e]))
                refine wp_region_held_drew (S := (fun w' => w'.cell? ⟨wr.heap.size, 3, none⟩ = some (.slice (some ad) nd' cd'))) (by kernel_rfl) ?_ (fun hHeld => ?_)
                · exact HX.out.2.1
                refine takeD (i := 0) (v := ?_) 62 rfl rfl (by kernel_rfl) (by kernel_rfl) (by kernel_rfl) (fun _ _ _ h => h) (by assumption) (Or.inl ⟨by rfl, ?_⟩) ?_
                rotate_left
                · intro w hSw
                  (try dsimp only at hSw)
                  go_simp
                  try with_reducible rfl
                simp only [List.setIfInBounds_toArray, List.set_cons_zero, List.set_cons_succ]
                refine takeD (i := 1) (v := ?_) 63 rfl rfl (by kernel_rfl) (by kernel_rfl) (by kernel_rfl) (fun _ _ _ h => h) (by assumption) (Or.inl ⟨by rfl, ?_⟩) ?_
                rotate_left
                · intro w hSw
                  (try dsimp only at hSw)
                  go_simp
                  try with_reducible rfl
                simp only [List.setIfInBounds_toArray, List.set_cons_zero, List.set_cons_succ]
                refine takeD (i := 2) (v := ?_) 64 rfl rfl (by kernel_rfl) (by kernel_rfl) (by kernel_rfl) (fun _ _ _ h => h) (by assumption) (Or.inl ⟨by rfl, ?_⟩) ?_
                rotate_left
                · intro w hSw
                  (try dsimp only at hSw)
                  go_simp
                  try with_reducible rfl
                simp only [List.setIfInBounds_toArray, List.set_cons_zero, List.set_cons_succ]
                refine takeD (i := 3) (v := ?_) 65 rfl rfl (by kernel_rfl) (by kernel_rfl) (by kernel_rfl) (fun _ _ _ h => h) (by assumption) (Or.inl ⟨by rfl, ?_⟩) ?_
                rotate_left
                · intro w hSw
                  (try dsimp only at hSw)
                  go_simp
                  try with_reducible rfl
                simp only [List.setIfInBounds_toArray, List.set_cons_zero, List.set_cons_succ]
                refine takeD (i := 4) (v := ?_) 66 rfl rfl (by kernel_rfl) (by kernel_rfl) (by kernel_rfl) (fun _ _ _ h => h) (by assumption) (Or.inl ⟨by rfl, ?_⟩) ?_
                rotate_left
                · intro w hSw
                  (try dsimp only at hSw)
                  go_simp
                  try with_reducible rfl
                simp only [List.setIfInBounds_toArray, List.set_cons_zero, List.set_cons_succ]
                refine takeD (i := 5) (v := ?_) 67 rfl rfl (by kernel_rfl) (by kernel_rfl) (by kernel_rfl) (fun _ _ _ h => h) (by assumption) (Or.inl ⟨by rfl, ?_⟩) ?_
                rotate_left
                · intro w hSw
                  (try dsimp only at hSw)
                  go_simp
                  try with_reducible rfl
                simp only [List.setIfInBounds_toArray, List.set_cons_zero, List.set_cons_succ]
                refine takeD (i := 6) (v := ?_) 68 rfl rfl (by kernel_rfl) (by kernel_rfl) (by kernel_rfl) (fun _ _ _ h => h) (by assumption) (Or.inl ⟨by rfl, ?_⟩) ?_
                rotate_left
                · intro w hSw
                  (try dsimp only at hSw)
                  go_simp
                  try with_reducible rfl
                simp only [List.setIfInBounds_toArray, List.set_cons_zero, List.set_cons_succ]
                refine takeD (i := 7) (v := ?_) 69 rfl rfl (by kernel_rfl) (by kernel_rfl) (by kernel_rfl) (fun _ _ _ h => h) (by assumption) (Or.inl ⟨by rfl, ?_⟩) ?_
                rotate_left
                · intro w hSw
                  (try dsimp only at hSw)
                  go_simp
                  try with_reducible rfl
                simp only [List.setIfInBounds_toArray, List.set_cons_zero, List.set_cons_succ]
                refine takeD (i := 10) (v := ?_) 72 rfl rfl (by kernel_rfl) (by kernel_rfl) (by kernel_rfl) (fun _ _ _ h => h) (by assumption) (Or.inl ⟨by rfl, ?_⟩) ?_
                rotate_left
                · intro w hSw
                  (try dsimp only at hSw)
                  go_simp
                  try with_reducible rfl
                simp only [List.setIfInBounds_toArray, List.set_cons_zero, List.set_cons_succ]
                refine takeD (i := 11) (v := ?_) 73 rfl rfl (by kernel_rfl) (by kernel_rfl) (by kernel_rfl) (fun _ _ _ h => h) (by assumption) (Or.inl ⟨by rfl, ?_⟩) ?_
                rotate_left
                · intro w hSw
                  (try dsimp only at hSw)
                  go_simp
                  try with_reducible rfl
                simp only [List.setIfInBounds_toArray, List.set_cons_zero, List.set_cons_succ]
                have x3d := HX.out.1
                refine wpAnyH_ready (rs := [8]) (by kernel_rfl) (by simp) ?_
                refine AllReadyH.cons (by simp only [List.getElem?_toArray, List.getElem?_cons_succ, List.getElem?_cons_zero]; rfl) (fun K hK => ?_) AllReadyH.nil
                go_simp
                refine hK.out _ _ ?_ (fun hHeldN => ?_)
                · exact hHeld
                clear hK K hHeld
                have hHeld := hHeldN
                clear hHeldN
                (try simp only [Act.put, List.setIfInBounds_toArray, List.set_cons_zero, List.set_cons_succ])
                clear x3d
                refine wpAnyH_ready (rs := [9]) (by kernel_rfl) (by simp) ?_
                refine AllReadyH.cons (by simp only [List.getElem?_toArray, List.getElem?_cons_succ, List.getElem?_cons_zero]; rfl) (fun K hK => ?_) AllReadyH.nil
                go_simp
                refine (HCP.out _ (Below.refl _ _).drew).mono ?_
                rintro e w6 ⟨cv, rfl, hr6, hb6, ho6, -⟩
                have HOW := hid ho6
                have HB6 := hid hb6
                clear hr6 ho6 hb6
                (try go_wp2_with fail)
                refine hK.out _ _ ?_ (fun hHeldN => ?_)
                · exact keepc HB6.out hHeld
                clear hK K hHeld
                have hHeld := hHeldN
                clear hHeldN
                (try simp only [Act.put, List.setIfInBounds_toArray, List.set_cons_zero, List.set_cons_succ])
                refine wpAnyH_ready (rs := [12]) (by kernel_rfl) (by simp) ?_
                refine AllReadyH.cons (by simp only [List.getElem?_toArray, List.getElem?_cons_succ, List.getElem?_cons_zero]; rfl) (fun K hK => ?_) AllReadyH.nil
                refine step_append_lies _ (by rfl) _ _ _ (by rfl) w5.drew.heap.size 5 i5 _ 1 1 Try.underlying22 hi5 hx0 hx1 hx2 rfl (by decide) _ _ _ (by rfl) HOW.out ad nd' cd' ((ed.take 20).map (Value.int .u8)) (by rfl) (by rw [List.length_map, ← HSRC.out.1]; omega) (reads_src (reads_below HDB.out ((Below.refl _ _).drew.trans HB6.out))).2 (ints_oneCell .u8 _) (by have := HSRC.out.1; have := List.length_pos_iff.2 HN0.out; omega) (by have := HXL.out; have := HSRC.out.1; unfold maxLen; omega) (by have := HXL.out; have := HSRC.out.1; omega) HB6.out.size _ rfl ?_
                intro g6 cap6 w7 hown7 hgrow7 hat7 hlt7
                have HOW7 := hid hown7
                have HGR7 := hid hgrow7
                clear hown7 hgrow7 hat7 hlt7
                refine hK.out _ _ ?_ (fun hHeldN => ?_)
                · exact HGR7.out.cell hHeld (fun e => absurd (show w5.heap.size ≤ wr.heap.size from (HOW.out.lt _ e.symm).1) (by omega))
                clear hK K hHeld
                have hHeld := hHeldN
                clear hHeldN
                (try simp only [Act.put, List.setIfInBounds_toArray, List.set_cons_zero, List.set_cons_succ])
                refine takeD (i := 13) (v := ?_) 75 rfl rfl (by kernel_rfl) (by kernel_rfl) (by kernel_rfl) (fun _ _ _ h => h) (by assumption) (Or.inl ⟨by rfl, ?_⟩) ?_
                rotate_left
                · intro w hSw
                  (try dsimp only at hSw)
                  go_simp
                  try with_reducible rfl
                simp only [List.setIfInBounds_toArray, List.set_cons_zero, List.set_cons_succ]
                refine takeD (i := 14) (v := ?_) 76 rfl rfl (by kernel_rfl) (by kernel_rfl) (by kernel_rfl) (fun _ _ _ h => h) (by assumption) (Or.inl ⟨by rfl, ?_⟩) ?_
                rotate_left
                · intro w hSw
                  (try dsimp only at hSw)
                  go_simp
                  try with_reducible rfl
                simp only [List.setIfInBounds_toArray, List.set_cons_zero, List.set_cons_succ]
                have HB7 := hid (show Below w5.heap.size w5 w7 from ((Below.refl _ _).drew.trans HB6.out).grown HGR7.out HB6.out.size (fun k hk => (HOW.out.lt k hk).1))
                have x3 : w7.cell? ⟨gw, m * 6 + 3, none⟩ = some (.slice xz nz cz) := keepc HB7.out HX.out.1
                have f3 : w7.frozen? ⟨gw, m * 6 + 3, none⟩ = false := (HB7.out.frozen (p := ⟨gw, m * 6 + 3, none⟩) HGW5.out).trans HX.out.2.2.1
                refine wpAnyH_ready (rs := [15]) (by kernel_rfl) (by simp) ?_
                refine AllReadyH.cons (by simp only [List.getElem?_toArray, List.getElem?_cons_succ, List.getElem?_cons_zero]; rfl) (fun K hK => ?_) AllReadyH.nil
                go_simp
                refine hK.out _ _ ?_ (fun hHeldN => ?_)
                · exact (World.cell?_of_block (Go.heap_setCell_other w7 _ wr.heap.size _ (fun e => HGN.out e.symm))).trans hHeld
                clear hK K hHeld
                have hHeld := hHeldN
                clear hHeldN
                (try simp only [Act.put, List.setIfInBounds_toArray, List.set_cons_zero, List.set_cons_succ])
                refine wpAnyH_done (by kernel_rfl) ?_ _
                go_wp2
                go_roundw
                case rel =>
                  have hd7 : Reads w7 (.slice (some ⟨g6, 0, none⟩) (xl.1.data.length + nd') cap6) (xl.1.data ++ ed.take 20) := by
                    have e1 : xl.1.data.length + nd' = (xl.1.data ++ ed.take 20).length := by rw [List.length_append, HSRC.out.1]
                    have q := HOW7.out
                    rw [← List.map_append, e1] at q
                    rw [e1]
                    refine OwnB.reads ⟨fun y hy => ?_, q.mono (Nat.zero_le _)⟩
                    rcases List.mem_append.1 hy with r | r
                    · exact HDL.out.1 y r
                    · exact HDB.out.1 y r
                  have r := HT5.out.setW (p := ed.take 20) HLL.out HB7.out HB5.out.size hd7 (fun k hk => HOW7.out.lt k (mem_blkV.1 hk))
                  rw [HLL.out, ← HME.out] at r
                  refine ⟨k + 1, _, _, by omega, by omega, by go_num, r.1, HMS5.out, ?_, HB5.out.trans r.2⟩
                  show _ = _
                  rw [HWS5.out, mstep_dat (e := ⟨0, ev, eo, ed.take 20, el, eb⟩) _ rfl, show (ys ++ [xl]).map (·.1) = ys.map (·.1) ++ [xl.1] by simp, addD_snoc _ _ HN0.out, if_pos HXK.out]
                  simp
                case measure => simp [intOf]; omega
              · have l2 : (xl.1.kind == 0) = false := by simpa using hxk
                have HXK := hid hxk
                clear hxk x3
                generalize hgk : xl.1.kind = kx at x0 l2
                clear hgk
                have HT5' := HT5.out
                rw [HLL.out, ← HME.out] at HT5'
                clear HT5
                have HT5 := hid HT5'
                clear HT5'
                have HT6 := hid (HT5.out.below ((Below.refl _ _).alloc (Nat.le_refl _) (.cells #[.int .i64 0, .int .u8 0, .int .u8 0, .slice xd' nd' cd', .bool false, .bool false] 36)))
                have HD6 := hid (DIn.below (by have q := HD5.out; rw [HLL.out, ← HME.out] at q; exact q) ((Below.refl _ _).alloc (Nat.le_refl _) (.cells #[.int .i64 0, .int .u8 0, .int .u8 0, .slice xd' nd' cd', .bool false, .bool false] 36)))
                have HNS6 := hid (news_six w5 (.int .i64 0) (.int .u8 0) (.int .u8 0) (.slice xd' nd' cd') (.bool false) (.bool false) 36)
                go_wp2_with (first
                  | (at_builtin; refine wpList_append_blk _ rfl _ _ 28 rfl 36 i1 _ 6 48 Try.underlying28 hi1 hy0 hy1 hy2 rfl (by decide) _ _ _ rfl (by have q := HT6.out.rowW; rw [HLL.out, ← HME.out] at q; exact q) ⟨w5.heap.size, 0, none⟩ 1 1 (evC (dat (ed.take 20)) (.slice xd' nd' cd')) rfl rfl HNS6.out (one_evC _ _ rfl) (by have := HWL.out; unfold maxLen; omega) (by have := HWL.out; omega) ?_; intro wv' w7 ho hg hn' hk'; have HO7 := hid ho; have HG7 := hid hg; have HK7 := hid hk'; clear ho hg hn' hk'))
                have r := HT6.out.addW (e := (dat (ed.take 20))) HD6.out (by have := HB5.out.size; simp; omega) (by rw [HLL.out, ← HME.out]; exact HO7.out) HG7.out HK7.out
                have HT7 := hid r.1
                have HB7 := hid ((HB5.out.alloc HB5.out.size _).trans r.2)
                clear r
                go_roundw
                case rel => exact ⟨k + 1, _, _, by omega, by omega, by go_num, HT7.out, HMS5.out, (by show _ = _; rw [map_snoc, HWS5.out]; rw [mstep_dat (e := ⟨0, ev, eo, ed.take 20, el, eb⟩) _ rfl, show (ys ++ [xl]).map (·.1) = ys.map (·.1) ++ [xl.1] by simp]; exact ((addD_snoc _ _ HN0.out).trans (if_neg HXK.out)).symm), HB7.out⟩
                case measure => simp [intOf]; omega
        · have kz : (ek != 0) = true := by simpa using hz
          have HZ := hid hz
          clear hz
          have HT6 := hid (HT5.out.below ((Below.refl _ _).alloc (Nat.le_refl _) (.cells #[.int .i64 ek, .int .u8 ev, .int .u8 eo, .slice xd' nd' cd', .bool el, .bool eb] 36)))
          have HD6 := hid (HD5.out.below ((Below.refl _ _).alloc (Nat.le_refl _) (.cells #[.int .i64 ek, .int .u8 ev, .int .u8 eo, .slice xd' nd' cd', .bool el, .bool eb] 36)))
          have HNS6 := hid (news_six w5 (.int .i64 ek) (.int .u8 ev) (.int .u8 eo) (.slice xd' nd' cd') (.bool el) (.bool eb) 36)
          go_wp2_with (first
            | (at_builtin; refine wpList_append_blk _ rfl _ _ 28 rfl 36 i1 _ 6 48 Try.underlying28 hi1 hy0 hy1 hy2 rfl (by decide) _ _ _ rfl HT6.out.rowW ⟨w5.heap.size, 0, none⟩ 1 1 (evC ⟨ek, ev, eo, ed.take 20, el, eb⟩ (.slice xd' nd' cd')) rfl rfl HNS6.out (one_evC _ _ rfl) (by have := HWL.out; unfold maxLen; omega) (by have := HWL.out; omega) ?_; intro wv' w7 ho hg hn' hk'; have HO7 := hid ho; have HG7 := hid hg; have HK7 := hid hk'; clear ho hg hn' hk'))
          have r := HT6.out.addW (e := ⟨ek, ev, eo, ed.take 20, el, eb⟩) HD6.out (by have := HB5.out.size; simp; omega) HO7.out HG7.out HK7.out
          have HT7 := hid r.1
          have HB7 := hid ((HB5.out.alloc HB5.out.size _).trans r.2)
          clear r
          go_roundw
          case rel => exact ⟨k + 1, _, _, by omega, by omega, by go_num, HT7.out, HMS5.out, (by show _ = _; rw [map_snoc, HWS5.out]; exact (mstep_ev _ HZ.out).symm), HB7.out⟩
          case measure => simp [intOf]; omega
      · have h30i : (30 : Int) ≤ k := by omega
        have HT0 := HT.out.below ((Below.refl wr.heap.size wr).alloc (Nat.le_refl _) (.cells #[.int .i64 ek, .int .u8 ev, .int .u8 eo, .slice xd nd cd, .bool el, .bool eb] 36))
        have HB0 := HBB.out.alloc HBB.out.size (.cells #[.int .i64 ek, .int .u8 ev, .int .u8 eo, .slice xd nd cd, .bool el, .bool eb] 36)
        clear HT HBB
        have HT := hid HT0
        have HBB := hid HB0
        clear HT0 HB0
        have HLM := hid (show ms.length ≤ 100000 by have := congrArg List.length HMS.out; rw [List.length_map, cutL_len] at this; omega)
        have HWB := hid (show wt (ms.map (·.1)) ≤ 100000 by rw [HMS.out]; have := wt_cut xs k; omega)
        have HLW := hid (show ws.length ≤ 100000 by have a := wt_length (ws.map (·.1)); rw [List.length_map] at a; rw [HWS.out] at a; have b := wt_merge (cutL xs k); have c := wt_cut xs k; omega)
        have HEM := hid (row_evs HT.out.rowM (fun x hx => (HT.out.data x (.inl hx)).1))
        have HEW := hid (row_evs HT.out.rowW (fun x hx => (HT.out.data x (.inr hx)).1))
        go_wp2_with fail
        refine (back_any _ ms _ HEM.out HLM.out).mono ?_
        rintro e f1 ⟨u1, rfl, hv, hb⟩
        have HU := hid hv
        have HEM1 := hid (evsX_below HEM.out hb)
        have HEW1 := hid (evsX_below HEW.out hb)
        have HBF := hid (below_t HBB.out hb)
        clear hv hb HEM HEW
        go_wp2_with fail
        refine (merge_any _ ms f1 HEM1.out HWB.out).mono ?_
        rintro e f2 ⟨gv, gx, rfl, ho, hgx, hb⟩
        have HG := hid ho.evsX
        have HGX := hid hgx
        have HEM2 := hid (evsX_below HEM1.out hb)
        have HEW2 := hid (evsX_below HEW1.out hb)
        have HU2 := hid (evsX_below HU.out hb)
        have HBF2 := hid (below_t HBF.out hb)
        have HGW := hid (show wt (gx.map (·.1)) ≤ 100000 by rw [hgx]; exact Nat.le_trans (wt_merge _) HWB.out)
        have HGL := hid (show gx.length ≤ 100000 by have a := wt_length (gx.map (·.1)); rw [List.length_map] at a; exact Nat.le_trans a HGW.out)
        have HGE := hid (show gx.map (·.1) = ws.map (·.1) by rw [hgx, HWS.out, HMS.out])
        clear ho hgx hb HEM1 HEW1 HU HBF
        go_wp2_with fail
        refine (back_any gv gx f2 HG.out HGL.out).mono ?_
        rintro e f3 ⟨gb, rfl, hv, hb⟩
        have HGB := hid hv
        have HG3 := hid (evsX_below HG.out hb)
        have HEM3 := hid (evsX_below HEM2.out hb)
        have HEW3 := hid (evsX_below HEW2.out hb)
        have HU3 := hid (evsX_below HU2.out hb)
        have HBF3 := hid (below_t HBF2.out hb)
        clear hv hb HG HEM2 HEW2 HU2 HBF2
        go_wp2_with fail
        refine (sameE_true gb _ gx ws f3 HGB.out HEW3.out HGE.out HGL.out).mono ?_
        rintro e f4 ⟨rfl, hb⟩
        have HG4 := hid (evsX_below HG3.out hb)
        have HEM4 := hid (evsX_below HEM3.out hb)
        have HEW4 := hid (evsX_below HEW3.out hb)
        have HU4 := hid (evsX_below HU3.out hb)
        have HBF4 := hid (below_t HBF3.out hb)
        clear hb HG3 HEM3 HEW3 HU3 HBF3 HGB
        go_wp2_with fail
        refine (merge_any gv gx f4 HG4.out HGW.out).mono ?_
        rintro e f5 ⟨hv5, hx5, rfl, ho, hgx, hb⟩
        have HH5 := hid ho.evsX
        have HHE := hid (show hx5.map (·.1) = ws.map (·.1) by rw [hgx, HGX.out, merge_twice, HWS.out, HMS.out])
        have HEM5 := hid (evsX_below HEM4.out hb)
        have HEW5 := hid (evsX_below HEW4.out hb)
        have HU5 := hid (evsX_below HU4.out hb)
        have HBF5 := hid (below_t HBF4.out hb)
        have HHL := hid (show hx5.length ≤ 100000 by have a := congrArg List.length HHE.out; rw [List.length_map, List.length_map] at a; rw [a]; exact HLW.out)
        clear ho hgx hb HG4 HEM4 HEW4 HU4 HBF4
        go_wp2_with fail
        refine (back_any hv5 hx5 f5 HH5.out HHL.out).mono ?_
        rintro e f6 ⟨hb6, rfl, hv, hb⟩
        have HH6 := hid hv
        have HEM6 := hid (evsX_below HEM5.out hb)
        have HEW6 := hid (evsX_below HEW5.out hb)
        have HU6 := hid (evsX_below HU5.out hb)
        have HBF6 := hid (below_t HBF5.out hb)
        clear hv hb HH5 HEM5 HEW5 HU5 HBF5
        go_wp2_with fail
        refine (sameE_true hb6 _ hx5 ws f6 HH6.out HEW6.out HHE.out HHL.out).mono ?_
        rintro e f7 ⟨rfl, hb⟩
        have HEM7 := hid (evsX_below HEM6.out hb)
        have HU7 := hid (evsX_below HU6.out hb)
        have HBF7 := hid (below_t HBF6.out hb)
        clear hb HEM6 HEW6 HU6 HBF6 HH6
        go_wp2_with fail
        refine (back_any _ ms f7 HEM7.out HLM.out).mono ?_
        rintro e f8 ⟨mb, rfl, hv, hb⟩
        have HMB := hid hv
        have HU8 := hid (evsX_below HU7.out hb)
        have HBF8 := hid (below_t HBF7.out hb)
        clear hv hb HEM7 HU7 HBF7
        go_wp2_with fail
        refine (sameE_true mb u1 ms ms f8 HMB.out HU8.out rfl HLM.out).mono ?_
        rintro e f9 ⟨rfl, hb⟩
        have HBF9 := hid (below_t HBF8.out hb)
        clear hb
        go_wp2
        go_ret
        exact ⟨rfl, HBF9.out⟩
    · have HLM := hid (show ms.length ≤ 100000 by have := congrArg List.length HMS.out; rw [List.length_map, cutL_len] at this; omega)
      have HWB := hid (show wt (ms.map (·.1)) ≤ 100000 by rw [HMS.out]; have := wt_cut xs k; omega)
      have HLW := hid (show ws.length ≤ 100000 by have a := wt_length (ws.map (·.1)); rw [List.length_map] at a; rw [HWS.out] at a; have b := wt_merge (cutL xs k); have c := wt_cut xs k; omega)
      have HEM := hid (row_evs HT.out.rowM (fun x hx => (HT.out.data x (.inl hx)).1))
      have HEW := hid (row_evs HT.out.rowW (fun x hx => (HT.out.data x (.inr hx)).1))
      go_wp2_with fail
      refine (back_any _ ms _ HEM.out HLM.out).mono ?_
      rintro e f1 ⟨u1, rfl, hv, hb⟩
      have HU := hid hv
      have HEM1 := hid (evsX_below HEM.out hb)
      have HEW1 := hid (evsX_below HEW.out hb)
      have HBF := hid (below_t HBB.out hb)
      clear hv hb HEM HEW
      go_wp2_with fail
      refine (merge_any _ ms f1 HEM1.out HWB.out).mono ?_
      rintro e f2 ⟨gv, gx, rfl, ho, hgx, hb⟩
      have HG := hid ho.evsX
      have HGX := hid hgx
      have HEM2 := hid (evsX_below HEM1.out hb)
      have HEW2 := hid (evsX_below HEW1.out hb)
      have HU2 := hid (evsX_below HU.out hb)
      have HBF2 := hid (below_t HBF.out hb)
      have HGW := hid (show wt (gx.map (·.1)) ≤ 100000 by rw [hgx]; exact Nat.le_trans (wt_merge _) HWB.out)
      have HGL := hid (show gx.length ≤ 100000 by have a := wt_length (gx.map (·.1)); rw [List.length_map] at a; exact Nat.le_trans a HGW.out)
      have HGE := hid (show gx.map (·.1) = ws.map (·.1) by rw [hgx, HWS.out, HMS.out])
      clear ho hgx hb HEM1 HEW1 HU HBF
      go_wp2_with fail
      refine (back_any gv gx f2 HG.out HGL.out).mono ?_
      rintro e f3 ⟨gb, rfl, hv, hb⟩
      have HGB := hid hv
      have HG3 := hid (evsX_below HG.out hb)
      have HEM3 := hid (evsX_below HEM2.out hb)
      have HEW3 := hid (evsX_below HEW2.out hb)
      have HU3 := hid (evsX_below HU2.out hb)
      have HBF3 := hid (below_t HBF2.out hb)
      clear hv hb HG HEM2 HEW2 HU2 HBF2
      go_wp2_with fail
      refine (sameE_true gb _ gx ws f3 HGB.out HEW3.out HGE.out HGL.out).mono ?_
      rintro e f4 ⟨rfl, hb⟩
      have HG4 := hid (evsX_below HG3.out hb)
      have HEM4 := hid (evsX_below HEM3.out hb)
      have HEW4 := hid (evsX_below HEW3.out hb)
      have HU4 := hid (evsX_below HU3.out hb)
      have HBF4 := hid (below_t HBF3.out hb)
      clear hb HG3 HEM3 HEW3 HU3 HBF3 HGB
      go_wp2_with fail
      refine (merge_any gv gx f4 HG4.out HGW.out).mono ?_
      rintro e f5 ⟨hv5, hx5, rfl, ho, hgx, hb⟩
      have HH5 := hid ho.evsX
      have HHE := hid (show hx5.map (·.1) = ws.map (·.1) by rw [hgx, HGX.out, merge_twice, HWS.out, HMS.out])
      have HEM5 := hid (evsX_below HEM4.out hb)
      have HEW5 := hid (evsX_below HEW4.out hb)
      have HU5 := hid (evsX_below HU4.out hb)
      have HBF5 := hid (below_t HBF4.out hb)
      have HHL := hid (show hx5.length ≤ 100000 by have a := congrArg List.length HHE.out; rw [List.length_map, List.length_map] at a; rw [a]; exact HLW.out)
      clear ho hgx hb HG4 HEM4 HEW4 HU4 HBF4
      go_wp2_with fail
      refine (back_any hv5 hx5 f5 HH5.out HHL.out).mono ?_
      rintro e f6 ⟨hb6, rfl, hv, hb⟩
      have HH6 := hid hv
      have HEM6 := hid (evsX_below HEM5.out hb)
      have HEW6 := hid (evsX_below HEW5.out hb)
      have HU6 := hid (evsX_below HU5.out hb)
      have HBF6 := hid (below_t HBF5.out hb)
      clear hv hb HH5 HEM5 HEW5 HU5 HBF5
      go_wp2_with fail
      refine (sameE_true hb6 _ hx5 ws f6 HH6.out HEW6.out HHE.out HHL.out).mono ?_
      rintro e f7 ⟨rfl, hb⟩
      have HEM7 := hid (evsX_below HEM6.out hb)
      have HU7 := hid (evsX_below HU6.out hb)
      have HBF7 := hid (below_t HBF6.out hb)
      clear hb HEM6 HEW6 HU6 HBF6 HH6
      go_wp2_with fail
      refine (back_any _ ms f7 HEM7.out HLM.out).mono ?_
      rintro e f8 ⟨mb, rfl, hv, hb⟩
      have HMB := hid hv
      have HU8 := hid (evsX_below HU7.out hb)
      have HBF8 := hid (below_t HBF7.out hb)
      clear hv hb HEM7 HU7 HBF7
      go_wp2_with fail
      refine (sameE_true mb u1 ms ms f8 HMB.out HU8.out rfl HLM.out).mono ?_
      rintro e f9 ⟨rfl, hb⟩
      have HBF9 := hid (below_t HBF8.out hb)
      clear hb
      go_wp2
      go_ret
      exact ⟨rfl, HBF9.out⟩
end Go.Proofs.Ytdbjjieoohfckaa
