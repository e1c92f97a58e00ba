/-
  Events that are read; Merge, back.
-/
import Derived.Test.YtdbjjieoohfckaaDoorFi
namespace Go.Proofs.YtdbjjieoohfckaaDoor
open Go.RowKit Go.Lib

/-- A slice of events, with their data's slices. -/
def EvsX (w : World) (v : Value) (xs : List (Ev × Value)) : Prop :=
  ∃ (x : Option Addr) (cap : Nat), v = .slice x xs.length cap ∧ ∀ i (h : i < xs.length), ∃ g off, x = some ⟨g, off, none⟩ ∧ (∀ j, j < 6 → w.cell? ⟨g, off + i * 6 + j, none⟩ = (evC xs[i].1 xs[i].2)[j]?) ∧ Reads w xs[i].2 xs[i].1.data
theorem row_evs {w : World} {B : Nat} {t : TypeId} {v : Value} {xs : List (Ev × Value)} (h : w.ownsRow B t 6 v xs.length (cellsE xs)) (hd : ∀ x ∈ xs, Reads w x.2 x.1.data) : EvsX w v xs := by
  rcases h.2 with ⟨rfl, e⟩ | ⟨g, cap, cur, rfl, hg, hh, h1, h2, h3, h4⟩
  · have hx : xs = [] := List.length_eq_zero_iff.1 e
    subst hx
    exact ⟨none, 0, rfl, fun i hi => absurd hi (Nat.not_lt_zero i)⟩
  · refine ⟨some ⟨g, 0, none⟩, cap, rfl, fun i hi => ⟨g, 0, rfl, fun j hj => ?_, hd _ (List.getElem_mem hi)⟩⟩
    rw [Nat.zero_add, World.ownsRow.cellAt h _ (by omega), cellsE_at xs i hi j hj]
theorem OwnL.evsX {w : World} {v : Value} {xs : List (Ev × Value)} (h : OwnL w v xs) : EvsX w v xs := row_evs h.row (fun x hx => (h.data x hx).reads)
theorem evsX_below {w w' : World} {v : Value} {xs : List (Ev × Value)} (h : EvsX w v xs) (hb : Below w.heap.size w w') : EvsX w' v xs := by
  obtain ⟨x, cap, rfl, h⟩ := h
  refine ⟨x, cap, rfl, fun i hi => ?_⟩
  obtain ⟨g, off, e, hc, hr⟩ := h i hi
  refine ⟨g, off, e, fun j hj => ?_, reads_below hr hb⟩
  have q := hc j hj
  rw [← q]
  have hs : (evC xs[i].1 xs[i].2)[j]? = some ((evC xs[i].1 xs[i].2)[j]'(by simpa [evC] using hj)) := List.getElem?_eq_getElem _
  exact hb.cell (World.block_lt_of_cell? w ⟨g, off + i * 6 + j, none⟩ (q.trans hs))
/-- One event's cells, in the walk's spelling. -/
structure Six (w : World) (g b : Nat) (e : Ev) (d : Value) : Prop where
  c0 : w.cell? ⟨g, b, none⟩ = some (.int .i64 e.kind)
  c1 : w.cell? ⟨g, b + 1, none⟩ = some (.int .u8 e.verb)
  c2 : w.cell? ⟨g, b + 2, none⟩ = some (.int .u8 e.opt)
  c3 : w.cell? ⟨g, b + 3, none⟩ = some d
  c4 : w.cell? ⟨g, b + 4, none⟩ = some (.bool e.long)
  c5 : w.cell? ⟨g, b + 5, none⟩ = some (.bool e.broken)
theorem six_of {w : World} {g b : Nat} {e : Ev} {d : Value} (h : ∀ j, j < 6 → w.cell? ⟨g, b + j, none⟩ = (evC e d)[j]?) : Six w g b e d := ⟨h 0 (by omega), h 1 (by omega), h 2 (by omega), h 3 (by omega), h 4 (by omega), h 5 (by omega)⟩
theorem keepc {w1 w2 : World} {a : Addr} {v : Value} (hb : Below w1.heap.size w1 w2) (h : w1.cell? a = some v) : w2.cell? a = some v := (hb.cell (World.block_lt_of_cell? w1 _ h)).trans h
theorem Six.below {w w' : World} {g b : Nat} {e : Ev} {d : Value} (h : Six w g b e d) (hb : Below w.heap.size w w') : Six w' g b e d := ⟨keepc hb h.c0, keepc hb h.c1, keepc hb h.c2, keepc hb h.c3, keepc hb h.c4, keepc hb h.c5⟩
theorem Six.blt {w : World} {g b : Nat} {e : Ev} {d : Value} (h : Six w g b e d) : g < w.heap.size := World.block_lt_of_cell? w _ h.c0
theorem below_t {a b c : World} (h : Below a.heap.size a b) (k : Below b.heap.size b c) : Below a.heap.size a c := h.trans (k.mono h.size)
theorem map_take (xs : List (Ev × Value)) (k : Nat) (h : k < xs.length) : (xs.take (k + 1)).map (·.1) = (xs.take k).map (·.1) ++ [xs[k].1] := by
  rw [List.take_succ_eq_append_getElem h, List.map_append]; rfl
theorem merge_take (xs : List (Ev × Value)) (k : Nat) (h : k < xs.length) : mergeL ((xs.take (k + 1)).map (·.1)) = mstep (mergeL ((xs.take k).map (·.1))) xs[k].1 := by
  rw [map_take xs k h, mergeL_snoc]
theorem wt_take (xs : List (Ev × Value)) (k : Nat) : wt (mergeL ((xs.take k).map (·.1))) ≤ wt (xs.map (·.1)) := by
  have a := wt_merge ((xs.take k).map (·.1))
  have b : wt (xs.map (·.1)) = wt ((xs.take k).map (·.1)) + wt ((xs.drop k).map (·.1)) := by rw [← wt_append, ← List.map_append, List.take_append_drop]
  omega
/-- What Merge leaves. -/
def MergeDone (es : List Ev) (w : World) (e : Ending) (w' : World) : Prop := ∃ v xs, e = .returned v ∧ OwnL w' v xs ∧ xs.map (·.1) = es ∧ Below w.heap.size w w'
set_option maxRecDepth 100000 in
set_option maxHeartbeats 4000000 in
theorem merge_any (v : Value) (xs : List (Ev × Value)) (w : World) (h : EvsX w v xs) (hw : wt (xs.map (·.1)) ≤ 100000) : Calls Tryd.prog 15 #[v] w (MergeDone (mergeL (xs.map (·.1))) w) := by
  obtain ⟨i0, hi, hz0, hz1, hz2⟩ := info_parts info37
  obtain ⟨x, cap, rfl, hc⟩ := h
  have HC := hid hc
  have HMT := hid (merge_take xs)
  have HWT := hid (fun k => Nat.le_trans (wt_take xs k) hw)
  have hlen : xs.length ≤ 100000 := by have := wt_length (xs.map (·.1)); rw [List.length_map] at this; omega
  have HDL := hid (show ∀ k (h : k < xs.length), xs[k].1.data.length ≤ 100000 from fun k h => by have := wt_mem (l := xs.map (·.1)) (List.mem_map.2 ⟨xs[k], List.getElem_mem h, rfl⟩); omega)
  have HEND := hid (show (xs.take xs.length).map (·.1) = xs.map (·.1) by rw [List.take_length])
  clear hc hw
  obtain ⟨n, hn⟩ : ∃ n, n = xs.length := ⟨_, rfl⟩
  rw [← hn] at hlen ⊢
  have HLN := hid hn
  clear hn
  go_enter Tryd.func15, Tryd.ntmps15
  go_wp2
  go_loopw [3, 8] (fun s i w' => ∃ (k : Nat) (ys : List (Ev × Value)), k ≤ n ∧ i = .int .i64 k ∧ Hid (OwnL w' s ys) ∧ Hid (ys.map (·.1) = mergeL ((xs.take k).map (·.1))) ∧ Hid (∀ j ∈ blks s ys, w.heap.size ≤ j) ∧ Hid (Below w.heap.size w w')) (fun _ i _ => n - (intOf i).toNat)
  case atStart => exact ⟨0, [], Nat.zero_le _, rfl, OwnL.nil w, rfl, (fun j hj => by cases hj), Below.refl _ _⟩
  case round =>
    obtain ⟨k, ys, hk, rfl, HO, HY, HN, HB⟩ := hrel
    by_cases hlt : k < n
    · have hkx : k < xs.length := by rw [← HLN.out]; exact hlt
      obtain ⟨g, off, rfl, h6, hrd⟩ := HC.out k hkx
      have HS := hid (HMT.out k hkx)
      have hdl := HDL.out k hkx
      have hyb := xs_bound HY.out (HWT.out k)
      have HE6 := hid ((six_of h6).below HB.out)
      have HRD := hid (reads_below hrd HB.out)
      have hki : (k : Int) < n := by omega
      clear h6 hrd
      generalize xs[k] = xk at HS hdl HE6 HRD
      obtain ⟨⟨ek, ev, eo, ed, el, eb⟩, dv⟩ := xk
      obtain ⟨xd, nd, cd, hde⟩ := reads_any_slice HRD.out
      dsimp only at hde
      subst hde
      have z0 := HE6.out.c0
      have z1 := HE6.out.c1
      have z2 := HE6.out.c2
      have z3 := HE6.out.c3
      have z4 := HE6.out.c4
      have z5 := HE6.out.c5
      dsimp only at z0 z1 z2 z3 z4 z5 hdl
      by_cases hz : ek = 0
      · subst hz
        have HA := hid (addData_any u3 (.slice xd nd cd) ys ed (wr.alloc (.cells #[.int .i64 0, .int .u8 ev, .int .u8 eo, .slice xd nd cd, .bool el, .bool eb] 34)) (HO.out.moved (Moved.alloc wr _ []) (fun _ _ q => by cases q)) (reads_below HRD.out ((Below.refl _ _).alloc (Nat.le_refl _) _)) (by omega) (by omega) (fun y hy => by have := hyb.2 y hy; omega))
        clear hyb
        go_wp2_with fail
        refine HA.out.mono ?_
        rintro e w2 ⟨v2, xs2, rfl, h1, h2, h3⟩
        have H1 := hid h1
        have H2 := hid h2
        have H3 := hid h3
        clear h1 h2 h3
        go_wp2
        go_roundw
        case rel =>
          refine ⟨k + 1, xs2, by omega, by go_num, H1.out, ?_, ?_, ?_⟩
          · show _ = _
            rw [H2.out, HS.out, HY.out]
            exact (mstep_dat (e := ⟨0, ev, eo, ed, el, eb⟩) _ rfl).symm
          · intro j hj
            rcases H3.out.from' j hj with q | q
            · exact HN.out j q
            · have := HB.out.size; simp at q; omega
          · exact (HB.out.alloc HB.out.size _).trans (H3.out.toBelow (by have := HB.out.size; simp; omega) HN.out)
        case measure => simp [intOf]; omega
      · have kz : (ek == 0) = false := by simpa using hz
        have HCL := hid (clone_any (.slice xd nd cd) ed (wr.alloc (.cells #[.int .i64 ek, .int .u8 ev, .int .u8 eo, .slice xd nd cd, .bool el, .bool eb] 34)) (reads_below HRD.out ((Below.refl _ _).alloc (Nat.le_refl _) _)) (by omega))
        have hyl : ys.length ≤ 100000 := hyb.1
        clear hyb
        go_wp2_with fail
        refine HCL.out.mono ?_
        rintro e w1 ⟨d', rfl, hd, hb1, hf⟩
        obtain ⟨xd', nd', cd', rfl⟩ := own_slice hd
        have hbk : w1.heap[wr.heap.size]? = some (.cells #[.int .i64 ek, .int .u8 ev, .int .u8 eo, .slice xd nd cd, .bool el, .bool eb] 34 (0, 0)) := (hb1.block wr.heap.size (by simp)).trans (heap_alloc_new wr _)
        have y0 := cell_of_row w1 wr.heap.size 0 _ 34 _ hbk
        have y1 := cell_of_row w1 wr.heap.size 1 _ 34 _ hbk
        have y2 := cell_of_row w1 wr.heap.size 2 _ 34 _ hbk
        have y3 := cell_of_row w1 wr.heap.size 3 _ 34 _ hbk
        have y4 := cell_of_row w1 wr.heap.size 4 _ 34 _ hbk
        have y5 := cell_of_row w1 wr.heap.size 5 _ 34 _ hbk
        have yf := frozen_of_row w1 wr.heap.size 3 _ 34 hbk
        simp only [List.getElem?_toArray, List.getElem?_cons_zero, List.getElem?_cons_succ] at y0 y1 y2 y3 y4 y5
        have hlw : wr.heap.size < w1.heap.size := (Array.getElem?_eq_some_iff.1 hbk).1
        have hsz : (w1.setCell ⟨wr.heap.size, 3, none⟩ (.slice xd' nd' cd')).heap.size = w1.heap.size := by simp [World.setCell]
        have HB1 : Hid (Below wr.heap.size wr (w1.setCell ⟨wr.heap.size, 3, none⟩ (.slice xd' nd' cd'))) := (((Below.refl _ _).alloc (Nat.le_refl _) _).trans (hb1.mono (by simp))).setCell (Nat.le_refl _) _
        have hnd : wr.heap.size ∉ blkV (.slice xd' nd' cd') := fun q => by have := hf _ q; simp at this; omega
        have HD : Hid (OwnB (w1.setCell ⟨wr.heap.size, 3, none⟩ (.slice xd' nd' cd')) (.slice xd' nd' cd') ed) := set_ownB hd hnd 3 _
        have HF : Hid (∀ k ∈ blkV (.slice xd' nd' cd'), wr.heap.size ≤ k) := fun k hk => by have := hf k hk; simp at this; omega
        have HRW := hid ((own_moved HO.out.row (Moved.below HB1.out []) (fun _ _ q => by cases q)).alloc (.cells #[.int .i64 ek, .int .u8 ev, .int .u8 eo, .slice xd' nd' cd', .bool el, .bool eb] 34))
        have HNS := hid (news_six (w1.setCell ⟨wr.heap.size, 3, none⟩ (.slice xd' nd' cd')) (.int .i64 ek) (.int .u8 ev) (.int .u8 eo) (.slice xd' nd' cd') (.bool el) (.bool eb) 34)
        rw [hsz] at HNS
        clear hd hb1 hf hbk hnd hsz z0 z1 z2 z3 z4 z5
        go_wp2_with (first
          | (at_builtin; refine wpList_append_blk _ rfl _ _ 25 rfl 34 i0 _ 6 48 Tryd.underlying25 hi hz0 hz1 hz2 rfl (by decide) _ _ _ rfl HRW.out ⟨w1.heap.size, 0, none⟩ 1 1 (evC ⟨ek, ev, eo, ed, el, eb⟩ (.slice xd' nd' cd')) rfl rfl HNS.out (one_evC _ _ rfl) (by unfold maxLen; omega) (by omega) ?_; intro v' w3 ho hg hn' hk'; have HO3 := hid ho; have HG3 := hid hg; have HK3 := hid hk'; clear ho hg hn' hk'))
        have r := snoc_done (e := ⟨ek, ev, eo, ed, el, eb⟩) HO.out HB1.out HD.out HF.out HO3.out HG3.out HK3.out
        have HZ := hid r
        clear r
        go_roundw
        case rel =>
          refine ⟨k + 1, _, by omega, by go_num, HZ.out.1, ?_, ?_, ?_⟩
          · show _ = _
            rw [map_snoc, HS.out, HY.out]
            exact (mstep_ev _ hz).symm
          · intro j hj
            rcases HZ.out.2.from' j hj with q | q
            · exact HN.out j q
            · have := HB.out.size; omega
          · exact HB.out.trans (HZ.out.2.toBelow HB.out.size HN.out)
        case measure => simp [intOf]; omega
    · have hkn : k = n := by omega
      have HP : Hid (MergeDone (mergeL (xs.map (·.1))) w (.returned u3) wr) := by
        have q := HY.out
        rw [hkn, HLN.out, HEND.out] at q
        exact ⟨_, ys, rfl, HO.out, q, HB.out⟩
      clear hkn
      go_wp2
      go_ret
      exact HP.out
end Go.Proofs.YtdbjjieoohfckaaDoor
