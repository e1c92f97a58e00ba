/-
  TelnetWrites: the law's walk.
-/
import Derived.Test.YtdbjjieoohfckaaDoorLc
import Derived.Deep.RegionHeld3
import Derived.Deep.DeepCutAuto
import Derived.Deep.AppendLies
namespace Go.Proofs.YtdbjjieoohfckaaDoor
open Go.RowKit Go.Lib Go.Deep Go.Shelf

theorem wrap_nat (N : Nat) (h : N ≤ 1000000) : IntKind.i64.wrap (N : Int) = N := by
  first
    | (simp [IntKind.wrap]; omega)
    | (simp [IntKind.wrap]; unfold wrap64; omega)
    | (unfold IntKind.wrap; simp [IntKind.signed, IntKind.bits]; omega)
theorem setm {a b : World} {G : Nat} (h : Moved a b [G] [G]) (i : Nat) (v : Value) : Moved a (b.setCell ⟨G, i, none⟩ v) [G] [G] := h.trans (Moved.set (List.mem_singleton.2 rfl) i v)
theorem boxed6 {W : World} {G : Nat} {t : TypeId} {u0 u1 u2 u3 u4 u5 v0 v1 v2 v3 v4 v5 : Value} (h : W.heap[G]? = some (.cells #[u0, u1, u2, u3, u4, u5] t (0, 0))) :
    ((((((W.setCell ⟨G, 0, none⟩ v0).setCell ⟨G, 1, none⟩ v1).setCell ⟨G, 2, none⟩ v2).setCell ⟨G, 3, none⟩ v3).setCell ⟨G, 4, none⟩ v4).setCell ⟨G, 5, none⟩ v5).heap[G]? = some (.cells #[v0, v1, v2, v3, v4, v5] t (0, 0)) ∧
    Moved W ((((((W.setCell ⟨G, 0, none⟩ v0).setCell ⟨G, 1, none⟩ v1).setCell ⟨G, 2, none⟩ v2).setCell ⟨G, 3, none⟩ v3).setCell ⟨G, 4, none⟩ v4).setCell ⟨G, 5, none⟩ v5) [G] [G] := by
  have h0 : (W.setCell ⟨G, 0, none⟩ v0).heap[G]? = some (.cells #[v0, u1, u2, u3, u4, u5] t (0, 0)) := Go.heap_setCell_same _ G 0 _ t v0 h
  have h1 : ((W.setCell ⟨G, 0, none⟩ v0).setCell ⟨G, 1, none⟩ v1).heap[G]? = some (.cells #[v0, v1, u2, u3, u4, u5] t (0, 0)) := Go.heap_setCell_same _ G 1 _ t v1 h0
  have h2 : (((W.setCell ⟨G, 0, none⟩ v0).setCell ⟨G, 1, none⟩ v1).setCell ⟨G, 2, none⟩ v2).heap[G]? = some (.cells #[v0, v1, v2, u3, u4, u5] t (0, 0)) := Go.heap_setCell_same _ G 2 _ t v2 h1
  have h3 : ((((W.setCell ⟨G, 0, none⟩ v0).setCell ⟨G, 1, none⟩ v1).setCell ⟨G, 2, none⟩ v2).setCell ⟨G, 3, none⟩ v3).heap[G]? = some (.cells #[v0, v1, v2, v3, u4, u5] t (0, 0)) := Go.heap_setCell_same _ G 3 _ t v3 h2
  have h4 : (((((W.setCell ⟨G, 0, none⟩ v0).setCell ⟨G, 1, none⟩ v1).setCell ⟨G, 2, none⟩ v2).setCell ⟨G, 3, none⟩ v3).setCell ⟨G, 4, none⟩ v4).heap[G]? = some (.cells #[v0, v1, v2, v3, v4, u5] t (0, 0)) := Go.heap_setCell_same _ G 4 _ t v4 h3
  have h5 : ((((((W.setCell ⟨G, 0, none⟩ v0).setCell ⟨G, 1, none⟩ v1).setCell ⟨G, 2, none⟩ v2).setCell ⟨G, 3, none⟩ v3).setCell ⟨G, 4, none⟩ v4).setCell ⟨G, 5, none⟩ v5).heap[G]? = some (.cells #[v0, v1, v2, v3, v4, v5] t (0, 0)) := Go.heap_setCell_same _ G 5 _ t v5 h4
  exact ⟨h5, setm (setm (setm (setm (setm (setm (Moved.refl W [G]) 0 v0) 1 v1) 2 v2) 3 v3) 4 v4) 5 v5⟩
theorem run_from_all {w : World} {p : Value} {xs : List Int} (hr : Reads w p xs) (n : Nat) (hn : n ≤ xs.length) : ∃ q, (∀ w', (Instr.sliceAt 24 p (some (.int .i64 n)) none none).run Tryd.prog w' = .ok q w') ∧ Reads w q (xs.drop n) := by
  obtain ⟨q0, h1, h2, h3⟩ := run_from hr n hn
  obtain ⟨hb, ⟨rfl, rfl⟩ | ⟨a, cap, rfl, k1, k2, k3⟩⟩ := hr
  · have : n = 0 := by simpa using hn
    subst this
    refine ⟨.slice none 0 0, fun w' => ?_, reads_nil w⟩
    simp [Instr.sliceAt, Instr.slice, run_underlying Tryd.underlying24, Instr.sliceBounds, Instr.sliceBound, asIntOf]
  · have e : ∀ w', (Instr.sliceAt 24 (.slice (some a) xs.length cap) (some (.int .i64 n)) none none).run Tryd.prog w' = .ok (.slice (some (if cap = n then a else a.add n)) (xs.length - n) (cap - n)) w' := fun w' => by
      simp [Instr.sliceAt, Instr.slice, run_underlying Tryd.underlying24, Instr.sliceBounds, Instr.sliceBound, asIntOf, hn]
      split <;> rfl
    rw [e w] at h1
    injection h1 with e1 _
    subst e1
    exact ⟨_, e, h2⟩
theorem reads_len {w : World} {x : Option Addr} {n c : Nat} {xs : List Int} (h : Reads w (.slice x n c) xs) : n = xs.length := by
  obtain ⟨_, _, q, _⟩ := reads_uni h
  injection q
theorem eq_blk {q g n c : Nat} (h : q ∈ blkV (.slice (some ⟨g, 0, none⟩) n c)) : q = g := by
  have : g = q := by simpa [mem_blkV, Value.ownBlock] using h
  exact this.symm
theorem wt_norm : ∀ es : List Ev, (∀ e ∈ es, Norm e) → YtdbjjieoohfckaaDoor.wt es ≤ 257 * es.length
  | [], _ => Nat.le_refl _
  | e :: es, h => by
    have ih := wt_norm es (fun x hx => h x (List.mem_cons_of_mem _ hx))
    have hd : e.data.length ≤ 256 := by
      cases h e (List.mem_cons_self ..) with
      | data ds hq hb => exact hq
      | cmd v h => show 0 ≤ 256; omega
      | opt v o h ho => show 0 ≤ 256; omega
      | sub o ds ho hq hb => exact hq
    simp only [YtdbjjieoohfckaaDoor.wt, List.length_cons]
    omega
theorem map_norm {ws : List (Ev × Value)} (h : ∀ x ∈ ws, Norm x.1) : ∀ e ∈ ws.map (·.1), Norm e := fun e he => by
  obtain ⟨x, hx, rfl⟩ := List.mem_map.1 he
  exact h x hx
theorem kind_range (ek : Int) : 0 ≤ (wrap64 (ek.tmod 4 + 4)).tmod 4 ∧ (wrap64 (ek.tmod 4 + 4)).tmod 4 ≤ 3 := by
  have h1 : -4 < ek.tmod 4 ∧ ek.tmod 4 < 4 := by
    rcases Int.le_total 0 ek with h | h
    · have a := Int.tmod_nonneg 4 h
      have b := Int.tmod_lt_of_pos ek (show (0 : Int) < 4 by decide)
      omega
    · have a := Int.tmod_nonneg 4 (show 0 ≤ -ek by omega)
      have b := Int.tmod_lt_of_pos (-ek) (show (0 : Int) < 4 by decide)
      rw [Int.neg_tmod] at a b
      omega
  generalize ek.tmod 4 = t at h1
  have hw : wrap64 (t + 4) = t + 4 := by unfold wrap64; omega
  rw [hw]
  have a := Int.tmod_nonneg 4 (show 0 ≤ t + 4 by omega)
  have b := Int.tmod_lt_of_pos (t + 4) (show (0 : Int) < 4 by decide)
  omega
set_option maxRecDepth 100000 in
set_option maxHeartbeats 8000000 in
theorem telnetWrites_true (v : Value) (xs : List (Ev × Value)) (w : World) (h : EvsX w v xs) (hbd : ∀ x ∈ xs, (0 ≤ x.1.verb ∧ x.1.verb < 256) ∧ (0 ≤ x.1.opt ∧ x.1.opt < 256)) : Calls Tryd.prog 3 #[v] w fun e w' => e = .returned (.bool true) ∧ Below w.heap.size w w' := by
  obtain ⟨i1, hi1, hy0, hy1, hy2⟩ := info_parts info37
  obtain ⟨x, cap, rfl, hc⟩ := h
  have HC := hid hc
  have HBD := hid hbd
  clear hc hbd
  obtain ⟨n, hn⟩ : ∃ n, n = xs.length := ⟨_, rfl⟩
  rw [← hn]
  have HLN := hid hn
  clear hn
  go_enter Tryd.func3, Tryd.ntmps3
  go_wp2_with fail
  refine (awake_true w).mono ?_
  rintro e w1 ⟨rfl, hb1⟩
  have HB1 := hid hb1
  clear hb1
  go_wp2
  go_loopw [3, 4, 13] (fun p s i W => ∃ (k N : Nat) (ws : List (Ev × Value)) (y : Option Addr) (c : Nat), k ≤ n ∧ k ≤ 12 ∧ i = .int .i64 k ∧ p = .slice y N c ∧ N ≤ 517 * k ∧ Hid (TwoP W w.heap.size p s (bytesL (ws.map (·.1))) ws) ∧ Hid ((bytesL (ws.map (·.1))).length = N) ∧ Hid (∀ x ∈ ws, Norm x.1) ∧ Hid (ws.length = k) ∧ Hid (Below w.heap.size w W)) (fun _ _ i _ => n - (RowKit.intOf i).toNat)
  case atStart => exact ⟨0, 0, [], none, 0, Nat.zero_le _, Nat.zero_le _, rfl, rfl, Nat.le_refl _, ⟨(fun x hx => by cases hx), World.ownsRow_nil _ _ _ _, World.ownsRow_nil _ _ _ _, (fun x hx => by cases hx), (fun k hk => by rcases hk with q | q <;> cases q), (fun k hk => by cases hk)⟩, rfl, (fun x hx => by cases hx), rfl, HB1.out⟩
  case round =>
    obtain ⟨k, N, ws, y, c, hk, hk12, rfl, rfl, hN, HT, HNL, HNM, HWL, HBB⟩ := hrel
    by_cases hlt : k < n
    · have hkx : k < xs.length := by rw [← HLN.out]; exact hlt
      obtain ⟨g, off, rfl, h6, hrd⟩ := HC.out k hkx
      have HBK := hid (HBD.out _ (List.getElem_mem hkx))
      have HE6 := hid ((six_of h6).below HBB.out)
      have HRD := hid (reads_below hrd HBB.out)
      have hki : (k : Int) < n := by omega
      clear h6 hrd
      generalize xs[k] = xk at HE6 HRD HBK
      obtain ⟨⟨ek, ev, eo, ed, el, eb⟩, dv⟩ := xk
      obtain ⟨xw, cw, hwe⟩ := row_slice HT.out.rowW
      subst hwe
      obtain ⟨xd, nd, cd, hde⟩ := reads_any_slice HRD.out
      dsimp only at hde
      subst hde
      have z0 := HE6.out.c0
      have z1 := HE6.out.c1
      have z2 := HE6.out.c2
      have z3 := HE6.out.c3
      have z4 := HE6.out.c4
      have z5 := HE6.out.c5
      have hbk := HBK.out
      dsimp only at z0 z1 z2 z3 z4 z5 hbk
      obtain ⟨⟨hv0, hv1⟩, ho0, ho1⟩ := hbk
      by_cases h12 : k < 12
      · have h12i : ¬ (12 : Int) ≤ k := by omega
        have HCUT := hid (cut_any (.slice xd nd cd) 256 (by decide) ed (wr.alloc (.cells #[.int .i64 ek, .int .u8 ev, .int .u8 eo, .slice xd nd cd, .bool el, .bool eb] 27)) (reads_below HRD.out ((Below.refl _ _).alloc (Nat.le_refl _) _)))
        go_wp2_with fail
        refine HCUT.out.mono ?_
        rintro e w2 ⟨d', rfl, hr2, hb2, ho2, hnn2⟩
        obtain ⟨dg, dc, rfl, hdg⟩ : ∃ dg dc, d' = .slice (some ⟨dg, 0, none⟩) (ed.take 256).length dc ∧ wr.heap.size + 1 ≤ dg ∧ dg < w2.heap.size := by
          rcases ho2.2 with ⟨e, _⟩ | ⟨q, cc, cur, rfl, hq, hqq, _⟩
          · exact absurd e hnn2
          · exact ⟨q, cc, rfl, by simpa using hq, (Array.getElem?_eq_some_iff.1 hqq).1⟩
        have hbk : w2.heap[wr.heap.size]? = some (.cells #[.int .i64 ek, .int .u8 ev, .int .u8 eo, .slice xd nd cd, .bool el, .bool eb] 27 (0, 0)) := (hb2.block wr.heap.size (by simp)).trans (heap_alloc_new wr _)
        have y0 := cell_of_row w2 wr.heap.size 0 _ 27 _ hbk
        have y1 := cell_of_row w2 wr.heap.size 1 _ 27 _ hbk
        have y2 := cell_of_row w2 wr.heap.size 2 _ 27 _ hbk
        have y3 := cell_of_row w2 wr.heap.size 3 _ 27 _ hbk
        have y4 := cell_of_row w2 wr.heap.size 4 _ 27 _ hbk
        have y5 := cell_of_row w2 wr.heap.size 5 _ 27 _ hbk
        have yf0 := frozen_of_row w2 wr.heap.size 0 _ 27 hbk
        have yf1 := frozen_of_row w2 wr.heap.size 1 _ 27 hbk
        have yf2 := frozen_of_row w2 wr.heap.size 2 _ 27 hbk
        have yf3 := frozen_of_row w2 wr.heap.size 3 _ 27 hbk
        have yf4 := frozen_of_row w2 wr.heap.size 4 _ 27 hbk
        have yf5 := frozen_of_row w2 wr.heap.size 5 _ 27 hbk
        simp only [List.getElem?_toArray, List.getElem?_cons_zero, List.getElem?_cons_succ] at y0 y1 y2 y3 y4 y5
        have hlw : wr.heap.size < w2.heap.size := (Array.getElem?_eq_some_iff.1 hbk).1
        obtain ⟨ds, hds⟩ : ∃ ds, ds = ed.take 256 := ⟨_, rfl⟩
        have hdl : ds.length ≤ 256 := by rw [hds, List.length_take]; omega
        rw [← hds] at hr2 ho2
        rw [← hds]
        obtain ⟨m, hm⟩ : ∃ m, m = ds.length := ⟨_, rfl⟩
        rw [← hm] at hr2 hdl ⊢
        have HML := hid hm
        have HR2 := hid hr2
        have HB2 := hid hb2
        have HDG := hid hdg
        clear hm hds hr2 ho2 hb2 hdg
        clear z0 z1 z2 z3 z4 z5 HCUT HE6 hnn2 HBK
        obtain ⟨hq0, hq3⟩ := kind_range ek
        go_upto_region 11 with fail
        generalize (wrap64 (ek.tmod 4 + 4)).tmod 4 = kq at hq0 hq3 ⊢
        clear y0 y1 y2 y3 y4 y5 yf0 yf1 yf2 yf3 yf4 yf5
        obtain ⟨W3, hW3⟩ : ∃ W3, W3 = ((w2.setCell ⟨wr.heap.size, 3, none⟩ (.slice (some ⟨dg, 0, none⟩) m dc)).setCell ⟨wr.heap.size, 0, none⟩ (.int .i64 kq)) := ⟨_, rfl⟩
        rw [← hW3]
        have hb3 : W3.heap[wr.heap.size]? = some (.cells #[.int .i64 kq, .int .u8 ev, .int .u8 eo, .slice (some ⟨dg, 0, none⟩) m dc, .bool el, .bool eb] 27 (0, 0)) := by
          rw [hW3]
          exact Go.heap_setCell_same _ wr.heap.size 0 _ 27 (.int .i64 kq) (Go.heap_setCell_same w2 wr.heap.size 3 _ 27 (.slice (some ⟨dg, 0, none⟩) m dc) hbk)
        have hB3 : Below wr.heap.size wr W3 := by
          rw [hW3]
          exact ((((Below.refl _ _).alloc (Nat.le_refl _) _).trans (HB2.out.mono (by simp))).setCell (Nat.le_refl _) _).setCell (Nat.le_refl _) _
        have hsz3 : W3.heap.size = w2.heap.size := by rw [hW3]; simp [World.setCell]
        have hM3 : Moved w2 W3 [wr.heap.size] [wr.heap.size] := by
          rw [hW3]
          exact (Moved.set (g := wr.heap.size) (by simp) 3 _).trans (Moved.set (g := wr.heap.size) (by simp) 0 _)
        have hT3 := HT.out.below hB3
        have hR3 : Reads W3 (.slice (some ⟨dg, 0, none⟩) m dc) ds := reads_moved HR2.out hM3 (fun q hq r => by
          rw [List.mem_singleton.1 r] at hq
          have := eq_blk hq
          have := HDG.out.1
          omega)
        have hD3 : DInP W3 (.slice y N c) (.slice xw ws.length cw) (.slice (some ⟨dg, 0, none⟩) m dc) ds := ⟨hR3, fun q hq => by
          have e : q = dg := eq_blk hq
          refine ⟨by rw [hsz3, e]; exact HDG.out.2, fun r => ?_, fun r => ?_⟩
          · have := own_lt HT.out.rowP q r; rw [e] at this; have := HDG.out.1; omega
          · have := own_lt HT.out.rowW q r; rw [e] at this; have := HDG.out.1; omega⟩
        have hBx : ∀ q, q = wr.heap.size → q ∉ blkV (.slice y N c) ∧ q ∉ blkV (.slice xw ws.length cw) ∧ (∀ x ∈ ws, q ∉ blkV x.2) ∧ q ≠ dg := fun q e => by
          refine ⟨fun r => ?_, fun r => ?_, fun x hx r => ?_, by have := HDG.out.1; omega⟩
          · have := own_lt HT.out.rowP q r; omega
          · have := own_lt HT.out.rowW q r; omega
          · have := ((HT.out.data x hx).2 q r).1; omega
        have hBB3 := HBB.out.trans (hB3.mono HBB.out.size)
        obtain ⟨G, hG⟩ : ∃ G, G = wr.heap.size := ⟨_, rfl⟩
        have hGB : w.heap.size ≤ G := by rw [hG]; exact HBB.out.size
        have hds256 : ∀ x ∈ ds, 0 ≤ x ∧ x < 256 := HR2.out.1
        rw [← hG] at hb3 hBx ⊢
        have HT3 := hid hT3
        have HD3 := hid hD3
        have HBX := hid hBx
        have HBB3 := hid hBB3
        have HDB := hid hds256
        have y0 := cell_of_row W3 G 0 _ 27 _ hb3
        have y1 := cell_of_row W3 G 1 _ 27 _ hb3
        have y2 := cell_of_row W3 G 2 _ 27 _ hb3
        have y3 := cell_of_row W3 G 3 _ 27 _ hb3
        have y4 := cell_of_row W3 G 4 _ 27 _ hb3
        have y5 := cell_of_row W3 G 5 _ 27 _ hb3
        have yf0 := frozen_of_row W3 G 0 _ 27 hb3
        have yf1 := frozen_of_row W3 G 1 _ 27 hb3
        have yf2 := frozen_of_row W3 G 2 _ 27 hb3
        have yf3 := frozen_of_row W3 G 3 _ 27 hb3
        have yf4 := frozen_of_row W3 G 4 _ 27 hb3
        have yf5 := frozen_of_row W3 G 5 _ 27 hb3
        simp only [List.getElem?_toArray, List.getElem?_cons_zero, List.getElem?_cons_succ] at y0 y1 y2 y3 y4 y5
        have hlw3 : G < W3.heap.size := (Array.getElem?_eq_some_iff.1 hb3).1
        have HB3 := hid hb3
        clear hb3 hB3 hsz3 hM3 hT3 hR3 hD3 hBx hBB3 hds256 hW3 hbk hlw hG HT HBB HRD
        rcases (show kq = 0 ∨ kq = 1 ∨ kq = 2 ∨ kq = 3 by omega) with rfl | rfl | rfl | rfl
        · go_upto_region 16 with fail
          have hnorm : Norm ⟨0, 0, 0, ds, false, false⟩ := Norm.data ds (by rw [← HML.out]; exact hdl) HDB.out
          obtain ⟨M, hM⟩ : ∃ M, M = ((escI ds)).length := ⟨_, rfl⟩
          have hM5 : M ≤ 517 := by rw [hM]; exact (norm_bytes hnorm).2
          have HNE := hid hnorm
          have HMB := hid hM
          clear hnorm hM
          obtain ⟨hb4, hM4⟩ := boxed6 (v0 := .int .i64 0) (v1 := .int .u8 0) (v2 := .int .u8 0) (v3 := .slice (some ⟨dg, 0, none⟩) m dc) (v4 := .bool false) (v5 := .bool false) HB3.out
          generalize (((((W3.setCell ⟨G, 0, none⟩ (.int .i64 0)).setCell ⟨G, 1, none⟩ (.int .u8 0)).setCell ⟨G, 2, none⟩ (.int .u8 0)).setCell ⟨G, 3, none⟩ (.slice (some ⟨dg, 0, none⟩) m dc)).setCell ⟨G, 4, none⟩ (.bool false)).setCell ⟨G, 5, none⟩ (.bool false) = W4 at hb4 hM4 ⊢
          have HT4 := hid (HT3.out.moved hM4 (fun q hq => by
            have h := HBX.out q (List.mem_singleton.1 hq)
            exact ⟨h.1, h.2.1, h.2.2.1⟩))
          have HD4 : Hid (DInP W4 (.slice y N c) (.slice xw ws.length cw) (.slice (some ⟨dg, 0, none⟩) m dc) ds) := ⟨reads_moved HD3.out.1 hM4 (fun q hq r => (HBX.out q (List.mem_singleton.1 r)).2.2.2 (eq_blk hq)), fun q hq => ⟨Nat.lt_of_lt_of_le (HD3.out.2 q hq).1 hM4.size, (HD3.out.2 q hq).2⟩⟩
          have HBB4 := hid (HBB3.out.trans (hM4.toBelow HBB3.out.size (fun q hq => by rw [List.mem_singleton.1 hq]; exact hGB)))
          have HB4 := hid hb4
          have hlw4 : G < W4.heap.size := (Array.getElem?_eq_some_iff.1 hb4).1
          clear y0 y1 y2 y3 y4 y5 yf0 yf1 yf2 yf3 yf4 yf5 hM4 HB3 HT3 HD3 HBB3 hlw3
          have x0 := cell_of_row W4 G 0 _ 27 _ hb4
          have x1 := cell_of_row W4 G 1 _ 27 _ hb4
          have x2 := cell_of_row W4 G 2 _ 27 _ hb4
          have x3 := cell_of_row W4 G 3 _ 27 _ hb4
          have x4 := cell_of_row W4 G 4 _ 27 _ hb4
          have x5 := cell_of_row W4 G 5 _ 27 _ hb4
          simp only [List.getElem?_toArray, List.getElem?_cons_zero, List.getElem?_cons_succ] at x0 x1 x2 x3 x4 x5
          clear hb4
          have HCL := hid (escape_any ⟨dg, 0, none⟩ m dc ds W4 HD4.out.1 (by omega))
          go_upto_region 23 with fail
          refine HCL.out.mono ?_
          rintro e w5 ⟨v5, rfl, hv5, hb5⟩
          have HV5 := hid hv5
          have HT5 := hid (HT4.out.below hb5)
          have HD5 := hid (HD4.out.below hb5)
          have HBB5 := hid (HBB4.out.trans (hb5.mono HBB4.out.size))
          have HB5 := hid ((hb5.block G hlw4).trans HB4.out)
          obtain ⟨x5', n5, c5, rfl⟩ := reads_any_slice hv5
          clear hv5 hb5 HCL HT4 HD4 HBB4 x0 x1 x2 x3 x4 x5
          go_upto_region 23 with (first
            | (at_builtin; refine wpList_append_P rfl (.tmp 49) (.tmp 52) rfl w.heap.size _ (.slice xw ws.length cw) _ _ (escI ds) ws rfl rfl HT5.out HV5.out (by rw [HNL.out, ← HMB.out]; omega) HBB5.out.size (N + M) (by rw [HNL.out, HMB.out]) _ rfl ?_; intro y6 c6 w6 t6 d6 m6 b6; have HT6 := hid t6; have HD6 := hid (d6 _ _ HD5.out); have HBB6 := hid (HBB5.out.trans (b6.mono (Nat.le_refl _))); have HB6 := hid ((m6.block G (Array.getElem?_eq_some_iff.1 HB5.out).1 (HBX.out G rfl).1).trans HB5.out); clear t6 d6 m6 b6)
            | fail)
          have x0 := cell_of_row w6 G 0 _ 27 _ HB6.out
          have x1 := cell_of_row w6 G 1 _ 27 _ HB6.out
          have x2 := cell_of_row w6 G 2 _ 27 _ HB6.out
          have x3 := cell_of_row w6 G 3 _ 27 _ HB6.out
          have x4 := cell_of_row w6 G 4 _ 27 _ HB6.out
          have x5 := cell_of_row w6 G 5 _ 27 _ HB6.out
          simp only [List.getElem?_toArray, List.getElem?_cons_zero, List.getElem?_cons_succ] at x0 x1 x2 x3 x4 x5
          have hrp : Reads w6 (.slice y6 (N + M) c6) (bytesL (ws.map (·.1)) ++ (escI ds)) := by
            have q := HT6.out.rowP
            rw [List.length_append, HNL.out, ← HMB.out] at q
            exact row_done2 q HT6.out.pb (Below.refl _ _)
          obtain ⟨q, hqrun, hqr⟩ := run_from_all hrp N (by rw [List.length_append, HNL.out]; omega)
          rw [List.drop_left' HNL.out] at hqr
          have HQR := hid hqr
          have HQRUN := hid hqrun
          clear hrp hqr hqrun
          go_wp2_with fail
          refine wp_region_held_drew (S := (fun w' => w'.cell? ⟨G, 0, none⟩ = some (.int .i64 0) ∧ w'.cell? ⟨G, 1, none⟩ = some (.int .u8 0) ∧ w'.cell? ⟨G, 2, none⟩ = some (.int .u8 0) ∧ w'.cell? ⟨G, 3, none⟩ = some (.slice (some ⟨dg, 0, none⟩) m dc) ∧ w'.cell? ⟨G, 4, none⟩ = some (.bool false) ∧ w'.cell? ⟨G, 5, none⟩ = some (.bool false))) (by kernel_rfl) ⟨x0, x1, x2, x3, x4, x5⟩ (fun hHeld => ?_)
          refine takeD (i := 0) (v := ?_) 82 rfl rfl (by kernel_rfl) (by kernel_rfl) (by kernel_rfl) (fun _ _ _ h => h) (by assumption) (Or.inl ⟨by rfl, ?_⟩) ?_
          rotate_left
          · intro w hSw
            (try dsimp only at hSw)
            go_simp
            try with_reducible rfl
          simp only [List.setIfInBounds_toArray, List.set_cons_zero, List.set_cons_succ]
          refine takeD (i := 1) (v := ?_) 83 rfl rfl (by kernel_rfl) (by kernel_rfl) (by kernel_rfl) (fun _ _ _ h => h) (by assumption) (Or.inl ⟨by rfl, ?_⟩) ?_
          rotate_left
          · intro w hSw
            (try dsimp only at hSw)
            go_simp
            try with_reducible rfl
          simp only [List.setIfInBounds_toArray, List.set_cons_zero, List.set_cons_succ]
          refine takeD (i := 2) (v := ?_) 84 rfl rfl (by kernel_rfl) (by kernel_rfl) (by kernel_rfl) (fun _ _ _ h => h) (by assumption) (Or.inl ⟨by rfl, ?_⟩) ?_
          rotate_left
          · intro w hSw
            (try dsimp only at hSw)
            go_simp
            try with_reducible rfl
          simp only [List.setIfInBounds_toArray, List.set_cons_zero, List.set_cons_succ]
          refine takeD (i := 3) (v := ?_) 85 rfl rfl (by kernel_rfl) (by kernel_rfl) (by kernel_rfl) (fun _ _ _ h => h) (by assumption) (Or.inl ⟨by rfl, ?_⟩) ?_
          rotate_left
          · intro w hSw
            (try dsimp only at hSw)
            go_simp
            try with_reducible rfl
          simp only [List.setIfInBounds_toArray, List.set_cons_zero, List.set_cons_succ]
          refine takeD (i := 8) (v := ?_) 90 rfl rfl (by kernel_rfl) (by kernel_rfl) (by kernel_rfl) (fun _ _ _ h => h) (by assumption) (Or.inl ⟨by rfl, ?_⟩) ?_
          rotate_left
          · intro w hSw
            (try dsimp only at hSw)
            go_simp
            try with_reducible rfl
          simp only [List.setIfInBounds_toArray, List.set_cons_zero, List.set_cons_succ]
          refine wpAnyH_ready (rs := [4]) (by kernel_rfl) (by simp) ?_
          refine AllReadyH.cons (by simp only [List.getElem?_toArray, List.getElem?_cons_succ, List.getElem?_cons_zero]; rfl) (fun K hK => ?_) AllReadyH.nil
          go_simp
          refine (refBytes_dat dg m dc ds _ (reads_below HD6.out.1 (Below.refl _ _).drew) (by omega)).mono ?_
          rintro e w7 ⟨v7, rfl, hv7, hbN⟩
          have HV7 := hid hv7
          have HB7 := hid (Below.trans (Below.refl w6.heap.size w6).drew hbN)
          obtain ⟨x7, n7, c7, rfl⟩ := reads_any_slice hv7
          obtain rfl : M = n7 := HMB.out.trans (reads_len hv7).symm
          clear hv7
          refine hK.out _ _ ?_ (fun hHeldN => ?_)
          · exact ⟨keepc hbN hHeld.1, keepc hbN hHeld.2.1, keepc hbN hHeld.2.2.1, keepc hbN hHeld.2.2.2.1, keepc hbN hHeld.2.2.2.2.1, keepc hbN hHeld.2.2.2.2.2⟩
          clear hK K hHeld
          have hHeld := hHeldN
          clear hHeldN
          refine takeD (i := 5) (v := ?_) 87 rfl rfl (by kernel_rfl) (by kernel_rfl) (by kernel_rfl) (fun _ _ _ h => h) (by assumption) (Or.inl ⟨by rfl, ?_⟩) ?_
          rotate_left
          · intro w hSw
            (try dsimp only at hSw)
            go_simp
            try with_reducible rfl
          simp only [List.setIfInBounds_toArray, List.set_cons_zero, List.set_cons_succ]
          refine takeD (i := 6) (v := .int .i64 (N : Int)) 88 rfl rfl (by kernel_rfl) (by kernel_rfl) (by kernel_rfl) (fun _ _ _ h => h) (by assumption) (Or.inl ⟨by rfl, ?_⟩) ?_
          · intro w hSw
            go_simp
            exact wrap_nat N (by omega)
          simp only [List.setIfInBounds_toArray, List.set_cons_zero, List.set_cons_succ]
          refine takeD (i := 7) (v := q) 89 rfl rfl (by kernel_rfl) (by kernel_rfl) (by kernel_rfl) (fun _ _ _ h => h) (by assumption) (Or.inl ⟨by rfl, ?_⟩) ?_
          · intro w hSw
            have hq := HQRUN.out w
            go_simp
          simp only [List.setIfInBounds_toArray, List.set_cons_zero, List.set_cons_succ]
          refine wpAnyH_ready (rs := [9]) (by kernel_rfl) (by simp) ?_
          refine AllReadyH.cons (by simp only [List.getElem?_toArray, List.getElem?_cons_succ, List.getElem?_cons_zero]; rfl) (fun K hK => ?_) AllReadyH.nil
          go_simp
          refine (refBytes_dat dg m dc ds _ (reads_below HD6.out.1 HB7.out) (by omega)).mono ?_
          rintro e w8 ⟨v8, rfl, hv8, hbN⟩
          have HV8 := hid hv8
          have HB8 := hid (HB7.out.trans (hbN.mono HB7.out.size))
          clear hv8
          refine hK.out _ _ ?_ (fun hHeldN => ?_)
          · exact ⟨keepc hbN hHeld.1, keepc hbN hHeld.2.1, keepc hbN hHeld.2.2.1, keepc hbN hHeld.2.2.2.1, keepc hbN hHeld.2.2.2.2.1, keepc hbN hHeld.2.2.2.2.2⟩
          clear hK K hHeld
          have hHeld := hHeldN
          clear hHeldN
          refine wpAnyH_ready (rs := [10]) (by kernel_rfl) (by simp) ?_
          refine AllReadyH.cons (by simp only [List.getElem?_toArray, List.getElem?_cons_succ, List.getElem?_cons_zero]; rfl) (fun K hK => ?_) AllReadyH.nil
          go_simp
          refine (same_true q v8 (escI ds) w8 (reads_below HQR.out HB8.out) HV8.out).mono ?_
          rintro e w9 ⟨rfl, rfl⟩
          refine hK.out _ _ ?_ (fun hHeldN => ?_)
          · exact hHeld
          clear hK K hHeld
          have hHeld := hHeldN
          clear hHeldN
          refine takeD (i := 11) (v := ?_) 93 rfl rfl (by kernel_rfl) (by kernel_rfl) (by kernel_rfl) (fun _ _ _ h => h) (by assumption) (Or.inl ⟨by rfl, ?_⟩) ?_
          rotate_left
          · intro w hSw
            (try dsimp only at hSw)
            go_simp
            try with_reducible rfl
          simp only [List.setIfInBounds_toArray, List.set_cons_zero, List.set_cons_succ]
          refine wpAnyH_done (by kernel_rfl) ?_ _
          have hT8 := HT6.out.below HB8.out
          have hD8 := HD6.out.below HB8.out
          have HB9 := hid (HBB6.out.trans (HB8.out.mono HBB6.out.size))
          have HT9 := hid (hT8.below ((Below.refl _ _).alloc (Nat.le_refl _) (.cells #[.int .i64 0, .int .u8 0, .int .u8 0, .slice (some ⟨dg, 0, none⟩) m dc, .bool false, .bool false] 34)))
          have HD9 := hid (hD8.below ((Below.refl _ _).alloc (Nat.le_refl _) (.cells #[.int .i64 0, .int .u8 0, .int .u8 0, .slice (some ⟨dg, 0, none⟩) m dc, .bool false, .bool false] 34)))
          have HNS := hid (news_six w8 (.int .i64 0) (.int .u8 0) (.int .u8 0) (.slice (some ⟨dg, 0, none⟩) m dc) (.bool false) (.bool false) 34)
          have h0 := hHeld.1
          have h1 := hHeld.2.1
          have h2 := hHeld.2.2.1
          have h3 := hHeld.2.2.2.1
          have h4 := hHeld.2.2.2.2.1
          have h5 := hHeld.2.2.2.2.2
          clear hT8 hD8 hHeld HV7 HV8 HB7 HQR HQRUN
          go_wp2_with (first
            | (at_builtin; refine wpList_append_blk _ rfl _ _ 25 rfl 34 i1 _ 6 48 Tryd.underlying25 hi1 hy0 hy1 hy2 rfl (by decide) _ _ _ rfl HT9.out.rowW ⟨w8.heap.size, 0, none⟩ 1 1 (evC ⟨0, 0, 0, ds, false, false⟩ (.slice (some ⟨dg, 0, none⟩) m dc)) rfl rfl HNS.out (one_evC _ _ rfl) (by have := HWL.out; unfold maxLen; omega) (by have := HWL.out; omega) ?_; intro wv' w10 ho hg hn' hk'; have HO10 := hid ho; have HG10 := hid hg; have HK10 := hid hk'; clear ho hg hn' hk')
            | fail)
          have r := HT9.out.addW (e := ⟨0, 0, 0, ds, false, false⟩) HD9.out (by have := HB9.out.size; simp; omega) HO10.out HG10.out HK10.out
          have HT10 := hid r.1
          have HB10 := hid ((HB9.out.alloc HB9.out.size (.cells #[.int .i64 0, .int .u8 0, .int .u8 0, .slice (some ⟨dg, 0, none⟩) m dc, .bool false, .bool false] 34)).trans r.2)
          clear r
          have hbl : bytesL ((ws ++ [((⟨0, 0, 0, ds, false, false⟩ : Ev), ((.slice (some ⟨dg, 0, none⟩) m dc) : Value))]).map (·.1)) = bytesL (ws.map (·.1)) ++ (escI ds) := by
            rw [List.map_append]
            exact bytesL_snoc _ _
          have HBL := hid hbl
          clear hbl
          go_roundw
          case rel =>
            refine ⟨k + 1, N + M, ws ++ [(⟨0, 0, 0, ds, false, false⟩, (.slice (some ⟨dg, 0, none⟩) m dc))], y6, c6, by omega, by omega, by go_num, rfl, by omega, ?_, ?_, ?_, ?_, HB10.out⟩
            · show TwoP _ _ _ _ _ _
              rw [HBL.out]; exact HT10.out
            · show _ = _
              rw [HBL.out, List.length_append, HNL.out, ← HMB.out]
            · intro x hx
              rcases List.mem_append.1 hx with hx | hx
              · exact HNM.out x hx
              · rw [List.mem_singleton.1 hx]; exact HNE.out
            · show _ = _
              rw [List.length_append, HWL.out]; rfl
          case measure => simp [RowKit.intOf]; omega
        · go_upto_region 19 with fail
          have hvv : 241 ≤ (241 + ev % 9) ∧ (241 + ev % 9) ≤ 249 := by omega
          generalize (241 + ev % 9) = vv at hvv ⊢
          have hnorm : Norm ⟨1, vv, 0, [], false, false⟩ := Norm.cmd vv hvv
          obtain ⟨M, hM⟩ : ∃ M, M = ([255, vv]).length := ⟨_, rfl⟩
          have hM5 : M ≤ 517 := by rw [hM]; exact (norm_bytes hnorm).2
          have HNE := hid hnorm
          have HMB := hid hM
          clear hnorm hM
          obtain ⟨hb4, hM4⟩ := boxed6 (v0 := .int .i64 1) (v1 := .int .u8 vv) (v2 := .int .u8 0) (v3 := .slice none 0 0) (v4 := .bool false) (v5 := .bool false) HB3.out
          generalize (((((W3.setCell ⟨G, 0, none⟩ (.int .i64 1)).setCell ⟨G, 1, none⟩ (.int .u8 vv)).setCell ⟨G, 2, none⟩ (.int .u8 0)).setCell ⟨G, 3, none⟩ (.slice none 0 0)).setCell ⟨G, 4, none⟩ (.bool false)).setCell ⟨G, 5, none⟩ (.bool false) = W4 at hb4 hM4 ⊢
          have HT4 := hid (HT3.out.moved hM4 (fun q hq => by
            have h := HBX.out q (List.mem_singleton.1 hq)
            exact ⟨h.1, h.2.1, h.2.2.1⟩))
          have HD4 : Hid (DInP W4 (.slice y N c) (.slice xw ws.length cw) (.slice none 0 0) []) := DInP.nil _ _ _
          have HBB4 := hid (HBB3.out.trans (hM4.toBelow HBB3.out.size (fun q hq => by rw [List.mem_singleton.1 hq]; exact hGB)))
          have HB4 := hid hb4
          have hlw4 : G < W4.heap.size := (Array.getElem?_eq_some_iff.1 hb4).1
          clear y0 y1 y2 y3 y4 y5 yf0 yf1 yf2 yf3 yf4 yf5 hM4 HB3 HT3 HD3 HBB3 hlw3
          have x0 := cell_of_row W4 G 0 _ 27 _ hb4
          have x1 := cell_of_row W4 G 1 _ 27 _ hb4
          have x2 := cell_of_row W4 G 2 _ 27 _ hb4
          have x3 := cell_of_row W4 G 3 _ 27 _ hb4
          have x4 := cell_of_row W4 G 4 _ 27 _ hb4
          have x5 := cell_of_row W4 G 5 _ 27 _ hb4
          simp only [List.getElem?_toArray, List.getElem?_cons_zero, List.getElem?_cons_succ] at x0 x1 x2 x3 x4 x5
          clear hb4
          have hb5 : Below W4.heap.size W4 (W4.alloc (.cells #[.int .u8 255, .int .u8 vv] 5)) := (Below.refl _ _).alloc (Nat.le_refl _) _
          have HV5 := hid (reads_lit W4 (0, 0) [255, vv] 2 rfl (by decide) (by intro x hx; simp only [List.mem_cons, List.not_mem_nil, or_false] at hx; rcases hx with rfl | rfl <;> omega))
          have HT5 := hid (HT4.out.below hb5)
          have HD5 := hid (HD4.out.below hb5)
          have HBB5 := hid (HBB4.out.trans (hb5.mono HBB4.out.size))
          have HB5 := hid ((hb5.block G hlw4).trans HB4.out)
          clear hb5
          go_upto_region 23 with (first
            | (at_builtin; refine wpList_append_P rfl (.tmp 61) (.tmp 64) rfl w.heap.size _ (.slice xw ws.length cw) _ _ [255, vv] ws rfl rfl HT5.out HV5.out (by rw [HNL.out, ← HMB.out]; omega) HBB5.out.size (N + M) (by rw [HNL.out, HMB.out]) _ rfl ?_; intro y6 c6 w6 t6 d6 m6 b6; have HT6 := hid t6; have HD6 := hid (d6 _ _ HD5.out); have HBB6 := hid (HBB5.out.trans (b6.mono (Nat.le_refl _))); have HB6 := hid ((m6.block G (Array.getElem?_eq_some_iff.1 HB5.out).1 (HBX.out G rfl).1).trans HB5.out); clear t6 d6 m6 b6)
            | fail)
          have x0 := cell_of_row w6 G 0 _ 27 _ HB6.out
          have x1 := cell_of_row w6 G 1 _ 27 _ HB6.out
          have x2 := cell_of_row w6 G 2 _ 27 _ HB6.out
          have x3 := cell_of_row w6 G 3 _ 27 _ HB6.out
          have x4 := cell_of_row w6 G 4 _ 27 _ HB6.out
          have x5 := cell_of_row w6 G 5 _ 27 _ HB6.out
          simp only [List.getElem?_toArray, List.getElem?_cons_zero, List.getElem?_cons_succ] at x0 x1 x2 x3 x4 x5
          have hrp : Reads w6 (.slice y6 (N + M) c6) (bytesL (ws.map (·.1)) ++ [255, vv]) := by
            have q := HT6.out.rowP
            rw [List.length_append, HNL.out, ← HMB.out] at q
            exact row_done2 q HT6.out.pb (Below.refl _ _)
          obtain ⟨q, hqrun, hqr⟩ := run_from_all hrp N (by rw [List.length_append, HNL.out]; omega)
          rw [List.drop_left' HNL.out] at hqr
          have HQR := hid hqr
          have HQRUN := hid hqrun
          clear hrp hqr hqrun
          go_wp2_with fail
          refine wp_region_held_drew (S := (fun w' => w'.cell? ⟨G, 0, none⟩ = some (.int .i64 1) ∧ w'.cell? ⟨G, 1, none⟩ = some (.int .u8 vv) ∧ w'.cell? ⟨G, 2, none⟩ = some (.int .u8 0) ∧ w'.cell? ⟨G, 3, none⟩ = some (.slice none 0 0) ∧ w'.cell? ⟨G, 4, none⟩ = some (.bool false) ∧ w'.cell? ⟨G, 5, none⟩ = some (.bool false))) (by kernel_rfl) ⟨x0, x1, x2, x3, x4, x5⟩ (fun hHeld => ?_)
          refine takeD (i := 0) (v := ?_) 82 rfl rfl (by kernel_rfl) (by kernel_rfl) (by kernel_rfl) (fun _ _ _ h => h) (by assumption) (Or.inl ⟨by rfl, ?_⟩) ?_
          rotate_left
          · intro w hSw
            (try dsimp only at hSw)
            go_simp
            try with_reducible rfl
          simp only [List.setIfInBounds_toArray, List.set_cons_zero, List.set_cons_succ]
          refine takeD (i := 1) (v := ?_) 83 rfl rfl (by kernel_rfl) (by kernel_rfl) (by kernel_rfl) (fun _ _ _ h => h) (by assumption) (Or.inl ⟨by rfl, ?_⟩) ?_
          rotate_left
          · intro w hSw
            (try dsimp only at hSw)
            go_simp
            try with_reducible rfl
          simp only [List.setIfInBounds_toArray, List.set_cons_zero, List.set_cons_succ]
          refine takeD (i := 2) (v := ?_) 84 rfl rfl (by kernel_rfl) (by kernel_rfl) (by kernel_rfl) (fun _ _ _ h => h) (by assumption) (Or.inl ⟨by rfl, ?_⟩) ?_
          rotate_left
          · intro w hSw
            (try dsimp only at hSw)
            go_simp
            try with_reducible rfl
          simp only [List.setIfInBounds_toArray, List.set_cons_zero, List.set_cons_succ]
          refine takeD (i := 3) (v := ?_) 85 rfl rfl (by kernel_rfl) (by kernel_rfl) (by kernel_rfl) (fun _ _ _ h => h) (by assumption) (Or.inl ⟨by rfl, ?_⟩) ?_
          rotate_left
          · intro w hSw
            (try dsimp only at hSw)
            go_simp
            try with_reducible rfl
          simp only [List.setIfInBounds_toArray, List.set_cons_zero, List.set_cons_succ]
          refine takeD (i := 8) (v := ?_) 90 rfl rfl (by kernel_rfl) (by kernel_rfl) (by kernel_rfl) (fun _ _ _ h => h) (by assumption) (Or.inl ⟨by rfl, ?_⟩) ?_
          rotate_left
          · intro w hSw
            (try dsimp only at hSw)
            go_simp
            try with_reducible rfl
          simp only [List.setIfInBounds_toArray, List.set_cons_zero, List.set_cons_succ]
          refine wpAnyH_ready (rs := [4]) (by kernel_rfl) (by simp) ?_
          refine AllReadyH.cons (by simp only [List.getElem?_toArray, List.getElem?_cons_succ, List.getElem?_cons_zero]; rfl) (fun K hK => ?_) AllReadyH.nil
          go_simp
          refine (refBytes_cmd vv (by omega) _).mono ?_
          rintro e w7 ⟨v7, rfl, hv7, hbN⟩
          have HV7 := hid hv7
          have HB7 := hid (Below.trans (Below.refl w6.heap.size w6).drew hbN)
          obtain ⟨x7, n7, c7, rfl⟩ := reads_any_slice hv7
          obtain rfl : M = n7 := HMB.out.trans (reads_len hv7).symm
          clear hv7
          refine hK.out _ _ ?_ (fun hHeldN => ?_)
          · exact ⟨keepc hbN hHeld.1, keepc hbN hHeld.2.1, keepc hbN hHeld.2.2.1, keepc hbN hHeld.2.2.2.1, keepc hbN hHeld.2.2.2.2.1, keepc hbN hHeld.2.2.2.2.2⟩
          clear hK K hHeld
          have hHeld := hHeldN
          clear hHeldN
          refine takeD (i := 5) (v := ?_) 87 rfl rfl (by kernel_rfl) (by kernel_rfl) (by kernel_rfl) (fun _ _ _ h => h) (by assumption) (Or.inl ⟨by rfl, ?_⟩) ?_
          rotate_left
          · intro w hSw
            (try dsimp only at hSw)
            go_simp
            try with_reducible rfl
          simp only [List.setIfInBounds_toArray, List.set_cons_zero, List.set_cons_succ]
          refine takeD (i := 6) (v := .int .i64 (N : Int)) 88 rfl rfl (by kernel_rfl) (by kernel_rfl) (by kernel_rfl) (fun _ _ _ h => h) (by assumption) (Or.inl ⟨by rfl, ?_⟩) ?_
          · intro w hSw
            go_simp
            exact wrap_nat N (by omega)
          simp only [List.setIfInBounds_toArray, List.set_cons_zero, List.set_cons_succ]
          refine takeD (i := 7) (v := q) 89 rfl rfl (by kernel_rfl) (by kernel_rfl) (by kernel_rfl) (fun _ _ _ h => h) (by assumption) (Or.inl ⟨by rfl, ?_⟩) ?_
          · intro w hSw
            have hq := HQRUN.out w
            go_simp
          simp only [List.setIfInBounds_toArray, List.set_cons_zero, List.set_cons_succ]
          refine wpAnyH_ready (rs := [9]) (by kernel_rfl) (by simp) ?_
          refine AllReadyH.cons (by simp only [List.getElem?_toArray, List.getElem?_cons_succ, List.getElem?_cons_zero]; rfl) (fun K hK => ?_) AllReadyH.nil
          go_simp
          refine (refBytes_cmd vv (by omega) _).mono ?_
          rintro e w8 ⟨v8, rfl, hv8, hbN⟩
          have HV8 := hid hv8
          have HB8 := hid (HB7.out.trans (hbN.mono HB7.out.size))
          clear hv8
          refine hK.out _ _ ?_ (fun hHeldN => ?_)
          · exact ⟨keepc hbN hHeld.1, keepc hbN hHeld.2.1, keepc hbN hHeld.2.2.1, keepc hbN hHeld.2.2.2.1, keepc hbN hHeld.2.2.2.2.1, keepc hbN hHeld.2.2.2.2.2⟩
          clear hK K hHeld
          have hHeld := hHeldN
          clear hHeldN
          refine wpAnyH_ready (rs := [10]) (by kernel_rfl) (by simp) ?_
          refine AllReadyH.cons (by simp only [List.getElem?_toArray, List.getElem?_cons_succ, List.getElem?_cons_zero]; rfl) (fun K hK => ?_) AllReadyH.nil
          go_simp
          refine (same_true q v8 [255, vv] w8 (reads_below HQR.out HB8.out) HV8.out).mono ?_
          rintro e w9 ⟨rfl, rfl⟩
          refine hK.out _ _ ?_ (fun hHeldN => ?_)
          · exact hHeld
          clear hK K hHeld
          have hHeld := hHeldN
          clear hHeldN
          refine takeD (i := 11) (v := ?_) 93 rfl rfl (by kernel_rfl) (by kernel_rfl) (by kernel_rfl) (fun _ _ _ h => h) (by assumption) (Or.inl ⟨by rfl, ?_⟩) ?_
          rotate_left
          · intro w hSw
            (try dsimp only at hSw)
            go_simp
            try with_reducible rfl
          simp only [List.setIfInBounds_toArray, List.set_cons_zero, List.set_cons_succ]
          refine wpAnyH_done (by kernel_rfl) ?_ _
          have hT8 := HT6.out.below HB8.out
          have hD8 := HD6.out.below HB8.out
          have HB9 := hid (HBB6.out.trans (HB8.out.mono HBB6.out.size))
          have HT9 := hid (hT8.below ((Below.refl _ _).alloc (Nat.le_refl _) (.cells #[.int .i64 1, .int .u8 vv, .int .u8 0, .slice none 0 0, .bool false, .bool false] 34)))
          have HD9 := hid (hD8.below ((Below.refl _ _).alloc (Nat.le_refl _) (.cells #[.int .i64 1, .int .u8 vv, .int .u8 0, .slice none 0 0, .bool false, .bool false] 34)))
          have HNS := hid (news_six w8 (.int .i64 1) (.int .u8 vv) (.int .u8 0) (.slice none 0 0) (.bool false) (.bool false) 34)
          have h0 := hHeld.1
          have h1 := hHeld.2.1
          have h2 := hHeld.2.2.1
          have h3 := hHeld.2.2.2.1
          have h4 := hHeld.2.2.2.2.1
          have h5 := hHeld.2.2.2.2.2
          clear hT8 hD8 hHeld HV7 HV8 HB7 HQR HQRUN
          go_wp2_with (first
            | (at_builtin; refine wpList_append_blk _ rfl _ _ 25 rfl 34 i1 _ 6 48 Tryd.underlying25 hi1 hy0 hy1 hy2 rfl (by decide) _ _ _ rfl HT9.out.rowW ⟨w8.heap.size, 0, none⟩ 1 1 (evC ⟨1, vv, 0, [], false, false⟩ (.slice none 0 0)) rfl rfl HNS.out (one_evC _ _ rfl) (by have := HWL.out; unfold maxLen; omega) (by have := HWL.out; omega) ?_; intro wv' w10 ho hg hn' hk'; have HO10 := hid ho; have HG10 := hid hg; have HK10 := hid hk'; clear ho hg hn' hk')
            | fail)
          have r := HT9.out.addW (e := ⟨1, vv, 0, [], false, false⟩) HD9.out (by have := HB9.out.size; simp; omega) HO10.out HG10.out HK10.out
          have HT10 := hid r.1
          have HB10 := hid ((HB9.out.alloc HB9.out.size (.cells #[.int .i64 1, .int .u8 vv, .int .u8 0, .slice none 0 0, .bool false, .bool false] 34)).trans r.2)
          clear r
          have hbl : bytesL ((ws ++ [((⟨1, vv, 0, [], false, false⟩ : Ev), ((.slice none 0 0) : Value))]).map (·.1)) = bytesL (ws.map (·.1)) ++ [255, vv] := by
            rw [List.map_append]
            exact bytesL_snoc _ _
          have HBL := hid hbl
          clear hbl
          go_roundw
          case rel =>
            refine ⟨k + 1, N + M, ws ++ [(⟨1, vv, 0, [], false, false⟩, (.slice none 0 0))], y6, c6, by omega, by omega, by go_num, rfl, by omega, ?_, ?_, ?_, ?_, HB10.out⟩
            · show TwoP _ _ _ _ _ _
              rw [HBL.out]; exact HT10.out
            · show _ = _
              rw [HBL.out, List.length_append, HNL.out, ← HMB.out]
            · intro x hx
              rcases List.mem_append.1 hx with hx | hx
              · exact HNM.out x hx
              · rw [List.mem_singleton.1 hx]; exact HNE.out
            · show _ = _
              rw [List.length_append, HWL.out]; rfl
          case measure => simp [RowKit.intOf]; omega
        · go_upto_region 22 with fail
          have hvv : 251 ≤ (251 + ev % 4) ∧ (251 + ev % 4) ≤ 254 := by omega
          generalize (251 + ev % 4) = vv at hvv ⊢
          have hnorm : Norm ⟨2, vv, eo, [], false, false⟩ := Norm.opt vv eo hvv ⟨ho0, ho1⟩
          obtain ⟨M, hM⟩ : ∃ M, M = ([255, vv, eo]).length := ⟨_, rfl⟩
          have hM5 : M ≤ 517 := by rw [hM]; exact (norm_bytes hnorm).2
          have HNE := hid hnorm
          have HMB := hid hM
          clear hnorm hM
          obtain ⟨hb4, hM4⟩ := boxed6 (v0 := .int .i64 2) (v1 := .int .u8 vv) (v2 := .int .u8 eo) (v3 := .slice none 0 0) (v4 := .bool false) (v5 := .bool false) HB3.out
          generalize (((((W3.setCell ⟨G, 0, none⟩ (.int .i64 2)).setCell ⟨G, 1, none⟩ (.int .u8 vv)).setCell ⟨G, 2, none⟩ (.int .u8 eo)).setCell ⟨G, 3, none⟩ (.slice none 0 0)).setCell ⟨G, 4, none⟩ (.bool false)).setCell ⟨G, 5, none⟩ (.bool false) = W4 at hb4 hM4 ⊢
          have HT4 := hid (HT3.out.moved hM4 (fun q hq => by
            have h := HBX.out q (List.mem_singleton.1 hq)
            exact ⟨h.1, h.2.1, h.2.2.1⟩))
          have HD4 : Hid (DInP W4 (.slice y N c) (.slice xw ws.length cw) (.slice none 0 0) []) := DInP.nil _ _ _
          have HBB4 := hid (HBB3.out.trans (hM4.toBelow HBB3.out.size (fun q hq => by rw [List.mem_singleton.1 hq]; exact hGB)))
          have HB4 := hid hb4
          have hlw4 : G < W4.heap.size := (Array.getElem?_eq_some_iff.1 hb4).1
          clear y0 y1 y2 y3 y4 y5 yf0 yf1 yf2 yf3 yf4 yf5 hM4 HB3 HT3 HD3 HBB3 hlw3
          have x0 := cell_of_row W4 G 0 _ 27 _ hb4
          have x1 := cell_of_row W4 G 1 _ 27 _ hb4
          have x2 := cell_of_row W4 G 2 _ 27 _ hb4
          have x3 := cell_of_row W4 G 3 _ 27 _ hb4
          have x4 := cell_of_row W4 G 4 _ 27 _ hb4
          have x5 := cell_of_row W4 G 5 _ 27 _ hb4
          simp only [List.getElem?_toArray, List.getElem?_cons_zero, List.getElem?_cons_succ] at x0 x1 x2 x3 x4 x5
          clear hb4
          have HCL := hid (say_any vv eo (by omega) ⟨ho0, ho1⟩ W4)
          go_upto_region 23 with fail
          refine HCL.out.mono ?_
          rintro e w5 ⟨v5, rfl, hv5, hb5⟩
          have HV5 := hid hv5
          have HT5 := hid (HT4.out.below hb5)
          have HD5 := hid (HD4.out.below hb5)
          have HBB5 := hid (HBB4.out.trans (hb5.mono HBB4.out.size))
          have HB5 := hid ((hb5.block G hlw4).trans HB4.out)
          obtain ⟨x5', n5, c5, rfl⟩ := reads_any_slice hv5
          clear hv5 hb5 HCL HT4 HD4 HBB4 x0 x1 x2 x3 x4 x5
          go_upto_region 23 with (first
            | (at_builtin; refine wpList_append_P rfl (.tmp 75) (.tmp 80) rfl w.heap.size _ (.slice xw ws.length cw) _ _ [255, vv, eo] ws rfl rfl HT5.out HV5.out (by rw [HNL.out, ← HMB.out]; omega) HBB5.out.size (N + M) (by rw [HNL.out, HMB.out]) _ rfl ?_; intro y6 c6 w6 t6 d6 m6 b6; have HT6 := hid t6; have HD6 := hid (d6 _ _ HD5.out); have HBB6 := hid (HBB5.out.trans (b6.mono (Nat.le_refl _))); have HB6 := hid ((m6.block G (Array.getElem?_eq_some_iff.1 HB5.out).1 (HBX.out G rfl).1).trans HB5.out); clear t6 d6 m6 b6)
            | fail)
          have x0 := cell_of_row w6 G 0 _ 27 _ HB6.out
          have x1 := cell_of_row w6 G 1 _ 27 _ HB6.out
          have x2 := cell_of_row w6 G 2 _ 27 _ HB6.out
          have x3 := cell_of_row w6 G 3 _ 27 _ HB6.out
          have x4 := cell_of_row w6 G 4 _ 27 _ HB6.out
          have x5 := cell_of_row w6 G 5 _ 27 _ HB6.out
          simp only [List.getElem?_toArray, List.getElem?_cons_zero, List.getElem?_cons_succ] at x0 x1 x2 x3 x4 x5
          have hrp : Reads w6 (.slice y6 (N + M) c6) (bytesL (ws.map (·.1)) ++ [255, vv, eo]) := by
            have q := HT6.out.rowP
            rw [List.length_append, HNL.out, ← HMB.out] at q
            exact row_done2 q HT6.out.pb (Below.refl _ _)
          obtain ⟨q, hqrun, hqr⟩ := run_from_all hrp N (by rw [List.length_append, HNL.out]; omega)
          rw [List.drop_left' HNL.out] at hqr
          have HQR := hid hqr
          have HQRUN := hid hqrun
          clear hrp hqr hqrun
          go_wp2_with fail
          refine wp_region_held_drew (S := (fun w' => w'.cell? ⟨G, 0, none⟩ = some (.int .i64 2) ∧ w'.cell? ⟨G, 1, none⟩ = some (.int .u8 vv) ∧ w'.cell? ⟨G, 2, none⟩ = some (.int .u8 eo) ∧ w'.cell? ⟨G, 3, none⟩ = some (.slice none 0 0) ∧ w'.cell? ⟨G, 4, none⟩ = some (.bool false) ∧ w'.cell? ⟨G, 5, none⟩ = some (.bool false))) (by kernel_rfl) ⟨x0, x1, x2, x3, x4, x5⟩ (fun hHeld => ?_)
          refine takeD (i := 0) (v := ?_) 82 rfl rfl (by kernel_rfl) (by kernel_rfl) (by kernel_rfl) (fun _ _ _ h => h) (by assumption) (Or.inl ⟨by rfl, ?_⟩) ?_
          rotate_left
          · intro w hSw
            (try dsimp only at hSw)
            go_simp
            try with_reducible rfl
          simp only [List.setIfInBounds_toArray, List.set_cons_zero, List.set_cons_succ]
          refine takeD (i := 1) (v := ?_) 83 rfl rfl (by kernel_rfl) (by kernel_rfl) (by kernel_rfl) (fun _ _ _ h => h) (by assumption) (Or.inl ⟨by rfl, ?_⟩) ?_
          rotate_left
          · intro w hSw
            (try dsimp only at hSw)
            go_simp
            try with_reducible rfl
          simp only [List.setIfInBounds_toArray, List.set_cons_zero, List.set_cons_succ]
          refine takeD (i := 2) (v := ?_) 84 rfl rfl (by kernel_rfl) (by kernel_rfl) (by kernel_rfl) (fun _ _ _ h => h) (by assumption) (Or.inl ⟨by rfl, ?_⟩) ?_
          rotate_left
          · intro w hSw
            (try dsimp only at hSw)
            go_simp
            try with_reducible rfl
          simp only [List.setIfInBounds_toArray, List.set_cons_zero, List.set_cons_succ]
          refine takeD (i := 3) (v := ?_) 85 rfl rfl (by kernel_rfl) (by kernel_rfl) (by kernel_rfl) (fun _ _ _ h => h) (by assumption) (Or.inl ⟨by rfl, ?_⟩) ?_
          rotate_left
          · intro w hSw
            (try dsimp only at hSw)
            go_simp
            try with_reducible rfl
          simp only [List.setIfInBounds_toArray, List.set_cons_zero, List.set_cons_succ]
          refine takeD (i := 8) (v := ?_) 90 rfl rfl (by kernel_rfl) (by kernel_rfl) (by kernel_rfl) (fun _ _ _ h => h) (by assumption) (Or.inl ⟨by rfl, ?_⟩) ?_
          rotate_left
          · intro w hSw
            (try dsimp only at hSw)
            go_simp
            try with_reducible rfl
          simp only [List.setIfInBounds_toArray, List.set_cons_zero, List.set_cons_succ]
          refine wpAnyH_ready (rs := [4]) (by kernel_rfl) (by simp) ?_
          refine AllReadyH.cons (by simp only [List.getElem?_toArray, List.getElem?_cons_succ, List.getElem?_cons_zero]; rfl) (fun K hK => ?_) AllReadyH.nil
          go_simp
          refine (refBytes_opt vv eo (by omega) ⟨ho0, ho1⟩ _).mono ?_
          rintro e w7 ⟨v7, rfl, hv7, hbN⟩
          have HV7 := hid hv7
          have HB7 := hid (Below.trans (Below.refl w6.heap.size w6).drew hbN)
          obtain ⟨x7, n7, c7, rfl⟩ := reads_any_slice hv7
          obtain rfl : M = n7 := HMB.out.trans (reads_len hv7).symm
          clear hv7
          refine hK.out _ _ ?_ (fun hHeldN => ?_)
          · exact ⟨keepc hbN hHeld.1, keepc hbN hHeld.2.1, keepc hbN hHeld.2.2.1, keepc hbN hHeld.2.2.2.1, keepc hbN hHeld.2.2.2.2.1, keepc hbN hHeld.2.2.2.2.2⟩
          clear hK K hHeld
          have hHeld := hHeldN
          clear hHeldN
          refine takeD (i := 5) (v := ?_) 87 rfl rfl (by kernel_rfl) (by kernel_rfl) (by kernel_rfl) (fun _ _ _ h => h) (by assumption) (Or.inl ⟨by rfl, ?_⟩) ?_
          rotate_left
          · intro w hSw
            (try dsimp only at hSw)
            go_simp
            try with_reducible rfl
          simp only [List.setIfInBounds_toArray, List.set_cons_zero, List.set_cons_succ]
          refine takeD (i := 6) (v := .int .i64 (N : Int)) 88 rfl rfl (by kernel_rfl) (by kernel_rfl) (by kernel_rfl) (fun _ _ _ h => h) (by assumption) (Or.inl ⟨by rfl, ?_⟩) ?_
          · intro w hSw
            go_simp
            exact wrap_nat N (by omega)
          simp only [List.setIfInBounds_toArray, List.set_cons_zero, List.set_cons_succ]
          refine takeD (i := 7) (v := q) 89 rfl rfl (by kernel_rfl) (by kernel_rfl) (by kernel_rfl) (fun _ _ _ h => h) (by assumption) (Or.inl ⟨by rfl, ?_⟩) ?_
          · intro w hSw
            have hq := HQRUN.out w
            go_simp
          simp only [List.setIfInBounds_toArray, List.set_cons_zero, List.set_cons_succ]
          refine wpAnyH_ready (rs := [9]) (by kernel_rfl) (by simp) ?_
          refine AllReadyH.cons (by simp only [List.getElem?_toArray, List.getElem?_cons_succ, List.getElem?_cons_zero]; rfl) (fun K hK => ?_) AllReadyH.nil
          go_simp
          refine (refBytes_opt vv eo (by omega) ⟨ho0, ho1⟩ _).mono ?_
          rintro e w8 ⟨v8, rfl, hv8, hbN⟩
          have HV8 := hid hv8
          have HB8 := hid (HB7.out.trans (hbN.mono HB7.out.size))
          clear hv8
          refine hK.out _ _ ?_ (fun hHeldN => ?_)
          · exact ⟨keepc hbN hHeld.1, keepc hbN hHeld.2.1, keepc hbN hHeld.2.2.1, keepc hbN hHeld.2.2.2.1, keepc hbN hHeld.2.2.2.2.1, keepc hbN hHeld.2.2.2.2.2⟩
          clear hK K hHeld
          have hHeld := hHeldN
          clear hHeldN
          refine wpAnyH_ready (rs := [10]) (by kernel_rfl) (by simp) ?_
          refine AllReadyH.cons (by simp only [List.getElem?_toArray, List.getElem?_cons_succ, List.getElem?_cons_zero]; rfl) (fun K hK => ?_) AllReadyH.nil
          go_simp
          refine (same_true q v8 [255, vv, eo] w8 (reads_below HQR.out HB8.out) HV8.out).mono ?_
          rintro e w9 ⟨rfl, rfl⟩
          refine hK.out _ _ ?_ (fun hHeldN => ?_)
          · exact hHeld
          clear hK K hHeld
          have hHeld := hHeldN
          clear hHeldN
          refine takeD (i := 11) (v := ?_) 93 rfl rfl (by kernel_rfl) (by kernel_rfl) (by kernel_rfl) (fun _ _ _ h => h) (by assumption) (Or.inl ⟨by rfl, ?_⟩) ?_
          rotate_left
          · intro w hSw
            (try dsimp only at hSw)
            go_simp
            try with_reducible rfl
          simp only [List.setIfInBounds_toArray, List.set_cons_zero, List.set_cons_succ]
          refine wpAnyH_done (by kernel_rfl) ?_ _
          have hT8 := HT6.out.below HB8.out
          have hD8 := HD6.out.below HB8.out
          have HB9 := hid (HBB6.out.trans (HB8.out.mono HBB6.out.size))
          have HT9 := hid (hT8.below ((Below.refl _ _).alloc (Nat.le_refl _) (.cells #[.int .i64 2, .int .u8 vv, .int .u8 eo, .slice none 0 0, .bool false, .bool false] 34)))
          have HD9 := hid (hD8.below ((Below.refl _ _).alloc (Nat.le_refl _) (.cells #[.int .i64 2, .int .u8 vv, .int .u8 eo, .slice none 0 0, .bool false, .bool false] 34)))
          have HNS := hid (news_six w8 (.int .i64 2) (.int .u8 vv) (.int .u8 eo) (.slice none 0 0) (.bool false) (.bool false) 34)
          have h0 := hHeld.1
          have h1 := hHeld.2.1
          have h2 := hHeld.2.2.1
          have h3 := hHeld.2.2.2.1
          have h4 := hHeld.2.2.2.2.1
          have h5 := hHeld.2.2.2.2.2
          clear hT8 hD8 hHeld HV7 HV8 HB7 HQR HQRUN
          go_wp2_with (first
            | (at_builtin; refine wpList_append_blk _ rfl _ _ 25 rfl 34 i1 _ 6 48 Tryd.underlying25 hi1 hy0 hy1 hy2 rfl (by decide) _ _ _ rfl HT9.out.rowW ⟨w8.heap.size, 0, none⟩ 1 1 (evC ⟨2, vv, eo, [], false, false⟩ (.slice none 0 0)) rfl rfl HNS.out (one_evC _ _ rfl) (by have := HWL.out; unfold maxLen; omega) (by have := HWL.out; omega) ?_; intro wv' w10 ho hg hn' hk'; have HO10 := hid ho; have HG10 := hid hg; have HK10 := hid hk'; clear ho hg hn' hk')
            | fail)
          have r := HT9.out.addW (e := ⟨2, vv, eo, [], false, false⟩) HD9.out (by have := HB9.out.size; simp; omega) HO10.out HG10.out HK10.out
          have HT10 := hid r.1
          have HB10 := hid ((HB9.out.alloc HB9.out.size (.cells #[.int .i64 2, .int .u8 vv, .int .u8 eo, .slice none 0 0, .bool false, .bool false] 34)).trans r.2)
          clear r
          have hbl : bytesL ((ws ++ [((⟨2, vv, eo, [], false, false⟩ : Ev), ((.slice none 0 0) : Value))]).map (·.1)) = bytesL (ws.map (·.1)) ++ [255, vv, eo] := by
            rw [List.map_append]
            exact bytesL_snoc _ _
          have HBL := hid hbl
          clear hbl
          go_roundw
          case rel =>
            refine ⟨k + 1, N + M, ws ++ [(⟨2, vv, eo, [], false, false⟩, (.slice none 0 0))], y6, c6, by omega, by omega, by go_num, rfl, by omega, ?_, ?_, ?_, ?_, HB10.out⟩
            · show TwoP _ _ _ _ _ _
              rw [HBL.out]; exact HT10.out
            · show _ = _
              rw [HBL.out, List.length_append, HNL.out, ← HMB.out]
            · intro x hx
              rcases List.mem_append.1 hx with hx | hx
              · exact HNM.out x hx
              · rw [List.mem_singleton.1 hx]; exact HNE.out
            · show _ = _
              rw [List.length_append, HWL.out]; rfl
          case measure => simp [RowKit.intOf]; omega
        · go_upto_region 13 with fail
          have hnorm : Norm ⟨3, 0, eo, ds, false, false⟩ := Norm.sub eo ds ⟨ho0, ho1⟩ (by rw [← HML.out]; exact hdl) HDB.out
          obtain ⟨M, hM⟩ : ∃ M, M = ((subL eo ds)).length := ⟨_, rfl⟩
          have hM5 : M ≤ 517 := by rw [hM]; exact (norm_bytes hnorm).2
          have HNE := hid hnorm
          have HMB := hid hM
          clear hnorm hM
          obtain ⟨hb4, hM4⟩ := boxed6 (v0 := .int .i64 3) (v1 := .int .u8 0) (v2 := .int .u8 eo) (v3 := .slice (some ⟨dg, 0, none⟩) m dc) (v4 := .bool false) (v5 := .bool false) HB3.out
          generalize (((((W3.setCell ⟨G, 0, none⟩ (.int .i64 3)).setCell ⟨G, 1, none⟩ (.int .u8 0)).setCell ⟨G, 2, none⟩ (.int .u8 eo)).setCell ⟨G, 3, none⟩ (.slice (some ⟨dg, 0, none⟩) m dc)).setCell ⟨G, 4, none⟩ (.bool false)).setCell ⟨G, 5, none⟩ (.bool false) = W4 at hb4 hM4 ⊢
          have HT4 := hid (HT3.out.moved hM4 (fun q hq => by
            have h := HBX.out q (List.mem_singleton.1 hq)
            exact ⟨h.1, h.2.1, h.2.2.1⟩))
          have HD4 : Hid (DInP W4 (.slice y N c) (.slice xw ws.length cw) (.slice (some ⟨dg, 0, none⟩) m dc) ds) := ⟨reads_moved HD3.out.1 hM4 (fun q hq r => (HBX.out q (List.mem_singleton.1 r)).2.2.2 (eq_blk hq)), fun q hq => ⟨Nat.lt_of_lt_of_le (HD3.out.2 q hq).1 hM4.size, (HD3.out.2 q hq).2⟩⟩
          have HBB4 := hid (HBB3.out.trans (hM4.toBelow HBB3.out.size (fun q hq => by rw [List.mem_singleton.1 hq]; exact hGB)))
          have HB4 := hid hb4
          have hlw4 : G < W4.heap.size := (Array.getElem?_eq_some_iff.1 hb4).1
          clear y0 y1 y2 y3 y4 y5 yf0 yf1 yf2 yf3 yf4 yf5 hM4 HB3 HT3 HD3 HBB3 hlw3
          have x0 := cell_of_row W4 G 0 _ 27 _ hb4
          have x1 := cell_of_row W4 G 1 _ 27 _ hb4
          have x2 := cell_of_row W4 G 2 _ 27 _ hb4
          have x3 := cell_of_row W4 G 3 _ 27 _ hb4
          have x4 := cell_of_row W4 G 4 _ 27 _ hb4
          have x5 := cell_of_row W4 G 5 _ 27 _ hb4
          simp only [List.getElem?_toArray, List.getElem?_cons_zero, List.getElem?_cons_succ] at x0 x1 x2 x3 x4 x5
          clear hb4
          have HCL := hid (subBytes_any eo ⟨ho0, ho1⟩ ⟨dg, 0, none⟩ m dc ds W4 HD4.out.1 (by omega))
          go_upto_region 23 with fail
          refine HCL.out.mono ?_
          rintro e w5 ⟨v5, rfl, hv5, hb5⟩
          have HV5 := hid hv5
          have HT5 := hid (HT4.out.below hb5)
          have HD5 := hid (HD4.out.below hb5)
          have HBB5 := hid (HBB4.out.trans (hb5.mono HBB4.out.size))
          have HB5 := hid ((hb5.block G hlw4).trans HB4.out)
          obtain ⟨x5', n5, c5, rfl⟩ := reads_any_slice hv5
          clear hv5 hb5 HCL HT4 HD4 HBB4 x0 x1 x2 x3 x4 x5
          go_upto_region 23 with (first
            | (at_builtin; refine wpList_append_P rfl (.tmp 37) (.tmp 42) rfl w.heap.size _ (.slice xw ws.length cw) _ _ (subL eo ds) ws rfl rfl HT5.out HV5.out (by rw [HNL.out, ← HMB.out]; omega) HBB5.out.size (N + M) (by rw [HNL.out, HMB.out]) _ rfl ?_; intro y6 c6 w6 t6 d6 m6 b6; have HT6 := hid t6; have HD6 := hid (d6 _ _ HD5.out); have HBB6 := hid (HBB5.out.trans (b6.mono (Nat.le_refl _))); have HB6 := hid ((m6.block G (Array.getElem?_eq_some_iff.1 HB5.out).1 (HBX.out G rfl).1).trans HB5.out); clear t6 d6 m6 b6)
            | fail)
          have x0 := cell_of_row w6 G 0 _ 27 _ HB6.out
          have x1 := cell_of_row w6 G 1 _ 27 _ HB6.out
          have x2 := cell_of_row w6 G 2 _ 27 _ HB6.out
          have x3 := cell_of_row w6 G 3 _ 27 _ HB6.out
          have x4 := cell_of_row w6 G 4 _ 27 _ HB6.out
          have x5 := cell_of_row w6 G 5 _ 27 _ HB6.out
          simp only [List.getElem?_toArray, List.getElem?_cons_zero, List.getElem?_cons_succ] at x0 x1 x2 x3 x4 x5
          have hrp : Reads w6 (.slice y6 (N + M) c6) (bytesL (ws.map (·.1)) ++ (subL eo ds)) := by
            have q := HT6.out.rowP
            rw [List.length_append, HNL.out, ← HMB.out] at q
            exact row_done2 q HT6.out.pb (Below.refl _ _)
          obtain ⟨q, hqrun, hqr⟩ := run_from_all hrp N (by rw [List.length_append, HNL.out]; omega)
          rw [List.drop_left' HNL.out] at hqr
          have HQR := hid hqr
          have HQRUN := hid hqrun
          clear hrp hqr hqrun
          go_wp2_with fail
          refine wp_region_held_drew (S := (fun w' => w'.cell? ⟨G, 0, none⟩ = some (.int .i64 3) ∧ w'.cell? ⟨G, 1, none⟩ = some (.int .u8 0) ∧ w'.cell? ⟨G, 2, none⟩ = some (.int .u8 eo) ∧ w'.cell? ⟨G, 3, none⟩ = some (.slice (some ⟨dg, 0, none⟩) m dc) ∧ w'.cell? ⟨G, 4, none⟩ = some (.bool false) ∧ w'.cell? ⟨G, 5, none⟩ = some (.bool false))) (by kernel_rfl) ⟨x0, x1, x2, x3, x4, x5⟩ (fun hHeld => ?_)
          refine takeD (i := 0) (v := ?_) 82 rfl rfl (by kernel_rfl) (by kernel_rfl) (by kernel_rfl) (fun _ _ _ h => h) (by assumption) (Or.inl ⟨by rfl, ?_⟩) ?_
          rotate_left
          · intro w hSw
            (try dsimp only at hSw)
            go_simp
            try with_reducible rfl
          simp only [List.setIfInBounds_toArray, List.set_cons_zero, List.set_cons_succ]
          refine takeD (i := 1) (v := ?_) 83 rfl rfl (by kernel_rfl) (by kernel_rfl) (by kernel_rfl) (fun _ _ _ h => h) (by assumption) (Or.inl ⟨by rfl, ?_⟩) ?_
          rotate_left
          · intro w hSw
            (try dsimp only at hSw)
            go_simp
            try with_reducible rfl
          simp only [List.setIfInBounds_toArray, List.set_cons_zero, List.set_cons_succ]
          refine takeD (i := 2) (v := ?_) 84 rfl rfl (by kernel_rfl) (by kernel_rfl) (by kernel_rfl) (fun _ _ _ h => h) (by assumption) (Or.inl ⟨by rfl, ?_⟩) ?_
          rotate_left
          · intro w hSw
            (try dsimp only at hSw)
            go_simp
            try with_reducible rfl
          simp only [List.setIfInBounds_toArray, List.set_cons_zero, List.set_cons_succ]
          refine takeD (i := 3) (v := ?_) 85 rfl rfl (by kernel_rfl) (by kernel_rfl) (by kernel_rfl) (fun _ _ _ h => h) (by assumption) (Or.inl ⟨by rfl, ?_⟩) ?_
          rotate_left
          · intro w hSw
            (try dsimp only at hSw)
            go_simp
            try with_reducible rfl
          simp only [List.setIfInBounds_toArray, List.set_cons_zero, List.set_cons_succ]
          refine takeD (i := 8) (v := ?_) 90 rfl rfl (by kernel_rfl) (by kernel_rfl) (by kernel_rfl) (fun _ _ _ h => h) (by assumption) (Or.inl ⟨by rfl, ?_⟩) ?_
          rotate_left
          · intro w hSw
            (try dsimp only at hSw)
            go_simp
            try with_reducible rfl
          simp only [List.setIfInBounds_toArray, List.set_cons_zero, List.set_cons_succ]
          refine wpAnyH_ready (rs := [4]) (by kernel_rfl) (by simp) ?_
          refine AllReadyH.cons (by simp only [List.getElem?_toArray, List.getElem?_cons_succ, List.getElem?_cons_zero]; rfl) (fun K hK => ?_) AllReadyH.nil
          go_simp
          refine (refBytes_sub eo ⟨ho0, ho1⟩ dg m dc ds _ (reads_below HD6.out.1 (Below.refl _ _).drew) (by omega)).mono ?_
          rintro e w7 ⟨v7, rfl, hv7, hbN⟩
          have HV7 := hid hv7
          have HB7 := hid (Below.trans (Below.refl w6.heap.size w6).drew hbN)
          obtain ⟨x7, n7, c7, rfl⟩ := reads_any_slice hv7
          obtain rfl : M = n7 := HMB.out.trans (reads_len hv7).symm
          clear hv7
          refine hK.out _ _ ?_ (fun hHeldN => ?_)
          · exact ⟨keepc hbN hHeld.1, keepc hbN hHeld.2.1, keepc hbN hHeld.2.2.1, keepc hbN hHeld.2.2.2.1, keepc hbN hHeld.2.2.2.2.1, keepc hbN hHeld.2.2.2.2.2⟩
          clear hK K hHeld
          have hHeld := hHeldN
          clear hHeldN
          refine takeD (i := 5) (v := ?_) 87 rfl rfl (by kernel_rfl) (by kernel_rfl) (by kernel_rfl) (fun _ _ _ h => h) (by assumption) (Or.inl ⟨by rfl, ?_⟩) ?_
          rotate_left
          · intro w hSw
            (try dsimp only at hSw)
            go_simp
            try with_reducible rfl
          simp only [List.setIfInBounds_toArray, List.set_cons_zero, List.set_cons_succ]
          refine takeD (i := 6) (v := .int .i64 (N : Int)) 88 rfl rfl (by kernel_rfl) (by kernel_rfl) (by kernel_rfl) (fun _ _ _ h => h) (by assumption) (Or.inl ⟨by rfl, ?_⟩) ?_
          · intro w hSw
            go_simp
            exact wrap_nat N (by omega)
          simp only [List.setIfInBounds_toArray, List.set_cons_zero, List.set_cons_succ]
          refine takeD (i := 7) (v := q) 89 rfl rfl (by kernel_rfl) (by kernel_rfl) (by kernel_rfl) (fun _ _ _ h => h) (by assumption) (Or.inl ⟨by rfl, ?_⟩) ?_
          · intro w hSw
            have hq := HQRUN.out w
            go_simp
          simp only [List.setIfInBounds_toArray, List.set_cons_zero, List.set_cons_succ]
          refine wpAnyH_ready (rs := [9]) (by kernel_rfl) (by simp) ?_
          refine AllReadyH.cons (by simp only [List.getElem?_toArray, List.getElem?_cons_succ, List.getElem?_cons_zero]; rfl) (fun K hK => ?_) AllReadyH.nil
          go_simp
          refine (refBytes_sub eo ⟨ho0, ho1⟩ dg m dc ds _ (reads_below HD6.out.1 HB7.out) (by omega)).mono ?_
          rintro e w8 ⟨v8, rfl, hv8, hbN⟩
          have HV8 := hid hv8
          have HB8 := hid (HB7.out.trans (hbN.mono HB7.out.size))
          clear hv8
          refine hK.out _ _ ?_ (fun hHeldN => ?_)
          · exact ⟨keepc hbN hHeld.1, keepc hbN hHeld.2.1, keepc hbN hHeld.2.2.1, keepc hbN hHeld.2.2.2.1, keepc hbN hHeld.2.2.2.2.1, keepc hbN hHeld.2.2.2.2.2⟩
          clear hK K hHeld
          have hHeld := hHeldN
          clear hHeldN
          refine wpAnyH_ready (rs := [10]) (by kernel_rfl) (by simp) ?_
          refine AllReadyH.cons (by simp only [List.getElem?_toArray, List.getElem?_cons_succ, List.getElem?_cons_zero]; rfl) (fun K hK => ?_) AllReadyH.nil
          go_simp
          refine (same_true q v8 (subL eo ds) w8 (reads_below HQR.out HB8.out) HV8.out).mono ?_
          rintro e w9 ⟨rfl, rfl⟩
          refine hK.out _ _ ?_ (fun hHeldN => ?_)
          · exact hHeld
          clear hK K hHeld
          have hHeld := hHeldN
          clear hHeldN
          refine takeD (i := 11) (v := ?_) 93 rfl rfl (by kernel_rfl) (by kernel_rfl) (by kernel_rfl) (fun _ _ _ h => h) (by assumption) (Or.inl ⟨by rfl, ?_⟩) ?_
          rotate_left
          · intro w hSw
            (try dsimp only at hSw)
            go_simp
            try with_reducible rfl
          simp only [List.setIfInBounds_toArray, List.set_cons_zero, List.set_cons_succ]
          refine wpAnyH_done (by kernel_rfl) ?_ _
          have hT8 := HT6.out.below HB8.out
          have hD8 := HD6.out.below HB8.out
          have HB9 := hid (HBB6.out.trans (HB8.out.mono HBB6.out.size))
          have HT9 := hid (hT8.below ((Below.refl _ _).alloc (Nat.le_refl _) (.cells #[.int .i64 3, .int .u8 0, .int .u8 eo, .slice (some ⟨dg, 0, none⟩) m dc, .bool false, .bool false] 34)))
          have HD9 := hid (hD8.below ((Below.refl _ _).alloc (Nat.le_refl _) (.cells #[.int .i64 3, .int .u8 0, .int .u8 eo, .slice (some ⟨dg, 0, none⟩) m dc, .bool false, .bool false] 34)))
          have HNS := hid (news_six w8 (.int .i64 3) (.int .u8 0) (.int .u8 eo) (.slice (some ⟨dg, 0, none⟩) m dc) (.bool false) (.bool false) 34)
          have h0 := hHeld.1
          have h1 := hHeld.2.1
          have h2 := hHeld.2.2.1
          have h3 := hHeld.2.2.2.1
          have h4 := hHeld.2.2.2.2.1
          have h5 := hHeld.2.2.2.2.2
          clear hT8 hD8 hHeld HV7 HV8 HB7 HQR HQRUN
          go_wp2_with (first
            | (at_builtin; refine wpList_append_blk _ rfl _ _ 25 rfl 34 i1 _ 6 48 Tryd.underlying25 hi1 hy0 hy1 hy2 rfl (by decide) _ _ _ rfl HT9.out.rowW ⟨w8.heap.size, 0, none⟩ 1 1 (evC ⟨3, 0, eo, ds, false, false⟩ (.slice (some ⟨dg, 0, none⟩) m dc)) rfl rfl HNS.out (one_evC _ _ rfl) (by have := HWL.out; unfold maxLen; omega) (by have := HWL.out; omega) ?_; intro wv' w10 ho hg hn' hk'; have HO10 := hid ho; have HG10 := hid hg; have HK10 := hid hk'; clear ho hg hn' hk')
            | fail)
          have r := HT9.out.addW (e := ⟨3, 0, eo, ds, false, false⟩) HD9.out (by have := HB9.out.size; simp; omega) HO10.out HG10.out HK10.out
          have HT10 := hid r.1
          have HB10 := hid ((HB9.out.alloc HB9.out.size (.cells #[.int .i64 3, .int .u8 0, .int .u8 eo, .slice (some ⟨dg, 0, none⟩) m dc, .bool false, .bool false] 34)).trans r.2)
          clear r
          have hbl : bytesL ((ws ++ [((⟨3, 0, eo, ds, false, false⟩ : Ev), ((.slice (some ⟨dg, 0, none⟩) m dc) : Value))]).map (·.1)) = bytesL (ws.map (·.1)) ++ (subL eo ds) := by
            rw [List.map_append]
            exact bytesL_snoc _ _
          have HBL := hid hbl
          clear hbl
          go_roundw
          case rel =>
            refine ⟨k + 1, N + M, ws ++ [(⟨3, 0, eo, ds, false, false⟩, (.slice (some ⟨dg, 0, none⟩) m dc))], y6, c6, by omega, by omega, by go_num, rfl, by omega, ?_, ?_, ?_, ?_, HB10.out⟩
            · show TwoP _ _ _ _ _ _
              rw [HBL.out]; exact HT10.out
            · show _ = _
              rw [HBL.out, List.length_append, HNL.out, ← HMB.out]
            · intro x hx
              rcases List.mem_append.1 hx with hx | hx
              · exact HNM.out x hx
              · rw [List.mem_singleton.1 hx]; exact HNE.out
            · show _ = _
              rw [List.length_append, HWL.out]; rfl
          case measure => simp [RowKit.intOf]; omega
      · have h12i : (12 : Int) ≤ k := by omega
        have hkw : k ≤ 12 := hk12
        have hT := HT.out.below ((Below.refl _ _).alloc (Nat.le_refl _) (.cells #[.int .i64 ek, .int .u8 ev, .int .u8 eo, .slice xd nd cd, .bool el, .bool eb] 27))
        have HBZ := hid (HBB.out.alloc HBB.out.size (.cells #[.int .i64 ek, .int .u8 ev, .int .u8 eo, .slice xd nd cd, .bool el, .bool eb] 27))
        have hnm := map_norm HNM.out
        obtain ⟨hrun, hmg⟩ := said_back hnm
        have hRP : Reads (wr.alloc (.cells #[.int .i64 ek, .int .u8 ev, .int .u8 eo, .slice xd nd cd, .bool el, .bool eb] 27)) (.slice y N c) (bytesL (ws.map (·.1))) := by
          have q := hT.rowP
          rw [HNL.out] at q
          exact row_done2 q hT.pb (Below.refl _ _)
        have hL : (bytesL (ws.map (·.1))).length ≤ 7000 := by rw [HNL.out]; omega
        have hwt : wt (ws.map (·.1)) ≤ 257 * 12 := by
          have a := wt_norm _ hnm
          rw [List.length_map, HWL.out] at a
          omega
        have HWT := hid hwt
        have HEV := hid (row_evs hT.rowW (fun x hx => (hT.data x hx).1))
        have HFD := hid (feedAll _ (.slice none 0 0) _ [] _ hRP (reads_nil _) hL (by unfold maxLen; simp) (own_lt hT.rowP))
        have HRUN := hid hrun
        have HMG := hid hmg
        clear hT hnm hrun hmg hRP hL hwt HT HBB HNM
        go_wp2_with fail
        refine HFD.out.mono ?_
        rintro e f1 ⟨v5, xs5, rfl, ho5, hx5, hb5⟩
        rw [HMG.out] at hx5
        rw [HRUN.out]
        dsimp only [St.waits]
        have HA1 := hid ho5.evsX
        have HX1 := hid hx5
        have HEV1 := hid (evsX_below HEV.out hb5)
        have HB1' := hid (HBZ.out.trans (hb5.mono HBZ.out.size))
        have hxl : xs5.length ≤ 100000 := by
          have a := congrArg List.length hx5
          have b := wt_length (mergeL (ws.map (·.1)))
          have c := wt_merge (ws.map (·.1))
          have d := HWT.out
          rw [List.length_map] at a
          omega
        obtain ⟨xa, na, ca, rfl⟩ := row_slice ho5.row
        clear ho5 hx5 hb5 HFD
        go_wp2_with fail
        refine (back_any _ xs5 f1 HA1.out hxl).mono ?_
        rintro e f2 ⟨a2, rfl, hv, hb⟩
        have HA2 := hid hv
        have HEV2 := hid (evsX_below HEV1.out hb)
        have HB2 := hid (HB1'.out.trans (hb.mono HB1'.out.size))
        clear hv hb
        go_wp2_with fail
        refine (merge_any _ ws f2 HEV2.out (by have := HWT.out; omega)).mono ?_
        rintro e f3 ⟨v3, xs3, rfl, ho, hgx, hb⟩
        have HC3 := hid ho.evsX
        have HA3 := hid (evsX_below HA2.out hb)
        have HE3 := hid (HX1.out.trans hgx.symm)
        have HB3 := hid (HB2.out.trans (hb.mono HB2.out.size))
        have hxl3 : xs3.length ≤ 100000 := by
          have a := congrArg List.length HE3.out
          rw [List.length_map, List.length_map] at a
          omega
        clear ho hgx hb
        go_wp2_with fail
        refine (back_any v3 xs3 f3 HC3.out hxl3).mono ?_
        rintro e f4 ⟨b4, rfl, hv, hb⟩
        have HC4 := hid hv
        have HA4 := hid (evsX_below HA3.out hb)
        have HB4 := hid (HB3.out.trans (hb.mono HB3.out.size))
        clear hv hb
        go_wp2_with fail
        refine (sameE_true a2 b4 xs5 xs3 f4 HA4.out HC4.out HE3.out hxl).mono ?_
        rintro e f5 ⟨rfl, hb⟩
        have HB5 := hid (HB4.out.trans (hb.mono HB4.out.size))
        clear hb
        go_wp2
        go_ret
        exact ⟨rfl, HB5.out⟩
    · obtain ⟨xw, cw, hwe⟩ := row_slice HT.out.rowW
      subst hwe
      have hT := HT.out
      have HBZ := hid (HBB.out)
      have hnm := map_norm HNM.out
      obtain ⟨hrun, hmg⟩ := said_back hnm
      have hRP : Reads wr (.slice y N c) (bytesL (ws.map (·.1))) := by
        have q := hT.rowP
        rw [HNL.out] at q
        exact row_done2 q hT.pb (Below.refl _ _)
      have hL : (bytesL (ws.map (·.1))).length ≤ 7000 := by rw [HNL.out]; omega
      have hwt : wt (ws.map (·.1)) ≤ 257 * 12 := by
        have a := wt_norm _ hnm
        rw [List.length_map, HWL.out] at a
        omega
      have HWT := hid hwt
      have HEV := hid (row_evs hT.rowW (fun x hx => (hT.data x hx).1))
      have HFD := hid (feedAll _ (.slice none 0 0) _ [] _ hRP (reads_nil _) hL (by unfold maxLen; simp) (own_lt hT.rowP))
      have HRUN := hid hrun
      have HMG := hid hmg
      clear hT hnm hrun hmg hRP hL hwt HT HBB HNM
      go_wp2_with fail
      refine HFD.out.mono ?_
      rintro e f1 ⟨v5, xs5, rfl, ho5, hx5, hb5⟩
      rw [HMG.out] at hx5
      rw [HRUN.out]
      dsimp only [St.waits]
      have HA1 := hid ho5.evsX
      have HX1 := hid hx5
      have HEV1 := hid (evsX_below HEV.out hb5)
      have HB1' := hid (HBZ.out.trans (hb5.mono HBZ.out.size))
      have hxl : xs5.length ≤ 100000 := by
        have a := congrArg List.length hx5
        have b := wt_length (mergeL (ws.map (·.1)))
        have c := wt_merge (ws.map (·.1))
        have d := HWT.out
        rw [List.length_map] at a
        omega
      obtain ⟨xa, na, ca, rfl⟩ := row_slice ho5.row
      clear ho5 hx5 hb5 HFD
      go_wp2_with fail
      refine (back_any _ xs5 f1 HA1.out hxl).mono ?_
      rintro e f2 ⟨a2, rfl, hv, hb⟩
      have HA2 := hid hv
      have HEV2 := hid (evsX_below HEV1.out hb)
      have HB2 := hid (HB1'.out.trans (hb.mono HB1'.out.size))
      clear hv hb
      go_wp2_with fail
      refine (merge_any _ ws f2 HEV2.out (by have := HWT.out; omega)).mono ?_
      rintro e f3 ⟨v3, xs3, rfl, ho, hgx, hb⟩
      have HC3 := hid ho.evsX
      have HA3 := hid (evsX_below HA2.out hb)
      have HE3 := hid (HX1.out.trans hgx.symm)
      have HB3 := hid (HB2.out.trans (hb.mono HB2.out.size))
      have hxl3 : xs3.length ≤ 100000 := by
        have a := congrArg List.length HE3.out
        rw [List.length_map, List.length_map] at a
        omega
      clear ho hgx hb
      go_wp2_with fail
      refine (back_any v3 xs3 f3 HC3.out hxl3).mono ?_
      rintro e f4 ⟨b4, rfl, hv, hb⟩
      have HC4 := hid hv
      have HA4 := hid (evsX_below HA3.out hb)
      have HB4 := hid (HB3.out.trans (hb.mono HB3.out.size))
      clear hv hb
      go_wp2_with fail
      refine (sameE_true a2 b4 xs5 xs3 f4 HA4.out HC4.out HE3.out hxl).mono ?_
      rintro e f5 ⟨rfl, hb⟩
      have HB5 := hid (HB4.out.trans (hb.mono HB4.out.size))
      clear hb
      go_wp2
      go_ret
      exact ⟨rfl, HB5.out⟩
end Go.Proofs.YtdbjjieoohfckaaDoor
