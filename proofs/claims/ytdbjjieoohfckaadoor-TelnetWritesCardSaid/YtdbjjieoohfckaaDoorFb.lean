/-
  addData, behind events.
-/
import Derived.Test.YtdbjjieoohfckaaDoorFa
namespace Go.Proofs.YtdbjjieoohfckaaDoor
open Go.RowKit Go.Lib

theorem row_slice {w : World} {B : Nat} {t : TypeId} {sz n : Nat} {v : Value} {cs : List Value} (h : w.ownsRow B t sz v n cs) : ∃ x c, v = .slice x n c := by
  rcases h.2 with ⟨rfl, rfl⟩ | ⟨g, cap, cur, rfl, _⟩ <;> exact ⟨_, _, rfl⟩
/-- The last event's row. -/
theorem last_row {w : World} {v : Value} {ys : List (Ev × Value)} {x : Ev × Value} (h : OwnL w v (ys ++ [x])) : ∃ g cap, v = .slice (some ⟨g, 0, none⟩) (ys.length + 1) cap ∧ (∀ j, j < 6 → w.cell? ⟨g, ys.length * 6 + j, none⟩ = (evC x.1 x.2)[j]?) ∧ ∀ j, w.frozen? ⟨g, j, none⟩ = false := by
  have hl : (ys ++ [x]).length = ys.length + 1 := by simp
  rcases h.row.2 with ⟨rfl, e⟩ | ⟨g, cap, cur, rfl, hg, hh, h1, h2, h3, h4⟩
  · omega
  · refine ⟨g, cap, by rw [hl], fun j hj => ?_, fun j => World.ownsRow.frozenAt h.row j⟩
    rw [World.ownsRow.cellAt h.row _ (by omega), cellsE_at _ ys.length (by omega) j hj]
    simp
set_option maxRecDepth 100000 in
set_option maxHeartbeats 2000000 in
theorem addData_ev (v : Value) (a : Addr) (L cap : Nat) (ps : List Int) (ys : List (Ev × Value)) (x : Ev × Value) (w : World) (h : OwnL w v (ys ++ [x])) (hp : Reads w (.slice (some a) L cap) ps) (hL : 0 < L) (hb : L ≤ 1000000) (hy : ys.length ≤ 1000000) (hx : x.1.kind ≠ 0) :
    Calls Tryd.prog 24 #[v, .slice (some a) L cap] w (AddPost v (ys ++ [x]) ((ys ++ [x]).map (·.1) ++ [dat ps]) w) := by
  obtain ⟨i0, hi, hz0, hz1, hz2⟩ := info_parts info37
  have hl : L = ps.length := (reads_src hp).1
  have HCL := hid (clone_any _ ps w hp (by omega))
  have HO := hid h
  have l0 : ((L : Int) == 0) = false := by simp; omega
  obtain ⟨g, vc, rfl, hc, -⟩ := last_row h
  have c0 : w.cell? ⟨g, ys.length * 6, none⟩ = some (.int .i64 x.1.kind) := hc 0 (by omega)
  have k0 : (x.1.kind != 0) = true := by simpa using hx
  have HLN := hid (show (ys ++ [x]).length = ys.length + 1 by simp)
  clear hl hp h hc hx
  obtain ⟨m, hm⟩ : ∃ m, m = ys.length := ⟨_, rfl⟩
  rw [← hm] at hy c0 HLN HO ⊢
  have HM := hid hm
  clear hm
  generalize x.1.kind = kx at c0 k0
  generalize hxs : ys ++ [x] = xs at HO HLN ⊢
  clear hxs
  go_enter Tryd.func24, Tryd.ntmps24
  go_wp2_with fail
  with_reducible refine HCL.out.mono ?_
  rintro e w1 ⟨d, rfl, hd, hb1, hf⟩
  obtain ⟨xd, nd, cd, rfl⟩ := own_slice hd
  have HD := hid hd
  have HB1 := hid hb1
  have HF := hid hf
  have H1 := own_one hd
  have HRW := hid ((own_moved HO.out.row (Moved.below hb1 []) (fun _ _ q => by cases q)).alloc (.cells #[.int .i64 0, .int .u8 0, .int .u8 0, .slice xd nd cd, .bool false, .bool false] 34))
  rw [HLN.out] at HRW
  clear hd hb1 hf
  go_wp2_with (first
    | (at_builtin; refine wpList_append_blk _ rfl _ _ 25 rfl 34 i0 _ 6 48 Tryd.underlying25 hi hz0 hz1 hz2 rfl (by decide) _ (m + 1) _ rfl HRW.out ⟨w1.heap.size, 0, none⟩ 1 1 (evC (dat ps) (.slice xd nd cd)) rfl rfl (news_six w1 _ _ _ _ _ _ 34) (one_evC _ _ H1) (by unfold maxLen; omega) (by omega) ?_; intro v' w3 ho hg hn hk; have HO3 := hid ho; have HG3 := hid hg; have HK3 := hid hk; clear ho hg hn hk))
  go_ret
  have r := snoc_done (e := dat ps) HO.out HB1.out HD.out HF.out (by rw [HLN.out]; exact HO3.out) HG3.out HK3.out
  exact ⟨_, _, rfl, r.1, map_snoc _ _ _, r.2⟩
set_option maxRecDepth 100000 in
set_option maxHeartbeats 2000000 in
theorem addData_dat (v : Value) (a : Addr) (L cap : Nat) (ps : List Int) (ys : List (Ev × Value)) (x : Ev × Value) (w : World) (h : OwnL w v (ys ++ [x])) (hp : Reads w (.slice (some a) L cap) ps) (hL : 0 < L) (hb : L ≤ 1000000) (hy : ys.length ≤ 1000000) (hd : x.1.data.length ≤ 1000000) (hx : x.1.kind = 0) :
    Calls Tryd.prog 24 #[v, .slice (some a) L cap] w (AddPost v (ys ++ [x]) (ys.map (·.1) ++ [{ x.1 with data := x.1.data ++ ps }]) w) := by
  obtain ⟨i0, hi, hz0, hz1, hz2⟩ := info_parts info5
  have hl : L = ps.length := (reads_src hp).1
  have HSR := hid (reads_src hp).2
  have HPB := hid hp.1
  have HO := hid h
  have l0 : ((L : Int) == 0) = false := by simp; omega
  obtain ⟨g, vc, rfl, hc, hfz⟩ := last_row h
  have HXD := hid (h.data x (by simp))
  have c0 : w.cell? ⟨g, ys.length * 6, none⟩ = some (.int .i64 x.1.kind) := hc 0 (by omega)
  rw [hx] at c0
  have c3 : w.cell? ⟨g, ys.length * 6 + 3, none⟩ = some x.2 := hc 3 (by omega)
  have hgx : some g ≠ x.2.ownBlock := fun e => (blks_nodup.1 h.apart).2 g (by simp [blkV, Value.ownBlock]) x (by simp) (mem_blkV.2 e.symm)
  have HGX := hid hgx
  have HC3 := hid c3
  have HFZ := hid (hfz (ys.length * 6 + 3))
  have HGL := hid (World.block_lt_of_cell? w _ c3)
  have HLL : Hid ((ps.map (Value.int .u8)).length = L * 1) := by show _ = _; rw [List.length_map]; omega
  have HL2 := hid hl
  clear hl hp h hc hx hfz hgx
  obtain ⟨m, hm⟩ : ∃ m, m = ys.length := ⟨_, rfl⟩
  rw [← hm] at hy c0 c3 HC3 HFZ
  have HM := hid hm
  rw [← hm]
  clear hm
  obtain ⟨xd, nd, cd, he⟩ := own_slice HXD.out
  have HE := hid he
  rw [he] at c3 HC3 HGX
  have HXR := HXD.out.2
  rw [he] at HXR
  have HXO := hid HXR
  clear HXR he
  go_enter Tryd.func24, Tryd.ntmps24
  go_wp2_with (first
    | (at_builtin; refine wpList_append_blk _ rfl _ _ 24 rfl 5 i0 _ 1 1 Tryd.underlying24 hi hz0 hz1 hz2 rfl (by decide) _ _ _ rfl HXO.out a L cap (ps.map (Value.int .u8)) rfl HLL.out HSR.out (ints_oneCell .u8 _) (by unfold maxLen; omega) (by omega) ?_; intro v' w3 ho hg hn hk; obtain ⟨xv, cv, rfl⟩ := row_slice ho; have c3 := hg.cell HC3.out HGX.out; have f3 := (World.frozen?_of_block (hg.block g HGL.out HGX.out)).trans HFZ.out; have HO3 := hid ho; have HG3 := hid hg; have HK3 := hid hk; clear ho hg hn hk))
  go_ret
  have hown : OwnB w3 (.slice xv (x.1.data.length + L) cv) (x.1.data ++ ps) := by
    refine ⟨fun y hy => ?_, ?_⟩
    · rcases List.mem_append.1 hy with q | q
      · exact HXD.out.1 y q
      · exact HPB.out y q
    · have q := HO3.out
      have e1 : x.1.data.length + L = (x.1.data ++ ps).length := by rw [List.length_append, HL2.out]
      rw [← List.map_append, e1] at q
      rw [e1]
      exact q
  have r := OwnL.ext (p := ps) HO.out rfl hown (by rw [HE.out]; exact HG3.out) (by rw [HE.out]; exact HK3.out)
  rw [← HM.out] at r
  exact ⟨_, _, rfl, r.1, by simp, r.2⟩
theorem addData_any (v p : Value) (xs : List (Ev × Value)) (ps : List Int) (w : World) (h : OwnL w v xs) (hp : Reads w p ps) (hb : ps.length ≤ 1000000) (hn : xs.length ≤ 1000000) (hd : ∀ x ∈ xs, x.1.data.length ≤ 1000000) :
    Calls Tryd.prog 24 #[v, p] w (AddPost v xs (addD (xs.map (·.1)) ps) w) := by
  by_cases hz : ps = []
  · subst hz
    exact addData_zero v p xs w h hp
  · have hl : 0 < ps.length := List.length_pos_iff.2 hz
    obtain ⟨a, cap, rfl⟩ : ∃ a cap, p = .slice (some a) ps.length cap := by
      rcases hp.2 with ⟨_, e⟩ | ⟨a, cap, e, _⟩
      · exact absurd e hz
      · exact ⟨a, cap, e⟩
    rcases List.eq_nil_or_concat xs with rfl | ⟨ys, x, e⟩
    · rw [List.map_nil, addD_empty hz]
      exact addData_first v a _ cap ps w h hp hl hb
    · have e' : xs = ys ++ [x] := by simpa using e
      subst e'
      have hy : ys.length ≤ 1000000 := by simp at hn; omega
      have hm : (ys ++ [x]).map (·.1) = ys.map (·.1) ++ [x.1] := by simp
      by_cases hx : x.1.kind = 0
      · have := addData_dat v a _ cap ps ys x w h hp hl hb hy (hd x (by simp)) hx
        rw [hm, addD_snoc _ _ hz, if_pos hx]
        exact this
      · have := addData_ev v a _ cap ps ys x w h hp hl hb hy hx
        rw [hm] at this ⊢
        rw [addD_snoc _ _ hz, if_neg hx]
        exact this
end Go.Proofs.YtdbjjieoohfckaaDoor
