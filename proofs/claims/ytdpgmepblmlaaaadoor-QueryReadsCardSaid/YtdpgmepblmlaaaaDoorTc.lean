/-
  query: the codes of the replies.
-/
import Derived.Test.YtdpgmepblmlaaaaDoorTb
namespace Go.Proofs.YtdpgmepblmlaaaaDoor
open Go.RowKit Go.Lib Go.Deep

/-- The error, the codes. -/
def parF (ps : List Int) : Int × List Int := ((repF ps).1, (repF ps).2.map (fun d => d.getD 0 0))
theorem repF_ne (ps : List Int) : ∀ d ∈ (repF ps).2, d ≠ [] := by
  intro d hd
  rcases ps with _ | ⟨b, zs⟩
  · cases hd
  rw [repF_cons] at hd
  by_cases hb : b ≠ 136
  · rw [if_pos hb] at hd
    cases hd
  rw [if_neg hb] at hd
  unfold repG at hd
  by_cases ha : (sfA zs).1.any badB = true
  · rw [if_pos ha] at hd
    cases hd
  rw [if_neg ha] at hd
  by_cases he : (sfA zs).2 ≠ 0
  · rw [if_pos he] at hd
    cases hd
  rw [if_neg he] at hd
  obtain ⟨f, hf, rfl⟩ := List.mem_map.1 hd
  intro q
  refine ha (List.any_eq_true.2 ⟨f, hf, ?_⟩)
  unfold badB
  rw [q]
  simp
theorem repF_er (ps : List Int) (h : (repF ps).1 ≠ 0) : (repF ps).2 = [] := by
  rcases ps with _ | ⟨b, zs⟩
  · rfl
  rw [repF_cons] at h ⊢
  by_cases hb : b ≠ 136
  · rw [if_pos hb]
  rw [if_neg hb] at h ⊢
  unfold repG at h ⊢
  by_cases ha : (sfA zs).1.any badB = true
  · rw [if_pos ha]
  rw [if_neg ha] at h ⊢
  by_cases he : (sfA zs).2 ≠ 0
  · rw [if_pos he]
  rw [if_neg he] at h
  exact absurd rfl h
theorem repF_len (ps : List Int) (h : ps.length ≤ 1000000) : (repF ps).2.length ≤ 1000000 := by
  rcases ps with _ | ⟨b, zs⟩
  · exact Nat.zero_le _
  rw [repF_cons]
  split
  · exact Nat.zero_le _
  unfold repG
  split
  · exact Nat.zero_le _
  split
  · exact Nat.zero_le _
  · rw [List.length_map]
    have := sA_count zs.length zs
    unfold sfA
    rw [List.length_cons] at h
    omega
def hdV (x : RvV) : Int := x.d.getD 0 0
theorem head_len {xs : List RvV} {ds : List (List Int)} (h : xs.map RvV.d = ds) (hn : ∀ d ∈ ds, d ≠ []) (k : Nat) (hk : k < xs.length) : 0 < xs[k].d.length := by
  have hm : xs[k].d ∈ ds := by rw [← h]; exact List.mem_map_of_mem (List.getElem_mem hk)
  exact List.length_pos_iff.2 (hn _ hm)
theorem take_head {xs : List RvV} {k : Nat} (hk : k < xs.length) : (xs.take (k + 1)).map hdV = (xs.take k).map hdV ++ [hdV xs[k]] := by
  rw [List.take_succ_eq_append_getElem hk, List.map_append]
  rfl
set_option maxRecDepth 100000 in
set_option maxHeartbeats 4000000 in
theorem parse_any (v : Value) (ps : List Int) (w : World) (h : Reads w v ps) (hl : ps.length ≤ 1000000) : Calls Tryd.prog 38 #[v] w (BysD (parF ps) w) := by
  have HRP := hid (callsIn_wide.1 (replies_in 8 (by omega) v ps w h (by omega)))
  have hne := repF_ne ps
  have her := repF_er ps
  have hrl := repF_len ps hl
  unfold parF
  obtain ⟨x0, c0, rfl⟩ := reads_sl h
  generalize ps.length = L0 at *
  generalize repF ps = r at HRP hne her hrl ⊢
  obtain ⟨er, ds⟩ := r
  dsimp only at hne her hrl ⊢
  have HNE := hid hne
  clear h hne
  go_enter Tryd.func38, Tryd.ntmps38
  go_wp2_with fail
  with_reducible refine HRP.out.mono ?_
  rintro e w1 ⟨lv, xs, rfl, hxd, hM, hb1⟩
  dsimp only at hxd ⊢
  by_cases he : er ≠ 0
  · have hds := her he
    subst hds
    have HF := hid (show BysD (er, ([] : List (List Int)).map (fun d => d.getD 0 0)) w (.returned (.tuple #[.slice none 0 0, .int .i64 er])) w1 from ⟨_, rfl, OwnB.nil _, hb1, fun _ q => (by cases q)⟩)
    have hne1 : (er == 0) = false := by simpa using he
    have hne2 : (er != 0) = true := by simpa using he
    obtain ⟨xl, cl, rfl⟩ := row_any hM.row
    clear hxd hM hb1
    go_wp2
    go_ret2
    exact HF.out
  obtain rfl : er = 0 := Classical.byContradiction he
  clear he
  have HB1 := hid hb1
  have HXD := hid hxd
  obtain ⟨xl, cl, rfl⟩ := row_any hM.row
  have hxl : xs.length ≤ 1000000 := by have h1 := congrArg List.length hxd; rw [List.length_map] at h1; omega
  obtain ⟨g1, cap1, e1, -, -, hat⟩ := hM.at
  injection e1 with e1a e1b e1c
  subst e1a e1c
  have HAT := hid hat
  have HHD := hid (fun k (hk : k < xs.length) => head_len HXD.out HNE.out k hk)
  have HRD := hid (fun k (hk : k < xs.length) => (hM.txt _ (List.getElem_mem hk)).reads)
  have HTK := hid (fun k (hk : k < xs.length) => take_head hk)
  obtain ⟨N, hN⟩ : ∃ N, xs.length = N := ⟨_, rfl⟩
  have HN := hid hN
  have HTN := hid (show (xs.take N).map hdV = ds.map (fun d => d.getD 0 0) from by rw [← hN, List.take_length, ← HXD.out, List.map_map]; rfl)
  have HLN := hid (fun k (hk : k ≤ N) => (show ((xs.take k).map hdV).length = k from by rw [List.length_map, List.length_take]; omega))
  rw [hN] at hxl ⊢
  clear hb1 hxd hM hat e1b hN HRP hrl her
  go_wp2_with fail
  go_loopw [6, 19] (fun b i wr => ∃ k : Nat, k ≤ N ∧ i = .int .i64 k ∧ Hid (wr.ownsRow w1.heap.size 5 1 b k (((xs.take k).map hdV).map (Value.int .u8)) ∧ BytL ((xs.take k).map hdV)) ∧ Hid (Below w1.heap.size w1 wr)) (fun _ i _ => N - (intOf i).toNat)
  case atStart => exact ⟨0, Nat.zero_le _, rfl, hid ⟨World.ownsRow_nil _ _ _ _, fun _ q => (by cases q)⟩, hid (Below.refl _ _)⟩
  case round =>
    obtain ⟨k, hk, rfl, HO, HB⟩ := hrel
    obtain ⟨xb, cb, rfl⟩ := row_anyK HO.out.1
    by_cases hlt : k < N
    · have hki : (k : Int) < N := by omega
      have hkx : k < xs.length := by rw [HN.out]; exact hlt
      obtain ⟨g, rfl, hg, a0⟩ := HAT.out k hkx
      have hpos := HHD.out k hkx
      have hrd := HRD.out k hkx
      have htk := HTK.out k hkx
      have hln := HLN.out k hk
      generalize xs[k] = x at a0 hpos hrd htk
      obtain ⟨ys, tv⟩ := x
      dsimp only at a0 hpos hrd
      have htk : (xs.take (k + 1)).map hdV = (xs.take k).map hdV ++ [ys.getD 0 0] := htk
      obtain ⟨xt, ct, rfl⟩ := reads_sl hrd
      obtain ⟨gt, ot, rfl, d0, _, _⟩ := reads_at hrd 0 hpos
      rw [Nat.add_zero] at d0
      have a0 := (HB.out.cell (p := ⟨g, k, none⟩) hg).trans a0
      have hgt := World.block_lt_of_cell? w1 _ d0
      have d0 := (HB.out.cell (p := ⟨gt, ot, none⟩) hgt).trans d0
      have hbt := BytL.getD hrd.1 0
      have hpi : (0 : Int) < ys.length := by omega
      generalize ys.length = nt at *
      generalize ys.getD 0 0 = b at *
      have hal : Below wr.heap.size wr (wr.alloc (.cells #[.int .u8 b] 5)) := bal (Below.refl _ _) _
      have HBA := hid (below_t HB.out hal)
      have HOA := hid (own_moved HO.out.1 (Moved.below hal []) (fun _ _ q => by cases q))
      have HU := hid (own_lit wr #[.int .u8 b] 1 [b] (by intro x hx; rw [List.mem_singleton.1 hx]; exact hbt) rfl rfl (by omega) wr.heap.size rfl).reads
      have HTKK := hid htk
      have HLE := hid (show k + ([b] : List Int).length ≤ 10000000 by show k + 1 ≤ 10000000; omega)
      have HBT := hid (show BytL ((xs.take (k + 1)).map hdV) by rw [htk]; exact HO.out.2.append (by intro x hx; rw [List.mem_singleton.1 hx]; exact hbt))
      clear hrd htk hal hln
      go_wp2_with (at_builtin; refine wpList_append_bytes rfl (.tmp 23) (.tmp 27) rfl w1.heap.size k _ _ ((xs.take k).map hdV) [b] rfl rfl HOA.out HU.out HLE.out HBA.out.size (k + 1) rfl ((xs.take (k + 1)).map hdV) HTKK.out.symm ?_; intro y cap w' hown hgrow; have HW := hid hown; have HBG := hid (HBA.out.grown hgrow HBA.out.size (fun q hq => (HOA.out.lt q hq).1)); clear hown hgrow)
      go_roundw
      case rel => exact ⟨k + 1, by omega, by go_num, hid ⟨HW.out, HBT.out⟩, HBG⟩
      case measure => simp [intOf]; omega
    · have hkn : N = k := by omega
      subst hkn
      have HF := hid (show BysD (0, ds.map (fun d => d.getD 0 0)) w (.returned (.tuple #[.slice xb N cb, .int .i64 0])) wr from by
        refine ⟨_, rfl, ?_, below_t HB1.out HB.out, fun q hq => Nat.le_trans HB1.out.size (HO.out.1.lt q (mem_blkV.1 hq)).1⟩
        show OwnB wr _ (ds.map (fun d => d.getD 0 0))
        rw [← HTN.out]
        refine ⟨HO.out.2, ?_⟩
        show World.ownsRow wr 0 5 1 _ ((xs.take N).map hdV).length _
        rw [HLN.out N (Nat.le_refl _)]
        exact HO.out.1.mono (Nat.zero_le _))
      go_wp2
      go_ret2
      exact HF.out
set_option maxRecDepth 100000 in
set_option maxHeartbeats 4000000 in
theorem rparse_any (v : Value) (ps : List Int) (w : World) (h : Reads w v ps) (hl : ps.length ≤ 1000000) : Calls Tryd.prog 43 #[v] w (BysD (parF ps) w) := by
  have HRP := hid (rreplies_any v ps w h hl)
  have hne := repF_ne ps
  have her := repF_er ps
  have hrl := repF_len ps hl
  unfold parF
  obtain ⟨x0, c0, rfl⟩ := reads_sl h
  generalize ps.length = L0 at *
  generalize repF ps = r at HRP hne her hrl ⊢
  obtain ⟨er, ds⟩ := r
  dsimp only at hne her hrl ⊢
  have HNE := hid hne
  clear h hne
  go_enter Tryd.func43, Tryd.ntmps43
  go_wp2_with fail
  with_reducible refine HRP.out.mono ?_
  rintro e w1 ⟨lv, xs, rfl, hxd, hM, hb1⟩
  dsimp only at hxd ⊢
  have HB1 := hid hb1
  have HXD := hid hxd
  obtain ⟨xl, cl, rfl⟩ := row_any hM.row
  have hxl : xs.length ≤ 1000000 := by have h1 := congrArg List.length hxd; rw [List.length_map] at h1; omega
  obtain ⟨g1, cap1, e1, -, -, hat⟩ := hM.at
  injection e1 with e1a e1b e1c
  subst e1a e1c
  have HAT := hid hat
  have HHD := hid (fun k (hk : k < xs.length) => head_len HXD.out HNE.out k hk)
  have HRD := hid (fun k (hk : k < xs.length) => (hM.txt _ (List.getElem_mem hk)).reads)
  have HTK := hid (fun k (hk : k < xs.length) => take_head hk)
  obtain ⟨N, hN⟩ : ∃ N, xs.length = N := ⟨_, rfl⟩
  have HN := hid hN
  have HTN := hid (show (xs.take N).map hdV = ds.map (fun d => d.getD 0 0) from by rw [← hN, List.take_length, ← HXD.out, List.map_map]; rfl)
  have HLN := hid (fun k (hk : k ≤ N) => (show ((xs.take k).map hdV).length = k from by rw [List.length_map, List.length_take]; omega))
  rw [hN] at hxl ⊢
  clear hb1 hxd hM hat e1b hN HRP hrl her
  go_wp2_with fail
  go_loopw [6, 16] (fun b i wr => ∃ k : Nat, k ≤ N ∧ i = .int .i64 k ∧ Hid (wr.ownsRow w1.heap.size 5 1 b k (((xs.take k).map hdV).map (Value.int .u8)) ∧ BytL ((xs.take k).map hdV)) ∧ Hid (Below w1.heap.size w1 wr)) (fun _ i _ => N - (intOf i).toNat)
  case atStart => exact ⟨0, Nat.zero_le _, rfl, hid ⟨World.ownsRow_nil _ _ _ _, fun _ q => (by cases q)⟩, hid (Below.refl _ _)⟩
  case round =>
    obtain ⟨k, hk, rfl, HO, HB⟩ := hrel
    obtain ⟨xb, cb, rfl⟩ := row_anyK HO.out.1
    by_cases hlt : k < N
    · have hki : (k : Int) < N := by omega
      have hkx : k < xs.length := by rw [HN.out]; exact hlt
      obtain ⟨g, rfl, hg, a0⟩ := HAT.out k hkx
      have hpos := HHD.out k hkx
      have hrd := HRD.out k hkx
      have htk := HTK.out k hkx
      have hln := HLN.out k hk
      generalize xs[k] = x at a0 hpos hrd htk
      obtain ⟨ys, tv⟩ := x
      dsimp only at a0 hpos hrd
      have htk : (xs.take (k + 1)).map hdV = (xs.take k).map hdV ++ [ys.getD 0 0] := htk
      obtain ⟨xt, ct, rfl⟩ := reads_sl hrd
      obtain ⟨gt, ot, rfl, d0, _, _⟩ := reads_at hrd 0 hpos
      rw [Nat.add_zero] at d0
      have a0 := (HB.out.cell (p := ⟨g, k, none⟩) hg).trans a0
      have hgt := World.block_lt_of_cell? w1 _ d0
      have d0 := (HB.out.cell (p := ⟨gt, ot, none⟩) hgt).trans d0
      have hbt := BytL.getD hrd.1 0
      have hpi : (0 : Int) < ys.length := by omega
      generalize ys.length = nt at *
      generalize ys.getD 0 0 = b at *
      have hal : Below wr.heap.size wr (wr.alloc (.cells #[.int .u8 b] 5)) := bal (Below.refl _ _) _
      have HBA := hid (below_t HB.out hal)
      have HOA := hid (own_moved HO.out.1 (Moved.below hal []) (fun _ _ q => by cases q))
      have HU := hid (own_lit wr #[.int .u8 b] 1 [b] (by intro x hx; rw [List.mem_singleton.1 hx]; exact hbt) rfl rfl (by omega) wr.heap.size rfl).reads
      have HTKK := hid htk
      have HLE := hid (show k + ([b] : List Int).length ≤ 10000000 by show k + 1 ≤ 10000000; omega)
      have HBT := hid (show BytL ((xs.take (k + 1)).map hdV) by rw [htk]; exact HO.out.2.append (by intro x hx; rw [List.mem_singleton.1 hx]; exact hbt))
      clear hrd htk hal hln
      go_wp2_with (at_builtin; refine wpList_append_bytes rfl (.tmp 20) (.tmp 24) rfl w1.heap.size k _ _ ((xs.take k).map hdV) [b] rfl rfl HOA.out HU.out HLE.out HBA.out.size (k + 1) rfl ((xs.take (k + 1)).map hdV) HTKK.out.symm ?_; intro y cap w' hown hgrow; have HW := hid hown; have HBG := hid (HBA.out.grown hgrow HBA.out.size (fun q hq => (HOA.out.lt q hq).1)); clear hown hgrow)
      go_roundw
      case rel => exact ⟨k + 1, by omega, by go_num, hid ⟨HW.out, HBT.out⟩, HBG⟩
      case measure => simp [intOf]; omega
    · have hkn : N = k := by omega
      subst hkn
      have HF := hid (show BysD (er, ds.map (fun d => d.getD 0 0)) w (.returned (.tuple #[.slice xb N cb, .int .i64 er])) wr from by
        refine ⟨_, rfl, ?_, below_t HB1.out HB.out, fun q hq => Nat.le_trans HB1.out.size (HO.out.1.lt q (mem_blkV.1 hq)).1⟩
        show OwnB wr _ (ds.map (fun d => d.getD 0 0))
        rw [← HTN.out]
        refine ⟨HO.out.2, ?_⟩
        show World.ownsRow wr 0 5 1 _ ((xs.take N).map hdV).length _
        rw [HLN.out N (Nat.le_refl _)]
        exact HO.out.1.mono (Nat.zero_le _))
      go_wp2
      go_ret2
      exact HF.out
end Go.Proofs.YtdpgmepblmlaaaaDoor
