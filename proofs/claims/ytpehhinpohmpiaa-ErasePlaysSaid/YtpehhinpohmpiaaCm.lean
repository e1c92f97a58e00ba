/-
  The reference's Tabs; slices.Index of ints.
-/
import Derived.Test.YtpehhinpohmpiaaCj
namespace Go.Proofs.Ytpehhinpohmpiaa
open Go.RowKit Go.Lib Go.Deep

theorem infoB : (Try.prog.info? 4).map (fun i => (i.zero, i.size, i.bytes)) = some (some (.bool false), 1, 1) := by kernel_rfl
/-- A list of bools. -/
structure BolI (W : World) (h N : Nat) (f : Nat → Bool) : Prop where
  at_ : ∀ i, i < N → W.cell? ⟨h, i, none⟩ = some (.bool (f i))
  fr : ∀ i, W.frozen? ⟨h, i, none⟩ = false
  lt : h < W.heap.size
theorem BolI.below {A C : World} {h N : Nat} {f : Nat → Bool} (H : BolI A h N f) (hb : Below A.heap.size A C) : BolI C h N f :=
  ⟨fun i hi => keepc hb (H.at_ i hi), fun i => (hb.frozen (p := ⟨h, i, none⟩) H.lt).trans (H.fr i), Nat.lt_of_lt_of_le H.lt hb.size⟩
theorem BolI.set {A : World} {h N q : Nat} {f : Nat → Bool} (H : BolI A h N f) : BolI (A.setCell ⟨h, q, none⟩ (.bool true)) h N (fun i => if i = q then true else f i) :=
  ⟨fun i hi => by
    by_cases e : i = q
    · subst e
      rw [if_pos rfl]
      exact sc_same (H.at_ i hi)
    · rw [if_neg e]
      exact (sc_other (fun p => e p.symm)).trans (H.at_ i hi), fun i => by simp [H.fr i], by simpa using H.lt⟩
theorem BolI.congr {A : World} {h N : Nat} {f f' : Nat → Bool} (H : BolI A h N f) (e : ∀ i, i < N → f i = f' i) : BolI A h N f' :=
  ⟨fun i hi => by rw [← e i hi]; exact H.at_ i hi, H.fr, H.lt⟩
theorem madeB_at (N i : Nat) (hi : i < N) : (madeCells #[Value.bool false] N)[i]? = some (.bool false) := by
  unfold madeCells
  rw [Array.getElem?_map, Array.getElem?_eq_getElem (by simpa using hi)]
  simp only [Array.getElem_range, Option.map_some, List.size_toArray, List.length_cons, List.length_nil]
  rw [Nat.mod_one]
  rfl
theorem made_bol (w : World) (N : Nat) (t : TypeId) : BolI (w.alloc (.cells (madeCells #[Value.bool false] N) t)) w.heap.size N (fun _ => false) := by
  have hb := World.alloc_heap_new w (.cells (madeCells #[Value.bool false] N) t)
  exact ⟨fun i hi => (cell_of_heap hb).trans (madeB_at N i hi), fun i => frozen_of_heap hb, by simp⟩
theorem run_make_bools (w : World) (N : Nat) (hN : N ≤ 10000) : (Instr.makeSlice 129 (.int .i64 (N : Int)) (.int .i64 (N : Int))).run Try.prog w = .ok (.slice (some ⟨w.heap.size, 0, none⟩) N N) (w.alloc (.cells (madeCells #[Value.bool false] N) 4)) := by
  obtain ⟨i, hi, hz, hs, hb⟩ := info_parts infoB
  have := run_make (P := Try.prog) w 129 4 i (.bool false) Try.underlying129 hi hz .i64 .i64 (N : Int) (N : Int) (by omega) (Int.le_refl _) (by rw [hb]; omega) (by omega)
  rw [hs] at this
  simpa [Value.cells] using this
theorem rangeF_succ (s : Spc) (k : Nat) : (List.range (k + 1)).filter (fun i : Nat => firstB s (i : Int)) = (List.range k).filter (fun i : Nat => firstB s (i : Int)) ++ (if firstB s (k : Int) then [k] else []) := by
  rw [List.range_succ, List.filter_append]
  congr 1
  cases h : firstB s (k : Int) <;> simp [h]
theorem rangeF_len (s : Spc) (k : Nat) : ((List.range k).filter (fun i : Nat => firstB s (i : Int))).length ≤ k := by
  have := List.length_filter_le (fun i : Nat => firstB s (i : Int)) (List.range k)
  rwa [List.length_range] at this
section
variable {b g : Nat} {s : Spc}
set_option maxRecDepth 100000 in
set_option maxHeartbeats 8000000 in
theorem rtabs_any (w : World) (h : RfM w b g s) : Calls Try.prog 48 #[.pointer (some ⟨b, 0, none⟩)] w (ListD 3 1 (intsV ((tabL s).map Int.ofNat)) (tabL s).length w) := by
  obtain ⟨i0, hi, hz0, hz1, hz2⟩ := info_parts infoI
  have hN := h.ok.pos
  have h4 := h.h4
  have hlb := h.lt.1
  have HRF := hid (fun W h => rfirsts_any (b := b) (g := g) (s := s) W h)
  have HFM := hid (fun f hf => firL_mem (s := s) (f := f) hN.1 hf)
  have HFI := hid (fun f hf => firL_iff h.ok (f := f) hf)
  have HFL := hid (show (firL s).length ≤ 3564 from Nat.le_trans (flS_len _ _) (Nat.le_trans (attP_len _ _) hN.2))
  have HH := hid h
  have htl : tabL s = (List.range s.L.length).filter (fun i : Nat => firstB s (i : Int)) := rfl
  rw [htl]
  obtain ⟨N, hNe⟩ : ∃ N : Nat, s.L.length = N := ⟨_, rfl⟩
  rw [hNe] at h4 hN HFM HFI ⊢
  generalize hfl : firL s = fl at HRF HFM HFI HFL
  obtain ⟨NF, hNF⟩ : ∃ NF : Nat, fl.length = NF := ⟨_, rfl⟩
  have HNF := hid (show (fl.map Int.ofNat).length = NF by rw [List.length_map]; exact hNF)
  rw [hNF] at HRF HFL
  have HNF2 := hid hNF
  have hNF3 : NF ≤ 3564 := HFL.out
  have hmk := fun W => run_make_bools W N (by omega)
  obtain ⟨W0, hW0⟩ : ∃ W0, w.alloc (.cells (madeCells #[Value.bool false] N) 4) = W0 := ⟨_, rfl⟩
  have HW0 := hid hW0
  have HO0 := hid (show BolI W0 w.heap.size N (fun _ => false) by rw [← hW0]; exact made_bol w N _)
  have HB0 := hid (show Below w.heap.size w W0 from by rw [← hW0]; exact bal (Below.refl _ _) _)
  clear h hNe hfl htl hNF hW0
  go_enter Try.func48, Try.ntmps48
  go_wp2_with fail
  simp only [HW0.out]
  with_reducible refine (HRF.out _ (HH.out.below HB0.out)).mono ?_
  rintro e w1 ⟨v1, rfl, ho1, hk1, hb1⟩
  have hoc := ints_cells (xs := fl.map Int.ofNat) (by rw [HNF.out]; exact ho1)
  rw [HNF.out] at hoc
  obtain ⟨y1, c1, rfl⟩ := row_any ho1
  have HOC := hid (show ∀ W, Moved w1 W [w.heap.size] [w.heap.size] → ∀ k, k < NF → ∃ gg, y1 = some ⟨gg, 0, none⟩ ∧ W.cell? ⟨gg, k, none⟩ = some (.int .i64 (fl.getD k 0 : Nat)) from fun W hW k hk => by
    rcases hoc with ⟨x, c, e, hx⟩ | ⟨gg, c, e, hc⟩
    · have : NF = 0 := by rw [← HNF.out, hx]; rfl
      omega
    · injection e with e1
      refine ⟨gg, e1, ?_⟩
      have q := hc k hk
      rw [Nat.zero_add] at q
      have hgg : W0.heap.size ≤ gg := hk1 gg (by rw [e1]; simp [blkV, Value.ownBlock])
      have hlt0 := HO0.out.lt
      refine (cell_moved hW q (by simp; omega)).trans ?_
      rw [List.getD_eq_getElem?_getD, List.getElem?_map, List.getD_eq_getElem?_getD, List.getElem?_eq_getElem (by rw [HNF2.out]; exact hk)]
      rfl)
  have HB1 := hid (below_t HB0.out hb1)
  have HO1 := hid (HO0.out.below hb1)
  have hz1' : w.heap.size < w1.heap.size := HO1.out.lt
  clear ho1 hk1 hb1 hoc HO0
  go_wp2_with fail
  go_loopw [17] (fun i W => ∃ k : Nat, k ≤ NF ∧ i = .int .i64 k ∧ Hid (BolI W w.heap.size N (fun i => decide (i ∈ fl.take k))) ∧ Hid (Moved w1 W [w.heap.size] [w.heap.size])) (fun i _ => NF - (intOf i).toNat)
  case atStart => exact ⟨0, by omega, rfl, HO1.out.congr (fun i _ => by simp), Moved.refl _ _⟩
  case round =>
    obtain ⟨k, hk, rfl, HBO, HM⟩ := hrel
    by_cases hkN : k < NF
    · have hki : (k : Int) < NF := by omega
      obtain ⟨gg, rfl, hc⟩ := HOC.out _ HM.out k hkN
      have hlc := World.block_lt_of_cell? wr _ hc
      have hget : fl[k]? = some (fl.getD k 0) := by rw [List.getD_eq_getElem?_getD, List.getElem?_eq_getElem (by rw [HNF2.out]; exact hkN)]; rfl
      have hmem := HFM.out _ (List.mem_of_getElem? hget)
      have HTK := hid (take_one fl k _ hget)
      generalize fl.getD k 0 = x at hc hmem HTK
      have hxi : (x : Int) < N := by omega
      have cx := HBO.out.at_ x hmem
      have fx := HBO.out.fr x
      have hlx := HBO.out.lt
      clear hget
      go_wp2
      go_roundw
      case rel =>
        refine ⟨k + 1, by omega, by go_num, HBO.out.set.congr (fun i _ => ?_), HM.out.trans (Moved.set (by simp) _ _)⟩
        rw [HTK.out]
        by_cases e : i = x
        · rw [if_pos e]; simp [e]
        · rw [if_neg e]; simp [e]
      case measure => simp [intOf]; omega
    · obtain rfl : k = NF := by omega
      have HB2 := hid (show BolI wr w.heap.size N (fun i => firstB s (i : Int)) from HBO.out.congr (fun i hi => by
        have q := HFI.out i hi
        rw [List.take_of_length_le (by rw [HNF2.out]; exact Nat.le_refl _)]
        cases hf : firstB s (i : Int)
        · exact decide_eq_false (fun h => by rw [q.1 h] at hf; cases hf)
        · exact decide_eq_true (q.2 hf)))
      have HBW := hid (HB1.out.trans (HM.out.toBelow HB1.out.size (fun q hq => by simp at hq; omega)))
      have hzr : w.heap.size < wr.heap.size := HB2.out.lt
      obtain ⟨w2, hw2⟩ : ∃ w2, w2 = wr := ⟨_, rfl⟩
      rw [← hw2] at HB2 HBW hzr ⊢
      clear HBO HM hw2 HOC HO1 HB1
      go_wp2_with fail
      go_loopw [6, 27] (fun o i W => ∃ k : Nat, k ≤ N ∧ i = .int .i64 k ∧ Hid (W.ownsRow 0 3 1 o ((List.range k).filter (fun i : Nat => firstB s (i : Int))).length (intsV (((List.range k).filter (fun i : Nat => firstB s (i : Int))).map Int.ofNat))) ∧ Hid (∀ q ∈ blkV o, w2.heap.size ≤ q) ∧ Hid (Below w2.heap.size w2 W)) (fun _ i _ => N - (intOf i).toNat)
      case atStart => exact ⟨0, by omega, rfl, World.ownsRow_nil _ _ _ _, fun q hq => (by cases hq), Below.refl _ _⟩
      case round =>
        obtain ⟨k, hk, rfl, HR, HBk, HB⟩ := hrel
        obtain ⟨y, cc, rfl⟩ := row_any HR.out
        by_cases hkN : k < N
        · have hki : (k : Int) < N := by omega
          have BB := HB2.out.below HB.out
          have ck := BB.at_ k hkN
          have hlk := BB.lt
          have hfl := rangeF_succ s k
          have hfk := rangeF_len s k
          clear BB
          generalize (List.range k).filter (fun i : Nat => firstB s (i : Int)) = fk at HR HBk hfl hfk
          obtain ⟨fb, hfb⟩ : ∃ fb, firstB s (k : Int) = fb := ⟨_, rfl⟩
          rw [hfb] at ck hfl
          have HFE := hid hfl
          clear hfl
          cases fb
          · go_wp2
            go_roundw
            case rel => exact ⟨k + 1, by omega, by go_num, by rw [HFE.out, if_neg (by simp), List.append_nil]; exact HR.out, HBk.out, HB.out⟩
            case measure => simp [intOf]; omega
          · go_wp2_with (first | (at_builtin; refine wpList_append_blk _ rfl _ _ 37 rfl 3 i0 _ 1 8 Try.underlying37 hi hz0 hz1 hz2 rfl (by decide) _ _ _ rfl (HR.out.alloc _) ⟨wr.heap.size, 0, none⟩ 1 1 [.int .i64 k] rfl rfl (one_new _ _ _ _ (by simp)) (by simp [Value.oneCell']) (by unfold maxLen; omega) (by omega) ?_; intro v' W1 hown' hgrow _ hb'; obtain ⟨g', cap', rfl⟩ := row_any hown'; have H1 := hid hown'; have H2 := hid hgrow; have H3 := hid hb'; clear hown' hgrow hb') | fail)
            go_roundw
            case rel =>
              refine ⟨k + 1, by omega, by go_num, ?_, fun q hq => ?_, ?_⟩
              · have h1 := H1.out
                rw [HFE.out, if_pos rfl, List.map_append, List.length_append]
                unfold intsV at h1 ⊢
                rw [List.map_append]
                exact h1
              · rcases H3.out q hq with h | h
                · exact HBk.out q h
                · have := HB.out.size
                  simp at h
                  omega
              · exact (HB.out.al (Nat.le_refl _) _).grown H2.out (by have := HB.out.size; simp; omega) (fun q e => HBk.out q (mem_blkV.2 e))
            case measure => simp [intOf]; omega
        · obtain rfl : k = N := by omega
          go_wp2
          go_ret
          exact ⟨_, rfl, HR.out, fun q hq => Nat.le_trans HBW.out.size (HBk.out q hq), below_t HBW.out HB.out⟩
end
set_option maxRecDepth 100000 in
set_option maxHeartbeats 4000000 in
theorem sindex_any (v : Value) (xs : List Nat) (c : Int) (w : World) (hv : w.ownsRow 0 3 1 v xs.length (intsV (xs.map Int.ofNat))) (hl : xs.length ≤ 1000000) : Calls Try.prog 50 #[v, .int .i64 c] w fun e w' => e = .returned (.int .i64 (idxZ xs c)) ∧ Below w.heap.size w w' := by
  have hoc := ints_cells (xs := xs.map Int.ofNat) (by rw [List.length_map]; exact hv)
  rw [List.length_map] at hoc
  obtain ⟨y1, c1, rfl⟩ := row_any hv
  obtain ⟨N, hN⟩ : ∃ N, xs.length = N := ⟨_, rfl⟩
  rw [hN] at hoc hl hv ⊢
  have HOC := hid (show ∀ W, Below w.heap.size w W → ∀ k, k < N → ∃ gg, y1 = some ⟨gg, 0, none⟩ ∧ W.cell? ⟨gg, k, none⟩ = some (.int .i64 (xs.getD k 0 : Nat)) from fun W hW k hk => by
    rcases hoc with ⟨x, c, e, hx⟩ | ⟨gg, c, e, hc⟩
    · have : N = 0 := by rw [← hN, ← List.length_map (f := Int.ofNat), hx]; rfl
      omega
    · injection e with e1
      refine ⟨gg, e1, ?_⟩
      have q := hc k hk
      rw [Nat.zero_add] at q
      refine (keepc hW q).trans ?_
      rw [List.getD_eq_getElem?_getD, List.getElem?_map, List.getD_eq_getElem?_getD, List.getElem?_eq_getElem (by rw [hN]; exact hk)]
      rfl)
  have HNE := hid hN
  clear hoc hv hN
  go_enter Try.func50, Try.ntmps50
  go_wp2_with fail
  go_loopw [8] (fun i W => ∃ k : Nat, k ≤ N ∧ i = .int .i64 k ∧ Hid (NoF xs c k) ∧ Hid (Below w.heap.size w W)) (fun i _ => N - (intOf i).toNat)
  case atStart => exact ⟨0, by omega, rfl, fun j y hj _ => absurd hj (Nat.not_lt_zero j), Below.refl _ _⟩
  case round =>
    obtain ⟨k, hk, rfl, HNF, HB⟩ := hrel
    by_cases hkN : k < N
    · have hki : (k : Int) < N := by omega
      obtain ⟨gg, rfl, hc⟩ := HOC.out _ HB.out k hkN
      have hlc := World.block_lt_of_cell? wr _ hc
      have hget : xs[k]? = some (xs.getD k 0) := by rw [List.getD_eq_getElem?_getD, List.getElem?_eq_getElem (by rw [HNE.out]; exact hkN)]; rfl
      generalize xs.getD k 0 = x at hc hget
      have HX := hid hget
      clear hget
      by_cases he : (x : Int) = c
      · have hbe : c = (x : Int) := he.symm
        have HE := hid he
        clear he
        go_wp2
        go_ret
        refine ⟨?_, HB.out⟩
        have h := HE.out
        subst h
        rw [HNF.out.found HX.out rfl]
        rfl
      · have hbe : ¬ c = (x : Int) := fun q => he q.symm
        have HE := hid he
        clear he
        go_wp2
        go_roundw
        case rel => exact ⟨k + 1, by omega, by go_num, HNF.out.more HX.out HE.out, HB.out⟩
        case measure => simp [intOf]; omega
    · obtain rfl : k = N := by omega
      go_wp2
      go_ret
      refine ⟨?_, HB.out⟩
      rw [HNF.out.none (by rw [HNE.out]; exact Nat.le_refl _)]
      rfl
end Go.Proofs.Ytpehhinpohmpiaa
