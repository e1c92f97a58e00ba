/-
  A stream that is fed in parts.
-/
import Derived.Test.YtdbjjieoohfckaaDoorGd
namespace Go.Proofs.YtdbjjieoohfckaaDoor
open Go.RowKit Go.Lib

theorem reads_belowB {B : Nat} {w w' : World} {v : Value} {xs : List Int} (h : Reads w v xs) (hb : Below B w w') (hk : ∀ k ∈ blkV v, k < B) : Reads w' v xs := by
  refine ⟨h.1, ?_⟩
  rcases h.2 with h1 | ⟨a, cap, rfl, h1, h2, h3⟩
  · exact .inl h1
  · refine .inr ⟨a, cap, rfl, h1, h2, fun i hi => ?_⟩
    have e : (a.add i).block = a.block := by unfold Addr.add; split <;> rfl
    exact (hb.cell (p := a.add i) (by rw [e]; exact hk _ (by simp [blkV, Value.ownBlock]))).trans (h3 i hi)
/-- Where feed stands. -/
def FeedRel (w : World) (R : Nat) (ps : List Int) (p' s : Value) (wr : World) : Prop :=
  ∃ (m : Nat) (ys : List (Ev × Value)) (d : Value), m ≤ ps.length ∧ Reads wr p' (ps.drop m) ∧ (∀ k ∈ blkV p', k < w.heap.size) ∧ RIn wr R d (runS .between (ps.take m)) ∧ R ∉ blkV d ∧ (∀ k ∈ R :: blkV d, w.heap.size ≤ k) ∧
    OutL wr w.heap.size R d s ys ∧ mergeL (ys.map (·.1)) = mergeL (emit .between (ps.take m)) ∧ wt (ys.map (·.1)) + (runS .between (ps.take m)).wt ≤ 3 * m ∧ Below w.heap.size w wr
theorem drop_take_add (ps : List Int) (m n : Nat) : ps.take (m + n) = ps.take m ++ (ps.drop m).take n := by rw [List.take_add]
/-- The lists behind a part. -/
theorem feed_lists (ps : List Int) (m n : Nat) {ys xs : List (Ev × Value)} (h1 : mergeL (ys.map (·.1)) = mergeL (emit .between (ps.take m))) (h2 : xs.map (·.1) = mergeL (emit (runS .between (ps.take m)) ((ps.drop m).take n))) (h3 : wt (ys.map (·.1)) + (runS .between (ps.take m)).wt ≤ 3 * m) (hn : m + n ≤ ps.length) :
    mergeL ((ys ++ xs).map (·.1)) = mergeL (emit .between (ps.take (m + n))) ∧ wt ((ys ++ xs).map (·.1)) + (runS .between (ps.take (m + n))).wt ≤ 3 * (m + n) ∧ runS .between (ps.take (m + n)) = runS (runS .between (ps.take m)) ((ps.drop m).take n) := by
  have er : runS .between (ps.take (m + n)) = runS (runS .between (ps.take m)) ((ps.drop m).take n) := by rw [drop_take_add, runS_append]
  have hl : ((ps.drop m).take n).length = n := by rw [List.length_take, List.length_drop]; omega
  refine ⟨?_, ?_, er⟩
  · rw [List.map_append, h2, mergeL_append, fold_merge, h1, ← mergeL_append, drop_take_add, emit_append]
  · rw [List.map_append, wt_append, er, h2]
    have a := wt_merge (emit (runS .between (ps.take m)) ((ps.drop m).take n))
    have b := wt_emit (runS .between (ps.take m)) ((ps.drop m).take n)
    omega
/-- What feed leaves. -/
def FeedDone (ps : List Int) (w : World) (e : Ending) (w' : World) : Prop :=
  ∃ v xs, e = .returned (.tuple #[v, .bool (runS .between ps).waits]) ∧ OwnL w' v xs ∧ xs.map (·.1) = mergeL (emit .between ps) ∧ Below w.heap.size w w'
set_option maxRecDepth 100000 in
set_option maxHeartbeats 4000000 in
theorem feedAll (p c : Value) (ps cs : List Int) (w : World) (hp : Reads w p ps) (hc : Reads w c cs) (hl : ps.length ≤ 7000) (hlc : cs.length ≤ maxLen) (hpb : ∀ k ∈ blkV p, k < w.heap.size) : Calls Tryd.prog 12 #[p, c] w (FeedDone ps w) := by
  obtain ⟨i0, hi, hz0, hz1, hz2⟩ := info_parts info37
  unfold maxLen at hlc
  have HP := hid hp
  have HPB := hid hpb
  have HCB := hid hc.1
  obtain ⟨xc, capc, rfl, hcc⟩ := reads_uni hc
  have HC := hid hcc
  clear hp hpb hc hcc
  obtain ⟨n, hn⟩ : ∃ n, n = cs.length := ⟨_, rfl⟩
  rw [← hn] at HC hlc ⊢
  have HLN := hid hn
  clear hn
  go_enter Tryd.func12, Tryd.ntmps12
  go_wp2_with fail
  refine (newReader_any w).mono ?_
  rintro e w1 ⟨rfl, hr1, hb1⟩
  have HR1 := hid hr1
  have HB1 := hid hb1
  clear hr1 hb1
  go_wp2
  go_loopw [0, 7, 15] (fun p' s i w' => ∃ k : Nat, k ≤ n ∧ i = .int .i64 k ∧ Hid (FeedRel w w.heap.size ps p' s w')) (fun _ _ i _ => n - (intOf i).toNat)
  case atStart =>
    refine ⟨0, Nat.zero_le _, rfl, 0, [], .slice none 0 0, Nat.zero_le _, reads_below HP.out HB1.out, HPB.out, HR1.out, nil_notin _, ?_, ⟨World.ownsRow_nil _ _ _ _, (fun _ q => by cases q), (fun _ q => by cases q), (fun _ q => by cases q), (fun _ q => by cases q)⟩, rfl, Nat.le_refl _, HB1.out⟩
    intro k hk
    have : k = w.heap.size := by simpa [blkV, Value.ownBlock] using hk
    omega
  case round =>
    obtain ⟨k, hk, rfl, HF⟩ := hrel
    obtain ⟨m, ys, d, hm, hrp, hpb, hri, hrn, hrb, ho, hme, hwt, hb⟩ := HF.out
    obtain ⟨x, cap, hpe, hcp⟩ := reads_uni hrp
    subst hpe
    have hL : (ps.drop m).length ≤ 7000 := by rw [List.length_drop]; omega
    obtain ⟨L, hLe⟩ : ∃ L, L = (ps.drop m).length := ⟨_, rfl⟩
    by_cases hlt : k < n
    · obtain ⟨g, off, rfl, cc⟩ := HC.out k hlt
      have cb := keepc hb cc
      obtain ⟨cz, hcz, hce⟩ : ∃ cz : Nat, cz < 256 ∧ cs.getD k 0 = (cz : Int) := by
        have q := HCB.out (cs.getD k 0) (by rw [List.getD, List.getElem?_eq_getElem (by rw [← HLN.out]; exact hlt)]; exact List.getElem_mem _)
        exact ⟨(cs.getD k 0).toNat, by omega, by omega⟩
      rw [hce] at cb
      have hki : (k : Int) < n := by omega
      rw [← hLe] at hL ⊢
      clear hcp hce cc HF
      have HRP := hid hrp
      rw [← hLe] at HRP
      have HPB' := hid hpb
      rw [← hLe] at HPB'
      have HLE := hid hLe
      have HH := hid (And.intro hri (And.intro hrn (And.intro hrb (And.intro ho (And.intro hme (And.intro hwt hb))))))
      clear hrp hpb hri hrn hrb ho hme hwt hb hLe
      by_cases hmin : L < cz
      · have hmi : (L : Int) < cz := by omega
        go_wp2_with (first
          | (refine wpList_to _ rfl _ _ rfl _ (ps.drop m) L rfl rfl HRP.out (by rw [← HLE.out]; omega) ?_; intro q hq hqb; have HQ := hid hq; have HQB := hid hqb; clear hq hqb)
          | fail)
        refine (copy_any q ((ps.drop m).take L) wr HQ.out (by rw [List.length_take]; omega)).mono ?_
        rintro e w2 ⟨mine, rfl, hmr, hmb, hmo, -⟩
        have HMR := hid hmr
        have HMB := hid hmb
        have HMO := hid hmo
        have HMN := hid (show ∀ k ∈ blkV mine, wr.heap.size ≤ k ∧ k < w2.heap.size from fun k hk => hmo.lt k (mem_blkV.1 hk))
        clear hmr hmb hmo
        have HFD := hid (feed_any w.heap.size d mine (runS .between (ps.take m)) ((ps.drop m).take L) w2 (HH.out.1.moved (Moved.below HMB.out []) (fun _ _ q => by cases q)) HH.out.2.1 HMR.out (fun k hk q => by
          have h1 := HMN.out k hk
          rcases List.mem_cons.1 q with e | e
          · have := HH.out.1.lt; omega
          · have := HH.out.1.dlt k e; omega) (by have := HH.out.2.2.2.2.2.1; omega) (by rw [List.length_take]; omega))
        go_wp2_with fail
        refine HFD.out.mono ?_
        rintro e w3 ⟨fv, fx, fd, rfl, hf1, hf2, hf3⟩
        have HF1 := hid hf1
        have HF2 := hid hf2
        have HF3 := hid hf3
        have HO2 := hid (HH.out.2.2.2.1.moved (Moved.below HMB.out []) (fun _ _ q => by cases q))
        have HO3 := hid (HO2.out.moved hf3 (fun k hk => (HO2.out.new k hk).2))
        have HLS := hid (feed_lists ps m L HH.out.2.2.2.2.1 hf2 HH.out.2.2.2.2.2.1 (by have := HLE.out; rw [List.length_drop] at this; omega))
        have hyl : ys.length + fx.length ≤ 21000 := by
          have a := wt_length ((ys ++ fx).map (·.1))
          have b := HLS.out.2.1
          have c := HLE.out
          rw [List.length_drop] at c
          rw [List.length_map, List.length_append] at a
          omega
        clear hf1 hf2 hf3
        go_wp2_with (first
          | (at_builtin; refine wpList_append_row _ rfl _ _ 25 rfl 34 i0 _ 6 48 Tryd.underlying25 hi hz0 hz1 hz2 rfl (by decide) _ _ _ rfl HO3.out.row _ _ _ rfl HF1.out.evs.row (one_cellsE (fun y hy => (HF1.out.evs.data y hy).reads)) (by unfold maxLen; omega) (by omega) ?_; intro s' w4 hs1 hs2 hs3; have HS1 := hid hs1; have HS2 := hid hs2; have HS3 := hid hs3; clear hs1 hs2 hs3)
          | fail)
        have HFA := hid (feed_append HO2.out (Nat.le_trans HH.out.2.2.2.2.2.2.size HMB.out.size) HH.out.2.2.1 HF1.out HF3.out HS1.out HS2.out HS3.out)
        have HM4 := hid (own_moved (own_moved (HMO.out.mono (Nat.zero_le _)) HF3.out (fun k hk q => by
          have h1 := HMN.out k hk
          rcases List.mem_cons.1 q with e | e
          · have := HH.out.1.lt; omega
          · have := HH.out.1.dlt k e; omega)) (Moved.grown HS2.out (S := blkV u7) (S' := blkV s') (fun k hk => mem_blkV.2 hk) HS3.out) (fun k hk q => by
          have h1 := HMN.out k hk
          have := HH.out.2.2.2.1.lt k (mem_blks.2 (.inl q)); omega))
        have HFL := hid (flip_any mine ((ps.drop m).take L) w4 HM4.out (by rw [List.length_take]; omega))
        refine HFL.out.mono ?_
        rintro e w5 ⟨rfl, hm5⟩
        have HM5 := hid hm5
        have HB14 := hid (show Below w.heap.size wr w5 from ((HMB.out.mono HH.out.2.2.2.2.2.2.size).trans HFA.out.2.2.2.1).trans (hm5.toBelow (by have a := HFA.out.2.2.2.1.size; have b := HMB.out.size; have c := HH.out.2.2.2.2.2.2.size; omega) (fun k hk => by have := (HMN.out k hk).1; have c := HH.out.2.2.2.2.2.2.size; omega)))
        have HRP5 := hid (reads_belowB HRP.out HB14.out HPB'.out)
        have HNM := hid (show ∀ k ∈ blkV mine, k ∉ blks s' (ys ++ fx) ∧ k ∉ w.heap.size :: blkV fd from fun k hk => by
          have h1 := HMN.out k hk
          refine ⟨fun q => ?_, fun q => ?_⟩
          · rcases HFA.out.2.2.2.2 k q with r | r | r
            · have := HH.out.2.2.2.1.lt k r; omega
            · rcases List.mem_cons.1 r with e | e
              · have := HH.out.1.lt; omega
              · have := HH.out.1.dlt k e; omega
            · omega
          · rcases HF3.out.from' k (List.mem_append.2 (.inl q)) with r | r
            · rcases List.mem_cons.1 r with e | e
              · have := HH.out.1.lt; omega
              · have := HH.out.1.dlt k e; omega
            · omega)
        clear hm5 hyl
        go_wp2_with (first
          | (refine wpList_from _ rfl _ _ rfl _ (ps.drop m) L rfl rfl HRP5.out (by rw [← HLE.out]; omega) ?_; intro q5 hq5 hqb5; have HQ5 := hid hq5; have HQB5 := hid hqb5; clear hq5 hqb5))
        go_roundw
        case rel =>
          refine ⟨k + 1, by omega, by go_num, m + L, ys ++ fx, fd, ?_, ?_, ?_, ?_, ?_, ?_, ?_, HLS.out.1, HLS.out.2.1, ?_⟩
          · have := HLE.out; rw [List.length_drop] at this; omega
          · rw [← List.drop_drop]; exact HQ5.out
          · intro k hk; exact HPB'.out k (HQB5.out k hk)
          · rw [HLS.out.2.2]; exact HFA.out.2.1.moved HM5.out (fun k hk q => (HNM.out k q).2 hk)
          · exact HF1.out.own
          · exact HFA.out.2.2.1
          · exact HFA.out.1.moved HM5.out (fun k hk q => (HNM.out k q).1 hk)
          · exact HH.out.2.2.2.2.2.2.trans HB14.out
        case measure => simp [intOf]; omega
      · have hmi : ¬ (L : Int) < cz := by omega
        have hmj : (cz : Int) ≤ L := by omega
        go_wp2_with (first
          | (refine wpList_to _ rfl _ _ rfl _ (ps.drop m) cz rfl rfl HRP.out (by rw [← HLE.out]; omega) ?_; intro q hq hqb; have HQ := hid hq; have HQB := hid hqb; clear hq hqb)
          | fail)
        refine (copy_any q ((ps.drop m).take cz) wr HQ.out (by rw [List.length_take]; omega)).mono ?_
        rintro e w2 ⟨mine, rfl, hmr, hmb, hmo, -⟩
        have HMR := hid hmr
        have HMB := hid hmb
        have HMO := hid hmo
        have HMN := hid (show ∀ k ∈ blkV mine, wr.heap.size ≤ k ∧ k < w2.heap.size from fun k hk => hmo.lt k (mem_blkV.1 hk))
        clear hmr hmb hmo
        have HFD := hid (feed_any w.heap.size d mine (runS .between (ps.take m)) ((ps.drop m).take cz) w2 (HH.out.1.moved (Moved.below HMB.out []) (fun _ _ q => by cases q)) HH.out.2.1 HMR.out (fun k hk q => by
          have h1 := HMN.out k hk
          rcases List.mem_cons.1 q with e | e
          · have := HH.out.1.lt; omega
          · have := HH.out.1.dlt k e; omega) (by have := HH.out.2.2.2.2.2.1; omega) (by rw [List.length_take]; omega))
        go_wp2_with fail
        refine HFD.out.mono ?_
        rintro e w3 ⟨fv, fx, fd, rfl, hf1, hf2, hf3⟩
        have HF1 := hid hf1
        have HF2 := hid hf2
        have HF3 := hid hf3
        have HO2 := hid (HH.out.2.2.2.1.moved (Moved.below HMB.out []) (fun _ _ q => by cases q))
        have HO3 := hid (HO2.out.moved hf3 (fun k hk => (HO2.out.new k hk).2))
        have HLS := hid (feed_lists ps m cz HH.out.2.2.2.2.1 hf2 HH.out.2.2.2.2.2.1 (by have := HLE.out; rw [List.length_drop] at this; omega))
        have hyl : ys.length + fx.length ≤ 21000 := by
          have a := wt_length ((ys ++ fx).map (·.1))
          have b := HLS.out.2.1
          have c := HLE.out
          rw [List.length_drop] at c
          rw [List.length_map, List.length_append] at a
          omega
        clear hf1 hf2 hf3
        go_wp2_with (first
          | (at_builtin; refine wpList_append_row _ rfl _ _ 25 rfl 34 i0 _ 6 48 Tryd.underlying25 hi hz0 hz1 hz2 rfl (by decide) _ _ _ rfl HO3.out.row _ _ _ rfl HF1.out.evs.row (one_cellsE (fun y hy => (HF1.out.evs.data y hy).reads)) (by unfold maxLen; omega) (by omega) ?_; intro s' w4 hs1 hs2 hs3; have HS1 := hid hs1; have HS2 := hid hs2; have HS3 := hid hs3; clear hs1 hs2 hs3)
          | fail)
        have HFA := hid (feed_append HO2.out (Nat.le_trans HH.out.2.2.2.2.2.2.size HMB.out.size) HH.out.2.2.1 HF1.out HF3.out HS1.out HS2.out HS3.out)
        have HM4 := hid (own_moved (own_moved (HMO.out.mono (Nat.zero_le _)) HF3.out (fun k hk q => by
          have h1 := HMN.out k hk
          rcases List.mem_cons.1 q with e | e
          · have := HH.out.1.lt; omega
          · have := HH.out.1.dlt k e; omega)) (Moved.grown HS2.out (S := blkV u7) (S' := blkV s') (fun k hk => mem_blkV.2 hk) HS3.out) (fun k hk q => by
          have h1 := HMN.out k hk
          have := HH.out.2.2.2.1.lt k (mem_blks.2 (.inl q)); omega))
        have HFL := hid (flip_any mine ((ps.drop m).take cz) w4 HM4.out (by rw [List.length_take]; omega))
        refine HFL.out.mono ?_
        rintro e w5 ⟨rfl, hm5⟩
        have HM5 := hid hm5
        have HB14 := hid (show Below w.heap.size wr w5 from ((HMB.out.mono HH.out.2.2.2.2.2.2.size).trans HFA.out.2.2.2.1).trans (hm5.toBelow (by have a := HFA.out.2.2.2.1.size; have b := HMB.out.size; have c := HH.out.2.2.2.2.2.2.size; omega) (fun k hk => by have := (HMN.out k hk).1; have c := HH.out.2.2.2.2.2.2.size; omega)))
        have HRP5 := hid (reads_belowB HRP.out HB14.out HPB'.out)
        have HNM := hid (show ∀ k ∈ blkV mine, k ∉ blks s' (ys ++ fx) ∧ k ∉ w.heap.size :: blkV fd from fun k hk => by
          have h1 := HMN.out k hk
          refine ⟨fun q => ?_, fun q => ?_⟩
          · rcases HFA.out.2.2.2.2 k q with r | r | r
            · have := HH.out.2.2.2.1.lt k r; omega
            · rcases List.mem_cons.1 r with e | e
              · have := HH.out.1.lt; omega
              · have := HH.out.1.dlt k e; omega
            · omega
          · rcases HF3.out.from' k (List.mem_append.2 (.inl q)) with r | r
            · rcases List.mem_cons.1 r with e | e
              · have := HH.out.1.lt; omega
              · have := HH.out.1.dlt k e; omega
            · omega)
        clear hm5 hyl
        go_wp2_with (first
          | (refine wpList_from _ rfl _ _ rfl _ (ps.drop m) cz rfl rfl HRP5.out (by rw [← HLE.out]; omega) ?_; intro q5 hq5 hqb5; have HQ5 := hid hq5; have HQB5 := hid hqb5; clear hq5 hqb5))
        go_roundw
        case rel =>
          refine ⟨k + 1, by omega, by go_num, m + cz, ys ++ fx, fd, ?_, ?_, ?_, ?_, ?_, ?_, ?_, HLS.out.1, HLS.out.2.1, ?_⟩
          · have := HLE.out; rw [List.length_drop] at this; omega
          · rw [← List.drop_drop]; exact HQ5.out
          · intro k hk; exact HPB'.out k (HQB5.out k hk)
          · rw [HLS.out.2.2]; exact HFA.out.2.1.moved HM5.out (fun k hk q => (HNM.out k q).2 hk)
          · exact HF1.out.own
          · exact HFA.out.2.2.1
          · exact HFA.out.1.moved HM5.out (fun k hk q => (HNM.out k q).1 hk)
          · exact HH.out.2.2.2.2.2.2.trans HB14.out
        case measure => simp [intOf]; omega
    · rw [← hLe] at hL ⊢
      have HRP := hid hrp
      rw [← hLe] at HRP
      have HPB' := hid hpb
      rw [← hLe] at HPB'
      have HLE := hid hLe
      have HH := hid (And.intro hri (And.intro hrn (And.intro hrb (And.intro ho (And.intro hme (And.intro hwt hb))))))
      clear hrp hpb hri hrn hrb ho hme hwt hb hLe hcp HF
      have HFD := hid (feed_any w.heap.size d _ (runS .between (ps.take m)) (ps.drop m) wr HH.out.1 HH.out.2.1 HRP.out (fun k hk q => by
        have h1 := HPB'.out k hk
        have h2 := HH.out.2.2.1 k q
        omega) (by have := HH.out.2.2.2.2.2.1; omega) (by rw [← HLE.out]; omega))
      go_wp2_with fail
      refine HFD.out.mono ?_
      rintro e w3 ⟨fv, fx, fd, rfl, hf1, hf2, hf3⟩
      have HF1 := hid hf1
      have HF2 := hid hf2
      have HF3 := hid hf3
      have HO2 := hid HH.out.2.2.2.1
      have HO3 := hid (HO2.out.moved hf3 (fun k hk => (HO2.out.new k hk).2))
      have HLS0 := hid (feed_lists ps m (ps.drop m).length HH.out.2.2.2.2.1 (by rw [List.take_length]; exact hf2) HH.out.2.2.2.2.2.1 (by rw [List.length_drop]; omega))
      rw [show m + (ps.drop m).length = ps.length by rw [List.length_drop]; omega, List.take_length, List.take_length] at HLS0
      have hyl : ys.length + fx.length ≤ 21000 := by
        have a := wt_length ((ys ++ fx).map (·.1))
        have b := HLS0.out.2.1
        rw [List.length_map, List.length_append] at a
        omega
      clear hf1 hf2 hf3
      go_wp2_with (first
        | (at_builtin; refine wpList_append_row _ rfl _ _ 25 rfl 34 i0 _ 6 48 Tryd.underlying25 hi hz0 hz1 hz2 rfl (by decide) _ _ _ rfl HO3.out.row _ _ _ rfl HF1.out.evs.row (one_cellsE (fun y hy => (HF1.out.evs.data y hy).reads)) (by unfold maxLen; omega) (by omega) ?_; intro s' w4 hs1 hs2 hs3; have HS1 := hid hs1; have HS2 := hid hs2; have HS3 := hid hs3; clear hs1 hs2 hs3)
        | fail)
      have HFA := hid (feed_append HO2.out HH.out.2.2.2.2.2.2.size HH.out.2.2.1 HF1.out HF3.out HS1.out HS2.out HS3.out)
      refine (merge_any s' (ys ++ fx) w4 (row_evs HFA.out.1.row HFA.out.1.data) (by have := HLS0.out.2.1; omega)).mono ?_
      rintro e w6 ⟨mv, mx, rfl, hm1, hm2, hm3⟩
      have HM1 := hid hm1
      have HM2 := hid hm2
      have HM3 := hid hm3
      clear hm1 hm2 hm3
      go_wp2_with fail
      refine (waiting_any w.heap.size fd _ w6 (HFA.out.2.1.moved (Moved.below HM3.out []) (fun _ _ q => by cases q))).mono ?_
      rintro e w7 ⟨rfl, rfl⟩
      have HWT := hid (show (runS (runS .between (ps.take m)) (ps.drop m)).waits = (runS .between ps).waits by rw [HLS0.out.2.2])
      generalize hgz : (runS (runS .between (ps.take m)) (ps.drop m)).waits = zz at HWT ⊢
      clear hgz
      go_wp2
      go_ret2
      refine ⟨mv, mx, (by rw [← HWT.out] <;> rfl), HM1.out, by rw [HM2.out, HLS0.out.1], ?_⟩
      exact (HH.out.2.2.2.2.2.2.trans HFA.out.2.2.2.1).trans (HM3.out.mono (by have a := HFA.out.2.2.2.1.size; have c := HH.out.2.2.2.2.2.2.size; omega))
end Go.Proofs.YtdbjjieoohfckaaDoor
