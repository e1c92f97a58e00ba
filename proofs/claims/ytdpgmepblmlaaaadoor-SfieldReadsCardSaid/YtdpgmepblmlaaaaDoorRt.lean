/-
  SfieldReads: the program's reading of structured fields is the document's.
-/
import Derived.Test.YtdpgmepblmlaaaaDoorRs
namespace Go.Proofs.YtdpgmepblmlaaaaDoor
open Go.RowKit Go.Lib Go.Deep

theorem SfM.snoc {t : TypeId} {w w' : World} {v v' : Value} {xs : List SfV} {x : SfV} (ht : t ≠ 5) (h : SfM t w v xs) (ho : OwnB w x.tv x.d.data) (hrow : w'.ownsRow 0 t 2 v' (xs.length + 1) (cellsS xs ++ sfC x)) (hg : w.grownBy w' v.ownBlock) (hb : ∀ k ∈ blkV v', k ∈ blkV v ∨ w.heap.size ≤ k) : SfM t w' v' (xs ++ [x]) := by
  have q := RowS.snoc ht (B := 0) ⟨h.row, h.txt, fun _ _ => Nat.zero_le _, fun _ _ _ _ => Nat.zero_le _⟩ (Nat.zero_le _) ho (fun _ _ => Nat.zero_le _) hrow hg hb
  exact ⟨q.row, q.dat⟩
theorem SfM.moved {t : TypeId} {w w' : World} {v cp : Value} {xs : List SfV} {n : Nat} {cs : List Value} (ht : t ≠ 5) (h : SfM t w v xs) (hm : Moved w w' (blkV cp) (blkV cp)) (hown : w.ownsRow 0 5 1 cp n cs) (hx : ∀ x ∈ xs, ∀ k ∈ blkV x.tv, k ∉ blkV cp) : SfM t w' v xs :=
  ⟨own_moved h.row hm (own_apart h.row hown ht), fun x hxm => (h.txt x hxm).moved hm (hx x hxm)⟩
theorem AcM.moved {t : TypeId} {w w' : World} {v cp : Value} {xs : List AcV} {n : Nat} {cs : List Value} (ht : t ≠ 5) (h : AcM t w v xs) (hm : Moved w w' (blkV cp) (blkV cp)) (hown : w.ownsRow 0 5 1 cp n cs) (hx : ∀ x ∈ xs, (∀ k ∈ blkV x.cv, k ∉ blkV cp) ∧ ∀ k ∈ blkV x.rv, k ∉ blkV cp) : AcM t w' v xs :=
  ⟨own_moved h.row hm (own_apart h.row hown ht), fun x hxm => ⟨(h.txt x hxm).1.moved hm (hx x hxm).1, (h.txt x hxm).2.moved hm (hx x hxm).2⟩⟩
theorem cellsS_take (xs : List SfV) (m : Nat) (hm : m ≤ xs.length) : (cellsS xs).take (m * 2) = cellsS (xs.take m) := by
  have e : cellsS xs = cellsS (xs.take m) ++ cellsS (xs.drop m) := by rw [← cellsS_append, List.take_append_drop]
  have hl : (cellsS (xs.take m)).length = m * 2 := by rw [cellsS_length, List.length_take, Nat.min_eq_left hm]
  rw [e, List.take_append_of_le_length (by omega), List.take_of_length_le (by omega)]
/-- The first ones of a row. -/
theorem SfM.first {w : World} {x : Option Addr} {n c : Nat} {xs : List SfV} (hM : SfM 36 w (.slice x n c) xs) (hn : xs.length = n) (m : Nat) (hm : m ≤ n) : SfM 36 w (.slice x m c) (xs.take m) ∧ ∀ w', (Instr.sliceAt 26 (.slice x n c) none (some (.int .i64 m)) none).run Tryd.prog w' = .ok (.slice x m c) w' := by
  subst hn
  have hlt : (xs.take m).length = m := by rw [List.length_take, Nat.min_eq_left hm]
  rcases hM.row with ⟨h0, ⟨e, hz⟩ | ⟨g, cap, cur, e, hg, hh, h1, h2, h3, h4⟩⟩
  · injection e with e1 e2 e3
    subst e1 e3
    obtain rfl : m = 0 := by omega
    refine ⟨⟨⟨by rw [hlt, cellsS_length, hlt], .inl ⟨rfl, hlt⟩⟩, fun y hy => hM.txt y (List.mem_of_mem_take hy)⟩, fun w' => ?_⟩
    simp [Instr.sliceAt, Instr.slice, run_underlying Tryd.underlying26, Instr.sliceBounds, Instr.sliceBound, asIntOf]
  · injection e with e1 e2 e3
    subst e1 e3
    refine ⟨⟨⟨by rw [cellsS_length], .inr ⟨g, c, cur, by rw [hlt], hg, hh, by omega, h2, h3, ?_⟩⟩, fun y hy => hM.txt y (List.mem_of_mem_take hy)⟩, fun w' => ?_⟩
    · rw [hlt, ← cellsS_take xs m hm, ← h4, List.take_take, Nat.min_eq_left (Nat.mul_le_mul hm (Nat.le_refl _))]
    · have hmc : m ≤ c := by omega
      simp [Instr.sliceAt, Instr.slice, run_underlying Tryd.underlying26, Instr.sliceBounds, Instr.sliceBound, asIntOf, hmc, Addr.add]
/-- Two acts' cells, of old memory. -/
abbrev C14 (w0 w : World) (g g' i : Nat) (v0 v1 v2 v3 v4 v5 v6 u0 u1 u2 u3 u4 u5 u6 : Value) : Prop := w.cell? ⟨g, i, none⟩ = some v0 ∧ w.cell? ⟨g, i + 1, none⟩ = some v1 ∧ w.cell? ⟨g, i + 2, none⟩ = some v2 ∧ w.cell? ⟨g, i + 3, none⟩ = some v3 ∧ w.cell? ⟨g, i + 4, none⟩ = some v4 ∧ w.cell? ⟨g, i + 5, none⟩ = some v5 ∧ w.cell? ⟨g, i + 6, none⟩ = some v6 ∧ w.cell? ⟨g', i, none⟩ = some u0 ∧ w.cell? ⟨g', i + 1, none⟩ = some u1 ∧ w.cell? ⟨g', i + 2, none⟩ = some u2 ∧ w.cell? ⟨g', i + 3, none⟩ = some u3 ∧ w.cell? ⟨g', i + 4, none⟩ = some u4 ∧ w.cell? ⟨g', i + 5, none⟩ = some u5 ∧ w.cell? ⟨g', i + 6, none⟩ = some u6 ∧ Below w0.heap.size w0 w
theorem c14_step {w0 w w' : World} {g g' i : Nat} {v0 v1 v2 v3 v4 v5 v6 u0 u1 u2 u3 u4 u5 u6 : Value} (h : w.cell? ⟨g, i, none⟩ = some v0 ∧ w.cell? ⟨g, i + 1, none⟩ = some v1 ∧ w.cell? ⟨g, i + 2, none⟩ = some v2 ∧ w.cell? ⟨g, i + 3, none⟩ = some v3 ∧ w.cell? ⟨g, i + 4, none⟩ = some v4 ∧ w.cell? ⟨g, i + 5, none⟩ = some v5 ∧ w.cell? ⟨g, i + 6, none⟩ = some v6 ∧ w.cell? ⟨g', i, none⟩ = some u0 ∧ w.cell? ⟨g', i + 1, none⟩ = some u1 ∧ w.cell? ⟨g', i + 2, none⟩ = some u2 ∧ w.cell? ⟨g', i + 3, none⟩ = some u3 ∧ w.cell? ⟨g', i + 4, none⟩ = some u4 ∧ w.cell? ⟨g', i + 5, none⟩ = some u5 ∧ w.cell? ⟨g', i + 6, none⟩ = some u6 ∧ Below w0.heap.size w0 w) (hb : Below w.heap.size w w') : C14 w0 w' g g' i v0 v1 v2 v3 v4 v5 v6 u0 u1 u2 u3 u4 u5 u6 := by
  obtain ⟨a0, a1, a2, a3, a4, a5, a6, b0, b1, b2, b3, b4, b5, b6, hB⟩ := h
  exact ⟨keepc hb a0, keepc hb a1, keepc hb a2, keepc hb a3, keepc hb a4, keepc hb a5, keepc hb a6, keepc hb b0, keepc hb b1, keepc hb b2, keepc hb b3, keepc hb b4, keepc hb b5, keepc hb b6, below_t hB hb⟩
theorem actL_len : ∀ l : List SfD, (actL l).1.length ≤ l.length
  | [] => Nat.le_refl _
  | d :: r => by
    show (if (actF d).1 = 0 then ((actF d).2 :: (actL r).1, (actL r).2) else ([], (actF d).1)).1.length ≤ _
    have := actL_len r
    split
    · simp only [List.length_cons]; omega
    · simp only [List.length_nil]; omega
theorem acts_len (zs : List Int) : (actsF zs).1.length ≤ (sfA zs).1.length := actL_len _
set_option maxRecDepth 100000 in
set_option maxHeartbeats 4000000 in
theorem sfieldReads_walk (v : Value) (zs : List Int) (t : Nat) (ht : t < 256) (w : World) (h : Reads w v zs) (hC : Cods w) : Calls Tryd.prog 3 #[v, .int .u8 t] w fun e w' => e = .returned (.bool true) ∧ Below w.heap.size w w' := by
  obtain ⟨i0, hi, hz0, hz1, hz2⟩ := info_parts infoFr
  have HAW := hid (awake21 w hC)
  have HCOD := hid (fun W (hW : Below w.heap.size w W) => hC.go hW)
  have HCU := hid (fun W (hW : Below w.heap.size w W) => (show Calls Tryd.prog 11 #[v, .int .i64 500] W (OwnDone (zs.take 500) W) from rcut_own v 500 (by omega) zs W (reads_below h hW)))
  have hlp : (zs.take 500).length ≤ 500 := by rw [List.length_take]; omega
  obtain ⟨xv, cv, rfl⟩ := reads_sl h
  generalize zs.take 500 = ps at HCU hlp
  clear h hC
  obtain ⟨K, hK⟩ : ∃ K, 1 + t % 3 = K := ⟨_, rfl⟩
  have HK := hid hK
  have HCNT := hid (show (sfA ps).1.length ≤ 500 from by have := sA_count ps.length ps; unfold sfA; omega)
  have hli : limE ps 10000 = (sfA ps).2 := limE_lt (by have := HCNT.out; omega)
  have htk : (sfA ps).1.take 10000 = (sfA ps).1 := List.take_of_length_le (by have := HCNT.out; omega)
  have HLF := hid (fun (v : Value) W (hr : Reads W v ps) => (show Calls Tryd.prog 14 #[v, .int .i64 10000] W (AllSD 36 (sfA ps).1 (sfA ps).2 W) from by
    have q := callsIn_wide.1 (lfields_in 8 (by omega) v ps W hr (by omega) 10000 (by omega) (by omega))
    rw [hli, htk] at q
    exact q))
  have HLK := hid (fun (v : Value) W (hr : Reads W v ps) => (show Calls Tryd.prog 14 #[v, .int .i64 (1 + (t : Int) % 3)] W (AllSD 36 ((sfA ps).1.take K) (limE ps K) W) from by
    have q := callsIn_wide.1 (lfields_in 8 (by omega) v ps W hr (by omega) K (by omega) (by omega))
    rwa [show ((K : Nat) : Int) = 1 + (t : Int) % 3 by omega] at q))
  have HLEN := hid (fun (hb : BytL ps) d (hd : d ∈ (sfA ps).1) => Nat.le_trans (sfA_ok hb d hd).2 (show ps.length ≤ 10000000 by omega))
  have HLP := hid hlp
  clear hK hli htk
  go_enter Tryd.func3, Tryd.ntmps3
  go_wp2_with fail
  with_reducible refine HAW.out.mono ?_
  rintro e w1 ⟨rfl, hb1⟩
  have HB1 := hid hb1
  clear hb1
  go_wp2_with fail
  with_reducible refine (HCU.out w1 HB1.out).mono ?_
  rintro e w2 ⟨pv, rfl, ho2, hb2, hk2⟩
  have HP2 := hid ho2
  have HB2 := hid (below_t HB1.out hb2)
  have HCP := hid (rcopy_own pv ps w2 ho2.reads (by omega))
  obtain ⟨xp, cp, rfl⟩ := own_len ho2 ps.length rfl
  clear ho2 hb2 hk2 HCU HAW
  go_wp2_with fail
  with_reducible refine HCP.out.mono ?_
  rintro e w3 ⟨qv, rfl, ho3, hb3, hk3⟩
  have HB3 := hid (below_t HB2.out hb3)
  have HBY := hid (show BytL ps from ho3.1)
  have HQ := hid ho3
  have HP := hid (HP2.out.step hb3)
  have HQL := hid (own_lt ho3.2)
  have HQB := hid (fun k hk => Nat.le_trans HB2.out.size (hk3 k hk))
  obtain ⟨xq, cq, rfl⟩ := own_len ho3 ps.length rfl
  clear ho3 hb3 hk3
  have H4 := hid (rall_any _ ps w3 HP.out.reads (by have := HLP.out; omega))
  go_wp2_with fail
  with_reducible refine H4.out.mono ?_
  rintro e w4 ⟨l6, xs6, rfl, hx6, hM6, hb4, -, hf6⟩
  have HX6 := hid hx6
  have HM6 := hid hM6
  have HB4 := hid hb4
  have HF6 := hid hf6
  have H5 := hid (HLF.out _ w4 (HQ.out.step hb4).reads)
  obtain ⟨r6, c6, rfl⟩ := row_any hM6.row
  clear hx6 hM6 hb4 hf6
  go_wp2_with fail
  with_reducible refine H5.out.mono ?_
  rintro e w5 ⟨l8, xs8, rfl, hx8, hM8, hb5, -, hf8⟩
  have HX8 := hid hx8
  have HM8 := hid hM8
  have HB5 := hid (below_t HB4.out hb5)
  have HF8 := hid (fun x hx k hk => Nat.le_trans HB4.out.size (hf8 x hx k hk))
  have HM6b := hid (HM6.out.step hb5)
  obtain ⟨r8, c8, rfl⟩ := row_any hM8.row
  have H6 := hid (callsIn_wide.1 (sall_in 8 (by omega) _ ps w5 (HQ.out.step HB5.out).reads (by have := HLP.out; omega)))
  clear hx8 hM8 hb5 hf8
  go_wp2_with fail
  with_reducible refine H6.out.mono ?_
  rintro e w6 ⟨l10, xs10, rfl, hx10, hM10, hb6, -, hf10⟩
  have HB6 := hid (below_t HB5.out hb6)
  have HM6c := hid (HM6b.out.step hb6)
  have HM8c := hid (HM8.out.step hb6)
  have HF10 := hid (fun x hx k hk => Nat.le_trans HB5.out.size (hf10 x hx k hk))
  have HLX := hid (show (sfA ps).1.length = xs10.length by have := congrArg List.length hx10; rw [List.length_map] at this; exact this.symm)
  obtain ⟨x10, cap10, rfl, hc1, hc2, hat⟩ := hM10.at
  have HAT := hid hat
  have HSL := hid (fun i (hi : i < xs10.length) => (show ∃ a n c, xs10[i].tv = .slice a n c from own_slice (hM10.txt _ (List.getElem_mem hi))))
  have HD := hid (fun i (hi : i < xs10.length) => (show (sfA ps).1[i]? = some xs10[i].d from by rw [← hx10, List.getElem?_map, List.getElem?_eq_getElem hi]; rfl))
  have HTX := hid (fun i (hi : i < xs10.length) W (hW : Below w6.heap.size w6 W) => (hM10.txt _ (List.getElem_mem hi)).step hW)
  have HFX := hid (fun i (hi : i < xs10.length) => HF10.out _ (List.getElem_mem hi))
  have HOF := hid (fun i (hi : i < xs10.length) W (hW : Below w6.heap.size w6 W) => rof_any xs10[i].d xs10[i].tv W (HTX.out i hi W hW).reads (HLEN.out HBY.out _ (List.mem_of_getElem? (HD.out i hi))))
  have HPO := hid (fun i (hi : i < xs10.length) W (hW : Below w6.heap.size w6 W) => act_any xs10[i].d xs10[i].tv W (HTX.out i hi W hW).reads (HLEN.out HBY.out _ (List.mem_of_getElem? (HD.out i hi))) (HCOD.out W (below_t HB3.out (below_t HB6.out hW))))
  obtain ⟨N, hN⟩ : ∃ N, xs10.length = N := ⟨_, rfl⟩
  have HN := hid hN
  have HCN := hid (show N ≤ 500 by have := HCNT.out; rw [HLX.out, hN] at this; exact this)
  rw [hN]
  clear hx10 hM10 hb6 hf10 hat hc1 hc2 hN H4 H5 H6
  go_wp2_with fail
  go_loopw [12, 50] (fun l i wr => ∃ (k : Nat) (ys : List SfV), k ≤ N ∧ i = .int .i64 k ∧ Hid (SfM 36 wr l ys) ∧ Hid (∀ q ∈ blkV l, w6.heap.size ≤ q) ∧ Hid (∀ x ∈ ys, ∀ q ∈ blkV x.tv, w3.heap.size ≤ q) ∧ Hid (ys.map SfV.d = (sfA ps).1.take k) ∧ Hid (Below w6.heap.size w6 wr)) (fun _ i _ => N - (intOf i).toNat)
  case atStart => exact ⟨0, [], Nat.zero_le _, rfl, hid (SfM.nil _ _), hid (fun _ q => (by cases q)), hid (fun _ q => (by cases q)), hid rfl, hid (Below.refl _ _)⟩
  case round =>
    obtain ⟨k, ys, hk, rfl, HM, HFR, HFD, HX, HB⟩ := hrel
    obtain ⟨xl, cl, rfl⟩ := row_any HM.out.row
    by_cases hlt : k < N
    · have hki : (k : Int) < N := by omega
      have hcn := HCN.out
      have hkx : k < xs10.length := by rw [HN.out]; exact hlt
      obtain ⟨g, rfl, hg, c0, c1⟩ := HAT.out k hkx
      obtain ⟨a1, n1, e1, q1⟩ := HSL.out k hkx
      have hd := HD.out k hkx
      have HF := hid (HOF.out k hkx)
      have HP1 := hid (HPO.out k hkx)
      have HT := hid (HTX.out k hkx)
      have HFT := hid (HFX.out k hkx)
      rw [q1] at c1 HF HP1 HT HFT
      clear q1
      generalize xs10[k].d = d at c0 hd HF HP1 HT
      obtain ⟨id, ds⟩ := d
      dsimp only at c0 HF HP1 HT
      have c0 := (HB.out.cell (p := ⟨g, k * 2, none⟩) hg).trans c0
      have c1 := (HB.out.cell (p := ⟨g, k * 2 + 1, none⟩) hg).trans c1
      have HDD := hid hd
      have HYL := hid (show ys.length = k from map_take HX.out (by rw [HLX.out, HN.out]; exact hk))
      have hlx1 : xs10.length = N := HN.out
      have HB1x := hid (show Below w6.heap.size w6 (wr.alloc (.cells #[.int .u8 id, .slice a1 n1 e1] 35)) from bal HB.out _)
      have HM1x := hid (HM.out.step (bal (Below.refl _ _) (.cells #[.int .u8 id, .slice a1 n1 e1] 35)))
      have hbxs : ∀ q ∈ blkV (.slice xl ys.length cl), q < wr.heap.size := own_lt HM.out.row
      have HBS := hid hbxs
      generalize actF ⟨id, ds⟩ = res at HF HP1
      obtain ⟨er2, ⟨k2, cd, md, al, rq, cs, rs⟩⟩ := res
      have HNS := hid (news_two (wr.alloc (.cells #[.int .u8 id, .slice a1 n1 e1] 35)) (.int .u8 id) (.slice a1 n1 e1) 36 (wr.heap.size + 1) (by simp))
      clear hd hlx1 hbxs
      go_wp2_with (at_builtin; refine wpList_append_blk _ rfl _ _ 26 rfl 36 i0 _ 2 32 Tryd.underlying26 hi hz0 hz1 hz2 rfl (by decide) _ ys.length (cellsS ys) rfl (HM1x.out.row.alloc _) ⟨wr.heap.size + 1, 0, none⟩ 1 1 (sfC ⟨⟨id, ds⟩, .slice a1 n1 e1⟩) rfl rfl HNS.out (one_sfC _ rfl) (by have := HYL.out; have := HCN.out; unfold maxLen; omega) (by have := HYL.out; have := HCN.out; omega) ?_; intro v' W1 hown' hgrow _ hb'; have HA9 := hid (bal (Below.refl (wr.alloc (.cells #[.int .u8 id, .slice a1 n1 e1] 35)).heap.size (wr.alloc (.cells #[.int .u8 id, .slice a1 n1 e1] 35))) (.cells #[.int .u8 id, .slice a1 n1 e1] 36)); have HM9 := hid (SfM.snoc (x := ⟨⟨id, ds⟩, .slice a1 n1 e1⟩) (by decide) (HM1x.out.step HA9.out) (HT.out _ (below_t HB1x.out HA9.out)) hown' hgrow hb'); have HB9 := hid ((below_t HB1x.out HA9.out).grown hgrow (by have h1 := HB1x.out.size; have h2 := HA9.out.size; omega) (fun q e => HFR.out q (mem_blkV.2 e))); have hm9 := Moved.grown hgrow (fun k hk => mem_blkV.2 hk) hb'; have p0 : W1.cell? ⟨wr.heap.size, 0, none⟩ = some (.int .u8 id) := cell_moved hm9 (keepc HA9.out (by simp [go_sem])) (fun q => Nat.lt_irrefl _ (HBS.out _ q)); have p1 : W1.cell? ⟨wr.heap.size, 1, none⟩ = some (.slice a1 n1 e1) := cell_moved hm9 (keepc HA9.out (by simp [go_sem])) (fun q => Nat.lt_irrefl _ (HBS.out _ q)); have HFR9 := hid (show ∀ q ∈ blkV v', w6.heap.size ≤ q from fun q hq => (hb' q hq).elim (fun r => HFR.out q r) (fun r => Nat.le_trans (below_t HB1x.out HA9.out).size r)); have HQ9 := hid (HP1.out W1 HB9.out); obtain ⟨g', cap', rfl⟩ := row_any hown'; clear hown' hgrow hb' hm9)
      with_reducible refine HQ9.out.mono ?_
      rintro e V1 ⟨cw, rw', rfl, ho1, ho2, hb1, hk1, hk2⟩
      dsimp only at ho1 ho2
      dsimp only [acV]
      obtain ⟨xc, nc, cc, rfl⟩ := own_slice ho1
      obtain ⟨xr, nr, cr, rfl⟩ := own_slice ho2
      have hA2 : Below V1.heap.size V1 (V1.alloc (.cells #[.int .i64 k2, .int .i64 cd, .int .i64 md, .bool al, .int .u8 rq, .slice xc nc cc, .slice xr nr cr] 38)) := bal (Below.refl _ _) _
      have HBV := hid (below_t (below_t HB9.out hb1) hA2)
      have HMV := hid ((HM9.out.step hb1).step hA2)
      have HU1 := hid (ho1.step hA2)
      have HU2 := hid (ho2.step hA2)
      have p2 : (V1.alloc (.cells #[.int .i64 k2, .int .i64 cd, .int .i64 md, .bool al, .int .u8 rq, .slice xc nc cc, .slice xr nr cr] 38)).cell? ⟨wr.heap.size, 0, none⟩ = some (.int .u8 id) := keepc (below_t hb1 hA2) p0
      have p3 : (V1.alloc (.cells #[.int .i64 k2, .int .i64 cd, .int .i64 md, .bool al, .int .u8 rq, .slice xc nc cc, .slice xr nr cr] 38)).cell? ⟨wr.heap.size, 1, none⟩ = some (.slice a1 n1 e1) := keepc (below_t hb1 hA2) p1
      have HQ2 := hid (HF.out (V1.alloc (.cells #[.int .i64 k2, .int .i64 cd, .int .i64 md, .bool al, .int .u8 rq, .slice xc nc cc, .slice xr nr cr] 38)) HBV.out)
      have hlb : wr.heap.size < V1.heap.size := World.block_lt_of_cell? V1 _ (keepc hb1 p0)
      clear p0 p1 ho1 ho2 hb1 hk1 hk2 hA2 HQ9 HM9 HB9
      go_wp2_with fail
      with_reducible refine HQ2.out.mono ?_
      rintro e V2 ⟨cw2, rw2, rfl, ho3, ho4, hb3, hk3, hk4⟩
      dsimp only at ho3 ho4
      dsimp only [acV]
      obtain ⟨yc, mc, dc, rfl⟩ := own_slice ho3
      obtain ⟨yr, mr, dr, rfl⟩ := own_slice ho4
      have hA3 : Below V2.heap.size V2 (V2.alloc (.cells #[.int .i64 k2, .int .i64 cd, .int .i64 md, .bool al, .int .u8 rq, .slice yc mc dc, .slice yr mr dr] 41)) := bal (Below.refl _ _) _
      have hb4 := below_t hb3 hA3
      have m0 : (V2.alloc (.cells #[.int .i64 k2, .int .i64 cd, .int .i64 md, .bool al, .int .u8 rq, .slice yc mc dc, .slice yr mr dr] 41)).cell? ⟨V1.heap.size, 0, none⟩ = some (.int .i64 k2) := keepc hb4 (by simp [go_sem])
      have m1 : (V2.alloc (.cells #[.int .i64 k2, .int .i64 cd, .int .i64 md, .bool al, .int .u8 rq, .slice yc mc dc, .slice yr mr dr] 41)).cell? ⟨V1.heap.size, 1, none⟩ = some (.int .i64 cd) := keepc hb4 (by simp [go_sem])
      have m2 : (V2.alloc (.cells #[.int .i64 k2, .int .i64 cd, .int .i64 md, .bool al, .int .u8 rq, .slice yc mc dc, .slice yr mr dr] 41)).cell? ⟨V1.heap.size, 2, none⟩ = some (.int .i64 md) := keepc hb4 (by simp [go_sem])
      have m3 : (V2.alloc (.cells #[.int .i64 k2, .int .i64 cd, .int .i64 md, .bool al, .int .u8 rq, .slice yc mc dc, .slice yr mr dr] 41)).cell? ⟨V1.heap.size, 3, none⟩ = some (.bool al) := keepc hb4 (by simp [go_sem])
      have m4 : (V2.alloc (.cells #[.int .i64 k2, .int .i64 cd, .int .i64 md, .bool al, .int .u8 rq, .slice yc mc dc, .slice yr mr dr] 41)).cell? ⟨V1.heap.size, 4, none⟩ = some (.int .u8 rq) := keepc hb4 (by simp [go_sem])
      have m5 : (V2.alloc (.cells #[.int .i64 k2, .int .i64 cd, .int .i64 md, .bool al, .int .u8 rq, .slice yc mc dc, .slice yr mr dr] 41)).cell? ⟨V1.heap.size, 5, none⟩ = some (.slice xc nc cc) := keepc hb4 (by simp [go_sem])
      have m6 : (V2.alloc (.cells #[.int .i64 k2, .int .i64 cd, .int .i64 md, .bool al, .int .u8 rq, .slice yc mc dc, .slice yr mr dr] 41)).cell? ⟨V1.heap.size, 6, none⟩ = some (.slice xr nr cr) := keepc hb4 (by simp [go_sem])
      have HSA := hid (rsame_any ⟨k2, cd, md, al, rq, cs, rs⟩ (.slice xc nc cc) (.slice xr nr cr) (.slice yc mc dc) (.slice yr mr dr) (V2.alloc (.cells #[.int .i64 k2, .int .i64 cd, .int .i64 md, .bool al, .int .u8 rq, .slice yc mc dc, .slice yr mr dr] 41)) (HU1.out.step hb4).reads (HU2.out.step hb4).reads (ho3.step hA3).reads (ho4.step hA3).reads)
      dsimp only [acV] at HSA
      have HBF := hid (below_t HBV.out hb4)
      have HMF := hid (HMV.out.step hb4)
      have hlb2 : V1.heap.size < V2.heap.size := by have h1 := hb3.size; have h2 : (V1.alloc (.cells #[.int .i64 k2, .int .i64 cd, .int .i64 md, .bool al, .int .u8 rq, .slice xc nc cc, .slice xr nr cr] 38)).heap.size = V1.heap.size + 1 := by simp
                                                    omega
      clear p2 p3 ho3 ho4 hb3 hk3 hk4 hA3 hb4 HQ2 HBV HMV
      go_wp2_with fail
      with_reducible refine HSA.out.mono ?_
      rintro e V3 ⟨rfl, hb5⟩
      have HBG := hid (below_t HBF.out hb5)
      have HMG := hid (HMF.out.step hb5)
      clear hb5 HSA m0 m1 m2 m3 m4 m5 m6
      go_wp2
      go_roundw
      case rel => exact ⟨k + 1, _, by omega, by go_num, HMG, HFR9, hid (fun x hx => (List.mem_append.1 hx).elim (HFD.out x) (fun e => by rw [List.mem_singleton.1 e]; exact HFT.out)), hid (by rw [List.map_append, HX.out, take_one _ _ _ HDD.out]; rfl), HBG⟩
      case measure => simp [intOf]; omega
    · obtain rfl : k = N := by omega
      have hFF : ys.map SfV.d = (sfA ps).1 := by rw [HX.out, List.take_of_length_le (by rw [HLX.out, HN.out]; exact Nat.le_refl _)]
      have HXF := hid hFF
      have HBN := hid (below_t HB6.out HB.out)
      have H7 := hid (HLK.out _ wr (HQ.out.step HBN.out).reads)
      clear hFF HX hk hlt
      go_wp2_with fail
      with_reducible refine H7.out.mono ?_
      rintro e w7 ⟨l20, xs20, rfl, hx20, hM20, hb7, -, hf20⟩
      have HX20 := hid hx20
      have HB7 := hid (below_t HBN.out hb7)
      have HM20 := hid hM20
      have HF20 := hid (fun x hx k hk => Nat.le_trans HBN.out.size (hf20 x hx k hk))
      obtain ⟨r20, c20, rfl⟩ := row_any hM20.row
      have HM12 := hid (HM.out.step hb7)
      have HM8d := hid (HM8c.out.step (below_t HB.out hb7))
      have HM6d := hid (HM6c.out.step (below_t HB.out hb7))
      have H8 := hid (callsIn_wide.1 (sacts_in 8 (by omega) _ ps w7 (HQ.out.step HB7.out).reads (by have := HLP.out; omega) (HCOD.out w7 (below_t HB3.out HB7.out))))
      clear hx20 hM20 hb7 hf20 H7
      go_wp2_with fail
      with_reducible refine H8.out.mono ?_
      rintro e w8 ⟨l22, acs, rfl, hxa, hMa, hb8, -, hfa⟩
      have HXA := hid hxa
      have HB8 := hid hb8
      have HMA := hid hMa
      have HFA := hid (fun x hx => And.intro (fun k hk => Nat.le_trans HB7.out.size ((hfa x hx).1 k hk)) (fun k hk => Nat.le_trans HB7.out.size ((hfa x hx).2 k hk)))
      obtain ⟨r22, c22, rfl⟩ := row_any hMa.row
      have H9 := hid (racts_any _ ps w8 (HP.out.step (below_t HB7.out hb8)).reads (by have := HLP.out; omega))
      clear hxa hMa hb8 hfa H8
      go_wp2_with fail
      with_reducible refine H9.out.mono ?_
      rintro e w9 ⟨l24, bs, rfl, hxb, hMb, hb9, -, hfb⟩
      have HXB := hid hxb
      have hb79 := below_t HB8.out hb9
      have HB9 := hid (below_t HB7.out hb79)
      have HMB := hid hMb
      have HFB := hid (fun x hx => And.intro (fun k hk => Nat.le_trans (Nat.le_trans HB7.out.size HB8.out.size) ((hfb x hx).1 k hk)) (fun k hk => Nat.le_trans (Nat.le_trans HB7.out.size HB8.out.size) ((hfb x hx).2 k hk)))
      obtain ⟨r24, c24, rfl⟩ := row_any hMb.row
      have HQ9 := hid (HQ.out.step HB9.out)
      have HFL := hid (flip_any _ ps w9 HQ9.out.2 (by have := HLP.out; omega))
      have HMA9 := hid (HMA.out.step hb9)
      have HM20b := hid (HM20.out.step hb79)
      have HM12b := hid (HM12.out.step hb79)
      have HM8e := hid (HM8d.out.step hb79)
      have HM6e := hid (HM6d.out.step hb79)
      clear hxb hMb hb9 hfb H9 hb79
      go_wp2_with fail
      with_reducible refine HFL.out.mono ?_
      rintro e w10 ⟨rfl, hm10⟩
      have HAP := hid (show ∀ k, w3.heap.size ≤ k → k ∉ blkV (.slice xq ps.length cq) from fun k h q => by have := HQL.out k q; omega)
      have HBT := hid (show Below w.heap.size w w10 from (below_t HB3.out HB9.out).trans (hm10.toBelow (below_t HB3.out HB9.out).size (fun k hk => HQB.out k hk)))
      have HG6 := hid (HM6e.out.moved (by decide) hm10 HQ9.out.2 (fun x hx k hk => HAP.out k (HF6.out x hx k hk)))
      have HG8 := hid (HM8e.out.moved (by decide) hm10 HQ9.out.2 (fun x hx k hk => HAP.out k (HF8.out x hx k hk)))
      have HG12 := hid (HM12b.out.moved (by decide) hm10 HQ9.out.2 (fun x hx k hk => HAP.out k (HFD.out x hx k hk)))
      have HG20 := hid (HM20b.out.moved (by decide) hm10 HQ9.out.2 (fun x hx k hk => HAP.out k (HF20.out x hx k hk)))
      have HGA := hid (HMA9.out.moved (by decide) hm10 HQ9.out.2 (fun x hx => ⟨fun k hk => HAP.out k ((HFA.out x hx).1 k hk), fun k hk => HAP.out k ((HFA.out x hx).2 k hk)⟩))
      have HGB := hid (HMB.out.moved (by decide) hm10 HQ9.out.2 (fun x hx => ⟨fun k hk => HAP.out k ((HFB.out x hx).1 k hk), fun k hk => HAP.out k ((HFB.out x hx).2 k hk)⟩))
      have HL6 := hid (show xs6.length = (sfA ps).1.length by have := congrArg List.length HX6.out; rwa [List.length_map] at this)
      have HS1 := hid (same21 _ _ xs8 xs6 w10 HG8.out HG6.out (HX8.out.trans HX6.out.symm) (by have h1 := congrArg List.length HX8.out; rw [List.length_map] at h1; have := HCNT.out; omega))
      have HS2 := hid (fun W (hW : Below w10.heap.size w10 W) => same21 _ _ ys xs6 W (HG12.out.step hW) (HG6.out.step hW) (HXF.out.trans HX6.out.symm) (by have h1 := congrArg List.length HXF.out; rw [List.length_map] at h1; have := HCNT.out; omega))
      have hc6 : xs6.length ≤ c6 := by
        obtain ⟨_, cc6, e6, h6, -⟩ := HG6.out.at
        injection e6 with e61 e62 e63
        omega
      have HAB := hid (show acs.map AcV.d = bs.map AcV.d from HXA.out.trans HXB.out.symm)
      have HNB := hid (show bs.length = acs.length by have := congrArg List.length HAB.out; rw [List.length_map, List.length_map] at this; exact this.symm)
      rw [HNB.out]
      clear hm10 HFL
      go_wp2_with fail
      with_reducible refine HS1.out.mono ?_
      rintro e w11 ⟨rfl, hb11⟩
      have HB11 := hid hb11
      clear hb11
      by_cases hq : xs6.length ≤ 1 + t % 3
      · have hq1 : (xs6.length : Int) ≤ 1 + (t : Int) % 3 := by omega
        have hq2 : ¬ (1 + (t : Int) % 3 < xs6.length) := by omega
        have hq3 : xs6.length ≤ c6 := by omega
        have hq4 : (xs6.length : Int) ≤ (c6 : Int) := by omega
        have HL20 := hid (show xs20.length ≤ 10000000 by have h1 := congrArg List.length HX20.out; rw [List.length_map, List.length_take] at h1; have := HCNT.out; omega)
        have HS3 := hid (fun W (hW : Below w10.heap.size w10 W) => (show Calls Tryd.prog 22 #[.slice r20 xs20.length c20, .slice r6 xs6.length c6] W (fun e w' => e = .returned (.bool true) ∧ Below W.heap.size W w') from same21 _ _ xs20 xs6 W (HG20.out.step hW) (HG6.out.step hW) (by rw [HX20.out, HX6.out, List.take_of_length_le (by rw [← HL6.out]; have := HK.out; omega)]) HL20.out))
        go_wp2_with fail
        with_reducible refine (HS2.out w11 HB11.out).mono ?_
        rintro e w12 ⟨rfl, hb12⟩
        have HB12 := hid (below_t HB11.out hb12)
        clear hb12
        go_wp2_with fail
        with_reducible refine (HS3.out w12 HB12.out).mono ?_
        rintro e w13 ⟨rfl, hb13⟩
        have HB13 := hid (below_t HB12.out hb13)
        clear hb13 hq1 hq2 hq3 hq4 hc6 hq
        obtain ⟨xA, cA, eA, -, -, hatA⟩ := HGA.out.at
        injection eA with eA1 eA2 eA3
        subst eA1
        have HATA := hid hatA
        obtain ⟨xB, cB, eB, -, -, hatB⟩ := HGB.out.at
        injection eB with eB1 eB2 eB3
        subst eB1
        have HATB := hid hatB
        have HLA := hid (show acs.length ≤ 500 by have h1 := congrArg List.length HXA.out; rw [List.length_map] at h1; have h2 := acts_len ps; have := HCNT.out; omega)
        have HSLA := hid (fun i (hi : i < acs.length) => (show (∃ a n c, acs[i].cv = .slice a n c) ∧ ∃ a n c, acs[i].rv = .slice a n c from ⟨own_slice (HGA.out.txt _ (List.getElem_mem hi)).1, own_slice (HGA.out.txt _ (List.getElem_mem hi)).2⟩))
        have HSLB := hid (fun i (hi : i < bs.length) => (show (∃ a n c, bs[i].cv = .slice a n c) ∧ ∃ a n c, bs[i].rv = .slice a n c from ⟨own_slice (HGB.out.txt _ (List.getElem_mem hi)).1, own_slice (HGB.out.txt _ (List.getElem_mem hi)).2⟩))
        have HEQ := hid (fun i (hi : i < acs.length) (hi' : i < bs.length) => (show bs[i].d = acs[i].d from by
          have := congrArg (fun l => l[i]?) HAB.out
          simp only [List.getElem?_map] at this
          rw [List.getElem?_eq_getElem hi, List.getElem?_eq_getElem hi'] at this
          exact (Option.some.inj this).symm))
        have HSM := hid (fun i (hi : i < acs.length) (hi' : i < bs.length) W (hW : Below w10.heap.size w10 W) => rsame_any acs[i].d acs[i].cv acs[i].rv bs[i].cv bs[i].rv W ((HGA.out.txt _ (List.getElem_mem hi)).1.step hW).reads ((HGA.out.txt _ (List.getElem_mem hi)).2.step hW).reads (by rw [← HEQ.out i hi hi']; exact ((HGB.out.txt _ (List.getElem_mem hi')).1.step hW).reads) (by rw [← HEQ.out i hi hi']; exact ((HGB.out.txt _ (List.getElem_mem hi')).2.step hW).reads))
        clear hatA hatB eA2 eA3 eB2 eB3
        go_wp2_with fail
        go_loopw [145] (fun i wr => ∃ k : Nat, k ≤ acs.length ∧ i = .int .i64 k ∧ Hid (Below w10.heap.size w10 wr)) (fun i _ => acs.length - (intOf i).toNat)
        case atStart => exact ⟨0, Nat.zero_le _, rfl, hid HB13.out⟩
        case round =>
          obtain ⟨k, hk, rfl, HB⟩ := hrel
          by_cases hlt : k < acs.length
          · have hki : (k : Int) < acs.length := by omega
            have hla := HLA.out
            have hlt' : k < bs.length := by rw [HNB.out]; exact hlt
            obtain ⟨g, rfl, hg, a0, a1, a2, a3, a4, a5, a6⟩ := HATA.out k hlt
            obtain ⟨g', rfl, hg', b0, b1, b2, b3, b4, b5, b6⟩ := HATB.out k hlt'
            have HS := hid (HSM.out k hlt hlt')
            obtain ⟨⟨xc, nc, cc, q1⟩, ⟨xr, nr, cr, q2⟩⟩ := HSLA.out k hlt
            obtain ⟨⟨yc, mc, dc, q3⟩, ⟨yr, mr, dr, q4⟩⟩ := HSLB.out k hlt'
            rw [HEQ.out k hlt hlt'] at b0 b1 b2 b3 b4
            rw [q1, q2, q3, q4] at HS
            rw [q1] at a5
            rw [q2] at a6
            rw [q3] at b5
            rw [q4] at b6
            clear q1 q2 q3 q4
            generalize acs[k].d = d at a0 a1 a2 a3 a4 b0 b1 b2 b3 b4 HS
            obtain ⟨k2, cd, md, al, rq, cs, rs⟩ := d
            dsimp only at a0 a1 a2 a3 a4 b0 b1 b2 b3 b4
            dsimp only [acV] at HS
            have a0 := (HB.out.cell (p := ⟨g, k * 7, none⟩) hg).trans a0
            have a1 := (HB.out.cell (p := ⟨g, k * 7 + 1, none⟩) hg).trans a1
            have a2 := (HB.out.cell (p := ⟨g, k * 7 + 2, none⟩) hg).trans a2
            have a3 := (HB.out.cell (p := ⟨g, k * 7 + 3, none⟩) hg).trans a3
            have a4 := (HB.out.cell (p := ⟨g, k * 7 + 4, none⟩) hg).trans a4
            have a5 := (HB.out.cell (p := ⟨g, k * 7 + 5, none⟩) hg).trans a5
            have a6 := (HB.out.cell (p := ⟨g, k * 7 + 6, none⟩) hg).trans a6
            have b0 := (HB.out.cell (p := ⟨g', k * 7, none⟩) hg').trans b0
            have b1 := (HB.out.cell (p := ⟨g', k * 7 + 1, none⟩) hg').trans b1
            have b2 := (HB.out.cell (p := ⟨g', k * 7 + 2, none⟩) hg').trans b2
            have b3 := (HB.out.cell (p := ⟨g', k * 7 + 3, none⟩) hg').trans b3
            have b4 := (HB.out.cell (p := ⟨g', k * 7 + 4, none⟩) hg').trans b4
            have b5 := (HB.out.cell (p := ⟨g', k * 7 + 5, none⟩) hg').trans b5
            have b6 := (HB.out.cell (p := ⟨g', k * 7 + 6, none⟩) hg').trans b6
            have hdr : Below wr.heap.size wr wr.drew := (Below.refl _ _).drew
            have HSW := hid (HS.out _ (below_t HB.out hdr))
            have HX1 := hid (c14_step (w0 := w10) (w := wr) ⟨a0, a1, a2, a3, a4, a5, a6, b0, b1, b2, b3, b4, b5, b6, HB.out⟩ hdr)
            go_wp2
            go_region_held3 (fun w' => w'.cell? ⟨g, k * 7, none⟩ = some (.int .i64 k2) ∧ w'.cell? ⟨g, k * 7 + 1, none⟩ = some (.int .i64 cd) ∧ w'.cell? ⟨g, k * 7 + 2, none⟩ = some (.int .i64 md) ∧ w'.cell? ⟨g, k * 7 + 3, none⟩ = some (.bool al) ∧ w'.cell? ⟨g, k * 7 + 4, none⟩ = some (.int .u8 rq) ∧ w'.cell? ⟨g, k * 7 + 5, none⟩ = some (.slice xc nc cc) ∧ w'.cell? ⟨g, k * 7 + 6, none⟩ = some (.slice xr nr cr) ∧ w'.cell? ⟨g', k * 7, none⟩ = some (.int .i64 k2) ∧ w'.cell? ⟨g', k * 7 + 1, none⟩ = some (.int .i64 cd) ∧ w'.cell? ⟨g', k * 7 + 2, none⟩ = some (.int .i64 md) ∧ w'.cell? ⟨g', k * 7 + 3, none⟩ = some (.bool al) ∧ w'.cell? ⟨g', k * 7 + 4, none⟩ = some (.int .u8 rq) ∧ w'.cell? ⟨g', k * 7 + 5, none⟩ = some (.slice yc mc dc) ∧ w'.cell? ⟨g', k * 7 + 6, none⟩ = some (.slice yr mr dr) ∧ Below w10.heap.size w10 w') (first | with_reducible exact HX1.out | with_reducible exact c14_step (by assumption) (by assumption)) (first | (go_at_call 18; (with_reducible refine HSW.out.mono ?_); rintro e w14 ⟨rfl, hb14⟩))
            rename_i hH
            obtain ⟨-, -, -, -, -, -, -, -, -, -, -, -, -, -, hBE⟩ := hH
            have HBE := hid hBE
            clear hBE a0 a1 a2 a3 a4 a5 a6 b0 b1 b2 b3 b4 b5 b6 hdr
            go_wp2
            go_roundw
            case rel => exact ⟨k + 1, by omega, by go_num, HBE⟩
            case measure => simp [intOf]; omega
          · obtain rfl : k = acs.length := by omega
            go_wp2
            go_ret
            exact ⟨rfl, below_t HBT.out HB.out⟩
      · have hq1 : ¬ ((xs6.length : Int) ≤ 1 + (t : Int) % 3) := by omega
        have hq2 : 1 + (t : Int) % 3 < xs6.length := by omega
        have hq3 : (1 + t % 3) ≤ c6 := by omega
        have hq4 : 1 + (t : Int) % 3 ≤ (c6 : Int) := by omega
        have HL20 := hid (show xs20.length ≤ 10000000 by have h1 := congrArg List.length HX20.out; rw [List.length_map, List.length_take] at h1; have := HCNT.out; omega)
        have HS3 := hid (fun W (hW : Below w10.heap.size w10 W) => (show Calls Tryd.prog 22 #[.slice r20 xs20.length c20, .slice r6 (1 + t % 3) c6] W (fun e w' => e = .returned (.bool true) ∧ Below W.heap.size W w') from same21 _ _ xs20 (xs6.take (1 + t % 3)) W (HG20.out.step hW) ((HG6.out.first rfl (1 + t % 3) (by omega)).1.step hW) (by rw [HX20.out, List.map_take, HX6.out, HK.out]) HL20.out))
        go_wp2_with fail
        with_reducible refine (HS2.out w11 HB11.out).mono ?_
        rintro e w12 ⟨rfl, hb12⟩
        have HB12 := hid (below_t HB11.out hb12)
        clear hb12
        go_wp2_with fail
        with_reducible refine (HS3.out w12 HB12.out).mono ?_
        rintro e w13 ⟨rfl, hb13⟩
        have HB13 := hid (below_t HB12.out hb13)
        clear hb13 hq1 hq2 hq3 hq4 hc6 hq
        obtain ⟨xA, cA, eA, -, -, hatA⟩ := HGA.out.at
        injection eA with eA1 eA2 eA3
        subst eA1
        have HATA := hid hatA
        obtain ⟨xB, cB, eB, -, -, hatB⟩ := HGB.out.at
        injection eB with eB1 eB2 eB3
        subst eB1
        have HATB := hid hatB
        have HLA := hid (show acs.length ≤ 500 by have h1 := congrArg List.length HXA.out; rw [List.length_map] at h1; have h2 := acts_len ps; have := HCNT.out; omega)
        have HSLA := hid (fun i (hi : i < acs.length) => (show (∃ a n c, acs[i].cv = .slice a n c) ∧ ∃ a n c, acs[i].rv = .slice a n c from ⟨own_slice (HGA.out.txt _ (List.getElem_mem hi)).1, own_slice (HGA.out.txt _ (List.getElem_mem hi)).2⟩))
        have HSLB := hid (fun i (hi : i < bs.length) => (show (∃ a n c, bs[i].cv = .slice a n c) ∧ ∃ a n c, bs[i].rv = .slice a n c from ⟨own_slice (HGB.out.txt _ (List.getElem_mem hi)).1, own_slice (HGB.out.txt _ (List.getElem_mem hi)).2⟩))
        have HEQ := hid (fun i (hi : i < acs.length) (hi' : i < bs.length) => (show bs[i].d = acs[i].d from by
          have := congrArg (fun l => l[i]?) HAB.out
          simp only [List.getElem?_map] at this
          rw [List.getElem?_eq_getElem hi, List.getElem?_eq_getElem hi'] at this
          exact (Option.some.inj this).symm))
        have HSM := hid (fun i (hi : i < acs.length) (hi' : i < bs.length) W (hW : Below w10.heap.size w10 W) => rsame_any acs[i].d acs[i].cv acs[i].rv bs[i].cv bs[i].rv W ((HGA.out.txt _ (List.getElem_mem hi)).1.step hW).reads ((HGA.out.txt _ (List.getElem_mem hi)).2.step hW).reads (by rw [← HEQ.out i hi hi']; exact ((HGB.out.txt _ (List.getElem_mem hi')).1.step hW).reads) (by rw [← HEQ.out i hi hi']; exact ((HGB.out.txt _ (List.getElem_mem hi')).2.step hW).reads))
        clear hatA hatB eA2 eA3 eB2 eB3
        go_wp2_with fail
        go_loopw [145] (fun i wr => ∃ k : Nat, k ≤ acs.length ∧ i = .int .i64 k ∧ Hid (Below w10.heap.size w10 wr)) (fun i _ => acs.length - (intOf i).toNat)
        case atStart => exact ⟨0, Nat.zero_le _, rfl, hid HB13.out⟩
        case round =>
          obtain ⟨k, hk, rfl, HB⟩ := hrel
          by_cases hlt : k < acs.length
          · have hki : (k : Int) < acs.length := by omega
            have hla := HLA.out
            have hlt' : k < bs.length := by rw [HNB.out]; exact hlt
            obtain ⟨g, rfl, hg, a0, a1, a2, a3, a4, a5, a6⟩ := HATA.out k hlt
            obtain ⟨g', rfl, hg', b0, b1, b2, b3, b4, b5, b6⟩ := HATB.out k hlt'
            have HS := hid (HSM.out k hlt hlt')
            obtain ⟨⟨xc, nc, cc, q1⟩, ⟨xr, nr, cr, q2⟩⟩ := HSLA.out k hlt
            obtain ⟨⟨yc, mc, dc, q3⟩, ⟨yr, mr, dr, q4⟩⟩ := HSLB.out k hlt'
            rw [HEQ.out k hlt hlt'] at b0 b1 b2 b3 b4
            rw [q1, q2, q3, q4] at HS
            rw [q1] at a5
            rw [q2] at a6
            rw [q3] at b5
            rw [q4] at b6
            clear q1 q2 q3 q4
            generalize acs[k].d = d at a0 a1 a2 a3 a4 b0 b1 b2 b3 b4 HS
            obtain ⟨k2, cd, md, al, rq, cs, rs⟩ := d
            dsimp only at a0 a1 a2 a3 a4 b0 b1 b2 b3 b4
            dsimp only [acV] at HS
            have a0 := (HB.out.cell (p := ⟨g, k * 7, none⟩) hg).trans a0
            have a1 := (HB.out.cell (p := ⟨g, k * 7 + 1, none⟩) hg).trans a1
            have a2 := (HB.out.cell (p := ⟨g, k * 7 + 2, none⟩) hg).trans a2
            have a3 := (HB.out.cell (p := ⟨g, k * 7 + 3, none⟩) hg).trans a3
            have a4 := (HB.out.cell (p := ⟨g, k * 7 + 4, none⟩) hg).trans a4
            have a5 := (HB.out.cell (p := ⟨g, k * 7 + 5, none⟩) hg).trans a5
            have a6 := (HB.out.cell (p := ⟨g, k * 7 + 6, none⟩) hg).trans a6
            have b0 := (HB.out.cell (p := ⟨g', k * 7, none⟩) hg').trans b0
            have b1 := (HB.out.cell (p := ⟨g', k * 7 + 1, none⟩) hg').trans b1
            have b2 := (HB.out.cell (p := ⟨g', k * 7 + 2, none⟩) hg').trans b2
            have b3 := (HB.out.cell (p := ⟨g', k * 7 + 3, none⟩) hg').trans b3
            have b4 := (HB.out.cell (p := ⟨g', k * 7 + 4, none⟩) hg').trans b4
            have b5 := (HB.out.cell (p := ⟨g', k * 7 + 5, none⟩) hg').trans b5
            have b6 := (HB.out.cell (p := ⟨g', k * 7 + 6, none⟩) hg').trans b6
            have hdr : Below wr.heap.size wr wr.drew := (Below.refl _ _).drew
            have HSW := hid (HS.out _ (below_t HB.out hdr))
            have HX1 := hid (c14_step (w0 := w10) (w := wr) ⟨a0, a1, a2, a3, a4, a5, a6, b0, b1, b2, b3, b4, b5, b6, HB.out⟩ hdr)
            go_wp2
            go_region_held3 (fun w' => w'.cell? ⟨g, k * 7, none⟩ = some (.int .i64 k2) ∧ w'.cell? ⟨g, k * 7 + 1, none⟩ = some (.int .i64 cd) ∧ w'.cell? ⟨g, k * 7 + 2, none⟩ = some (.int .i64 md) ∧ w'.cell? ⟨g, k * 7 + 3, none⟩ = some (.bool al) ∧ w'.cell? ⟨g, k * 7 + 4, none⟩ = some (.int .u8 rq) ∧ w'.cell? ⟨g, k * 7 + 5, none⟩ = some (.slice xc nc cc) ∧ w'.cell? ⟨g, k * 7 + 6, none⟩ = some (.slice xr nr cr) ∧ w'.cell? ⟨g', k * 7, none⟩ = some (.int .i64 k2) ∧ w'.cell? ⟨g', k * 7 + 1, none⟩ = some (.int .i64 cd) ∧ w'.cell? ⟨g', k * 7 + 2, none⟩ = some (.int .i64 md) ∧ w'.cell? ⟨g', k * 7 + 3, none⟩ = some (.bool al) ∧ w'.cell? ⟨g', k * 7 + 4, none⟩ = some (.int .u8 rq) ∧ w'.cell? ⟨g', k * 7 + 5, none⟩ = some (.slice yc mc dc) ∧ w'.cell? ⟨g', k * 7 + 6, none⟩ = some (.slice yr mr dr) ∧ Below w10.heap.size w10 w') (first | with_reducible exact HX1.out | with_reducible exact c14_step (by assumption) (by assumption)) (first | (go_at_call 18; (with_reducible refine HSW.out.mono ?_); rintro e w14 ⟨rfl, hb14⟩))
            rename_i hH
            obtain ⟨-, -, -, -, -, -, -, -, -, -, -, -, -, -, hBE⟩ := hH
            have HBE := hid hBE
            clear hBE a0 a1 a2 a3 a4 a5 a6 b0 b1 b2 b3 b4 b5 b6 hdr
            go_wp2
            go_roundw
            case rel => exact ⟨k + 1, by omega, by go_num, HBE⟩
            case measure => simp [intOf]; omega
          · obtain rfl : k = acs.length := by omega
            go_wp2
            go_ret
            exact ⟨rfl, below_t HBT.out HB.out⟩
end Go.Proofs.YtdpgmepblmlaaaaDoor
