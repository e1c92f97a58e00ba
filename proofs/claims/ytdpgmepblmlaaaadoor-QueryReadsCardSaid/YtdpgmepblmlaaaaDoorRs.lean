/-
  Acts held against one another; the document's list of acts.
-/
import Derived.Test.YtdpgmepblmlaaaaDoorRr
namespace Go.Proofs.YtdpgmepblmlaaaaDoor
open Go.RowKit Go.Lib Go.Deep

set_option maxRecDepth 100000 in
set_option maxHeartbeats 4000000 in
theorem rsame_any (a : AcD) (cv rv cu ru : Value) (w : World) (h1 : Reads w cv a.codes) (h2 : Reads w rv a.rcd) (h3 : Reads w cu a.codes) (h4 : Reads w ru a.rcd) : Calls Tryd.prog 18 #[acV a cv rv, acV a cu ru] w fun e w' => e = .returned (.bool true) ∧ Below w.heap.size w w' := by
  obtain ⟨k, cd, md, al, rq, cs, rs⟩ := a
  unfold acV
  dsimp only at h1 h2 h3 h4 ⊢
  obtain ⟨x1, c1, rfl⟩ := reads_sl h1
  obtain ⟨x2, c2, rfl⟩ := reads_sl h2
  obtain ⟨x3, c3, rfl⟩ := reads_sl h3
  obtain ⟨x4, c4, rfl⟩ := reads_sl h4
  have hb : Below w.heap.size w ((w.alloc (.cells #[.int .i64 k, .int .i64 cd, .int .i64 md, .bool al, .int .u8 rq, .slice x1 cs.length c1, .slice x2 rs.length c2] 41)).alloc (.cells #[.int .i64 k, .int .i64 cd, .int .i64 md, .bool al, .int .u8 rq, .slice x3 cs.length c3, .slice x4 rs.length c4] 41)) := bal (bal (Below.refl _ _) _) _
  have HS1 := hid (same_true _ _ cs _ (reads_below h1 hb) (reads_below h3 hb))
  have HS2 := hid (same_true _ _ rs _ (reads_below h2 hb) (reads_below h4 hb))
  have HB := hid hb
  generalize cs.length = n1 at *
  generalize rs.length = n2 at *
  clear h1 h2 h3 h4 hb
  go_enter Tryd.func18, Tryd.ntmps18
  go_wp2_with fail
  with_reducible refine HS1.out.mono ?_
  rintro e w1 ⟨rfl, rfl⟩
  go_wp2_with fail
  with_reducible refine HS2.out.mono ?_
  rintro e w1 ⟨rfl, rfl⟩
  go_wp2
  go_ret
  exact ⟨rfl, HB.out⟩
/-- Acts of one's own, from a block on. -/
structure RowA (t : TypeId) (B : Nat) (w : World) (v : Value) (xs : List AcV) : Prop where
  row : w.ownsRow 0 t 7 v xs.length (cellsA xs)
  dat : ∀ x ∈ xs, OwnB w x.cv x.d.codes ∧ OwnB w x.rv x.d.rcd
  fr : ∀ k ∈ blkV v, B ≤ k
  fd : ∀ x ∈ xs, (∀ k ∈ blkV x.cv, B ≤ k) ∧ ∀ k ∈ blkV x.rv, B ≤ k
theorem RowA.nil (t : TypeId) (B : Nat) (w : World) : RowA t B w (.slice none 0 0) [] := ⟨World.ownsRow_nil _ _ _ _, fun _ h => (by cases h), fun _ h => (by cases h), fun _ h => (by cases h)⟩
theorem RowA.step {t : TypeId} {B : Nat} {w w' : World} {v : Value} {xs : List AcV} (h : RowA t B w v xs) (hb : Below w.heap.size w w') : RowA t B w' v xs :=
  ⟨own_moved h.row (Moved.below hb []) (fun _ _ q => by cases q), fun x hx => ⟨(h.dat x hx).1.step hb, (h.dat x hx).2.step hb⟩, h.fr, h.fd⟩
theorem RowA.snoc {t : TypeId} {B : Nat} {w w' : World} {v v' : Value} {xs : List AcV} {x : AcV} (ht : t ≠ 5) (h : RowA t B w v xs) (hB : B ≤ w.heap.size) (ho1 : OwnB w x.cv x.d.codes) (ho2 : OwnB w x.rv x.d.rcd) (hx1 : ∀ k ∈ blkV x.cv, B ≤ k) (hx2 : ∀ k ∈ blkV x.rv, B ≤ k) (hrow : w'.ownsRow 0 t 7 v' (xs.length + 1) (cellsA xs ++ acC x)) (hg : w.grownBy w' v.ownBlock) (hb : ∀ k ∈ blkV v', k ∈ blkV v ∨ w.heap.size ≤ k) : RowA t B w' v' (xs ++ [x]) := by
  have hm : Moved w w' (blkV v) (blkV v') := Moved.grown hg (fun k hk => mem_blkV.2 hk) hb
  refine ⟨?_, fun y hy => ?_, fun k hk => ?_, fun y hy => ?_⟩
  · rw [cellsA_append, List.length_append]
    exact hrow
  · rcases List.mem_append.1 hy with hy | hy
    · exact ⟨(h.dat y hy).1.moved hm (own_apart (h.dat y hy).1.2 h.row (fun e => ht e.symm)), (h.dat y hy).2.moved hm (own_apart (h.dat y hy).2.2 h.row (fun e => ht e.symm))⟩
    · rw [List.mem_singleton.1 hy]; exact ⟨ho1.moved hm (own_apart ho1.2 h.row (fun e => ht e.symm)), ho2.moved hm (own_apart ho2.2 h.row (fun e => ht e.symm))⟩
  · rcases hb k hk with r | r
    · exact h.fr k r
    · omega
  · rcases List.mem_append.1 hy with hy | hy
    · exact h.fd y hy
    · rw [List.mem_singleton.1 hy]; exact ⟨hx1, hx2⟩
theorem infoAr : (Tryd.prog.info? 41).map (fun i => (i.zero, i.size, i.bytes)) = some (some (.agg #[.int .i64 0, .int .i64 0, .int .i64 0, .bool false, .int .u8 0, .slice none 0 0, .slice none 0 0]), 7, 80) := by kernel_rfl
set_option maxRecDepth 100000 in
set_option maxHeartbeats 4000000 in
theorem racts_any (v : Value) (zs : List Int) (w : World) (h : Reads w v zs) (hlz : zs.length ≤ 1000000) : Calls Tryd.prog 20 #[v] w (AcsD 41 (actsF zs).1 (actsF zs).2 w) := by
  obtain ⟨i0, hi, hz0, hz1, hz2⟩ := info_parts infoAr
  have HCNT := hid (show (sfA zs).1.length ≤ 1000000 from by have := sA_count zs.length zs; unfold sfA; omega)
  have HLEN := hid (fun d (hd : d ∈ (sfA zs).1) => Nat.le_trans (sfA_ok h.1 d hd).2 (show zs.length ≤ 10000000 by omega))
  have HALL := hid (rall_any v zs w h hlz)
  obtain ⟨x0, c0, rfl⟩ := reads_sl h
  clear h hlz
  go_enter Tryd.func20, Tryd.ntmps20
  go_wp2_with fail
  with_reducible refine HALL.out.mono ?_
  rintro e w1 ⟨l, xs, rfl, hxs, hM, hb1, -, -⟩
  have HXS := hid hxs
  have HB1 := hid hb1
  have HLX := hid (show (sfA zs).1.length = xs.length by have := congrArg List.length hxs; rw [List.length_map] at this; exact this.symm)
  obtain ⟨x, cap, rfl, hc1, hc2, hat⟩ := hM.at
  have HAT := hid hat
  have HSL := hid (fun i (hi : i < xs.length) => (show ∃ a n c, xs[i].tv = .slice a n c from own_slice (hM.txt _ (List.getElem_mem hi))))
  have HD := hid (fun i (hi : i < xs.length) => (show (sfA zs).1[i]? = some xs[i].d from by rw [← HXS.out, List.getElem?_map, List.getElem?_eq_getElem hi]; rfl))
  have HOF := hid (fun i (hi : i < xs.length) W (hW : Below w1.heap.size w1 W) => rof_any xs[i].d xs[i].tv W ((hM.txt _ (List.getElem_mem hi)).step hW).reads (HLEN.out _ (List.mem_of_getElem? (HD.out i hi))))
  obtain ⟨N, hN⟩ : ∃ N, xs.length = N := ⟨_, rfl⟩
  have HN := hid hN
  have HCN := hid (show N ≤ 1000000 by have := HCNT.out; rw [HLX.out, hN] at this; exact this)
  rw [hN]
  clear hb1 hxs hM hat hN hc1 hc2
  go_wp2_with fail
  go_loopw [6, 18] (fun l i wr => ∃ (k : Nat) (ys : List AcV), k ≤ N ∧ i = .int .i64 k ∧ Hid (RowA 41 w1.heap.size wr l ys) ∧ Hid (actL ((sfA zs).1.take k) = (ys.map AcV.d, 0) ∧ ys.length = k) ∧ Hid (Below w1.heap.size w1 wr)) (fun _ i _ => N - (intOf i).toNat)
  case atStart => exact ⟨0, [], Nat.zero_le _, rfl, hid (RowA.nil _ _ _), hid ⟨rfl, rfl⟩, hid (Below.refl _ _)⟩
  case round =>
    obtain ⟨k, ys, hk, rfl, HM, HX, HB⟩ := hrel
    obtain ⟨xl, cl, rfl⟩ := row_any HM.out.row
    by_cases hlt : k < N
    · have hki : (k : Int) < N := by omega
      have hcn := HCN.out
      have hkx : k < xs.length := by rw [HN.out]; exact hlt
      obtain ⟨g, rfl, hg, c0, c1⟩ := HAT.out k hkx
      obtain ⟨a1, n1, e1, q1⟩ := HSL.out k hkx
      have hd := HD.out k hkx
      have HF := hid (HOF.out k hkx)
      rw [q1] at c1 HF
      clear q1
      generalize xs[k].d = d at c0 hd HF
      obtain ⟨id, ds⟩ := d
      dsimp only at c0 HF
      have c0 := (HB.out.cell (p := ⟨g, k * 2, none⟩) hg).trans c0
      have c1 := (HB.out.cell (p := ⟨g, k * 2 + 1, none⟩) hg).trans c1
      have hbx : Below w1.heap.size w1 (wr.alloc (.cells #[.int .u8 id, .slice a1 n1 e1] 36)) := bal HB.out _
      have HBW := hid hbx
      have HACT := hid (HF.out _ hbx)
      have HMW := hid (HM.out.step (bal (Below.refl _ _) (.cells #[.int .u8 id, .slice a1 n1 e1] 36)))
      have HSN := hid (fun q => actL_snoc HX.out.1 q (d := ⟨id, ds⟩))
      have HST := hid (acts_stop HX.out.1 hd)
      have HDD := hid hd
      generalize actF ⟨id, ds⟩ = res at HACT HSN HST
      obtain ⟨er2, ⟨k2, cd, md, al, rq, cs, rs⟩⟩ := res
      dsimp only at HACT HSN HST
      clear hbx hd
      go_wp2_with fail
      with_reducible refine HACT.out.mono ?_
      rintro e V1 ⟨cw, rw', rfl, ho1, ho2, hb2, hk1, hk2⟩
      dsimp only [acV] at ho1 ho2 ⊢
      obtain ⟨xc, nc, cc, rfl⟩ := own_slice ho1
      obtain ⟨xr, nr, cr, rfl⟩ := own_slice ho2
      have hbA : Below V1.heap.size V1 (V1.alloc (.cells #[.int .i64 k2, .int .i64 cd, .int .i64 md, .bool al, .int .u8 rq, .slice xc nc cc, .slice xr nr cr] 41)) := bal (Below.refl _ _) _
      have HBV := hid (below_t (below_t HBW.out hb2) hbA)
      have HMV := hid ((HMW.out.step hb2).step hbA)
      have HT1 := hid (ho1.step hbA)
      have HT2 := hid (ho2.step hbA)
      have HTB1 := hid (show ∀ b ∈ blkV (.slice xc nc cc), w1.heap.size ≤ b from fun b hb => by have h1 := hk1 b hb; have h2 := HBW.out.size; omega)
      have HTB2 := hid (show ∀ b ∈ blkV (.slice xr nr cr), w1.heap.size ≤ b from fun b hb => by have h1 := hk2 b hb; have h2 := HBW.out.size; omega)
      have HNS := hid (news_seven (V1.alloc (.cells #[.int .i64 k2, .int .i64 cd, .int .i64 md, .bool al, .int .u8 rq, .slice xc nc cc, .slice xr nr cr] 41)) (.int .i64 k2) (.int .i64 cd) (.int .i64 md) (.bool al) (.int .u8 rq) (.slice xc nc cc) (.slice xr nr cr) 41)
      rw [show (V1.alloc (.cells #[.int .i64 k2, .int .i64 cd, .int .i64 md, .bool al, .int .u8 rq, .slice xc nc cc, .slice xr nr cr] 41)).heap.size = V1.heap.size + 1 by simp] at HNS
      clear ho1 ho2 hb2 hk1 hk2 hbA c0 c1
      by_cases he2 : er2 = 0
      · subst he2
        have HSN2 := hid (HSN.out rfl)
        have HYL := hid (show ys.length ≤ 1000000 by have := HX.out.2; have := HCN.out; omega)
        go_wp2_with (at_builtin; refine wpList_append_blk _ rfl _ _ 48 rfl 41 i0 _ 7 80 Tryd.underlying48 hi hz0 hz1 hz2 rfl (by decide) _ ys.length (cellsA ys) rfl (HMV.out.row.alloc _) ⟨V1.heap.size + 1, 0, none⟩ 1 1 (acC ⟨⟨k2, cd, md, al, rq, cs, rs⟩, .slice xc nc cc, .slice xr nr cr⟩) rfl rfl HNS.out (one_acC _ rfl rfl) (by have := HYL.out; unfold maxLen; omega) (by have := HYL.out; omega) ?_; intro v' W1 hown' hgrow _ hb'; have HA9 := hid (bal (Below.refl (V1.alloc (.cells #[.int .i64 k2, .int .i64 cd, .int .i64 md, .bool al, .int .u8 rq, .slice xc nc cc, .slice xr nr cr] 41)).heap.size (V1.alloc (.cells #[.int .i64 k2, .int .i64 cd, .int .i64 md, .bool al, .int .u8 rq, .slice xc nc cc, .slice xr nr cr] 41))) (.cells #[.int .i64 k2, .int .i64 cd, .int .i64 md, .bool al, .int .u8 rq, .slice xc nc cc, .slice xr nr cr] 41)); have HM9 := hid (RowA.snoc (by decide) (HMV.out.step HA9.out) (by have h1 := HBV.out.size; have h2 := HA9.out.size; omega) (HT1.out.step HA9.out) (HT2.out.step HA9.out) HTB1.out HTB2.out hown' hgrow hb'); have HB9 := hid ((below_t HBV.out HA9.out).grown hgrow (by have h1 := HBV.out.size; have h2 := HA9.out.size; omega) (fun q e => HM.out.fr q (mem_blkV.2 e))); obtain ⟨g', cap', rfl⟩ := row_any hown'; clear hown' hgrow hb')
        go_roundw
        case rel => exact ⟨k + 1, _, by omega, by go_num, HM9, hid ⟨by rw [List.map_append, take_one _ _ _ HDD.out]; exact HSN2.out, by rw [List.length_append, HX.out.2]; rfl⟩, HB9⟩
        case measure => simp [intOf]; omega
      · have HST2 := hid (HST.out he2)
        have hne' : (er2 == 0) = false := by simpa using he2
        have HFX := hid (show AcsD 41 (actsF zs).1 (actsF zs).2 w (.returned (.tuple #[.slice xl ys.length cl, .int .i64 er2])) (V1.alloc (.cells #[.int .i64 k2, .int .i64 cd, .int .i64 md, .bool al, .int .u8 rq, .slice xc nc cc, .slice xr nr cr] 41)) from ⟨_, ys, by rw [HST2.out], by rw [HST2.out], ⟨HMV.out.row, HMV.out.dat⟩, below_t HB1.out HBV.out, fun k hk => Nat.le_trans HB1.out.size (HM.out.fr k hk), fun x hx => ⟨fun k hk => Nat.le_trans HB1.out.size ((HM.out.fd x hx).1 k hk), fun k hk => Nat.le_trans HB1.out.size ((HM.out.fd x hx).2 k hk)⟩⟩)
        go_wp2
        go_ret2
        exact HFX.out
    · obtain rfl : k = N := by omega
      have hall : actL (sfA zs).1 = (ys.map AcV.d, 0) := by
        have q := HX.out.1
        rwa [List.take_of_length_le (by rw [HLX.out, HN.out]; exact Nat.le_refl _)] at q
      have HAA := hid (acts_all hall)
      have HFX := hid (show AcsD 41 (actsF zs).1 (actsF zs).2 w (.returned (.tuple #[.slice xl ys.length cl, .int .i64 (sfA zs).2])) wr from ⟨_, ys, by rw [HAA.out], by rw [HAA.out], ⟨HM.out.row, HM.out.dat⟩, below_t HB1.out HB.out, fun k hk => Nat.le_trans HB1.out.size (HM.out.fr k hk), fun x hx => ⟨fun k hk => Nat.le_trans HB1.out.size ((HM.out.fd x hx).1 k hk), fun k hk => Nat.le_trans HB1.out.size ((HM.out.fd x hx).2 k hk)⟩⟩)
      clear hall
      go_wp2
      go_ret2
      exact HFX.out
end Go.Proofs.YtdpgmepblmlaaaaDoor
