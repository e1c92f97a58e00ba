/-
  NegoPlays: the law's walk.
-/
import Derived.Test.YtdpfjbpfafekfaaSb
namespace Go.Proofs.Ytdpfjbpfafekfaa
open Go.RowKit Go.Lib

/-- A config's box. -/
structure CfgB (w : World) (B : Nat) (u0 u1 u2 : Value) : Prop where
  c0 : w.cell? ⟨B, 0, none⟩ = some u0
  c1 : w.cell? ⟨B, 1, none⟩ = some u1
  c2 : w.cell? ⟨B, 2, none⟩ = some u2
  f0 : w.frozen? ⟨B, 0, none⟩ = false
  f1 : w.frozen? ⟨B, 1, none⟩ = false
  f2 : w.frozen? ⟨B, 2, none⟩ = false
theorem CfgB.new (w : World) (u0 u1 u2 : Value) (t : TypeId) : CfgB (w.alloc (.cells #[u0, u1, u2] t)) w.heap.size u0 u1 u2 := ⟨by simp [go_sem], by simp [go_sem], by simp [go_sem], by simp [go_sem], by simp [go_sem], by simp [go_sem]⟩
theorem CfgB.step {w w' : World} {B : Nat} {u0 u1 u2 : Value} (h : CfgB w B u0 u1 u2) (hb : Below w.heap.size w w') : CfgB w' B u0 u1 u2 :=
  have hl : B < w.heap.size := World.block_lt_of_cell? w _ h.c0
  ⟨keepc hb h.c0, keepc hb h.c1, keepc hb h.c2, (hb.frozen hl).trans h.f0, (hb.frozen hl).trans h.f1, (hb.frozen hl).trans h.f2⟩
set_option maxRecDepth 100000 in
set_option maxHeartbeats 8000000 in
theorem plays_any (T0 D0 : ByteArray) (x : Option Addr) (n c : Nat) (f0 : List Int) (x0 : Option Addr) (gl ol m c0 : Nat) (hm : m ≤ maxLen) (w : World) (hr : Reads w (.slice x n c) f0) (hT0 : T0.size ≤ maxLen) (hD0 : D0.size ≤ maxLen) (hx0 : 0 < m → x0 = some ⟨gl, ol, none⟩) (hx : ∀ i, i < m → OpRow w gl ol i) : Calls Try.prog 8 #[.agg #[.string T0, .string D0, .slice x n c], .slice x0 m c0] w fun e w' => e = .returned (.bool true) ∧ Below w.heap.size w w' := by
  unfold maxLen at hm
  have HX := hid hx
  have HX0 := hid hx0
  have HCB := hid (CfgB.new w (.string T0) (.string D0) (.slice x n c) 76)
  have HB0 := hid (bal (Below.refl w.heap.size w) (.cells #[.string T0, .string D0, .slice x n c] 76))
  have HW := hid (nawake_true (w.alloc (.cells #[.string T0, .string D0, .slice x n c] 76)))
  have HFW := hid (fun W (hb : Below w.heap.size w W) => few_any T0 D0 x n c f0 W (reads_below hr hb) hT0 hD0)
  have hT1 := cutS_size T0 45
  have hD1 := cutS_size D0 45
  have hfl : (f0.take 8).length ≤ 8 := List.length_take_le _ _
  unfold FewD at HFW
  generalize cutS T0 45 = T at *
  generalize cutS D0 45 = D at *
  generalize f0.take 8 = fs at *
  have q0 := HCB.out.c0
  have q1 := HCB.out.c1
  have q2 := HCB.out.c2
  clear hr hx hx0
  go_enter Try.func8, Try.ntmps8
  go_wp2_with fail
  with_reducible refine HW.out.mono ?_
  rintro e w1 ⟨rfl, hb1⟩
  have HCB1 := hid (HCB.out.step hb1)
  have q0 := HCB1.out.c0
  have q1 := HCB1.out.c1
  have q2 := HCB1.out.c2
  have HB1 := hid (below_t HB0.out hb1)
  have hwl : w.heap.size < w1.heap.size := World.block_lt_of_cell? w1 _ q0
  clear hb1 HW HCB HB0
  go_wp2_with fail
  with_reducible refine (HFW.out _ HB1.out).mono ?_
  rintro e w2 ⟨v2, rfl, ho2, hb2, hk2⟩
  obtain ⟨nf, hnf⟩ : ∃ nf, fs.length = nf := ⟨_, rfl⟩
  obtain ⟨x2, c2, rfl⟩ := own_len ho2 nf hnf
  have HCB2 := HCB1.out.step hb2
  obtain ⟨z0, z1, z2, y0, y1, y2⟩ := HCB2
  have hnf8 : nf ≤ 8 := by omega
  have hB2 := below_t HB1.out hb2
  obtain ⟨p0, p1, p2, pb⟩ := put3_end z0 z1 z2 hB2 (Nat.le_refl w.heap.size) (.string T) (.string D) (.slice x2 nf c2)
  have hop : OwnB (put3 w2 w.heap.size (.string T) (.string D) (.slice x2 nf c2)) (.slice x2 nf c2) fs := ho2.moved (((set_moved w2 w.heap.size 0 (.string T)).trans (set_moved _ w.heap.size 1 (.string D))).trans (set_moved _ w.heap.size 2 (.slice x2 nf c2))) (fun k hk q => by have := hk2 k hk; have := List.mem_singleton.1 q; omega)
  clear hB2 hb2 hk2 ho2 HCB1 HB1 HFW q0 q1 q2
  go_wp2_with fail
  revert p0 p1 p2 pb hop
  generalize hW3 : put3 w2 w.heap.size (.string T) (.string D) (.slice x2 nf c2) = W3
  intro p0 p1 p2 pb hop
  unfold put3 at hW3
  rw [hW3]
  clear hW3 z0 z1 z2 y0 y1 y2
  have HOP := hid hop
  have HPB := hid pb
  have HNF := hid hnf
  have hBl : w.heap.size < W3.heap.size := World.block_lt_of_cell? W3 _ p0
  have HF2 := hid (show Calls Try.prog 33 #[.agg #[.string T, .string D, .slice x2 nf c2]] W3 (fun e w' => ∃ v, e = .returned (.agg #[.string T, .string D, v]) ∧ OwnB w' v fs ∧ Below W3.heap.size W3 w' ∧ ∀ k ∈ blkV v, W3.heap.size ≤ k) by
    have := few_any T D x2 nf c2 fs W3 hop.reads (by unfold maxLen; omega) (by unfold maxLen; omega)
    unfold FewD at this
    rw [cutS_id hT1, cutS_id hD1, List.take_of_length_le (by omega)] at this
    exact this)
  clear hop pb hnf
  with_reducible refine HF2.out.mono ?_
  rintro e w4 ⟨v3, rfl, ho3, hb3, hk3⟩
  obtain ⟨x3, c3, rfl⟩ := own_len ho3 nf HNF.out
  have HO3 := hid (ho3.step (bal (Below.refl w4.heap.size w4) (.cells #[.string T, .string D, .slice x3 nf c3] 76)))
  have HOP4 := hid (HOP.out.step (bal hb3 (.cells #[.string T, .string D, .slice x3 nf c3] 76)))
  have HPB4 := hid (below_t HPB.out (bal hb3 (.cells #[.string T, .string D, .slice x3 nf c3] 76)))
  have HK3 := hid (show ∀ k ∈ blkV (.slice x3 nf c3), W3.heap.size ≤ k ∧ k < w4.heap.size from fun k hk => ⟨hk3 k hk, ho3.lt k hk⟩)
  have HK2 := hid (show ∀ k ∈ blkV (.slice x2 nf c2), k < W3.heap.size from HOP.out.lt)
  have h34 := hb3.size
  have b0 := keepc (bal hb3 (.cells #[.string T, .string D, .slice x3 nf c3] 76)) p0
  have b1 := keepc (bal hb3 (.cells #[.string T, .string D, .slice x3 nf c3] 76)) p1
  have b2 := keepc (bal hb3 (.cells #[.string T, .string D, .slice x3 nf c3] 76)) p2
  have m2 : (w4.alloc (.cells #[.string T, .string D, .slice x3 nf c3] 76)).cell? ⟨w4.heap.size, 2, none⟩ = some (.slice x3 nf c3) := by simp [go_sem]
  have hWAs : (w4.alloc (.cells #[.string T, .string D, .slice x3 nf c3] 76)).heap.size = w4.heap.size + 1 := by simp
  have HWA := hid hWAs
  clear ho3 hb3 hk3 HOP HPB HF2 p0 p1 p2 hWAs
  cases hok : nameOk T D
  · have HN := hid (new_bad T D x3 _ c3 fs _ HO3.out.rdg HNF.out.symm (by omega) (by omega) (by omega) hok)
    have HRN := hid (fun W (ho : OwnB W (.slice x2 nf c2) fs) => rnew_bad T D x2 _ c2 fs W ho HNF.out.symm (by omega) (by omega) (by omega) hok)
    clear hok
    go_wp2_with fail
    with_reducible refine HN.out.mono ?_
    rintro e w5 ⟨rfl, hb5⟩
    have b0 := keepc hb5 b0
    have b1 := keepc hb5 b1
    have b2 := keepc hb5 b2
    have HO5 := hid (HOP4.out.step hb5)
    have HB5 := hid (below_t HPB4.out hb5)
    clear hb5 HN
    go_wp2_with fail
    with_reducible refine (HRN.out _ HO5.out).mono ?_
    rintro e w6 ⟨rfl, hb6⟩
    have HB6 := hid (below_t HB5.out hb6)
    clear hb6 HRN
    go_wp2
    go_ret
    exact ⟨rfl, HB6.out⟩
  cases hri : risesL fs
  · have HN := hid (show Calls Try.prog 34 #[.agg #[.string T, .string D, .slice x3 nf c3]] _ (NoD 1 _) by
      by_cases hd : D.size = 0
      · exact new_arg_none T D x3 _ c3 fs _ HO3.out.rdg HNF.out.symm (by omega) (by omega) (by omega) hd hok hri
      · exact new_arg_some T D x3 _ c3 fs _ HO3.out.rdg HNF.out.symm (by omega) (by omega) (by omega) hd hok hri)
    have HRN := hid (fun W (ho : OwnB W (.slice x2 nf c2) fs) => show Calls Try.prog 35 #[.agg #[.string T, .string D, .slice x2 nf c2]] W (NoD 1 W) by
      by_cases hd : D.size = 0
      · exact rnew_arg_none T D x2 _ c2 fs W ho HNF.out.symm (by omega) (by omega) (by omega) hd hok hri
      · exact rnew_arg_some T D x2 _ c2 fs W ho HNF.out.symm (by omega) (by omega) (by omega) hd hok hri)
    clear hok hri
    go_wp2_with fail
    with_reducible refine HN.out.mono ?_
    rintro e w5 ⟨rfl, hb5⟩
    have b0 := keepc hb5 b0
    have b1 := keepc hb5 b1
    have b2 := keepc hb5 b2
    have HO5 := hid (HOP4.out.step hb5)
    have HB5 := hid (below_t HPB4.out hb5)
    clear hb5 HN
    go_wp2_with fail
    with_reducible refine (HRN.out _ HO5.out).mono ?_
    rintro e w6 ⟨rfl, hb6⟩
    have HB6 := hid (below_t HB5.out hb6)
    clear hb6 HRN
    go_wp2
    go_ret
    exact ⟨rfl, HB6.out⟩
  have HN := hid (show Calls Try.prog 34 #[.agg #[.string T, .string D, .slice x3 nf c3]] (w4.alloc (.cells #[.string T, .string D, .slice x3 nf c3] 76)) (NewD T D fs (w4.alloc (.cells #[.string T, .string D, .slice x3 nf c3] 76))) by
    by_cases hd : D.size = 0
    · exact new_ok_none T D x3 _ c3 fs _ HO3.out.rdg HNF.out.symm (by omega) (by omega) (by omega) hd hok hri
    · exact new_ok_some T D x3 _ c3 fs _ HO3.out.rdg HNF.out.symm (by omega) (by omega) (by omega) hd hok hri)
  have HRN := hid (fun W (ho : OwnB W (.slice x2 nf c2) fs) => show Calls Try.prog 35 #[.agg #[.string T, .string D, .slice x2 nf c2]] W (RNewD T D (.slice x2 nf c2) fs W) by
    by_cases hd : D.size = 0
    · exact rnew_ok_none T D x2 _ c2 fs W ho HNF.out.symm (by omega) (by omega) (by omega) hd hok hri
    · exact rnew_ok_some T D x2 _ c2 fs W ho HNF.out.symm (by omega) (by omega) (by omega) hd hok hri)
  have HFF := hid (rises_le hri HO3.out.1)
  clear hok hri
  go_wp2_with fail
  with_reducible refine HN.out.mono ?_
  rintro e w5 ⟨g1, sv, rfl, hE5, hb5, hg5, hk5⟩
  rw [HWA.out] at hg5 hk5
  have HO5 := hid (HOP4.out.step hb5)
  have HO35 := hid (HO3.out.step hb5)
  have b0 := keepc hb5 b0
  have b1 := keepc hb5 b1
  have b2 := keepc hb5 b2
  have m2 := keepc hb5 m2
  have HB5 := hid (below_t HPB4.out hb5)
  have HE5 := hid hE5
  have hgl5 := hE5.lt
  have HKS := hid (show ∀ k ∈ blkV sv, w4.heap.size + 1 ≤ k ∧ k < w5.heap.size from fun k hk => ⟨hk5 k hk, hE5.rs.lt k hk⟩)
  clear hE5 hb5 hk5 HN HOP4 HO3 HPB4
  go_wp2_with fail
  with_reducible refine (HRN.out _ HO5.out).mono ?_
  rintro e w6 ⟨g2, rfl, hE6, hb6, hg6⟩
  have m2 := keepc hb6 m2
  have HTW := hid (show Two w w6 g1 g2 sv (.slice x2 nf c2) (.slice none 0 0) (.slice none 0 0) T D fs 0 ⟨#[]⟩ [] from ⟨HE5.out.step hb6, hE6, by omega, by simp, by omega, (fun q => by have := HK2.out _ q; omega), (fun q => by cases q), (fun q => by have := HKS.out _ q; omega), (fun q => by cases q), below_t HB5.out hb6, by omega, by omega⟩)
  have HFL := hid (flip_any (.slice x3 nf c3) fs w6 (HO35.out.step hb6).2 (by have := HNF.out; omega))
  have HVS := hid (show ∀ k ∈ blkV (.slice x3 nf c3), k ≠ g1 ∧ k ≠ g2 ∧ k ∉ blkV sv ∧ k ∉ blkV (.slice x2 nf c2) ∧ k ∉ blkV (.slice none 0 0) ∧ k ∉ blkV (.slice none 0 0) ∧ w.heap.size ≤ k from fun k hk => by
    have h1 := HK3.out k hk
    exact ⟨by omega, by omega, (fun q => by have := HKS.out k q; omega), (fun q => by have := HK2.out k q; omega), (fun q => by cases q), (fun q => by cases q), by omega⟩)
  clear hE6 hb6 HRN HO5 HO35 b0 b1 b2 HB5 HE5
  go_wp2_with fail
  with_reducible refine HFL.out.mono ?_
  rintro e w7 ⟨rfl, hM7⟩
  have HI7 := hid (show TwoI w g1 g2 sv (.slice x2 nf c2) T D fs w7 from ⟨_, _, _, _, _, HTW.out.flip hM7 HVS.out⟩)
  clear hM7 HFL HVS HTW m2 HKS HK3 HK2
  go_wp2
  go_loopw [51] (fun i W => ∃ k : Nat, k ≤ m ∧ i = .int .i64 k ∧ Hid (TwoI w g1 g2 sv (.slice x2 nf c2) T D fs W)) (fun i _ => m - (RowKit.intOf i).toNat)
  case atStart => exact ⟨0, Nat.zero_le _, rfl, HI7.out⟩
  case round =>
    obtain ⟨k, hk, rfl, HI⟩ := hrel
    clear HI7
    by_cases hlt : k < m
    · obtain ⟨rs, op, u, zs, hop, o0, o1, o2, hu⟩ := HX.out k hlt
      obtain rfl := HX0.out (by omega)
      obtain ⟨av1, av2, st, dev, ag, hTW⟩ := HI.out
      have hki : (k : Int) < m := by omega
      have o0 := keepc hTW.bel o0
      have o1 := keepc hTW.bel o1
      have o2 := keepc hTW.bel o2
      have hU := reads_below hu hTW.bel
      obtain ⟨ux, un, uc, rfl⟩ : ∃ x n c, u = .slice x n c := by
        rcases hu.2 with ⟨rfl, _⟩ | ⟨a, cap, rfl, _⟩
        · exact ⟨_, _, _, rfl⟩
        · exact ⟨_, _, _, rfl⟩
      clear HI hu
      by_cases h30 : k < 30
      · have k30 : ¬ (30 : Int) ≤ k := by omega
        cases rs
        · have hT8 := hTW.step (bal (Below.refl wr.heap.size wr) (.cells #[.bool false, .int .u8 op, .slice ux un uc] 88))
          have HT8 := hid hT8
          have HCU := hid (show Calls Try.prog 12 #[.slice ux un uc, .int .i64 120] (wr.alloc (.cells #[.bool false, .int .u8 op, .slice ux un uc] 88)) (OwnDone (zs.take 120) (wr.alloc (.cells #[.bool false, .int .u8 op, .slice ux un uc] 88))) from rcut_own _ 120 (by omega) zs _ (reads_below hU (bal (Below.refl wr.heap.size wr) (.cells #[.bool false, .int .u8 op, .slice ux un uc] 88))))
          have hpl : (zs.take 120).length ≤ 120 := List.length_take_le _ _
          have ob1 : (wr.alloc (.cells #[.bool false, .int .u8 op, .slice ux un uc] 88)).cell? ⟨wr.heap.size, 1, none⟩ = some (.int .u8 op) := by simp [go_sem]
          have l1 : g1 < wr.heap.size := hTW.e1.lt
          have l2 : g2 < wr.heap.size := hTW.e2.lt
          have HLA := hid (show (∀ k ∈ blkV sv, k < wr.heap.size) ∧ (∀ k ∈ blkV (.slice x2 nf c2), k < wr.heap.size) ∧ (∀ k ∈ blkV av1, k < wr.heap.size) ∧ (∀ k ∈ blkV av2, k < wr.heap.size) from ⟨hTW.e1.rs.lt, hTW.e2.rs.lt, hTW.e1.ra.lt, hTW.e2.ra.lt⟩)
          have hlow : w.heap.size ≤ wr.heap.size := hTW.bel.size
          clear hTW hU hT8
          generalize zs.take 120 = ps at *
          go_wp2_with fail
          with_reducible refine HCU.out.mono ?_
          rintro e wA ⟨vp, rfl, hoA, hbA, hkA⟩
          obtain ⟨pl, hpll⟩ : ∃ pl, ps.length = pl := ⟨_, rfl⟩
          obtain ⟨xp, cp, rfl⟩ := own_len hoA pl hpll
          have HCO := hid (rcopy_own _ ps wA hoA.reads (by omega))
          have HTA := hid (HT8.out.step hbA)
          have HOA := hid hoA
          have obA := keepc hbA ob1
          have HKA := hid (show ∀ k ∈ blkV (.slice xp pl cp), wr.heap.size < k ∧ k < wA.heap.size from fun k hk => ⟨by have := hkA k hk; simp at this; omega, hoA.lt k hk⟩)
          have hsA : wr.heap.size < wA.heap.size := World.block_lt_of_cell? wA _ obA
          clear hoA hbA hkA HCU HT8 ob1
          go_wp2_with fail
          with_reducible refine HCO.out.mono ?_
          rintro e wB ⟨vq, rfl, hoB, hbB, hkB⟩
          obtain ⟨xq, cq, rfl⟩ := own_len hoB pl hpll
          have HTB := hid (HTA.out.step hbB)
          have HOA2 := hid (HOA.out.step hbB)
          have HOB := hid hoB
          have obB := keepc hbB obA
          have hsB := hbB.size
          have HKB := hid (show ∀ k ∈ blkV (.slice xq pl cq), wA.heap.size ≤ k ∧ k < wB.heap.size from fun k hk => ⟨hkB k hk, hoB.lt k hk⟩)
          have HH1 := hid (hear_any g1 sv av1 T D fs st dev ag wB HTB.out.e1 (by omega) (by omega) (by have := HNF.out; omega) HFF.out HTB.out.hst xq pl cq ps hoB.rdg hpll.symm (by omega) (fun q => by have := hkB g1 q; omega) op)
          have HPL := hid hpll
          have hanl := ansH_len (T := T) (D := D) (fs := fs) (st := st) (o := (op : Int)) (xs := ps) (by omega) (by omega) (by have := HNF.out; omega) (by omega)
          have hstn := stH_range (fs := fs) (o := (op : Int)) (xs := ps) HTB.out.hst
          have hagn := agH_len (fs := fs) (st := st) (o := (op : Int)) (xs := ps) HTB.out.hag
          have HH2 := hid (fun (W : World) (h : EndM W g2 (.slice x2 nf c2) av2 T D fs st dev ag) (hr : RdG W (.slice xp pl cp) ps) => rhear_any g2 (.slice x2 nf c2) av2 T D fs st dev ag W h (by omega) (by omega) (by have := HNF.out; omega) HFF.out HTB.out.hst xp pl cp ps hr hpll.symm (by omega) (fun q => by have := HKA.out g2 q; omega) op)
          clear hoB hbB hkB HCO HTA HOA obA hpll
          generalize ansH T D fs st op ps = AN at *
          generalize erH st op ps = ER at *
          generalize stH fs st op ps = ST at *
          generalize devH dev st op ps = DV at *
          generalize agH fs ag st op ps = AG at *
          go_wp2_with fail
          with_reducible refine HH1.out.mono ?_
          rintro e wC ⟨vx, a1, rfl, hoC, hEC, hMC, hkC, hnC⟩
          obtain ⟨xx, nx, cx, rfl⟩ := own_slice hoC
          have obC := cell_moved hMC obB (one_notin (show wr.heap.size ≠ g1 by omega))
          have HPC := hid (HOA2.out.moved hMC (fun k hk q => by have h1 := HKA.out k hk; have h2 := List.mem_singleton.1 q; omega))
          have HQC := hid (HOB.out.moved hMC (fun k hk q => by have h1 := HKB.out k hk; have h2 := List.mem_singleton.1 q; omega))
          have HE2 := hid (HTB.out.first hMC)
          have HC := hid (And.intro hoC (And.intro hEC (And.intro hMC (And.intro hkC hnC))))
          have hsC := hMC.size
          clear hoC hEC hMC hkC hnC HH1
          go_wp2_with fail
          with_reducible refine (HH2.out _ HE2.out HPC.out.rdg).mono ?_
          rintro e wD ⟨vy, a2, rfl, hoD, hED, hMD, hkD, hnD⟩
          obtain ⟨xy, ny, cy, rfl⟩ := own_slice hoD
          have hXD := HC.out.1.moved hMD (fun k hk q => by have h1 := (HC.out.2.2.2.1 k hk).1; have h2 := List.mem_singleton.1 q; omega)
          have hPD := HPC.out.moved hMD (fun k hk q => by have h1 := HKA.out k hk; have h2 := List.mem_singleton.1 q; omega)
          have hQD := HQC.out.moved hMD (fun k hk q => by have h1 := HKB.out k hk; have h2 := List.mem_singleton.1 q; omega)
          have hTD := HTB.out.heard HC.out.2.2.1 HC.out.2.1 HC.out.2.2.2.2 hMD hED hnD hstn hagn
          have HS1 := hid (same_true (.slice xx nx cx) (.slice xy ny cy) AN wD hXD.reads hoD.reads)
          have HS2 := hid (same_true (.slice xq pl cq) (.slice xp pl cp) ps wD hQD.reads hPD.reads)
          have HS3 := hid (same_any g1 g2 sv a1 (.slice x2 nf c2) a2 T D T D fs fs ST DV AG wD hTD.e1 hTD.e2 hTD.hag)
          have hxlt := HC.out.1.lt
          have HVQ := hid (show ∀ k ∈ blkV (.slice xq pl cq), k ≠ g1 ∧ k ≠ g2 ∧ k ∉ blkV sv ∧ k ∉ blkV (.slice x2 nf c2) ∧ k ∉ blkV a1 ∧ k ∉ blkV a2 ∧ w.heap.size ≤ k from fun k hk => by
            have h1 := HKB.out k hk
            exact ⟨by omega, by omega, (fun q => by have := HLA.out.1 k q; omega), (fun q => by have := HLA.out.2.1 k q; omega), old_apart HC.out.2.2.2.2 HTB.out.e1.c5 (fun q => by have := HLA.out.2.2.1 k q; omega) (by omega), old_apart hnD HE2.out.c5 (fun q => by have := HLA.out.2.2.2 k q; omega) (by omega), by omega⟩)
          have HVX := hid (show ∀ k ∈ blkV (.slice xx nx cx), k ≠ g1 ∧ k ≠ g2 ∧ k ∉ blkV sv ∧ k ∉ blkV (.slice x2 nf c2) ∧ k ∉ blkV a1 ∧ k ∉ blkV a2 ∧ w.heap.size ≤ k from fun k hk => by
            have h1 := HC.out.2.2.2.1 k hk
            have h2 := hxlt k hk
            exact ⟨by omega, by omega, (fun q => by have := HLA.out.1 k q; omega), (fun q => by have := HLA.out.2.1 k q; omega), h1.2, old_apart hnD HE2.out.c5 (fun q => by have := HLA.out.2.2.2 k q; omega) h2, by omega⟩)
          have HXQ := hid (show ∀ k ∈ blkV (.slice xx nx cx), k ∉ blkV (.slice xq pl cq) from fun k hk q => by have h1 := (HC.out.2.2.2.1 k hk).1; have h2 := HKB.out k q; omega)
          have HTD := hid hTD
          have HXD := hid hXD
          have HQD := hid hQD
          clear hXD hPD hQD hTD hoD hED hMD hkD hnD HC HH2 HE2 HPC HQC HTB HOA2 HOB HKA HKB HLA hxlt obB obC
          go_wp2_with fail
          with_reducible refine HS1.out.mono ?_
          rintro e wx ⟨rfl, rfl⟩
          go_wp2_with fail
          with_reducible refine HS2.out.mono ?_
          rintro e wx ⟨rfl, rfl⟩
          go_wp2_with fail
          with_reducible refine HS3.out.mono ?_
          rintro e wE ⟨rfl, hbE⟩
          have HTE := hid (HTD.out.step hbE)
          have HXE := hid (HXD.out.step hbE)
          have HQE := hid (HQD.out.step hbE)
          have HFQ := hid (flip_any (.slice xq pl cq) ps wE HQE.out.2 (by omega))
          clear hbE HS1 HS2 HS3 HTD HXD HQD
          go_wp2_with fail
          with_reducible refine HFQ.out.mono ?_
          rintro e wF ⟨rfl, hMF⟩
          have HTF := hid (HTE.out.flip hMF HVQ.out)
          have HXF := hid (HXE.out.moved hMF HXQ.out)
          have HFX := hid (flip_any (.slice xx nx cx) AN wF HXF.out.2 (by omega))
          clear hMF HTE HXE HQE HFQ HVQ HXQ
          go_wp2_with fail
          with_reducible refine HFX.out.mono ?_
          rintro e wG ⟨rfl, hMG⟩
          have HIN := hid (show TwoI w g1 g2 sv (.slice x2 nf c2) T D fs wG from ⟨_, _, _, _, _, HTF.out.flip hMG HVX.out⟩)
          clear hMG HTF HXF HFX HVX
          go_wp2
          go_roundw
          case rel => exact ⟨k + 1, by omega, by go_num, HIN.out⟩
          case measure => simp [RowKit.intOf]; omega
        · have hT8 := hTW.step (bal (Below.refl wr.heap.size wr) (.cells #[.bool true, .int .u8 op, .slice ux un uc] 88))
          have HT8 := hid hT8
          have HRS := hid (reset_any g1 sv av1 T D fs st dev ag _ hT8.e1)
          have hl2 : g2 < wr.heap.size := hTW.e2.lt
          clear hTW hU hT8
          go_wp2_with fail
          with_reducible refine HRS.out.mono ?_
          rintro e w9 ⟨rfl, hE9, hM9⟩
          have h2 := HT8.out.first hM9
          have c3 := h2.c3
          have c4 := h2.c4
          have c5 := h2.c5
          have f3 := h2.fr 3 (by omega)
          have f4 := h2.fr 4 (by omega)
          have f5 := h2.fr 5 (by omega)
          obtain ⟨ax, ac, rfl⟩ := own_len h2.ra _ rfl
          have hE' := ((h2.set3 0).set4 ⟨#[]⟩).set5n
          have hM2 := ((set_moved w9 g2 3 (.int .i64 0)).trans (set_moved _ g2 4 (.string ⟨#[]⟩))).trans (set_moved _ g2 5 (.slice none 0 0))
          have HIN := hid (show TwoI w g1 g2 sv (.slice x2 nf c2) T D fs _ from ⟨_, _, _, _, _, HT8.out.heard hM9 hE9 (.inr (fun k q => by cases q)) hM2 hE' (.inr (fun k q => by cases q)) (by omega) (by simp)⟩)
          clear h2 hE9 hM9 hE' hM2 HRS HT8
          go_wp2
          go_roundw
          case rel => exact ⟨k + 1, by omega, by go_num, HIN.out⟩
          case measure => simp [RowKit.intOf]; omega
      · have k30 : (30 : Int) ≤ k := by omega
        have HT8 := hid (fun b => hTW.step (bal (Below.refl wr.heap.size wr) b))
        have HSM := hid (fun b => same_any g1 g2 sv av1 (.slice x2 nf c2) av2 T D T D fs fs st dev ag _ (HT8.out b).e1 (HT8.out b).e2 (HT8.out b).hag)
        clear hTW hU
        go_wp2_with fail
        with_reducible refine (HSM.out _).mono ?_
        rintro e w9 ⟨rfl, hb9⟩
        have HB9 := hid (below_t (HT8.out _).bel hb9)
        clear hb9 HSM
        go_wp2
        go_ret
        exact ⟨rfl, HB9.out⟩
    · have hki : ¬ (k : Int) < m := by omega
      obtain ⟨av1, av2, st, dev, ag, hTW⟩ := HI.out
      have HSM := hid (same_any g1 g2 sv av1 (.slice x2 nf c2) av2 T D T D fs fs st dev ag wr hTW.e1 hTW.e2 hTW.hag)
      have HBB := hid hTW.bel
      clear hTW HI HX HX0
      go_wp2_with fail
      with_reducible refine HSM.out.mono ?_
      rintro e w9 ⟨rfl, hb9⟩
      have HB9 := hid (below_t HBB.out hb9)
      clear hb9 HSM
      go_wp2
      go_ret
      exact ⟨rfl, HB9.out⟩
end Go.Proofs.Ytdpfjbpfafekfaa
