/-
  NegoRefused: the law's walk.
-/
import Derived.Test.YtdpfjbpfafekfaaNu
namespace Go.Proofs.Ytdpfjbpfafekfaa
open Go.RowKit Go.Lib

theorem perm_4 (k : Int) : permB 4 k = false := by
  unfold permB
  split
  · rfl
  · split
    · rfl
    · split
      · rfl
      · split <;> rfl
theorem okH_4 (o : Int) (xs : List Int) : okH 4 o xs = false := okH_perm (perm_4 _)
theorem hear_send (g : Nat) (sv av : Value) (T D : ByteArray) (fs : List Int) (st : Int) (dev : ByteArray) (ag : List Int) (w : World) (h : EndM w g sv av T D fs st dev ag) (hT : T.size ≤ 1000) (hD : D.size ≤ 1000) (hfl : fs.length ≤ 1000) (hf : ∀ x ∈ fs, 0 ≤ x ∧ x ≤ 4) (hst : st = 0 ∨ st = 1 ∨ st = 2 ∨ st = 3) (y : Option Addr) (c : Nat) (hr : RdG w (.slice y 2 c) [8, 2]) (hg : g ∉ blkV (.slice y 2 c)) : Calls Try.prog 38 #[.pointer (some ⟨g, 0, none⟩), .int .u8 40, .slice y 2 c] w (HDone g sv T D fs 1 ⟨#[]⟩ [] (2 :: 7 :: (strL T ++ devT D)) 0 w) := by
  have := hear_any g sv av T D fs st dev ag w h hT hD hfl hf (by omega) y 2 c [8, 2] hr rfl (by omega) hg 40
  have hok : okH st 40 [8, 2] = true := by rcases hst with rfl | rfl | rfl | rfl <;> decide
  rw [show stH fs st 40 [8, 2] = 1 by unfold stH; rw [if_pos hok]; rfl, show devH dev st 40 [8, 2] = ⟨#[]⟩ by unfold devH; rw [if_pos hok]; rfl, show agH fs ag st 40 [8, 2] = [] by unfold agH; rw [if_pos hok]; rfl, show ansH T D fs st 40 [8, 2] = 2 :: 7 :: (strL T ++ devT D) by unfold ansH; rw [if_neg (by decide), if_pos hok]; rfl, show erH st 40 [8, 2] = 0 by rcases hst with rfl | rfl | rfl | rfl <;> decide] at this
  exact this
theorem hear_reject (g : Nat) (sv av : Value) (T D : ByteArray) (fs : List Int) (st : Int) (dev : ByteArray) (ag : List Int) (w : World) (h : EndM w g sv av T D fs st dev ag) (hT : T.size ≤ 1000) (hD : D.size ≤ 1000) (hfl : fs.length ≤ 1000) (hf : ∀ x ∈ fs, 0 ≤ x ∧ x ≤ 4) (hst : st = 1) (z : Int) (y : Option Addr) (c : Nat) (hr : RdG w (.slice y 4 c) [2, 6, 5, z]) (hg : g ∉ blkV (.slice y 4 c)) : Calls Try.prog 38 #[.pointer (some ⟨g, 0, none⟩), .int .u8 40, .slice y 4 c] w (HDone g sv T D fs 4 dev ag [] 0 w) := by
  subst hst
  have := hear_any g sv av T D fs 1 dev ag w h hT hD hfl hf (by omega) y 4 c [2, 6, 5, z] hr rfl (by omega) hg 40
  have hk : kindL [2, 6, 5, z] = 3 := by simp [kindL, kind2, kindD]
  have hok : okH 1 40 [2, 6, 5, z] = true := by unfold okH; rw [hk]; rfl
  rw [show stH fs 1 40 [2, 6, 5, z] = 4 by unfold stH; rw [if_pos hok, hk]; rfl, show devH dev 1 40 [2, 6, 5, z] = dev by unfold devH; rw [if_pos hok, hk]; rfl, show agH fs ag 1 40 [2, 6, 5, z] = ag by unfold agH; rw [if_pos hok, hk]; rfl, show ansH T D fs 1 40 [2, 6, 5, z] = [] by unfold ansH; rw [if_neg (by decide), if_pos hok, hk]; rfl, show erH 1 40 [2, 6, 5, z] = 0 by unfold erH; rw [if_neg (by decide), if_pos rfl, hk]; rfl] at this
  exact this
theorem hear_refused (g : Nat) (sv av : Value) (T D : ByteArray) (fs : List Int) (st : Int) (dev : ByteArray) (ag : List Int) (w : World) (h : EndM w g sv av T D fs st dev ag) (hT : T.size ≤ 1000) (hD : D.size ≤ 1000) (hfl : fs.length ≤ 1000) (hf : ∀ x ∈ fs, 0 ≤ x ∧ x ≤ 4) (hst : st = 4) (y : Option Addr) (n c : Nat) (xs : List Int) (hr : RdG w (.slice y n c) xs) (hn : n = xs.length) (hl : n ≤ 1000) (hg : g ∉ blkV (.slice y n c)) : Calls Try.prog 38 #[.pointer (some ⟨g, 0, none⟩), .int .u8 40, .slice y n c] w (HDone g sv T D fs 4 dev ag [] (erH 4 40 xs) w) := by
  subst hst
  have := hear_any g sv av T D fs 4 dev ag w h hT hD hfl hf (by omega) y n c xs hr hn hl hg 40
  have hok := okH_4 40 xs
  rw [show stH fs 4 40 xs = 4 by unfold stH; rw [hok]; rfl, show devH dev 4 40 xs = dev by unfold devH; rw [hok]; rfl, show agH fs ag 4 40 xs = ag by unfold agH; rw [hok]; rfl, show ansH T D fs 4 40 xs = [] by unfold ansH; rw [if_neg (by decide), hok]; rfl] at this
  exact this
theorem rises_le {fs : List Int} (h : risesL fs = true) (hb : ∀ x ∈ fs, 0 ≤ x ∧ x < 256) : ∀ x ∈ fs, 0 ≤ x ∧ x ≤ 4 := fun x hx => by
  unfold risesL at h
  have h' := of_decide_eq_true h
  obtain ⟨i, hi, rfl⟩ := List.getElem_of_mem hx
  have := (h' i hi).1
  rw [List.getD, List.getElem?_eq_getElem hi] at this
  exact ⟨(hb _ hx).1, this⟩
/-- Rows of bytes that came in. -/
def RowsIn (w : World) (v : Value) : Prop := (∃ x c, v = .slice x 0 c) ∨ ∃ g off n cap, v = .slice (some ⟨g, off, none⟩) n cap ∧ n ≤ maxLen ∧ ∀ i, i < n → ∃ u zs, w.cell? ⟨g, off + i, none⟩ = some u ∧ Reads w u zs
theorem reads_any_slice {w : World} {d : Value} {xs : List Int} (h : Reads w d xs) : ∃ x n c, d = .slice x n c := by
  rcases h.2 with ⟨rfl, _⟩ | ⟨a, cap, rfl, _⟩
  · exact ⟨_, _, _, rfl⟩
  · exact ⟨_, _, _, rfl⟩
/-- The end, wherever it is, in a state. -/
def EndI (g : Nat) (sv : Value) (T D : ByteArray) (fs : List Int) (st : Int) (w0 w : World) : Prop := ∃ av dev ag, EndM w g sv av T D fs st dev ag ∧ Below w0.heap.size w0 w
set_option maxRecDepth 100000 in
set_option maxHeartbeats 2000000 in
theorem refused_row (T0 D0 : ByteArray) (x : Option Addr) (n c : Nat) (f0 : List Int) (z : Nat) (hz : z < 256) (x0 : Option Addr) (gl ol m c0 : Nat) (hm : m ≤ maxLen) (w : World) (hr : Reads w (.slice x n c) f0) (hT0 : T0.size ≤ maxLen) (hD0 : D0.size ≤ maxLen) (hx0 : 0 < m → x0 = some ⟨gl, ol, none⟩) (hx : ∀ i, i < m → ∃ u zs, w.cell? ⟨gl, ol + i, none⟩ = some u ∧ Reads w u zs) : Calls Try.prog 10 #[.agg #[.string T0, .string D0, .slice x n c], .int .u8 z, .slice x0 m c0] w fun e w' => e = .returned (.bool true) ∧ Below w.heap.size w w' := by
  unfold maxLen at hm
  have HX := hid hx
  have HX0 := hid hx0
  have HB0 := hid (bal (Below.refl w.heap.size w) (.cells #[.string T0, .string D0, .slice x n c] 76))
  have HW := hid (nawake_true (w.alloc (.cells #[.string T0, .string D0, .slice x n c] 76)))
  have HFW := hid (fun W (hb : Below w.heap.size w W) => few_any T0 D0 x n c f0 W (reads_below hr hb) hT0 hD0)
  have hT1 := cutS_size T0 45
  have hD1 := cutS_size D0 45
  have hfl : (f0.take 8).length ≤ 8 := List.length_take_le _ _
  have q0 : (w.alloc (.cells #[.string T0, .string D0, .slice x n c] 76)).cell? ⟨w.heap.size, 0, none⟩ = some (.string T0) := by simp [go_sem]
  have q1 : (w.alloc (.cells #[.string T0, .string D0, .slice x n c] 76)).cell? ⟨w.heap.size, 1, none⟩ = some (.string D0) := by simp [go_sem]
  have q2 : (w.alloc (.cells #[.string T0, .string D0, .slice x n c] 76)).cell? ⟨w.heap.size, 2, none⟩ = some (.slice x n c) := by simp [go_sem]
  unfold FewD at HFW
  generalize cutS T0 45 = T at *
  generalize cutS D0 45 = D at *
  generalize f0.take 8 = fs at *
  clear hr hx hx0
  go_enter Try.func10, Try.ntmps10
  go_wp2_with fail
  with_reducible refine HW.out.mono ?_
  rintro e w1 ⟨rfl, hb1⟩
  have q0 := keepc hb1 q0
  have q1 := keepc hb1 q1
  have q2 := keepc hb1 q2
  have HB1 := hid (below_t HB0.out hb1)
  clear hb1 HW
  go_wp2_with fail
  with_reducible refine (HFW.out _ HB1.out).mono ?_
  rintro e w2 ⟨v2, rfl, ho2, hb2, hk2⟩
  obtain ⟨x2, c2, rfl⟩ := own_len ho2 _ rfl
  have HB2 := hid (below_t HB1.out hb2)
  have HRD := hid ho2.rdg
  have HBY := hid ho2.1
  clear ho2 hb2 hk2 HFW q0 q1 q2
  cases hok : nameOk T D
  · have HN := hid (new_bad T D x2 _ c2 fs w2 HRD.out rfl (by omega) (by omega) (by omega) hok)
    clear hok
    generalize fs.length = nf at *
    go_wp2_with fail
    with_reducible refine HN.out.mono ?_
    rintro e w3 ⟨rfl, hb3⟩
    have HB3 := hid (below_t HB2.out hb3)
    clear hb3 HN
    go_wp2
    go_ret
    exact ⟨rfl, HB3.out⟩
  cases hri : risesL fs
  · have HN := hid (show Calls Try.prog 34 #[.agg #[.string T, .string D, .slice x2 fs.length c2]] w2 (NoD 1 w2) by
      by_cases hd : D.size = 0
      · exact new_arg_none T D x2 _ c2 fs w2 HRD.out rfl (by omega) (by omega) (by omega) hd hok hri
      · exact new_arg_some T D x2 _ c2 fs w2 HRD.out rfl (by omega) (by omega) (by omega) hd hok hri)
    clear hok hri
    generalize fs.length = nf at *
    go_wp2_with fail
    with_reducible refine HN.out.mono ?_
    rintro e w3 ⟨rfl, hb3⟩
    have HB3 := hid (below_t HB2.out hb3)
    clear hb3 HN
    go_wp2
    go_ret
    exact ⟨rfl, HB3.out⟩
  have HN := hid (show Calls Try.prog 34 #[.agg #[.string T, .string D, .slice x2 fs.length c2]] w2 (NewD T D fs w2) by
    by_cases hd : D.size = 0
    · exact new_ok_none T D x2 _ c2 fs w2 HRD.out rfl (by omega) (by omega) (by omega) hd hok hri
    · exact new_ok_some T D x2 _ c2 fs w2 HRD.out rfl (by omega) (by omega) (by omega) hd hok hri)
  have hf := rises_le hri HBY.out
  have hT2 : 1 ≤ T.size := by
    unfold nameOk at hok
    have : nameB T = true := by
      cases q : nameB T
      · rw [q] at hok
        cases hok
      · rfl
    exact (name_fit this).1
  clear hok hri HBY HRD
  have HSE := hid (fun (W : World) g sv av st dev ag (h : EndM W g sv av T D fs st dev ag) hst y cc hr hg => hear_send g sv av T D fs st dev ag W h (by omega) (by omega) (by omega) hf hst y cc hr hg)
  have HRE := hid (fun (W : World) g sv av dev ag (h : EndM W g sv av T D fs 1 dev ag) z y cc hr hg => hear_reject g sv av T D fs 1 dev ag W h (by omega) (by omega) (by omega) hf rfl z y cc hr hg)
  have HRF := hid (fun (W : World) g sv av dev ag (h : EndM W g sv av T D fs 4 dev ag) y nn cc xs hr hn hl hg => hear_refused g sv av T D fs 4 dev ag W h (by omega) (by omega) (by omega) hf rfl y nn cc xs hr hn hl hg)
  clear hf
  generalize hnf : fs.length = nf at *
  clear hnf
  go_wp2_with fail
  with_reducible refine HN.out.mono ?_
  rintro e w3 ⟨g, sv, rfl, hE3, hb3, hg3, hk3⟩
  have hgw : w.heap.size ≤ g := Nat.le_trans HB2.out.size hg3
  have HB3 := hid (below_t HB2.out hb3)
  have hgl3 := hE3.lt
  have HL3 := hid (own_lit w3 #[.int .u8 8, .int .u8 2] 2 [8, 2] (fun q hq => by simp at hq; omega) rfl rfl (by omega) w3.heap.size rfl)
  have HC3 := hid (HSE.out _ g sv _ 0 _ _ (hE3.step (bal (Below.refl w3.heap.size w3) (.cells #[.int .u8 8, .int .u8 2] 5))) (by omega) (some ⟨w3.heap.size, 0, none⟩) 2 HL3.out.rdg (fun q => by simp [mem_blkV, Value.ownBlock] at q; omega))
  have HB3' := hid (bal HB3.out (.cells #[.int .u8 8, .int .u8 2] 5))
  clear hE3 hb3 hg3 hk3 HN HL3 HB2 HB1
  go_wp2_with fail
  with_reducible refine HC3.out.mono ?_
  rintro e w4 ⟨v4, av4, rfl, ho4, hE4, hM4, -⟩
  obtain ⟨x4, n4, c4, rfl⟩ := own_slice ho4
  have HB4 := hid (HB3'.out.trans (hM4.toBelow HB3'.out.size (fun k hk => by rw [List.mem_singleton.1 hk]; exact hgw)))
  have hgl4 := hE4.lt
  have HL4 := hid (own_lit w4 #[.int .u8 2, .int .u8 6, .int .u8 5, .int .u8 z] 4 [2, 6, 5, (z : Int)] (fun q hq => by simp at hq; omega) rfl rfl (by omega) w4.heap.size rfl)
  have HC4 := hid (HRE.out _ g sv _ _ _ (hE4.step (bal (Below.refl w4.heap.size w4) (.cells #[.int .u8 2, .int .u8 6, .int .u8 5, .int .u8 z] 5))) z (some ⟨w4.heap.size, 0, none⟩) 4 HL4.out.rdg (fun q => by simp [mem_blkV, Value.ownBlock] at q; omega))
  have HB4' := hid (bal HB4.out (.cells #[.int .u8 2, .int .u8 6, .int .u8 5, .int .u8 z] 5))
  clear ho4 hE4 hM4 HC3 HB3 HB3' HL4 HRE
  go_wp2_with fail
  with_reducible refine HC4.out.mono ?_
  rintro e w5 ⟨v5, av5, rfl, ho5, hE5, hM5, -⟩
  obtain ⟨x5, n5, c5, rfl⟩ := own_slice ho5
  have HB5 := hid (HB4'.out.trans (hM5.toBelow HB4'.out.size (fun k hk => by rw [List.mem_singleton.1 hk]; exact hgw)))
  have HST := hid (state_any g sv av5 T D fs 4 _ _ w5 hE5)
  have HI5 := hid (show EndI g sv T D fs 4 w w5 from ⟨_, _, _, hE5, HB5.out⟩)
  clear ho5 hE5 hM5 HC4 HB4 HB4' HB5 hgl3 hgl4
  go_wp2_with fail
  with_reducible refine HST.out.mono ?_
  rintro e w6 ⟨rfl, rfl⟩
  clear HST
  go_wp2
  go_loopw [44] (fun i W => ∃ k : Nat, k ≤ m ∧ i = .int .i64 k ∧ Hid (EndI g sv T D fs 4 w W)) (fun i _ => m - (RowKit.intOf i).toNat)
  case atStart => exact ⟨0, Nat.zero_le _, rfl, HI5.out⟩
  case round =>
    obtain ⟨k, hk, rfl, HI⟩ := hrel
    clear HI5
    obtain ⟨av, dev, ag, hE, hB⟩ := HI.out
    by_cases hlt : k < m
    · obtain ⟨u, zs, cu, hu⟩ := HX.out k hlt
      obtain rfl := HX0.out (by omega)
      have hki : (k : Int) < m := by omega
      have cu := keepc hB cu
      have HCU := hid (show Calls Try.prog 12 #[u, .int .i64 60] wr (OwnDone (zs.take 60) wr) from rcut_own u 60 (by omega) zs wr (reads_below hu hB))
      obtain ⟨xu, nu, cc, rfl⟩ := reads_any_slice hu
      by_cases h10 : k < 10
      · have h10' : (k : Int) < 10 := by omega
        have HE := hid hE
        have HB := hid hB
        have hgl := hE.lt
        have hzl : (zs.take 60).length ≤ 60 := List.length_take_le _ _
        clear hE hB hu HI
        generalize zs.take 60 = ps at *
        go_wp2_with fail
        with_reducible refine HCU.out.mono ?_
        rintro e w7 ⟨v7, rfl, ho7, hb7, hk7⟩
        obtain ⟨x7, c7, rfl⟩ := own_len ho7 _ rfl
        have HC7 := hid (HRF.out w7 g sv _ _ _ (HE.out.step hb7) x7 _ c7 ps ho7.rdg rfl (by omega) (fun q => by have := hk7 g q; omega))
        have HB7 := hid (below_t HB.out hb7)
        clear ho7 hb7 hk7 HCU HE HB
        generalize hpl : ps.length = pl at *
        clear hpl
        generalize erH 4 40 ps = er at *
        go_wp2_with fail
        with_reducible refine HC7.out.mono ?_
        rintro e w8 ⟨v8, av8, rfl, ho8, hE8, hM8, -⟩
        obtain ⟨x8, n8, c8, rfl⟩ := own_slice ho8
        have HI8 := hid (show EndI g sv T D fs 4 w w8 from ⟨_, _, _, hE8, HB7.out.trans (hM8.toBelow HB7.out.size (fun k hk => by rw [List.mem_singleton.1 hk]; exact hgw))⟩)
        clear ho8 hE8 hM8 HC7 HB7
        go_wp2
        go_roundw
        case rel => exact ⟨k + 1, by omega, by go_num, HI8.out⟩
        case measure => simp [RowKit.intOf]; omega
      · have h10' : ¬ (k : Int) < 10 := by omega
        clear hE hB hu HCU
        go_wp2
        go_roundw
        case rel => exact ⟨k + 1, by omega, by go_num, HI.out⟩
        case measure => simp [RowKit.intOf]; omega
    · have hki : ¬ (k : Int) < m := by omega
      have HST := hid (state_any g sv av T D fs 4 _ _ wr hE)
      have HRY := hid (ready_any g sv av T D fs 4 _ _ wr hE)
      rw [show ((4 : Int) == 3) = false from rfl] at HRY
      have HFN := hid (functions_no g sv av T D fs 4 _ _ wr hE (by decide))
      have HRS := hid (reset_any g sv av T D fs 4 _ _ wr hE)
      have HB := hid hB
      clear hE hB HI HX HX0
      go_wp2_with fail
      with_reducible refine HST.out.mono ?_
      rintro e w6 ⟨rfl, rfl⟩
      go_wp2_with fail
      with_reducible refine HRY.out.mono ?_
      rintro e w6 ⟨rfl, rfl⟩
      go_wp2_with fail
      with_reducible refine HFN.out.mono ?_
      rintro e w6 ⟨rfl, rfl⟩
      go_wp2_with fail
      with_reducible refine HRS.out.mono ?_
      rintro e w9 ⟨rfl, hE9, hM9⟩
      have HB9 := hid (HB.out.trans (hM9.toBelow HB.out.size (fun k hk => by rw [List.mem_singleton.1 hk]; exact hgw)))
      have hgl9 := hE9.lt
      have HL9 := hid (own_lit w9 #[.int .u8 8, .int .u8 2] 2 [8, 2] (fun q hq => by simp at hq; omega) rfl rfl (by omega) w9.heap.size rfl)
      have HC9 := hid (HSE.out _ g sv _ 0 _ _ (hE9.step (bal (Below.refl w9.heap.size w9) (.cells #[.int .u8 8, .int .u8 2] 5))) (by omega) (some ⟨w9.heap.size, 0, none⟩) 2 HL9.out.rdg (fun q => by simp [mem_blkV, Value.ownBlock] at q; omega))
      have HB9' := hid (bal HB9.out (.cells #[.int .u8 8, .int .u8 2] 5))
      clear hE9 hM9 HST HRY HFN HRS HL9 HB9 HB
      go_wp2_with fail
      with_reducible refine HC9.out.mono ?_
      rintro e wa ⟨va, ava, rfl, hoa, hEa, hMa, -⟩
      have HBa := hid (HB9'.out.trans (hMa.toBelow HB9'.out.size (fun k hk => by rw [List.mem_singleton.1 hk]; exact hgw)))
      have HSTa := hid (state_any g sv ava T D fs 1 _ _ wa hEa)
      obtain ⟨la, hla⟩ : ∃ la, (2 :: 7 :: (strL T ++ devT D)).length = la := ⟨_, rfl⟩
      obtain ⟨xa, ca, rfl⟩ := own_len hoa la hla
      have hla2 : (2 : Int) < la := by
        rw [← hla]
        have := strL_length T
        simp only [List.length_cons, List.length_append]
        omega
      clear hoa hEa hMa HC9 HB9' hla
      go_wp2_with fail
      with_reducible refine HSTa.out.mono ?_
      rintro e w6 ⟨rfl, rfl⟩
      go_wp2
      go_ret
      exact ⟨rfl, HBa.out⟩
end Go.Proofs.Ytdpfjbpfafekfaa
