/-
  EraseNulls: the law's own walk.
-/
import Derived.Test.YtpehhinpohmpiaaEs
namespace Go.Proofs.Ytpehhinpohmpiaa
open Go.RowKit Go.Lib Go.Deep

theorem take_count {xs : List Int} {j : Nat} (h : j < xs.length) : (xs.take (j + 1)).count 0 = (xs.take j).count 0 + (if xs.getD j 0 = 0 then 1 else 0) := by
  have e : xs[j]? = some (xs.getD j 0) := by rw [List.getD_eq_getElem?_getD, List.getElem?_eq_getElem h]; rfl
  rw [take_one xs j _ e, List.count_append, List.count_singleton]
  by_cases hz : xs.getD j 0 = 0
  · rw [if_pos hz, if_pos (beq_iff_eq.2 hz)]
  · rw [if_neg hz, if_neg (fun q => hz (beq_iff_eq.1 q))]
set_option maxRecDepth 100000 in
set_option maxHeartbeats 8000000 in
theorem enulls_any (m : Nat) (hm : m < 256) (v : Value) (ac : List ActD) (n : Int) (hn : I64 n) (w : World) (hx : ActsIn w.heap.size w v ac) : Calls Try.prog 6 #[.int .u8 m, v, .int .i64 n] w fun e w' => e = .returned (.bool true) ∧ Below w.heap.size w w' := by
  have HW := hid (awake14 w)
  have HLY := hid (fun W (hb : Below w.heap.size w W) => lay_any m hm v ac w.heap.size W hb.size (hx.below hb))
  obtain ⟨x, cp, rfl⟩ := hx.sl
  have HNI := hid hn
  generalize runS (clearS (2 + ((m % 4 : Nat) : Int)) false) ac ac.length = s at HLY
  clear hx hm hn
  go_enter Try.func6, Try.ntmps6
  go_wp2_with fail
  with_reducible refine HW.out.mono ?_
  rintro e w1 ⟨rfl, hb1⟩
  have HB1 := hid hb1
  clear hb1
  go_wp2_with fail
  with_reducible refine (HLY.out _ HB1.out).mono ?_
  rintro e w2 ⟨b1, g1, b2, g2, rfl, hd, -⟩
  have HD := hid (show SpM w2 b1 g1 s ∧ RfM w2 b2 g2 s ∧ Below w.heap.size w w2 ∧ (∀ k ∈ [b1, g1], k ∉ [b2, g2]) ∧ w.heap.size ≤ b1 ∧ w.heap.size ≤ g1 from ⟨hd.sp, hd.rf, below_t HB1.out hd.bel, hd.ap, Nat.le_trans HB1.out.size (hd.lb b1 (by simp)), Nat.le_trans HB1.out.size (hd.lb g1 (by simp))⟩)
  have hok := hd.sp.ok
  have hNp := hok.pos
  have hAN : s.A.length ≤ s.L.length := attP_len _ _
  have HRA := hid (fun W h => rattrs_any b2 g2 s W h)
  have HTX := hid (fun a (ha : a < s.L.length) W h => rtext_any (b := b2) (g := g2) (s := s) (a : Int) (i64_small (by omega) (by omega)) W h)
  have HNU := hid (fun q (hq : I64 q) W h => nulls_any (b := b1) (g := g1) (s := s) q hq W h)
  have HST := hid (fun W h => rstart_any (b := b2) (g := g2) (s := s) n HNI.out W h)
  have HFD := hid (fun a (ha : a < s.L.length) W h => rfield_any (b := b2) (g := g2) (s := s) a ha W h)
  have HPL := hid (fun a (ha : a < s.L.length) W h => rplaces_any (b := b2) (g := g2) (s := s) (a : Int) (i64_small (by omega) (by omega)) W h)
  have HAM := hid (show ∀ k, k < s.A.length → s.A.getD k 0 < s.L.length from fun k hk => by
    rw [List.getD_eq_getElem?_getD, List.getElem?_eq_getElem hk]
    show s.A[k] < _
    have q := List.getElem_mem hk
    unfold Spc.A attP at q
    exact List.mem_range.1 (List.mem_filter.1 q).1)
  have HIA := hid (show s.iA s.A.length = intsV (s.A.map Int.ofNat) by unfold Spc.iA; rw [List.take_length])
  have HXU := hid (fun a => txL_u8 hok (plL s.P s.L.length (s.wr a)))
  have HXL := hid (fun a => (show (fldX s a).length = (plL s.P s.L.length (s.wr a)).length by unfold fldX txL; rw [List.length_map]))
  have HXM := hid (fun a => (show (fldX s a).length ≤ 4000 by
    unfold fldX txL
    rw [List.length_map]
    unfold plL
    split
    · have := plF_len s.P s.L.length (s.wr a) (s.L.length - 1) 0
      omega
    · simp))
  have HSB := hid (stF_bd s.P (hok.wr_lt n))
  have HOK := hid hok
  have hr0 := rattf0
  obtain ⟨A, hA⟩ : ∃ A, s.A.length = A := ⟨_, rfl⟩
  rw [hA] at HRA HAM HIA hAN
  have HLA := hid hA
  clear hd HB1 hA
  go_wp2_with fail
  with_reducible refine (HRA.out _ HD.out.2.1).mono ?_
  rintro e w3 ⟨va, rfl, hoa, -, hb3⟩
  obtain ⟨y, cy, rfl⟩ := row_any hoa
  rw [HIA.out] at hoa
  have HAC := hid (show ∀ i, i < A → ∃ gy, y = some ⟨gy, 0, none⟩ ∧ w3.cell? ⟨gy, i, none⟩ = some (.int .i64 (s.A.getD i 0 : Nat)) from fun i hi => by
    rcases ints_cells (xs := s.A.map Int.ofNat) (by rw [List.length_map, HLA.out]; exact hoa) with ⟨x, c, e, hx⟩ | ⟨gg, c, e, hc⟩
    · have : A = 0 := by
        have := congrArg List.length hx
        rw [List.length_map, HLA.out] at this
        exact this
      omega
    · injection e with e1
      refine ⟨gg, e1, ?_⟩
      have q := hc i (by rw [List.length_map, HLA.out]; exact hi)
      rw [Nat.zero_add] at q
      rw [q, List.getD_eq_getElem?_getD, List.getElem?_map, List.getD_eq_getElem?_getD, List.getElem?_eq_getElem (by rw [HLA.out]; exact hi)]
      rfl)
  have HB3 := hid hb3
  clear hoa hb3
  go_wp2_with fail
  go_loopw [26] (fun i W => ∃ k : Nat, k ≤ A ∧ i = .int .i64 k ∧ Hid (Below w3.heap.size w3 W)) (fun i _ => A - (RowKit.intOf i).toNat)
  case atStart => exact ⟨0, by omega, rfl, Below.refl _ _⟩
  case round =>
    obtain ⟨k, hk, rfl, HB⟩ := hrel
    by_cases hkA : k < A
    · have hki : (k : Int) < A := by omega
      obtain ⟨gy, rfl, hcy⟩ := HAC.out k hkA
      have cy1 := keepc HB.out hcy
      have ly := World.block_lt_of_cell? wr _ cy1
      have haN := HAM.out k hkA
      have HT1 := hid (HTX.out _ haN)
      have HN1 := hid (HNU.out (s.A.getD k 0 : Nat) (i64_small (by omega) (by omega)))
      have HU1 := hid (HXU.out (s.A.getD k 0 : Nat))
      have HL1 := hid (HXL.out (s.A.getD k 0 : Nat))
      have hM1 := HXM.out (s.A.getD k 0 : Nat)
      have HV1 := hid (show txV s (plL s.P s.L.length (s.wr (s.A.getD k 0 : Nat))) = (fldX s (s.A.getD k 0 : Nat)).map (Value.int .u8) from rfl)
      rw [HV1.out, ← HL1.out] at HT1
      change Hid (∀ x ∈ fldX s (s.A.getD k 0 : Nat), 0 ≤ x ∧ x < 256) at HU1
      generalize fldX s (s.A.getD k 0 : Nat) = xs at HT1 HN1 HU1 hM1
      generalize s.A.getD k 0 = a at hcy cy1 HT1 HN1
      clear HL1 HV1 hcy haN
      go_wp2_with fail
      with_reducible refine (HT1.out _ ((HD.out.2.1.below HB3.out).below HB.out)).mono ?_
      rintro e w4 ⟨vt, rfl, hot, -, hb4⟩
      obtain ⟨yt, ct, rfl⟩ := row_any hot
      have HO := hid (show OwnB w4 (.slice yt xs.length ct) xs from ⟨HU1.out, hot⟩)
      have HB4 := hid (below_t HB.out hb4)
      clear hot hb4 cy1 ly
      obtain ⟨M, hM⟩ : ∃ M, xs.length = M := ⟨_, rfl⟩
      have HM := hid hM
      rw [hM] at hM1 ⊢
      clear hM
      go_wp2_with fail
      go_loopw [34, 11] (fun i z W => ∃ j : Nat, j ≤ M ∧ i = .int .i64 j ∧ z = .int .i64 ((xs.take j).count 0 : Nat) ∧ Hid (Below w4.heap.size w4 W)) (fun i _ _ => M - (RowKit.intOf i).toNat)
      case atStart => exact ⟨0, by omega, rfl, rfl, Below.refl _ _⟩
      case round =>
        obtain ⟨j, hj, rfl, rfl, HBJ⟩ := hrel
        by_cases hjM : j < M
        · have hji : (j : Int) < M := by omega
          have hjx : j < xs.length := by rw [HM.out]; exact hjM
          obtain ⟨gt, ct', e, -⟩ := HO.out.slice (fun q => by rw [q] at hjx; exact absurd hjx (Nat.not_lt_zero _))
          injection e with e1 e2 e3
          subst e1 e3
          have ct1 := keepc HBJ.out (HO.out.at j hjx)
          have lt := World.block_lt_of_cell? wr _ ct1
          have HTC := hid (take_count hjx)
          have hcb : (xs.take j).count 0 ≤ j := Nat.le_trans List.count_le_length (by rw [List.length_take]; omega)
          have hwc : IntKind.i64.wrap ((((xs.take j).count 0 : Nat) : Int) + 1) = (((xs.take j).count 0 : Nat) : Int) + 1 := wrapI (i64_small (by omega) (by omega))
          generalize xs.getD j 0 = xj at ct1 HTC
          by_cases hz : xj = 0
          · subst hz
            rw [if_pos rfl] at HTC
            go_wp2
            try simp only [hwc]
            go_roundw
            case rel => exact ⟨j + 1, by omega, by go_num, by rw [HTC.out]; push_cast; rfl, HBJ.out⟩
            case measure => simp [RowKit.intOf]; omega
          · rw [if_neg hz] at HTC
            go_wp2
            go_roundw
            case rel => exact ⟨j + 1, by omega, by go_num, by rw [HTC.out]; rfl, HBJ.out⟩
            case measure => simp [RowKit.intOf]; omega
        · obtain rfl : j = M := by omega
          rw [List.take_of_length_le (show xs.length ≤ j by rw [HM.out]; exact Nat.le_refl _)]
          have HB5 := hid (below_t HB4.out HBJ.out)
          go_wp2_with fail
          with_reducible refine (HN1.out _ ((HD.out.1.below HB3.out).below HB5.out)).mono ?_
          rintro e w6 ⟨rfl, hb6⟩
          have HB6 := hid (below_t HB5.out hb6)
          clear hb6
          go_wp2
          go_roundw
          case rel => exact ⟨k + 1, by omega, by go_num, HB6.out⟩
          case measure => simp [RowKit.intOf]; omega
    · obtain rfl : k = A := by omega
      have HS3 := hid ((HD.out.1.below HB3.out).below HB.out)
      have HR3 := hid ((HD.out.2.1.below HB3.out).below HB.out)
      have HW3 := hid (below_t HD.out.2.2.1 (below_t HB3.out HB.out))
      have HNN := hid (HNU.out n HNI.out)
      generalize (fldX s n).count 0 = nn at HNN
      rcases HSB.out with est | ⟨a, ha, hpa, est⟩
      · rw [est] at HST
        go_wp2_with fail
        with_reducible refine (HST.out _ HR3.out).mono ?_
        rintro e w4 ⟨rfl, hb4⟩
        have HB4 := hid hb4
        clear hb4
        go_wp2_with fail
        with_reducible refine (HNN.out _ (HS3.out.below HB4.out)).mono ?_
        rintro e w5 ⟨rfl, hb5⟩
        have HB5 := hid (below_t HB4.out hb5)
        clear hb5
        go_wp2
        go_ret
        exact ⟨by simp, below_t HW3.out HB5.out⟩
      · rw [est] at HST
        have hai : ¬ (a : Int) < 0 := by omega
        have HF1 := hid (HFD.out a ha)
        have HP1 := hid (HPL.out a ha)
        rw [wr_nat ha] at HP1
        have HEA := hid (fun (hpr : (s.cel a).prot = false) hK => end_all HOK.out ha hpa hpr hK)
        obtain ⟨f1, f2, f3, hf⟩ : ∃ f1 f2 f3, (s.cel a).fv = .agg #[.bool (s.cel a).prot, .bool f1, .int .i64 f2, .bool f3] := ⟨_, _, _, rfl⟩
        rw [hf] at HF1
        clear hf
        have HKM := hid (show (plL s.P s.L.length a).length ≤ 4000 from by
          have := HXM.out (a : Int)
          rwa [HXL.out, wr_nat ha] at this)
        obtain ⟨K, hK⟩ : ∃ K, (plL s.P s.L.length a).length = K := ⟨_, rfl⟩
        rw [hK] at HP1 HEA HKM
        have hKM := HKM.out
        have hw1 : IntKind.i64.wrap ((a : Int) + 1) = (a : Int) + 1 := wrapI (i64_small (by omega) (by omega))
        have HEN := hid (fun W h => callsIn_wide.1 (end_in (b := b1) (g := g1) (s := s) 10 (by omega) ((a : Int) + 1) (i64_small (by omega) (by omega)) W h))
        have HNE := hid (fun W h => nulls_any (b := b1) (g := g1) (s := endS s ((a : Int) + 1)) (a : Int) (i64_small (by omega) (by omega)) W h)
        have HMI := hid (fun W => modifiedIt (some ⟨b1, 0, none⟩) W)
        have HCM := hid (fun bs W h hb => collectM_any bs b1 g1 (endS s ((a : Int) + 1)) W h hb)
        have HML := hid (show (mdS (endS s ((a : Int) + 1)) (endS s ((a : Int) + 1)).A).length ≤ 1000000 from Nat.le_trans (mdS_len _ _) (Nat.le_trans (attP_len _ _) (by rw [(endS_alike s _).len]; omega)))
        generalize (s.cel a).prot = pr at HF1 HEA
        clear hK
        go_wp2_with fail
        with_reducible refine (HST.out _ HR3.out).mono ?_
        rintro e w4 ⟨rfl, hb4⟩
        have HB4 := hid hb4
        clear hb4
        go_wp2_with fail
        with_reducible refine (HF1.out _ (HR3.out.below HB4.out)).mono ?_
        rintro e w5 ⟨rfl, hb5⟩
        have HB5 := hid (below_t HB4.out hb5)
        clear hb5
        cases pr
        · go_wp2_with fail
          with_reducible refine (HP1.out _ (HR3.out.below HB5.out)).mono ?_
          rintro e w6 ⟨v6, rfl, ho6, -, hb6⟩
          obtain ⟨y6, c6, rfl⟩ := row_any ho6
          have HB6 := hid (below_t HB5.out hb6)
          clear hb6 ho6
          by_cases hK0 : K = 0
          · subst hK0
            go_wp2_with fail
            with_reducible refine (HNN.out _ (HS3.out.below HB6.out)).mono ?_
            rintro e w7 ⟨rfl, hb7⟩
            have HB7 := hid (below_t HB6.out hb7)
            clear hb7
            go_wp2
            go_ret
            exact ⟨by simp, below_t HW3.out HB7.out⟩
          · have hKi : ¬ (K : Int) = 0 := by omega
            have hKb : ((K : Int) == 0) = false := beq_eq_false_iff_ne.2 hKi
            obtain ⟨q1, q2, q3⟩ := HEA.out trivial (by omega)
            rw [q1] at HEN
            rw [q2] at HNE
            have HIN := hid q3
            generalize endS s ((a : Int) + 1) = S at HEN HNE HCM HML HIN
            clear q1 q2 q3 HEA
            go_wp2_with fail
            try simp only [hw1]
            with_reducible refine (HEN.out _ (HS3.out.below HB6.out)).mono ?_
            rintro e w7 ⟨rfl, hs7, hm7⟩
            rw [if_pos trivial] at hs7
            have HS7 := hid hs7
            have HR7 := hid ((HR3.out.below HB6.out).moved hm7 (fun q => HD.out.2.2.2.1 b2 q (by simp)) (fun q => HD.out.2.2.2.1 g2 q (by simp)))
            have HW7 := hid ((below_t HW3.out HB6.out).trans (hm7.toBelow (below_t HW3.out HB6.out).size (fun k hk => by
              simp at hk
              rcases hk with rfl | rfl
              · exact HD.out.2.2.2.2.1
              · exact HD.out.2.2.2.2.2)))
            clear hs7 hm7
            go_wp2_with fail
            with_reducible refine (HNE.out _ HS7.out).mono ?_
            rintro e w8 ⟨rfl, hb8⟩
            have HB8 := hid hb8
            clear hb8
            go_wp2_with fail
            with_reducible refine (HP1.out _ (HR7.out.below HB8.out)).mono ?_
            rintro e w9 ⟨v9, rfl, ho9, -, hb9⟩
            obtain ⟨y9, c9, rfl⟩ := row_any ho9
            have HB9 := hid (below_t HB8.out hb9)
            clear hb9 ho9
            go_wp2_with fail
            with_reducible refine (HMI.out _).mono ?_
            rintro e w10 ⟨bs, rfl, -, hcx, hb10⟩
            have HB10 := hid (below_t HB9.out hb10)
            have HCX := hid hcx
            clear hb10 hcx
            go_wp2_with fail
            with_reducible refine (HCM.out bs _ (HS7.out.below HB10.out) HCX.out).mono ?_
            rintro e w11 ⟨vm, rfl, hom, -, hb11⟩
            rw [List.length_map] at hom
            have HCN := hid (contains_any vm _ a w11 hom HML.out HIN.out)
            obtain ⟨ym, cm, rfl⟩ := row_any hom
            have HB11 := hid (below_t HB10.out hb11)
            clear hb11 hom
            go_wp2_with fail
            with_reducible refine HCN.out.mono ?_
            rintro e w12 ⟨rfl, hb12⟩
            have HB12 := hid (below_t HB11.out hb12)
            clear hb12
            go_wp2
            go_ret
            exact ⟨by simp, below_t HW7.out HB12.out⟩
        · go_wp2_with fail
          with_reducible refine (HNN.out _ (HS3.out.below HB5.out)).mono ?_
          rintro e w6 ⟨rfl, hb6⟩
          have HB6 := hid (below_t HB5.out hb6)
          clear hb6
          go_wp2
          go_ret
          exact ⟨by simp, below_t HW3.out HB6.out⟩
end Go.Proofs.Ytpehhinpohmpiaa
