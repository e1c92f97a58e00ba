/-
  The reference's Take and Read.
-/
import Derived.Test.YtdbjjieoohfckaaRd
namespace Go.Proofs.Ytdbjjieoohfckaa
open Go.RowKit Go.Lib

theorem bt_byte (b : Int) (p : List Int) (h : b ≠ 255) : emit .between (b :: p) = dat [b] :: emit .between p ∧ runS .between (b :: p) = runS .between p := by
  have e : stepS .between b = (.between, [dat [b]]) := by simp only [stepS, if_neg h]
  exact ⟨by simp only [emit, e]; rfl, by simp only [runS, e]⟩
theorem bt_iac (p : List Int) : emit .between (255 :: p) = emit .iac p ∧ runS .between (255 :: p) = runS .iac p := by
  have e : stepS .between 255 = (.iac, []) := by simp only [stepS, if_pos]
  exact ⟨by simp only [emit, e, List.nil_append], by simp only [runS, e]⟩
theorem ia_step (c : Int) (p : List Int) : emit .iac (c :: p) = (iacS c).2 ++ emit (iacS c).1 p ∧ runS .iac (c :: p) = runS (iacS c).1 p := ⟨rfl, rfl⟩
/-- What Take leaves. -/
def TakeR (ps : List Int) (w : World) (e : Ending) (w' : World) : Prop :=
  ∃ v xs, ∃ n : Nat, e = .returned (.tuple #[v, .int .i64 n]) ∧ TwoL w' w.heap.size (.slice none 0 0) v [] xs ∧ xs.map (·.1) = mergeL (emit .between ps) ∧ decide (n < ps.length) = (runS .between ps).waits ∧ Below w.heap.size w w'
set_option maxRecDepth 100000 in
set_option maxHeartbeats 8000000 in
theorem takeR_any (p : Value) (ps : List Int) (w : World) (hp : Reads w p ps) (hl : ps.length ≤ 2000) : Calls Try.prog 20 #[p] w (TakeR ps w) := by
  have HP := hid hp
  have HPB := hid hp.1
  obtain ⟨x, cap, rfl, hc⟩ := reads_uni hp
  have HC := hid hc
  have HDA := hid (drop_at ps)
  clear hp hc
  obtain ⟨n, hn⟩ : ∃ n, n = ps.length := ⟨_, rfl⟩
  rw [← hn] at HC hl HDA HP ⊢
  have HLN := hid hn
  clear hn
  have HBY : Hid (∀ j, j < n → 0 ≤ ps.getD j 0 ∧ ps.getD j 0 < 256) := fun j hj => HPB.out _ (by rw [List.getD, List.getElem?_eq_getElem (by rw [← HLN.out]; exact hj)]; exact List.getElem_mem _)
  go_enter Try.func20, Try.ntmps20
  go_wp2
  go_loopw [4, 5] (fun s iv w' => ∃ (i : Nat) (xs : List (Ev × Value)), i ≤ n ∧ 0 ≤ i ∧ iv = .int .i64 i ∧ Hid (TwoL w' w.heap.size (.slice none 0 0) s [] xs) ∧ Hid ((emit .between (ps.drop i)).foldl mstep (xs.map (·.1)) = mergeL (emit .between ps) ∧ runS .between (ps.drop i) = runS .between ps) ∧ Hid (GoodL (xs.map (·.1))) ∧ Hid (wt (xs.map (·.1)) ≤ 260 * i) ∧ Hid (Below w.heap.size w w')) (fun _ iv _ => n - (intOf iv).toNat)
  case atStart =>
    exact ⟨0, [], Nat.zero_le _, Nat.le_refl _, rfl, ⟨World.ownsRow_nil _ _ _ _, World.ownsRow_nil _ _ _ _, (fun x hx => by rcases hx with q | q <;> cases q), (fun k hk => by rcases hk with q | q <;> cases q), (fun k hk => by cases hk)⟩, ⟨rfl, rfl⟩, (fun e he => by cases he), Nat.le_refl _, Below.refl _ _⟩
  case round =>
    obtain ⟨i, xs, hi, -, rfl, HT, HV, HG, HW, HBB⟩ := hrel
    by_cases hil : i < n
    · obtain ⟨g, off, rfl, ci0⟩ := HC.out i hil
      have ci := keepc HBB.out ci0
      have HY0 := hid (HBY.out i hil)
      have HD0 := hid (HDA.out i hil)
      have hii : (i : Int) < n := by omega
      clear ci0
      generalize ps.getD i 0 = b at ci HY0 HD0
      by_cases hb : b = 255
      · subst hb
        by_cases hi1 : i + 1 < n
        · obtain ⟨g', off', hxe, ck0⟩ := HC.out (i + 1) hi1
          cases hxe
          have ck := keepc HBB.out ck0
          have HY1 := hid (HBY.out (i + 1) hi1)
          have HD1 := hid (HDA.out (i + 1) hi1)
          have hi1i : (i : Int) + 1 < n := by omega
          have hi1n : ¬ (n : Int) ≤ (i : Int) + 1 := by omega
          clear ck0
          generalize ps.getD (i + 1) 0 = c at ck HY1 HD1
          have HV1 : Hid (((iacS c).2 ++ emit (iacS c).1 (ps.drop (i + 2))).foldl mstep (xs.map (·.1)) = mergeL (emit .between ps) ∧ runS (iacS c).1 (ps.drop (i + 2)) = runS .between ps) := by
            have v := HV.out
            rw [HD0.out, HD1.out, (bt_iac _).1, (bt_iac _).2, (ia_step _ _).1, (ia_step _ _).2] at v
            exact v
          clear HV
          by_cases hc1 : c = 255
          · have HNX := HV1.out
            rw [iac_dat c hc1] at HNX
            have HNX := hid HNX
            subst hc1
            clear HV1
            have HDW : Hid (DIn (wr.alloc (.cells #[.int .u8 255] 5)) (.slice none 0 0) u4 (.slice (some ⟨wr.heap.size, 0, none⟩) 1 1) [255]) := by
              refine ⟨reads_byte wr 255 (by omega), fun k hk => ?_⟩
              have e : k = wr.heap.size := by simpa [blkV, Value.ownBlock] using hk
              subst e
              exact ⟨by simp, (fun q => by cases q), fun q => by have := own_lt HT.out.rowW _ q; omega⟩
            have HTW := hid (HT.out.below ((Below.refl wr.heap.size wr).alloc (Nat.le_refl _) (.cells #[.int .u8 255] 5)))
            have HBW := hid (HBB.out.alloc HBB.out.size (.cells #[.int .u8 255] 5))
            have HAD := hid (add_any w.heap.size u4 xs 0 0 0 [255] false false _ _ HTW.out HDW.out HBW.out.size (by have := HW.out; omega) (by simp) HG.out (fun _ => ⟨rfl, by simp⟩))
            go_wp2_with fail
            refine HAD.out.mono ?_
            rintro e w2 ⟨v2, xs2, rfl, ht2, hx2, hb2⟩
            have HT2 := hid ht2
            have HX2 := hid hx2
            have HB2 := hid (HBW.out.trans hb2)
            clear ht2 hx2 hb2
            go_wp2
            go_roundw
            case rel =>
              refine ⟨i + 2, xs2, by omega, by omega, by go_num, HT2.out, ?_, ?_, ?_, HB2.out⟩
              · show _ ∧ _
                rw [HX2.out]
                exact HNX.out
              · show GoodL _
                rw [HX2.out]
                exact good_mstep HG.out
              · show wt _ ≤ _
                rw [HX2.out]
                exact Nat.le_trans (wt_mstep _ _) (by have := HW.out; show _ + 1 + List.length _ ≤ _; simp; omega)
            case measure => simp [intOf]; omega
          · have l1 : (c == 255) = false := by simpa using hc1
            by_cases hc2 : c = 250
            · have HV2 := HV1.out
              rw [iac_sb c hc2] at HV2
              have HV := hid HV2
              subst hc2
              clear HV2 HV1
              have HSB := hid (sub_any (.slice (some ⟨g, off, none⟩) n cap) ps (i + 2) wr (reads_below HP.out HBB.out) (by rw [← HLN.out]; omega) (by omega))
              go_wp2_with fail
              refine HSB.out.mono ?_
              rintro e w2 ⟨hb2, hs2⟩
              have HBW := hid (HBB.out.trans (hb2.mono HBB.out.size))
              have HT2 := hid (HT.out.below hb2)
              rcases hs2 with ⟨rfl, hs3, hs4⟩ | ⟨nn, o, lg, br, d, ds, rfl, hn1, hn2, hs3, hs4, hod, hdl, hdn⟩
              · clear hb2
                have HNE : Hid (xs.map (·.1) = mergeL (emit .between ps) ∧ decide (i < ps.length) = (runS .between ps).waits) := by
                  have v := HV.out
                  rw [show ([] : List Ev) ++ emit .sb (ps.drop (i + 2)) = emit .sb (ps.drop (i + 2)) from rfl, hs3] at v
                  refine ⟨v.1, ?_⟩
                  rw [← v.2, hs4, decide_eq_true (by rw [← HLN.out]; omega)]
                clear hs3 hs4
                go_wp2
                go_ret2
                exact ⟨u4, xs, i, rfl, HT2.out.below ((Below.refl _ _).alloc (Nat.le_refl _) _), HNE.out.1, HNE.out.2, HBW.out.alloc HBW.out.size _⟩
              · obtain ⟨xd, nd, cd, rfl⟩ := own_slice hod
                have HOD := hid hod
                have HDN := hid hdn
                have HDL := hid hdl
                have HN2 := hid (show nn ≤ n by rw [HLN.out]; exact hn2)
                have HNX : Hid ((emit .between (ps.drop nn)).foldl mstep (mstep (xs.map (·.1)) ⟨3, 0, o, ds, lg, br⟩) = mergeL (emit .between ps) ∧ runS .between (ps.drop nn) = runS .between ps) := by
                  have v := HV.out
                  rw [show ([] : List Ev) ++ emit .sb (ps.drop (i + 2)) = emit .sb (ps.drop (i + 2)) from rfl, hs3, hs4] at v
                  exact v
                have hnn : i + 2 < nn := hn1
                have hnn2 : ¬ ((nn : Nat) : Int) < 0 := by omega
                have hnn3 := HN2.out
                have HLT : Hid (∀ k ∈ blkV (.slice xd nd cd), k < w2.heap.size ∧ wr.heap.size ≤ k) := fun k hk => ⟨own_lt hod.2 k hk, hdn k hk⟩
                clear hb2 hs3 hs4 hod hdn hdl hn1 hn2
                have HDW : Hid (DIn (w2.alloc (.cells #[.int .i64 3, .int .u8 0, .int .u8 o, .slice xd nd cd, .bool lg, .bool br] 36)) (.slice none 0 0) u4 (.slice xd nd cd) ds) := by
                  refine ⟨reads_below HOD.out.reads ((Below.refl _ _).alloc (Nat.le_refl _) _), fun k hk => ⟨by have := (HLT.out k hk).1; simp; omega, (fun q => by cases q), fun q => ?_⟩⟩
                  have := own_lt HT.out.rowW _ q; have := (HLT.out k hk).2; omega
                have HTW := hid (HT2.out.below ((Below.refl w2.heap.size w2).alloc (Nat.le_refl _) (.cells #[.int .i64 3, .int .u8 0, .int .u8 o, .slice xd nd cd, .bool lg, .bool br] 36)))
                have HBW2 := hid (HBW.out.alloc HBW.out.size (.cells #[.int .i64 3, .int .u8 0, .int .u8 o, .slice xd nd cd, .bool lg, .bool br] 36))
                have HAD := hid (add_any w.heap.size u4 xs 3 0 o ds lg br _ _ HTW.out HDW.out HBW2.out.size (by have := HW.out; omega) (by have := HDL.out; omega) HG.out (fun q => absurd q (by decide)))
                clear HBW
                have HBW := hid HBW2.out
                go_wp2_with fail
                refine HAD.out.mono ?_
                rintro e w2 ⟨v2, xs2, rfl, ht2, hx2, hb2⟩
                have HT2 := hid ht2
                have HX2 := hid hx2
                have HB2 := hid (HBW.out.trans hb2)
                clear ht2 hx2 hb2
                go_wp2
                go_roundw
                case rel =>
                  refine ⟨nn, xs2, by omega, by omega, by go_num, HT2.out, ?_, ?_, ?_, HB2.out⟩
                  · show _ ∧ _
                    rw [HX2.out]
                    exact HNX.out
                  · show GoodL _
                    rw [HX2.out]
                    exact good_mstep HG.out
                  · show wt _ ≤ _
                    rw [HX2.out]
                    exact Nat.le_trans (wt_mstep _ _) (by have := HW.out; show _ + 1 + List.length _ ≤ _; have := HDL.out; show _ + 1 + ds.length ≤ _; omega)
                case measure => simp [intOf]; omega
            · have l2 : (c == 250) = false := by simpa using hc2
              by_cases hc3 : 251 ≤ c ∧ c ≤ 254
              · have HV2 := HV1.out
                rw [iac_verb c hc3.1 hc3.2] at HV2
                have HV := hid HV2
                have h31 : 251 ≤ c := hc3.1
                have h32 : c ≤ 254 := hc3.2
                clear HV2 HV1 hc3 hc1 hc2
                by_cases hi2 : i + 2 < n
                · obtain ⟨g', off', hxe, cm0⟩ := HC.out (i + 2) hi2
                  cases hxe
                  have cm := keepc HBB.out cm0
                  have HD2 := hid (HDA.out (i + 2) hi2)
                  have hi2i : (i : Int) + 2 < n := by omega
                  have hi2n : ¬ (n : Int) ≤ (i : Int) + 2 := by omega
                  clear cm0
                  generalize ps.getD (i + 2) 0 = dd at cm HD2
                  have HNX : Hid ((emit .between (ps.drop (i + 3))).foldl mstep (mstep (xs.map (·.1)) ⟨2, c, dd, [], false, false⟩) = mergeL (emit .between ps) ∧ runS .between (ps.drop (i + 3)) = runS .between ps) := by
                    have v := HV.out
                    rw [HD2.out] at v
                    exact v
                  have HDW : Hid (DIn wr (.slice none 0 0) u4 (.slice none 0 0) []) := ⟨reads_nil wr, fun k hk => by cases hk⟩
                  have HBW := hid HBB.out
                  have HAD := hid (add_any w.heap.size u4 xs 2 c dd [] false false _ _ HT.out HDW.out HBW.out.size (by have := HW.out; omega) (by simp) HG.out (fun q => absurd q (by decide)))
                  go_wp2_with fail
                  refine HAD.out.mono ?_
                  rintro e w2 ⟨v2, xs2, rfl, ht2, hx2, hb2⟩
                  have HT2 := hid ht2
                  have HX2 := hid hx2
                  have HB2 := hid (HBW.out.trans hb2)
                  clear ht2 hx2 hb2
                  go_wp2
                  go_roundw
                  case rel =>
                    refine ⟨i + 3, xs2, by omega, by omega, by go_num, HT2.out, ?_, ?_, ?_, HB2.out⟩
                    · show _ ∧ _
                      rw [HX2.out]
                      exact HNX.out
                    · show GoodL _
                      rw [HX2.out]
                      exact good_mstep HG.out
                    · show wt _ ≤ _
                      rw [HX2.out]
                      exact Nat.le_trans (wt_mstep _ _) (by have := HW.out; show _ + 1 + List.length _ ≤ _; simp; omega)
                  case measure => simp [intOf]; omega
                · have hi2i : (n : Int) ≤ (i : Int) + 2 := by omega
                  have HNE : Hid (xs.map (·.1) = mergeL (emit .between ps) ∧ decide (i < ps.length) = (runS .between ps).waits) := by
                    have v := HV.out
                    have hdn : ps.drop (i + 2) = [] := List.drop_eq_nil_of_le (by rw [← HLN.out]; omega)
                    rw [hdn] at v
                    refine ⟨v.1, ?_⟩
                    rw [← v.2, decide_eq_true (by rw [← HLN.out]; omega)]; rfl
                  go_wp2
                  go_ret2
                  exact ⟨u4, xs, i, rfl, HT.out, HNE.out.1, HNE.out.2, HBB.out⟩
              · have HNX := HV1.out
                rw [iac_cmd c hc1 hc2 (by omega)] at HNX
                have HNX := hid HNX
                clear HV1 hc1 hc2
                by_cases h31 : 251 ≤ c
                · have h32 : ¬ c ≤ 254 := by omega
                  clear hc3
                  have HDW : Hid (DIn wr (.slice none 0 0) u4 (.slice none 0 0) []) := ⟨reads_nil wr, fun k hk => by cases hk⟩
                  have HBW := hid HBB.out
                  have HAD := hid (add_any w.heap.size u4 xs 1 c 0 [] false false _ _ HT.out HDW.out HBW.out.size (by have := HW.out; omega) (by simp) HG.out (fun q => absurd q (by decide)))
                  go_wp2_with fail
                  refine HAD.out.mono ?_
                  rintro e w2 ⟨v2, xs2, rfl, ht2, hx2, hb2⟩
                  have HT2 := hid ht2
                  have HX2 := hid hx2
                  have HB2 := hid (HBW.out.trans hb2)
                  clear ht2 hx2 hb2
                  go_wp2
                  go_roundw
                  case rel =>
                    refine ⟨i + 2, xs2, by omega, by omega, by go_num, HT2.out, ?_, ?_, ?_, HB2.out⟩
                    · show _ ∧ _
                      rw [HX2.out]
                      exact HNX.out
                    · show GoodL _
                      rw [HX2.out]
                      exact good_mstep HG.out
                    · show wt _ ≤ _
                      rw [HX2.out]
                      exact Nat.le_trans (wt_mstep _ _) (by have := HW.out; show _ + 1 + List.length _ ≤ _; simp; omega)
                  case measure => simp [intOf]; omega
                · clear hc3
                  have HDW : Hid (DIn wr (.slice none 0 0) u4 (.slice none 0 0) []) := ⟨reads_nil wr, fun k hk => by cases hk⟩
                  have HBW := hid HBB.out
                  have HAD := hid (add_any w.heap.size u4 xs 1 c 0 [] false false _ _ HT.out HDW.out HBW.out.size (by have := HW.out; omega) (by simp) HG.out (fun q => absurd q (by decide)))
                  go_wp2_with fail
                  refine HAD.out.mono ?_
                  rintro e w2 ⟨v2, xs2, rfl, ht2, hx2, hb2⟩
                  have HT2 := hid ht2
                  have HX2 := hid hx2
                  have HB2 := hid (HBW.out.trans hb2)
                  clear ht2 hx2 hb2
                  go_wp2
                  go_roundw
                  case rel =>
                    refine ⟨i + 2, xs2, by omega, by omega, by go_num, HT2.out, ?_, ?_, ?_, HB2.out⟩
                    · show _ ∧ _
                      rw [HX2.out]
                      exact HNX.out
                    · show GoodL _
                      rw [HX2.out]
                      exact good_mstep HG.out
                    · show wt _ ≤ _
                      rw [HX2.out]
                      exact Nat.le_trans (wt_mstep _ _) (by have := HW.out; show _ + 1 + List.length _ ≤ _; simp; omega)
                  case measure => simp [intOf]; omega
        · have hi1n : (n : Int) ≤ (i : Int) + 1 := by omega
          have HNE : Hid (xs.map (·.1) = mergeL (emit .between ps) ∧ decide (i < ps.length) = (runS .between ps).waits) := by
            have v := HV.out
            have hdn : ps.drop (i + 1) = [] := List.drop_eq_nil_of_le (by rw [← HLN.out]; omega)
            rw [HD0.out, hdn, (bt_iac _).1, (bt_iac _).2] at v
            refine ⟨v.1, ?_⟩
            rw [← v.2, decide_eq_true (by rw [← HLN.out]; omega)]; rfl
          go_wp2
          go_ret2
          exact ⟨u4, xs, i, rfl, HT.out, HNE.out.1, HNE.out.2, HBB.out⟩
      · have HNX : Hid ((emit .between (ps.drop (i + 1))).foldl mstep (mstep (xs.map (·.1)) (dat [b])) = mergeL (emit .between ps) ∧ runS .between (ps.drop (i + 1)) = runS .between ps) := by
          have v := HV.out
          rw [HD0.out, (bt_byte b _ hb).1, (bt_byte b _ hb).2] at v
          exact v
        have l0 : (b != 255) = true := by simpa using hb
        clear hb
        have HDW : Hid (DIn (wr.alloc (.cells #[.int .u8 b] 5)) (.slice none 0 0) u4 (.slice (some ⟨wr.heap.size, 0, none⟩) 1 1) [b]) := by
          refine ⟨reads_byte wr b HY0.out, fun k hk => ?_⟩
          have e : k = wr.heap.size := by simpa [blkV, Value.ownBlock] using hk
          subst e
          exact ⟨by simp, (fun q => by cases q), fun q => by have := own_lt HT.out.rowW _ q; omega⟩
        have HTW := hid (HT.out.below ((Below.refl wr.heap.size wr).alloc (Nat.le_refl _) (.cells #[.int .u8 b] 5)))
        have HBW := hid (HBB.out.alloc HBB.out.size (.cells #[.int .u8 b] 5))
        have HAD := hid (add_any w.heap.size u4 xs 0 0 0 [b] false false _ _ HTW.out HDW.out HBW.out.size (by have := HW.out; omega) (by simp) HG.out (fun _ => ⟨rfl, by simp⟩))
        go_wp2_with fail
        refine HAD.out.mono ?_
        rintro e w2 ⟨v2, xs2, rfl, ht2, hx2, hb2⟩
        have HT2 := hid ht2
        have HX2 := hid hx2
        have HB2 := hid (HBW.out.trans hb2)
        clear ht2 hx2 hb2
        go_wp2
        go_roundw
        case rel =>
          refine ⟨i + 1, xs2, by omega, by omega, by go_num, HT2.out, ?_, ?_, ?_, HB2.out⟩
          · show _ ∧ _
            rw [HX2.out]
            exact HNX.out
          · show GoodL _
            rw [HX2.out]
            exact good_mstep HG.out
          · show wt _ ≤ _
            rw [HX2.out]
            exact Nat.le_trans (wt_mstep _ _) (by have := HW.out; show _ + 1 + List.length _ ≤ _; simp; omega)
        case measure => simp [intOf]; omega
    · have HNE : Hid (xs.map (·.1) = mergeL (emit .between ps) ∧ decide (i < ps.length) = (runS .between ps).waits) := by
        have v := HV.out
        have hdn : ps.drop i = [] := List.drop_eq_nil_of_le (by rw [← HLN.out]; omega)
        rw [hdn] at v
        refine ⟨v.1, ?_⟩
        rw [← v.2, decide_eq_false (by rw [← HLN.out]; omega)]; rfl
      go_wp2
      go_ret2
      exact ⟨u4, xs, i, rfl, HT.out, HNE.out.1, HNE.out.2, HBB.out⟩
end Go.Proofs.Ytdbjjieoohfckaa
