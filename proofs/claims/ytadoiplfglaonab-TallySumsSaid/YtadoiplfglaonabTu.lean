/-
  TallySums: the law's walk.
-/
import Derived.Test.YtadoiplfglaonabTv
namespace Go.Proofs.Ytadoiplfglaonab
open Go.RowKit Go.Shelf Go.Deep Go.Lib

/-- Whatever New's say, both tallies and references. -/
def SumsIn (w : World) (v : Value) : Prop := ScrIn w v
set_option maxRecDepth 100000 in
set_option maxHeartbeats 8000000 in
theorem sums_row (v0 v1 v2 v3 : Value) (zs ys : List ByteArray) (w : World) (h0 : SRead w v0 zs) (h1 : SRead w v1 ys) (h2 : ScrIn w v2) (h3 : ScrIn w v3) : Calls Try.prog 4 #[v0, v1, v2, v3] w fun e w' => e = .returned (.bool true) ∧ Below w.heap.size w w' := by
  have HA := hid h0
  have HC := hid h1
  have HS1 := hid h2
  have HS2 := hid h3
  clear h0 h1 h2 h3
  go_enter Try.func4, Try.ntmps4
  go_wp2_with (first
    | (go_at_call 6; refine (awake_true _).mono ?_; rintro e w1 ⟨rfl, hB1⟩; have HB1 := hid hB1; clear hB1)
    | fail)
  refine (few_any v0 zs _ (HA.out.below HB1.out (Nat.le_refl _))).mono ?_
  rintro e wa1 ⟨va1, rfl, hrow, hb⟩
  have HBA1 := hid (HB1.out.trans (hb.mono HB1.out.size))
  have HWA : Hid (w.heap.size ≤ wa1.heap.size) := Nat.le_trans HB1.out.size hb.size
  have HRA1 := hid hrow
  have HFA1 := hid hb
  obtain ⟨ya1, ca1, hva⟩ := row_slice hrow
  subst hva
  clear hrow hb HB1
  go_wp2_with fail
  refine (new_row HRA1.out (fewL_len zs) (fewL_size zs)).mono ?_
  rintro e wb1 hn
  obtain ⟨p1, er1, he⟩ := new_shape hn
  subst he
  have HN1 := hid hn
  have HBB1 := hid (HBA1.out.trans (hn.1.mono HBA1.out.size))
  clear hn HRA1
  go_wp2_with fail
  refine (few_any v0 zs _ (HA.out.below HBB1.out (Nat.le_refl _))).mono ?_
  rintro e wc1 ⟨vc1, rfl, hrow, hb⟩
  have HNL1 := hid (new_later HN1.out hb)
  have HRC1 := hid hrow
  have HBC1 := hid (HBB1.out.trans (hb.mono HBB1.out.size))
  obtain ⟨yc1, cc1, hva⟩ := row_slice hrow
  subst hva
  clear hrow hb HN1 HBB1
  go_wp2_with fail
  refine (refNew_any _ (fewL zs) _ (sread_row HRC1.out (fewL_len zs) (fewL_size zs)) (fewL_len zs)).mono ?_
  rintro e wd1 hn5
  obtain ⟨p', l1, er', ts1, e1, e2, hS, hb, hcase1⟩ := both_new HNL1.out hn5
  simp only [Ending.returned.injEq, Value.tuple.injEq, Array.mk.injEq, List.cons.injEq, Value.pointer.injEq, Value.int.injEq, and_true, true_and] at e1
  obtain ⟨rfl, rfl⟩ := e1
  subst e2
  obtain ⟨-, xl1, cl1, hv⟩ := hS.slice
  subst hv
  have HS15 := hid hS
  have HB15 := hid (HBA1.out.trans (hb.mono HBA1.out.size))
  have HBS1 := hid hb.size
  have HFB1 := hid hb
  clear hS hb hn5 HNL1 HRC1 HBC1 HBA1
  go_wp2_with fail
  refine (few_any v1 ys _ (HC.out.below HB15.out (Nat.le_refl _))).mono ?_
  rintro e wa2 ⟨va2, rfl, hrow, hb⟩
  have HBA2 := hid (HB15.out.trans (hb.mono HB15.out.size))
  have HRA2 := hid hrow
  have HFA2 := hid hb
  obtain ⟨ya2, ca2, hva⟩ := row_slice hrow
  subst hva
  clear hrow hb HB15
  go_wp2_with fail
  refine (new_row HRA2.out (fewL_len ys) (fewL_size ys)).mono ?_
  rintro e wb2 hn
  obtain ⟨p2, er2, he⟩ := new_shape hn
  subst he
  have HN2 := hid hn
  have HBB2 := hid (HBA2.out.trans (hn.1.mono HBA2.out.size))
  clear hn HRA2
  go_wp2_with fail
  refine (few_any v1 ys _ (HC.out.below HBB2.out (Nat.le_refl _))).mono ?_
  rintro e wc2 ⟨vc2, rfl, hrow, hb⟩
  have HNL2 := hid (new_later HN2.out hb)
  have HRC2 := hid hrow
  have HBC2 := hid (HBB2.out.trans (hb.mono HBB2.out.size))
  obtain ⟨yc2, cc2, hva⟩ := row_slice hrow
  subst hva
  clear hrow hb HN2 HBB2
  go_wp2_with fail
  refine (refNew_any _ (fewL ys) _ (sread_row HRC2.out (fewL_len ys) (fewL_size ys)) (fewL_len ys)).mono ?_
  rintro e wd2 hn5
  obtain ⟨p', l2, er', ts2, e1, e2, hS, hb, hcase2⟩ := both_new HNL2.out hn5
  simp only [Ending.returned.injEq, Value.tuple.injEq, Array.mk.injEq, List.cons.injEq, Value.pointer.injEq, Value.int.injEq, and_true, true_and] at e1
  obtain ⟨rfl, rfl⟩ := e1
  subst e2
  obtain ⟨-, xl2, cl2, hv⟩ := hS.slice
  subst hv
  have HS25 := hid hS
  have HB25 := hid (HBA2.out.trans (hb.mono HBA2.out.size))
  have HBS2 := hid hb.size
  have HFB2 := hid hb
  clear hS hb hn5 HNL2 HRC2 HBC2 HBA2
  rcases hcase1 with ⟨rfl, hez⟩ | ⟨⟨a1, rfl⟩, rfl⟩
  · have hez2 : (er1 != 0) = true := by simpa using hez
    clear hez
    go_wp2
    go_ret
    exact ⟨rfl, HB25.out⟩
  · rcases hcase2 with ⟨rfl, hez⟩ | ⟨⟨a2, rfl⟩, rfl⟩
    · have hez2 : (er2 != 0) = true := by simpa using hez
      clear hez
      go_wp2
      go_ret
      exact ⟨rfl, HB25.out⟩
    · obtain ⟨t1, vn1, g1, cs1, rfl, hP1⟩ : ∃ t1 vn1 g1 cs1, a1 = ⟨t1, 0, none⟩ ∧ PairIn wd1 wa1.heap.size t1 vn1 g1 (.slice xl1 ts1.length cl1) ts1 cs1 := by
        rcases HS15.out with ⟨h, _⟩ | ⟨t, vn, g, cs, h, hp⟩
        · cases h
        · simp only [Value.pointer.injEq, Option.some.injEq] at h
          exact ⟨t, vn, g, cs, h, hp⟩
      obtain ⟨t2, vn2, g2, cs2, rfl, hP2⟩ : ∃ t2 vn2 g2 cs2, a2 = ⟨t2, 0, none⟩ ∧ PairIn wd2 wa2.heap.size t2 vn2 g2 (.slice xl2 ts2.length cl2) ts2 cs2 := by
        rcases HS25.out with ⟨h, _⟩ | ⟨t, vn, g, cs, h, hp⟩
        · cases h
        · simp only [Value.pointer.injEq, Option.some.injEq] at h
          exact ⟨t, vn, g, cs, h, hp⟩
      have hb12 := HFA2.out.trans (HFB2.out.mono HFA2.out.size)
      have hTwo : Two wd2 wa1.heap.size wd1.heap.size wa2.heap.size t1 vn1 g1 (.slice xl1 ts1.length cl1) ts1 t2 vn2 g2 (.slice xl2 ts2.length cl2) ts2 cs1 cs2 :=
        ⟨hP1.grown (grown_of_below hb12), hP2, hP1.under, HFA2.out.size, HBS1.out⟩
      have HTW0 : Hid (∃ cs1 cs2, Two wd2 wa1.heap.size wd1.heap.size wa2.heap.size t1 vn1 g1 (.slice xl1 ts1.length cl1) ts1 t2 vn2 g2 (.slice xl2 ts2.length cl2) ts2 cs1 cs2) := ⟨cs1, cs2, hTwo⟩
      have hw1 : w.heap.size ≤ wa1.heap.size := HWA.out
      have HF1 := hid hP1.tally.few
      have HF2 := hid hP2.tally.few
      clear hTwo hb12 hP1 hP2 HS15 HS25 HFA1 HFA2 HFB1 HFB2 HBS2
      obtain ⟨N1, hN1⟩ : ∃ N1, N1 = ts1.length := ⟨_, rfl⟩
      obtain ⟨N2, hN2⟩ : ∃ N2, N2 = ts2.length := ⟨_, rfl⟩
      rw [← hN1, ← hN2] at HTW0 ⊢
      rw [← hN1] at HF1
      rw [← hN2] at HF2
      have HN1 := hid hN1
      have HN2 := hid hN2
      have hf1 := HF1.out
      have hf2 := HF2.out
      clear hN1 hN2
      obtain ⟨o1, n1, cap1, hv1, hn1, hsc⟩ := HS1.out
      subst hv1
      have HC1 := hid hsc
      clear hsc
      obtain ⟨o2, n2, cap2, hv2, hn2, hsc⟩ := HS2.out
      subst hv2
      have HC2 := hid hsc
      unfold maxLen at hn1 hn2
      clear hsc HS1 HS2 HA HC
      go_wp2
      go_loopw [60] (fun i wr => ∃ k : Nat, k ≤ n1 ∧ i = .int .i64 k ∧ Hid (∃ cs1 cs2, Two wr wa1.heap.size wd1.heap.size wa2.heap.size t1 vn1 g1 (.slice xl1 N1 cl1) ts1 t2 vn2 g2 (.slice xl2 N2 cl2) ts2 cs1 cs2) ∧ Hid (Below w.heap.size w wr)) (fun i _ => n1 - (intOf i).toNat)
      case atStart => exact ⟨0, Nat.zero_le _, rfl, HTW0, HB25⟩
      case round =>
        obtain ⟨k, hk, rfl, HTK, HBK⟩ := hrel
        by_cases hlt : k < n1
        · obtain ⟨g3, off3, d, s, m, rfl, hd, hs, hm0, hm1, c0, c1, c2⟩ := HC1.out k hlt
          have kb := HBK.out.block g3 (World.block_lt_of_cell? w _ c0)
          have c0' := (World.cell?_of_block (a := ⟨g3, off3 + k * 3, none⟩) kb).trans c0
          have c1' := (World.cell?_of_block (a := ⟨g3, off3 + k * 3 + 1, none⟩) kb).trans c1
          have c2' := (World.cell?_of_block (a := ⟨g3, off3 + k * 3 + 2, none⟩) kb).trans c2
          have hg3 : g3 < wr.heap.size := World.block_lt_of_cell? wr _ c0'
          obtain ⟨cs1', cs2', hTW⟩ := HTK.out
          have hTA := hTW.grown (World.grownBy_alloc wr (.cells #[.int .u8 d, .string s, .int .u64 m] 35) none)
          have HBA := hid (HBK.out.alloc HBK.out.size (.cells #[.int .u8 d, .string s, .int .u64 m] 35))
          have HTA : Hid (∃ cs1 cs2, Two (wr.alloc (.cells #[.int .u8 d, .string s, .int .u64 m] 35)) wa1.heap.size wd1.heap.size wa2.heap.size t1 vn1 g1 (.slice xl1 N1 cl1) ts1 t2 vn2 g2 (.slice xl2 N2 cl2) ts2 cs1 cs2) := ⟨_, _, hTA⟩
          have HDO := hid (do_one d hd s hs m hm0 hm1 hTA)
          clear kb c0 c1 c2 HC1 hTW hTA
          by_cases h20 : k < 20
          · go_wp2_with (first
              | (go_at_call 10; refine HDO.out.mono ?_; rintro e w6 ⟨rfl, hs6, hb6⟩; have HS6 := hid hs6; have HB6 := hid (HBA.out.trans (hb6.mono hw1)); clear hs6 hb6 HDO HBA HTA)
              | fail)
            go_roundw
            case rel => exact ⟨k + 1, by omega, by go_num, HS6, HB6⟩
            case measure => simp [intOf]; omega
          · have h20' : decide ((k : Int) < 20) = false := by simp; omega
            go_wp2_with fail
            go_roundw
            case rel => exact ⟨k + 1, by omega, by go_num, HTA, HBA⟩
            case measure => simp [intOf]; omega
        · clear HC1
          go_wp2
          go_loopw [77] (fun i wr => ∃ k : Nat, k ≤ n2 ∧ i = .int .i64 k ∧ Hid (∃ cs1 cs2, Two wr wa1.heap.size wd1.heap.size wa2.heap.size t1 vn1 g1 (.slice xl1 N1 cl1) ts1 t2 vn2 g2 (.slice xl2 N2 cl2) ts2 cs1 cs2) ∧ Hid (Below w.heap.size w wr)) (fun i _ => n2 - (intOf i).toNat)
          case atStart => exact ⟨0, Nat.zero_le _, rfl, HTK, HBK⟩
          case round =>
            obtain ⟨k, hk, rfl, HTK, HBK⟩ := hrel
            by_cases hlt : k < n2
            · obtain ⟨g3, off3, d, s, m, rfl, hd, hs, hm0, hm1, c0, c1, c2⟩ := HC2.out k hlt
              have kb := HBK.out.block g3 (World.block_lt_of_cell? w _ c0)
              have c0' := (World.cell?_of_block (a := ⟨g3, off3 + k * 3, none⟩) kb).trans c0
              have c1' := (World.cell?_of_block (a := ⟨g3, off3 + k * 3 + 1, none⟩) kb).trans c1
              have c2' := (World.cell?_of_block (a := ⟨g3, off3 + k * 3 + 2, none⟩) kb).trans c2
              have hg3 : g3 < wr.heap.size := World.block_lt_of_cell? wr _ c0'
              obtain ⟨cs1', cs2', hTW⟩ := HTK.out
              have hTA := hTW.grown (World.grownBy_alloc wr (.cells #[.int .u8 d, .string s, .int .u64 m] 35) none)
              have HBA := hid (HBK.out.alloc HBK.out.size (.cells #[.int .u8 d, .string s, .int .u64 m] 35))
              have HTA : Hid (∃ cs1 cs2, Two (wr.alloc (.cells #[.int .u8 d, .string s, .int .u64 m] 35)) wa1.heap.size wd1.heap.size wa2.heap.size t1 vn1 g1 (.slice xl1 N1 cl1) ts1 t2 vn2 g2 (.slice xl2 N2 cl2) ts2 cs1 cs2) := ⟨_, _, hTA⟩
              have HDO := hid (do_two d hd s hs m hm0 hm1 hTA)
              clear kb c0 c1 c2 HC2 hTW hTA
              by_cases h20 : k < 20
              · go_wp2_with (first
                  | (go_at_call 10; refine HDO.out.mono ?_; rintro e w6 ⟨rfl, hs6, hb6⟩; have HS6 := hid hs6; have HB6 := hid (HBA.out.trans (hb6.mono hw1)); clear hs6 hb6 HDO HBA HTA)
                  | fail)
                go_roundw
                case rel => exact ⟨k + 1, by omega, by go_num, HS6, HB6⟩
                case measure => simp [intOf]; omega
              · have h20' : decide ((k : Int) < 20) = false := by simp; omega
                go_wp2_with fail
                go_roundw
                case rel => exact ⟨k + 1, by omega, by go_num, HTA, HBA⟩
                case measure => simp [intOf]; omega
            · clear HC2
              go_wp2
              obtain ⟨cs1, cs2, hTW⟩ := HTK.out
              have HTW := hid hTW
              clear hTW HTK HTW0 HB25
              go_loopw [21, 94] (fun fv iv wr' => ∃ (k : Nat) (b : Bool), k ≤ N2 ∧ iv = .int .i64 k ∧ fv = .bool b ∧ Hid (b = true ↔ ∀ j, j < k → ts2.getD j [] ∈ ts1) ∧ Hid (Two wr' wa1.heap.size wd1.heap.size wa2.heap.size t1 vn1 g1 (.slice xl1 N1 cl1) ts1 t2 vn2 g2 (.slice xl2 N2 cl2) ts2 cs1 cs2) ∧ Hid (Below w.heap.size w wr')) (fun _ iv _ => N2 - (intOf iv).toNat)
              case atStart => exact ⟨0, true, Nat.zero_le _, rfl, rfl, by simp [Hid], HTW, HBK⟩
              case round =>
                obtain ⟨k3, b, hk3, rfl, rfl, HBT, HTK3, HBK3⟩ := hrel
                rename World => wr3
                by_cases hlt3 : k3 < N2
                · have hr2 := HTK3.out.two.ref
                  obtain ⟨gm, hm2⟩ : ∃ gm, xl2 = some ⟨gm, 0, none⟩ := by
                    rcases hr2.shape with ⟨h, h0⟩ | ⟨g, c, h, _⟩
                    · rw [← HN2.out] at h0; omega
                    · simp only [Value.slice.injEq] at h; exact ⟨g, h.1⟩
                  subst hm2
                  have hr2' := hr2
                  rw [HN2.out] at hr2'
                  obtain ⟨e1, e2, _⟩ := hr2'.cells (j := k3) (by rw [← HN2.out]; exact hlt3)
                  obtain ⟨x, hx⟩ : ∃ x, x = ts2.getD k3 [] := ⟨_, rfl⟩
                  obtain ⟨c, hc⟩ : ∃ c, c = cs2.getD k3 0 := ⟨_, rfl⟩
                  rw [← hx] at e1
                  rw [← hc] at e2
                  unfold encStr at e1
                  have HX := hid hx
                  have HTA := hid (HTK3.out.grown (World.grownBy_alloc wr3 (.cells #[.string ⟨x.toArray⟩, .int .u64 c] 41) none))
                  have HBA := hid (HBK3.out.alloc HBK3.out.size (.cells #[.string ⟨x.toArray⟩, .int .u64 c] 41))
                  have hstep : ∀ b', (b' = true ↔ b = true ∧ x ∈ ts1) → (b' = true ↔ ∀ j, j < k3 + 1 → ts2.getD j [] ∈ ts1) := by
                    intro b' h
                    rw [h, HBT.out, hx]
                    constructor
                    · rintro ⟨h1, h2⟩ j hj
                      rcases Nat.lt_or_ge j k3 with h3 | h3
                      · exact h1 j h3
                      · rw [show j = k3 by omega]; exact h2
                    · intro h1
                      exact ⟨fun j hj => h1 j (by omega), h1 k3 (by omega)⟩
                  have HST := hid hstep
                  have hgm : gm < wr3.heap.size := World.block_lt_of_cell? wr3 _ e1
                  clear hx hc hr2 hr2' hstep HTK3 HBK3
                  cases b with
                  | true =>
                    have HFD := hid (find_any _ ts1 cs1 ⟨x.toArray⟩ _ (HTA.out.one.ref.read (by rw [← HN1.out]; exact hf1)))
                    go_wp2_with (first
                      | (go_at_call 13; refine HFD.out.mono ?_; rintro e w6 ⟨hg6, hfd⟩; have HG6 := hid hg6; have HFQ := hid hfd; clear hg6 hfd; rcases HFQ.out with ⟨j, hj, hjx, rfl⟩ | ⟨hno, rfl⟩)
                      | fail)
                    · have hj0 : (0 : Int) ≤ (j : Int) := by omega
                      have hxm : x ∈ ts1 := by
                        have e : ts1.getD j [] = x := by simpa using hjx
                        rw [← e]
                        simp [List.getD, List.getElem?_eq_getElem hj]
                      have HXM := hid hxm
                      clear hxm
                      go_wp2
                      go_roundw
                      case rel => exact ⟨k3 + 1, true, by omega, by go_num, rfl, HST.out true (by simpa using HXM.out), HTA.out.grown HG6.out, HBA.out.trans ((grown_below0 HG6.out (Nat.le_refl _)).mono HBA.out.size)⟩
                      case measure => simp [intOf]; omega
                    · go_wp2
                      go_roundw
                      case rel => exact ⟨k3 + 1, false, by omega, by go_num, rfl, HST.out false (by simpa using hno), HTA.out.grown HG6.out, HBA.out.trans ((grown_below0 HG6.out (Nat.le_refl _)).mono HBA.out.size)⟩
                      case measure => simp [intOf]; omega
                  | false =>
                    go_wp2_with fail
                    go_roundw
                    case rel => exact ⟨k3 + 1, false, by omega, by go_num, rfl, HST.out false (by simp), HTA, HBA⟩
                    case measure => simp [intOf]; omega
                · obtain rfl : k3 = N2 := by omega
                  have HBF : Hid (b = true ↔ ∀ j, j < ts2.length → ts2.getD j [] ∈ ts1) := by rw [← HN2.out]; exact HBT.out
                  have HUN := hid HTK3.out.un
                  have HLE := hid HTK3.out.le
                  have HLO := hid HTK3.out.lo
                  have HT5 := hid HTK3.out.one.tally
                  have HP5 := hid HTK3.out.two
                  have HR5 := hid HTK3.out.one.ref
                  have HNE : Hid ((Value.slice xl1 N1 cl1).ownBlock ≠ some g1) := fun e => by
                    obtain ⟨c', fz', hb⟩ := ownsRow_kind HTK3.out.one.ref.row g1 e
                    obtain ⟨cu, fz, hb2⟩ := HTK3.out.one.tally.blk
                    rw [hb] at hb2
                    simp at hb2
                  have HB5 := hid HBK3.out
                  clear HTK3 HBK3
                  cases b with
                  | false =>
                    go_wp2_with fail
                    have HCF : Hid (cs1 = if false then addAllC ts1 cs1 (pairsL ts2 cs2 ts2.length) else cs1) := by simp [Hid]
                    have HSUM := hid (sum_two false HT5.out HR5.out HP5.out HUN.out HLE.out HLO.out HBF.out HCF.out HNE.out)
                    go_wp2_with (first
                      | (go_at_call 14; refine HSUM.out.mono ?_; rintro e w6 ⟨rfl, h6, hb6⟩; have H6 := hid h6; have HB6 := hid (HB5.out.trans (hb6.mono hw1)); have HA6 := hid (all_one h6); clear h6 hb6 HSUM HT5 HR5 HP5 HB5)
                      | (go_at_call 12; refine HA6.out.mono ?_; rintro e w7 ⟨u7, rfl, hc7, hd7, h7, hb7⟩; have HC7 := hid hc7; have HD7 := hid hd7; have HW7 := hid h7; have HB7 := hid (HB6.out.trans (hb7.mono HB6.out.size)); clear hc7 hd7 h7 hb7 HA6 H6 HB6)
                      | (go_at_call 11; refine (same_true _ _ ts1 _ _ HC7.out HD7.out).mono ?_; rintro e w8 ⟨rfl, q8, rfl⟩; have H8 := hid (HW7.out.grown (grown_dr _ q8 none)); have HB8 := hid (below_drewN HB7.out q8); have HA8 := hid (all_two H8.out); clear HC7 HD7 HW7 HB7)
                      | (go_at_call 12; refine HA8.out.mono ?_; rintro e w9 ⟨u9, rfl, hc9, hd9, h9, hb9⟩; have HC9 := hid hc9; have HD9 := hid hd9; have HW9 := hid h9; have HB9 := hid (HB8.out.trans (hb9.mono HB8.out.size)); clear hc9 hd9 h9 hb9 HA8 H8 HB8)
                      | (go_at_call 11; refine (same_true _ _ ts2 _ _ HC9.out HD9.out).mono ?_; rintro e w10 ⟨rfl, q10, rfl⟩; have H10 := hid (HW9.out.grown (grown_dr _ q10 none)); have HB10 := hid (below_drewN HB9.out q10); have HA10 := hid (sum_none H10.out.one.tally); clear HC9 HD9 HW9 HB9)
                      | (go_at_call 14; refine HA10.out.mono ?_; rintro e w11 ⟨rfl, hb11⟩; have HB11 := hid (HB10.out.trans (hb11.mono hw1)); clear hb11 HA10 H10 HB10)
                      | fail)
                    go_ret
                    exact ⟨by simp, HB11.out⟩
                  | true =>
                    have HIN := hid (HBF.out.1 rfl)
                    have HRIS := hid HT5.out.rising
                    have hmx : wa2.heap.size ≤ wr3.heap.size := HP5.out.size
                    go_wp2
                    go_loopw [110] (fun iv wr' => ∃ k : Nat, k ≤ k3 ∧ iv = .int .i64 k ∧ Hid (TallyIn wr' wa1.heap.size t1 vn1 g1 ts1 cs1) ∧ Hid (RefIn wr' wa1.heap.size (.slice xl1 N1 cl1) ts1 (addAllC ts1 cs1 (pairsL ts2 cs2 k))) ∧ Hid (PairIn wr' wa2.heap.size t2 vn2 g2 (.slice xl2 k3 cl2) ts2 cs2) ∧ Hid (Below w.heap.size w wr')) (fun iv _ => k3 - (intOf iv).toNat)
                    case atStart => exact ⟨0, Nat.zero_le _, rfl, HT5, by simpa [Hid, addAllC, pairsL] using HR5.out, HP5, HB5⟩
                    case round =>
                      obtain ⟨k4, hk4, rfl, HT, HR, HP, HB⟩ := hrel
                      rename World => wr4
                      by_cases hlt4 : k4 < k3
                      · have hr2 := HP.out.ref
                        obtain ⟨gm, hm2⟩ : ∃ gm, xl2 = some ⟨gm, 0, none⟩ := by
                          rcases hr2.shape with ⟨h, h0⟩ | ⟨g, c, h, _⟩
                          · rw [← HN2.out] at h0; omega
                          · simp only [Value.slice.injEq] at h; exact ⟨g, h.1⟩
                        subst hm2
                        have hr2' := hr2
                        rw [HN2.out] at hr2'
                        obtain ⟨e1, e2, _⟩ := hr2'.cells (j := k4) (by rw [← HN2.out]; exact hlt4)
                        obtain ⟨x, hx⟩ : ∃ x, x = ts2.getD k4 [] := ⟨_, rfl⟩
                        obtain ⟨c, hc⟩ : ∃ c, c = cs2.getD k4 0 := ⟨_, rfl⟩
                        have hxm : x ∈ ts1 := by rw [hx]; exact HIN.out k4 (by rw [← HN2.out]; exact hlt4)
                        rw [← hx] at e1
                        rw [← hc] at e2
                        unfold encStr at e1
                        have HSN : Hid (addAllC ts1 cs1 (pairsL ts2 cs2 (k4 + 1)) = addC ts1 (addAllC ts1 cs1 (pairsL ts2 cs2 k4)) (x, c)) := by rw [Hid, pairsL_succ, addAllC_snoc, hx, hc]
                        obtain ⟨j, hj⟩ : ∃ j, j = ts1.idxOf x := ⟨_, rfl⟩
                        obtain ⟨csr, hcsr⟩ : ∃ csr, csr = addAllC ts1 cs1 (pairsL ts2 cs2 k4) := ⟨_, rfl⟩
                        rw [← hcsr] at HSN HR
                        have hjl : j < ts1.length := by rw [hj]; exact (idx_at hxm).1
                        have hjN : j < N1 := by rw [HN1.out]; exact hjl
                        obtain ⟨gl, hml⟩ : ∃ gl, xl1 = some ⟨gl, 0, none⟩ := by
                          rcases HR.out.shape with ⟨h, h0⟩ | ⟨g, c, h, _⟩
                          · rw [← HN1.out] at h0; omega
                          · simp only [Value.slice.injEq] at h; exact ⟨g, h.1⟩
                        subst hml
                        have HSN2 : Hid (addC ts1 csr (x, c) = csr.set j ((csr.getD j 0 + c) % 18446744073709551616)) := by rw [Hid, addC, if_pos hxm, ← hj]
                        have HTA := hid (HT.out.grown (World.grownBy_alloc wr4 (.cells #[.string ⟨x.toArray⟩, .int .u64 c] 41) none))
                        have HRA := hid (HR.out.grown (World.grownBy_alloc wr4 (.cells #[.string ⟨x.toArray⟩, .int .u64 c] 41) none))
                        have HPA := hid (HP.out.grown (World.grownBy_alloc wr4 (.cells #[.string ⟨x.toArray⟩, .int .u64 c] 41) none))
                        have HBA := hid (HB.out.alloc HB.out.size (.cells #[.string ⟨x.toArray⟩, .int .u64 c] 41))
                        have hgm : gm < wr4.heap.size := World.block_lt_of_cell? wr4 _ e1
                        have hgl : gl < wr4.heap.size := (HR.out.row.lt gl rfl).2
                        have hglC : gl < wd1.heap.size := HUN.out.v gl rfl
                        have HFD := hid (find_at ⟨x.toArray⟩ (wr4.alloc (.cells #[.string ⟨x.toArray⟩, .int .u64 c] 41)).drew ((HRA.out.grown (grown_drw _)).read (by rw [← HN1.out]; exact hf1)) HRIS.out (by simpa using hxm))
                        have hjx : ts1.idxOf (⟨x.toArray⟩ : ByteArray).data.toList = j := by simpa using hj.symm
                        rw [hjx] at HFD
                        have bx0 : (wr4.alloc (.cells #[.string ⟨x.toArray⟩, .int .u64 c] 41)).cell? ⟨wr4.heap.size, 0, none⟩ = some (.string ⟨x.toArray⟩) := by simp [go_sem]
                        have bx1 : (wr4.alloc (.cells #[.string ⟨x.toArray⟩, .int .u64 c] 41)).cell? ⟨wr4.heap.size, 1, none⟩ = some (.int .u64 c) := by simp [go_sem]
                        have hne : ¬ wr4.heap.size = gl := by omega
                        have hjj : (j : Int) < N1 := by omega
                        have HHJ := hid (And.intro hjl hgm)
                        have HBX := hid (And.intro bx0 bx1)
                        have bd0 : (wr4.alloc (.cells #[.string ⟨x.toArray⟩, .int .u64 c] 41)).drew.cell? ⟨wr4.heap.size, 0, none⟩ = some (.string ⟨x.toArray⟩) := bx0
                        have bd1 : (wr4.alloc (.cells #[.string ⟨x.toArray⟩, .int .u64 c] 41)).drew.cell? ⟨wr4.heap.size, 1, none⟩ = some (.int .u64 c) := bx1
                        clear hx hc hxm hr2 hr2' hj hjl hjx hcsr HT HR HP HB
                        go_wp2_with fail
                        refine wp_region_held_drew (S := (fun w' => w'.cell? ⟨wr4.heap.size, 0, none⟩ = some (.string ⟨x.toArray⟩) ∧ w'.cell? ⟨wr4.heap.size, 1, none⟩ = some (.int .u64 c))) (by kernel_rfl) ⟨bd0, bd1⟩ (fun hHeld => ?_)
                        refine takeD (i := 0) (v := ?_) 114 rfl rfl (by kernel_rfl) (by kernel_rfl) (by kernel_rfl) (fun _ _ _ h => h) (by assumption) (Or.inl ⟨by rfl, ?_⟩) ?_
                        rotate_left
                        · intro w hSw
                          (try dsimp only at hSw)
                          go_simp
                          try with_reducible rfl
                        simp only [List.setIfInBounds_toArray, List.set_cons_zero, List.set_cons_succ]
                        refine takeD (i := 1) (v := ?_) 115 rfl rfl (by kernel_rfl) (by kernel_rfl) (by kernel_rfl) (fun _ _ _ h => h) (by assumption) (Or.inl ⟨by rfl, ?_⟩) ?_
                        rotate_left
                        · intro w hSw
                          (try dsimp only at hSw)
                          go_simp
                          try with_reducible rfl
                        simp only [List.setIfInBounds_toArray, List.set_cons_zero, List.set_cons_succ]
                        refine takeD (i := 2) (v := ?_) 116 rfl rfl (by kernel_rfl) (by kernel_rfl) (by kernel_rfl) (fun _ _ _ h => h) (by assumption) (Or.inl ⟨by rfl, ?_⟩) ?_
                        rotate_left
                        · intro w hSw
                          (try dsimp only at hSw)
                          go_simp
                          try with_reducible rfl
                        simp only [List.setIfInBounds_toArray, List.set_cons_zero, List.set_cons_succ]
                        refine takeD (i := 3) (v := ?_) 117 rfl rfl (by kernel_rfl) (by kernel_rfl) (by kernel_rfl) (fun _ _ _ h => h) (by assumption) (Or.inl ⟨by rfl, ?_⟩) ?_
                        rotate_left
                        · intro w hSw
                          (try dsimp only at hSw)
                          go_simp
                          try with_reducible rfl
                        simp only [List.setIfInBounds_toArray, List.set_cons_zero, List.set_cons_succ]
                        refine takeD (i := 8) (v := ?_) 122 rfl rfl (by kernel_rfl) (by kernel_rfl) (by kernel_rfl) (fun _ _ _ h => h) (by assumption) (Or.inl ⟨by rfl, ?_⟩) ?_
                        rotate_left
                        · intro w hSw
                          (try dsimp only at hSw)
                          go_simp
                          try with_reducible rfl
                        simp only [List.setIfInBounds_toArray, List.set_cons_zero, List.set_cons_succ]
                        refine takeD (i := 9) (v := ?_) 123 rfl rfl (by kernel_rfl) (by kernel_rfl) (by kernel_rfl) (fun _ _ _ h => h) (by assumption) (Or.inl ⟨by rfl, ?_⟩) ?_
                        rotate_left
                        · intro w hSw
                          (try dsimp only at hSw)
                          go_simp
                          try with_reducible rfl
                        simp only [List.setIfInBounds_toArray, List.set_cons_zero, List.set_cons_succ]
                        refine wpAnyH_ready (rs := [4]) (by kernel_rfl) (by simp) ?_
                        refine AllReadyH.cons (by simp only [List.getElem?_toArray, List.getElem?_cons_succ, List.getElem?_cons_zero]; rfl) (fun K hK => ?_) AllReadyH.nil
                        go_simp
                        refine HFD.out.mono ?_
                        rintro e w5 ⟨rfl, hg5⟩
                        have HG5 := hid hg5
                        have hr5b := (HRA.out.grown (grown_drw _)).grown hg5
                        rw [HN1.out] at hr5b
                        have HR5b := hid hr5b
                        obtain ⟨_, l1c, l1f⟩ := hr5b.cells HHJ.out.1
                        clear hg5 hr5b
                        refine hK.out _ _ ?_ (fun hHeldN => ?_)
                        · first | exact ⟨(World.cell?_setCell_other w5 _ _ _ (by simp <;> omega)).trans hHeld.1, (World.cell?_setCell_other w5 _ _ _ (by simp <;> omega)).trans hHeld.2⟩ | exact ⟨(World.cell?_of_block (a := ⟨wr4.heap.size, 0, none⟩) (HG5.out.block _ (by simp [World.drew]) (by simp))).trans HBX.out.1, (World.cell?_of_block (a := ⟨wr4.heap.size, 1, none⟩) (HG5.out.block _ (by simp [World.drew]) (by simp))).trans HBX.out.2⟩
                        clear hK K hHeld
                        have hHeld := hHeldN
                        clear hHeldN
                        refine takeD (i := 5) (v := ?_) 119 rfl rfl (by kernel_rfl) (by kernel_rfl) (by kernel_rfl) (fun _ _ _ h => h) (by assumption) (Or.inl ⟨by rfl, ?_⟩) ?_
                        rotate_left
                        · intro w hSw
                          (try dsimp only at hSw)
                          go_simp
                          try with_reducible rfl
                        simp only [List.setIfInBounds_toArray, List.set_cons_zero, List.set_cons_succ]
                        refine takeD (i := 6) (v := ?_) 120 rfl rfl (by kernel_rfl) (by kernel_rfl) (by kernel_rfl) (fun _ _ _ h => h) (by assumption) (Or.inl ⟨by rfl, ?_⟩) ?_
                        rotate_left
                        · intro w hSw
                          (try dsimp only at hSw)
                          go_simp
                          try with_reducible rfl
                        simp only [List.setIfInBounds_toArray, List.set_cons_zero, List.set_cons_succ]
                        refine wpAnyH_ready (rs := [7]) (by kernel_rfl) (by simp) ?_
                        refine AllReadyH.cons (by simp only [List.getElem?_toArray, List.getElem?_cons_succ, List.getElem?_cons_zero]; rfl) (fun K hK => ?_) AllReadyH.nil
                        go_simp

                        refine hK.out _ _ ?_ (fun hHeldN => ?_)
                        · exact hHeld
                        clear hK K hHeld
                        have hHeld := hHeldN
                        clear hHeldN
                        refine takeD (i := 10) (v := ?_) 124 rfl rfl (by kernel_rfl) (by kernel_rfl) (by kernel_rfl) (fun _ _ _ h => h) (by assumption) (Or.inl ⟨by rfl, ?_⟩) ?_
                        rotate_left
                        · intro w hSw
                          (try dsimp only at hSw)
                          go_simp
                          try with_reducible rfl
                        simp only [List.setIfInBounds_toArray, List.set_cons_zero, List.set_cons_succ]
                        refine takeD (i := 11) (v := ?_) 125 rfl rfl (by kernel_rfl) (by kernel_rfl) (by kernel_rfl) (fun _ _ _ h => h) (by assumption) (Or.inl ⟨by rfl, ?_⟩) ?_
                        rotate_left
                        · intro w hSw
                          (try dsimp only at hSw)
                          go_simp
                          try with_reducible rfl
                        simp only [List.setIfInBounds_toArray, List.set_cons_zero, List.set_cons_succ]
                        refine takeD (i := 12) (v := ?_) 126 rfl rfl (by kernel_rfl) (by kernel_rfl) (by kernel_rfl) (fun _ _ _ h => h) (by assumption) (Or.inl ⟨by rfl, ?_⟩) ?_
                        rotate_left
                        · intro w hSw
                          (try dsimp only at hSw)
                          go_simp
                          try with_reducible rfl
                        simp only [List.setIfInBounds_toArray, List.set_cons_zero, List.set_cons_succ]
                        refine wpAnyH_ready (rs := [13]) (by kernel_rfl) (by simp) ?_
                        refine AllReadyH.cons (by simp only [List.getElem?_toArray, List.getElem?_cons_succ, List.getElem?_cons_zero]; rfl) (fun K hK => ?_) AllReadyH.nil
                        go_simp

                        refine hK.out _ _ ?_ (fun hHeldN => ?_)
                        · first | exact ⟨(World.cell?_setCell_other w5 _ _ _ (by simp <;> omega)).trans hHeld.1, (World.cell?_setCell_other w5 _ _ _ (by simp <;> omega)).trans hHeld.2⟩ | exact ⟨(World.cell?_of_block (a := ⟨wr4.heap.size, 0, none⟩) (HG5.out.block _ (by simp [World.drew]) (by simp))).trans HBX.out.1, (World.cell?_of_block (a := ⟨wr4.heap.size, 1, none⟩) (HG5.out.block _ (by simp [World.drew]) (by simp))).trans HBX.out.2⟩
                        clear hK K hHeld
                        have hHeld := hHeldN
                        clear hHeldN
                        refine wpAnyH_done (by kernel_rfl) ?_ _
                        go_wp2
                        go_roundw
                        case rel =>
                          obtain ⟨q1, q2⟩ := HR5b.out.put j ((csr.getD j 0 + c) % 18446744073709551616)
                          have hwlo := (HR5b.out.row.lt gl rfl).1
                          have hle2 := HLE.out
                          obtain ⟨cur, hcur⟩ : ∃ cur, w5.heap[gl]? = some (.cells cur 41 (0, 0)) := by
                            rcases HR5b.out.shape with ⟨h, _⟩ | ⟨g, cp, h, _, _, hc⟩
                            · cases h
                            · simp only [Value.slice.injEq, Option.some.injEq, Addr.mk.injEq, and_true, true_and] at h
                              obtain ⟨rfl, _⟩ := h
                              exact hc
                          have hP5 := (HPA.out.grown (grown_drw _)).grown HG5.out
                          refine ⟨k4 + 1, by omega, by go_num, ((HTA.out.grown (grown_drw _)).grown HG5.out).kept q2 hcur, ?_, hP5.over_of (fun i h1 h2 => q2.block i h2 (fun e => by have := Option.some.inj e; omega)), ?_⟩
                          · show RefIn _ _ _ _ _
                            rw [HSN.out, HSN2.out, HN1.out]
                            exact q1
                          · exact (HBA.out.drew.trans ((grown_below0 HG5.out (Nat.le_refl _)).mono HBA.out.drew.size)).setCell (p := ⟨gl, j * 2 + 1, none⟩) (by show w.heap.size ≤ gl; omega) _
                        case measure => simp [intOf]; omega
                      · obtain rfl : k4 = k3 := by omega
                        have HCF : Hid (addAllC ts1 cs1 (pairsL ts2 cs2 k4) = if true then addAllC ts1 cs1 (pairsL ts2 cs2 ts2.length) else cs1) := by rw [Hid, if_pos rfl, ← HN2.out]
                        have HSUM := hid (sum_two true HT.out HR.out HP.out HUN.out HLE.out HLO.out (by simpa using HBF.out) HCF.out HNE.out)
                        clear HT5 HP5 HR5 HB5
                        have HB5 := HB
                        go_wp2_with (first
                          | (go_at_call 14; refine HSUM.out.mono ?_; rintro e w6 ⟨rfl, h6, hb6⟩; have H6 := hid h6; have HB6 := hid (HB5.out.trans (hb6.mono hw1)); have HA6 := hid (all_one h6); clear h6 hb6 HSUM HB5)
                          | (go_at_call 12; refine HA6.out.mono ?_; rintro e w7 ⟨u7, rfl, hc7, hd7, h7, hb7⟩; have HC7 := hid hc7; have HD7 := hid hd7; have HW7 := hid h7; have HB7 := hid (HB6.out.trans (hb7.mono HB6.out.size)); clear hc7 hd7 h7 hb7 HA6 H6 HB6)
                          | (go_at_call 11; refine (same_true _ _ ts1 _ _ HC7.out HD7.out).mono ?_; rintro e w8 ⟨rfl, q8, rfl⟩; have H8 := hid (HW7.out.grown (grown_dr _ q8 none)); have HB8 := hid (below_drewN HB7.out q8); have HA8 := hid (all_two H8.out); clear HC7 HD7 HW7 HB7)
                          | (go_at_call 12; refine HA8.out.mono ?_; rintro e w9 ⟨u9, rfl, hc9, hd9, h9, hb9⟩; have HC9 := hid hc9; have HD9 := hid hd9; have HW9 := hid h9; have HB9 := hid (HB8.out.trans (hb9.mono HB8.out.size)); clear hc9 hd9 h9 hb9 HA8 H8 HB8)
                          | (go_at_call 11; refine (same_true _ _ ts2 _ _ HC9.out HD9.out).mono ?_; rintro e w10 ⟨rfl, q10, rfl⟩; have H10 := hid (HW9.out.grown (grown_dr _ q10 none)); have HB10 := hid (below_drewN HB9.out q10); have HA10 := hid (sum_none H10.out.one.tally); clear HC9 HD9 HW9 HB9)
                          | (go_at_call 14; refine HA10.out.mono ?_; rintro e w11 ⟨rfl, hb11⟩; have HB11 := hid (HB10.out.trans (hb11.mono hw1)); clear hb11 HA10 H10 HB10)
                          | fail)
                        go_ret
                        exact ⟨by simp, HB11.out⟩
end Go.Proofs.Ytadoiplfglaonab
