/-
  sfield: the record of acts.
-/
import Derived.Test.YtdpgmepblmlaaaaDoorSg
namespace Go.Proofs.YtdpgmepblmlaaaaDoor
open Go.RowKit Go.Lib Go.Deep

theorem errL_cons (a : AcD) (r : List AcD) : errL (a :: r) = if (makeF a).1 ≠ 0 then (makeF a).1 else errL r := rfl
theorem recB_cons (acc : List Int) (f : SfD) (r : List SfD) : recB acc (f :: r) = if (byteF f).1 ≠ 0 ∨ 8192 < acc.length + (byteF f).2.length then (3, []) else recB (acc ++ (byteF f).2) r := rfl
theorem drop_consS {xs : List SfV} {k : Nat} (h : k < xs.length) : (xs.map SfV.d).drop k = xs[k].d :: (xs.map SfV.d).drop (k + 1) := by
  rw [← List.getElem_cons_drop (by rw [List.length_map]; exact h), List.getElem_map]
theorem take_map_snoc {xs : List AcV} {k : Nat} (h : k < xs.length) : ((xs.map AcV.d).take (k + 1)).map (fun a => (makeF a).2) = ((xs.map AcV.d).take k).map (fun a => (makeF a).2) ++ [(makeF xs[k].d).2] := by
  rw [List.take_succ_eq_append_getElem (by rw [List.length_map]; exact h), List.map_append, List.map_cons, List.map_nil, List.getElem_map]
set_option maxRecDepth 100000 in
set_option maxHeartbeats 4000000 in
theorem record_any (v : Value) (xs : List AcV) (w : World) (h : AcM 38 w v xs) (hl : xs.length ≤ 1000) (hok : ∀ x ∈ xs, ActOK x.d) (hC : Cods w) : Calls Tryd.prog 30 #[v] w (BysD (recP (xs.map AcV.d)) w) := by
  obtain ⟨i0, hi, hz0, hz1, hz2⟩ := info_parts infoFp
  obtain ⟨x, cap, rfl, hc1, hc2, hat⟩ := h.at
  have HAT := hid hat
  have HSL := hid (fun i (hi : i < xs.length) => (show (∃ a n c, xs[i].cv = .slice a n c) ∧ ∃ a n c, xs[i].rv = .slice a n c from ⟨own_slice (h.txt _ (List.getElem_mem hi)).1, own_slice (h.txt _ (List.getElem_mem hi)).2⟩))
  have HMK := hid (fun i (hi : i < xs.length) W (hW : Below w.heap.size w W) => field_any xs[i].d xs[i].cv xs[i].rv W ((h.txt _ (List.getElem_mem hi)).1.step hW).reads ((h.txt _ (List.getElem_mem hi)).2.step hW).reads (hok _ (List.getElem_mem hi)) (hC.go hW))
  have HFO := hid (fun i (hi : i < xs.length) => makeF_ok (hok _ (List.getElem_mem hi)).1.1 (hok _ (List.getElem_mem hi)).1.2)
  have HRC := hid (fun i (hi : i < xs.length) => (show errL ((xs.map AcV.d).drop i) = _ from (congrArg errL (drop_cons' hi)).trans (errL_cons _ _)))
  have HTK := hid (fun i (hi : i < xs.length) => take_map_snoc hi)
  have HR0 := hid (show errL (xs.map AcV.d) = errL ((xs.map AcV.d).drop 0) from rfl)
  have HRN := hid (show errL ((xs.map AcV.d).drop xs.length) = 0 ∧ ((xs.map AcV.d).take xs.length) = xs.map AcV.d from ⟨by rw [List.drop_of_length_le (by rw [List.length_map]; exact Nat.le_refl _)]; rfl, List.take_of_length_le (by rw [List.length_map]; exact Nat.le_refl _)⟩)
  have HNO := hid (fun er w' (hb : Below w.heap.size w w') => (show BysD (er, []) w (.returned (.tuple #[.slice none 0 0, .int .i64 er])) w' from ⟨_, rfl, OwnB.nil _, hb, fun _ q => (by cases q)⟩))
  have HRP := hid (show recP (xs.map AcV.d) = if errL (xs.map AcV.d) ≠ 0 then (errL (xs.map AcV.d), []) else recB [243] ((xs.map AcV.d).map (fun a => (makeF a).2)) from rfl)
  have HCO := hid (fun W (hW : Below w.heap.size w W) => hC.go hW)
  obtain ⟨N, hN⟩ : ∃ N, xs.length = N := ⟨_, rfl⟩
  have HN := hid hN
  rw [hN] at hl ⊢
  generalize errL (xs.map AcV.d) = R0 at HR0 HRP
  generalize recP (xs.map AcV.d) = R at HRP ⊢
  clear h hok hat hc1 hc2 hN hC
  go_enter Tryd.func30, Tryd.ntmps30
  go_wp2_with fail
  go_loopw [4, 16] (fun b i wr => ∃ (k : Nat) (ys : List SfV), k ≤ N ∧ i = .int .i64 k ∧ Hid (R0 = errL ((xs.map AcV.d).drop k)) ∧ Hid (RowS 35 w.heap.size wr b ys ∧ ys.map SfV.d = ((xs.map AcV.d).take k).map (fun a => (makeF a).2) ∧ ys.length = k ∧ ∀ y ∈ ys, (0 ≤ y.d.id ∧ y.d.id < 256) ∧ y.d.data.length ≤ 10000000) ∧ Hid (Below w.heap.size w wr)) (fun _ i _ => N - (intOf i).toNat)
  case atStart => exact ⟨0, [], Nat.zero_le _, rfl, HR0, hid ⟨RowS.nil _ _ _, rfl, rfl, fun _ q => (by cases q)⟩, hid (Below.refl _ _)⟩
  case round =>
    obtain ⟨k, ys, hk, rfl, HR, HM, HB⟩ := hrel
    obtain ⟨xl, cl, rfl⟩ := row_any HM.out.1.row
    by_cases hlt : k < N
    · have hki : (k : Int) < N := by omega
      have hkx : k < xs.length := by rw [HN.out]; exact hlt
      obtain ⟨g, rfl, hg, a0, a1, a2, a3, a4, a5, a6⟩ := HAT.out k hkx
      obtain ⟨⟨xc, nc, cc, q1⟩, ⟨xr, nr, cr, q2⟩⟩ := HSL.out k hkx
      have HMF := hid (HMK.out k hkx)
      have hfo := HFO.out k hkx
      have hrc := HR.out.trans (HRC.out k hkx)
      have htk := HTK.out k hkx
      rw [q1, q2] at HMF
      rw [q1] at a5
      rw [q2] at a6
      clear q1 q2
      generalize xs[k].d = d at a0 a1 a2 a3 a4 HMF hfo hrc htk
      obtain ⟨k2, cd, md, al, rq, cs, rs⟩ := d
      dsimp only at a0 a1 a2 a3 a4
      dsimp only [acV] at HMF
      have a0 := (HB.out.cell (p := ⟨g, k * 7, none⟩) hg).trans a0
      have a1 := (HB.out.cell (p := ⟨g, k * 7 + 1, none⟩) hg).trans a1
      have a2 := (HB.out.cell (p := ⟨g, k * 7 + 2, none⟩) hg).trans a2
      have a3 := (HB.out.cell (p := ⟨g, k * 7 + 3, none⟩) hg).trans a3
      have a4 := (HB.out.cell (p := ⟨g, k * 7 + 4, none⟩) hg).trans a4
      have a5 := (HB.out.cell (p := ⟨g, k * 7 + 5, none⟩) hg).trans a5
      have a6 := (HB.out.cell (p := ⟨g, k * 7 + 6, none⟩) hg).trans a6
      have hal : Below wr.heap.size wr (wr.alloc (.cells #[.int .i64 k2, .int .i64 cd, .int .i64 md, .bool al, .int .u8 rq, .slice xc nc cc, .slice xr nr cr] 38)) := bal (Below.refl _ _) _
      have HBX := hid (below_t HB.out hal)
      have HM0 := hid (HMF.out _ HBX.out)
      have HMX := hid (HM.out.1.step hal)
      generalize makeF ⟨k2, cd, md, al, rq, cs, rs⟩ = m at HM0 hfo hrc htk
      obtain ⟨er, ⟨fid, fds⟩⟩ := m
      dsimp only at hfo hrc htk
      have HFOK := hid hfo
      have HRCK := hid hrc
      have HTKK := hid htk
      clear hal hfo hrc htk HMF
      go_wp2_with fail
      with_reducible refine HM0.out.mono ?_
      rintro e V1 ⟨dv, rfl, ho, hb1, hk1⟩
      dsimp only at ho ⊢
      obtain ⟨xd, nd, dd, rfl⟩ := own_slice ho
      have hba : Below V1.heap.size V1 (V1.alloc (.cells #[.int .u8 fid, .slice xd nd dd] 35)) := bal (Below.refl _ _) _
      clear a0 a1 a2 a3 a4 a5 a6
      by_cases he : er = 0
      · subst he
        have HRE := hid (HRCK.out.trans (if_neg (fun q => q rfl)))
        have hbb : Below (V1.alloc (.cells #[.int .u8 fid, .slice xd nd dd] 35)).heap.size (V1.alloc (.cells #[.int .u8 fid, .slice xd nd dd] 35)) ((V1.alloc (.cells #[.int .u8 fid, .slice xd nd dd] 35)).alloc (.cells #[.int .u8 fid, .slice xd nd dd] 35)) := bal (Below.refl _ _) _
        have HMV := hid (HMX.out.step (below_t hb1 (below_t hba hbb)))
        have HD := hid (ho.step (below_t hba hbb))
        have HK := hid (show ∀ j ∈ blkV (.slice xd nd dd), w.heap.size ≤ j from fun j hj => Nat.le_trans HBX.out.size (hk1 j hj))
        have HBV := hid (below_t HBX.out (below_t hb1 (below_t hba hbb)))
        have HNS := hid (news_two (V1.alloc (.cells #[.int .u8 fid, .slice xd nd dd] 35)) (.int .u8 fid) (.slice xd nd dd) 35 (V1.heap.size + 1) (by simp))
        have HYL := hid (show ys.length ≤ 1000 from by have := HM.out.2.2.1; omega)
        clear ho hb1 hk1 hba hbb
        go_wp2_with (at_builtin; refine wpList_append_blk _ rfl _ _ 30 rfl 35 i0 _ 2 32 Tryd.underlying30 hi hz0 hz1 hz2 rfl (by decide) _ ys.length (cellsS ys) rfl HMV.out.row ⟨V1.heap.size + 1, 0, none⟩ 1 1 (sfC ⟨⟨fid, fds⟩, .slice xd nd dd⟩) rfl rfl HNS.out (one_sfC _ rfl) (by have := HYL.out; unfold maxLen; omega) (by have := HYL.out; omega) ?_; intro v' W1 hown' hgrow _ hb'; have HM9 := hid (RowS.snoc (x := ⟨⟨fid, fds⟩, .slice xd nd dd⟩) (by decide) HMV.out HBV.out.size HD.out HK.out hown' hgrow hb'); have HB9 := hid (HBV.out.grown hgrow HBV.out.size (fun q e => HMV.out.fr q (mem_blkV.2 e))); obtain ⟨g', cap', rfl⟩ := row_any hown'; clear hown' hgrow hb')
        go_roundw
        case rel => exact ⟨k + 1, ys ++ [⟨⟨fid, fds⟩, .slice xd nd dd⟩], by omega, by go_num, HRE, hid ⟨HM9.out, by rw [List.map_append, HM.out.2.1, HTKK.out]; rfl, by rw [List.length_append, HM.out.2.2.1]; rfl, fun y hy => (List.mem_append.1 hy).elim (HM.out.2.2.2 y) (fun e => by rw [List.mem_singleton.1 e]; exact HFOK.out)⟩, HB9⟩
        case measure => simp [intOf]; omega
      · have hre := HRCK.out.trans (if_pos he)
        have HF := hid (show BysD R w (.returned (.tuple #[.slice none 0 0, .int .i64 er])) (V1.alloc (.cells #[.int .u8 fid, .slice xd nd dd] 35)) by rw [HRP.out, hre, if_pos he]; exact HNO.out er _ (below_t HBX.out (below_t hb1 hba)))
        have hne : (er == 0) = false := by simpa using he
        clear hre hba
        go_wp2
        go_ret2
        exact HF.out
    · have hkn : N = k := by omega
      subst hkn
      obtain ⟨wq, rfl⟩ : ∃ wq, wq = wr := ⟨_, rfl⟩
      have hr0 : R0 = 0 := by
        have q := HR.out
        rw [← HN.out] at q
        exact q.trans HRN.out.1
      have hym : ys.map SfV.d = (xs.map AcV.d).map (fun a => (makeF a).2) := by
        have q := HM.out.2.1
        rw [← HN.out, HRN.out.2] at q
        exact q
      have HRR := hid (show R = recB [243] ((ys.map SfV.d).drop 0) from by rw [HRP.out, hr0, if_neg (fun q => q rfl), ← hym]; rfl)
      have HSM : SfM 35 wq (.slice xl ys.length cl) ys := ⟨HM.out.1.row, HM.out.1.dat⟩
      obtain ⟨x2, cap2, e2, h21, h22, hat2⟩ := HSM.at
      injection e2 with e2a e2b e2c
      subst e2a e2c
      have HAT2 := hid hat2
      have HSL2 := hid (fun i (hi : i < ys.length) => (show ∃ a n c, ys[i].tv = .slice a n c from own_slice (HSM.txt _ (List.getElem_mem hi))))
      have HBYS := hid (fun i (hi : i < ys.length) W (hW : Below wq.heap.size wq W) => fbytes_any ys[i].d ys[i].tv W ((HSM.txt _ (List.getElem_mem hi)).step hW).reads (HM.out.2.2.2 _ (List.getElem_mem hi)).1 (HM.out.2.2.2 _ (List.getElem_mem hi)).2)
      have HRC2 := hid (fun acc i (hi : i < ys.length) => (show recB acc ((ys.map SfV.d).drop i) = _ from (congrArg (recB acc) (drop_consS hi)).trans (recB_cons acc _ _)))
      have HRN2 := hid (fun acc => (show recB acc ((ys.map SfV.d).drop ys.length) = (0, acc) from by rw [List.drop_of_length_le (by rw [List.length_map]; exact Nat.le_refl _)]; rfl))
      have hyk : ys.length = N := HM.out.2.2.1
      have HYK := hid hyk
      rw [hyk]
      have HBO := hid (byte_of 8 ⟨by decide, by decide⟩ wq (HCO.out wq HB.out))
      rw [show (ncF 8).2.2 = 243 by decide +kernel] at HBO
      clear hat2 h21 h22 HSM hym hr0 e2b hyk HR HM HMK HRC HTK HRN HAT HSL HFO HCO HRP
      go_wp2_with fail
      with_reducible refine HBO.out.mono ?_
      rintro e w1 ⟨rfl, hb1⟩
      have HB1 := hid (below_t HB.out hb1)
      have HBA := hid (show Below wq.heap.size wq (w1.alloc (.cells #[.int .u8 243] 5)) from bal hb1 _)
      have HO0 := hid (show (w1.alloc (.cells #[.int .u8 243] 5)).ownsRow w1.heap.size 5 1 (.slice (some ⟨w1.heap.size, 0, none⟩) 1 1) [(243 : Int)].length ([(243 : Int)].map (Value.int .u8)) from World.ownsRow_lit (e := 5) (size := 1) (base := w1.heap.size) w1 #[.int .u8 243] 1 (by simp) (by unfold maxLen; omega) rfl)
      obtain ⟨B1, hB1⟩ : ∃ B1, w1.heap.size = B1 := ⟨_, rfl⟩
      have HB1S := hid (show wq.heap.size ≤ B1 by rw [← hB1]; exact hb1.size)
      have HBS := hid (show B1 ≤ (w1.alloc (.cells #[.int .u8 243] 5)).heap.size by rw [← hB1, World.size_alloc]; omega)
      rw [hB1] at HO0
      clear hb1 HBO
      go_wp2_with fail
      (try rw [hB1])
      clear hB1
      go_loopw [9, 37] (fun b i wr => ∃ (j : Nat) (acc : List Int), j ≤ N ∧ i = .int .i64 j ∧ Hid (R = recB acc ((ys.map SfV.d).drop j)) ∧ Hid (wr.ownsRow B1 5 1 b acc.length (acc.map (Value.int .u8)) ∧ BytL acc ∧ acc.length ≤ 8192) ∧ Hid (Below wq.heap.size wq wr ∧ B1 ≤ wr.heap.size)) (fun _ i _ => N - (intOf i).toNat)
      case atStart => exact ⟨0, [243], Nat.zero_le _, rfl, HRR, hid ⟨HO0.out, by intro x hx; rw [List.mem_singleton.1 hx]; omega, by decide⟩, hid ⟨HBA.out, HBS.out⟩⟩
      case round =>
        obtain ⟨j, acc, hj, rfl, HR, HO, HBz⟩ := hrel
        obtain ⟨xb, cb, rfl⟩ := row_anyK HO.out.1
        by_cases hjl : j < N
        · have hji : (j : Int) < N := by omega
          have hjx : j < ys.length := by rw [HYK.out]; exact hjl
          obtain ⟨g, rfl, hg, a0, a1⟩ := HAT2.out j hjx
          obtain ⟨xt, nt, ct, q1⟩ := HSL2.out j hjx
          have HBY := hid (HBYS.out j hjx)
          have hrc := HR.out.trans (HRC2.out acc j hjx)
          rw [q1] at HBY a1
          clear q1
          generalize ys[j].d = d at a0 HBY hrc
          obtain ⟨fid, fds⟩ := d
          dsimp only at a0 HBY
          have a0 := (HBz.out.1.cell (p := ⟨g, j * 2, none⟩) hg).trans a0
          have a1 := (HBz.out.1.cell (p := ⟨g, j * 2 + 1, none⟩) hg).trans a1
          have hal : Below wr.heap.size wr (wr.alloc (.cells #[.int .u8 fid, .slice xt nt ct] 35)) := bal (Below.refl _ _) _
          have HBX := hid (below_t HBz.out.1 hal)
          have HBX1 := hid (Nat.le_trans HBz.out.2 hal.size)
          have HOX := hid (own_moved HO.out.1 (Moved.below hal []) (fun _ _ q => by cases q))
          have HB0 := hid (HBY.out _ HBX.out)
          have hbl := byteF_len ⟨fid, fds⟩
          generalize byteF ⟨fid, fds⟩ = bf at HB0 hrc hbl
          obtain ⟨er3, bs⟩ := bf
          dsimp only at hrc hbl
          have HRC3 := hid hrc
          have HBL := hid hbl
          clear hrc hal hbl HBY
          go_wp2_with fail
          with_reducible refine HB0.out.mono ?_
          rintro e V2 ⟨bv, rfl, hob, hb2, hkb⟩
          dsimp only at hob ⊢
          obtain ⟨nb, hnb⟩ : ∃ nb, bs.length = nb := ⟨_, rfl⟩
          have HNB := hid hnb
          obtain ⟨xv, cv, rfl⟩ := own_len hob nb hnb
          have HU := hid hob.reads
          have HBZ := hid (below_t HBX.out hb2)
          have HBZ1 := hid (Nat.le_trans HBX1.out hb2.size)
          have HOZ := hid (own_moved HOX.out (Moved.below hb2 []) (fun _ _ q => by cases q))
          clear hnb hob hb2 hkb
          have hnb8 : nb ≤ 8192 := by rw [← HNB.out]; exact HBL.out
          obtain ⟨na, hna⟩ : ∃ na, acc.length = na := ⟨_, rfl⟩
          have HNA := hid hna
          have hna8 : na ≤ 8192 := by rw [← hna]; exact HO.out.2.2
          rw [hna] at HOZ ⊢
          clear hna
          have hws : IntKind.i64.wrap ((na : Int) + (nb : Int)) = (na : Int) + nb := IntWalk.i64_in _ (by omega)
          by_cases he3 : er3 = 0
          · subst he3
            by_cases hgt : 8192 < na + nb
            · have HE := HRC3.out.trans (if_pos (.inr (by rw [HNA.out, HNB.out]; exact hgt)))
              have HF := hid (show BysD R w (.returned (.tuple #[.slice none 0 0, .int .i64 3])) V2 by rw [HE]; exact HNO.out 3 _ (below_t HB.out HBZ.out))
              have hgi : (8192 : Int) < (na : Int) + nb := by omega
              clear HE
              go_wp2
              go_ret2
              exact HF.out
            · have HRE := hid (HRC3.out.trans (if_neg (fun q => q.elim (fun q => q rfl) (fun q => by rw [HNA.out, HNB.out] at q; exact hgt q))))
              have hgi : ¬ (8192 : Int) < (na : Int) + nb := by omega
              have HLE := hid (show na + bs.length ≤ 10000000 by rw [HNB.out]; omega)
              have HNN := hid (show na + bs.length = (acc ++ bs).length by rw [List.length_append, HNA.out])
              have HL8 := hid (show (acc ++ bs).length ≤ 8192 by rw [List.length_append, HNA.out, HNB.out]; omega)
              go_wp2_with (at_builtin; refine wpList_append_bytes rfl (.tmp 56) (.tmp 57) rfl B1 na _ _ acc bs rfl rfl HOZ.out HU.out HLE.out HBZ1.out (acc ++ bs).length HNN.out (acc ++ bs) rfl ?_; intro y cap w' hown hgrow; have HW := hid hown; have HBG := hid (HBZ.out.grown hgrow HBZ.out.size (fun q hq => Nat.le_trans HB1S.out (HOZ.out.lt q hq).1)); have HBG1 := hid (Nat.le_trans HBZ1.out hgrow.size); clear hown hgrow)
              go_roundw
              case rel => exact ⟨j + 1, acc ++ bs, by omega, by go_num, HRE, hid ⟨by have q := HW.out; simp only [List.length_append] at q ⊢; exact q, HO.out.2.1.append HU.out.1, HL8.out⟩, hid ⟨HBG.out, HBG1.out⟩⟩
              case measure => simp [intOf]; omega
          · have HE := HRC3.out.trans (if_pos (.inl he3))
            have HF := hid (show BysD R w (.returned (.tuple #[.slice none 0 0, .int .i64 3])) V2 by rw [HE]; exact HNO.out 3 _ (below_t HB.out HBZ.out))
            have hne : (er3 == 0) = false := by simpa using he3
            have hne' : (er3 != 0) = true := by simpa using he3
            clear HE
            go_wp2
            go_ret2
            exact HF.out
        · obtain rfl : j = N := by omega
          have hre : R = (0, acc) := by
            have q := HR.out
            rw [← HYK.out] at q
            exact q.trans (HRN2.out acc)
          have HF := hid (show BysD R w (.returned (.tuple #[.slice xb acc.length cb, .int .i64 0])) wr from by
            rw [hre]
            exact ⟨_, rfl, ⟨HO.out.2.1, HO.out.1.mono (Nat.zero_le _)⟩, below_t HB.out HBz.out.1, fun q hq => Nat.le_trans HB.out.size (Nat.le_trans HB1S.out (HO.out.1.lt q (mem_blkV.1 hq)).1)⟩)
          clear hre
          go_wp2
          go_ret2
          exact HF.out
end Go.Proofs.YtdpgmepblmlaaaaDoor
