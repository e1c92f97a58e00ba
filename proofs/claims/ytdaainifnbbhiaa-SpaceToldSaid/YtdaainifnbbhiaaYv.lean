/-
  SpaceTold: the law's own walk.
-/
import Derived.Test.YtdaainifnbbhiaaYu
namespace Go.Proofs.Ytdaainifnbbhiaa
open Go.RowKit Go.Lib Go.Deep

/-- A part of a list of cells, at its head. -/
theorem take_at {g : Nat} {L : List Cel} {w : World} (h : CellsM w g L) (KS : Nat) : ∀ i, i < (L.take KS).length → ∀ j, j < 6 → w.cell? ⟨g, i * 6 + j, none⟩ = ((L.take KS).getD i cel0).cs[j]? := fun i hi j hj => by
  have h1 : i < L.length := by rw [List.length_take] at hi; omega
  have h2 : i < KS := by rw [List.length_take] at hi; omega
  rw [h.at_ i h1 j hj]
  congr 2
  simp [List.getD, h2]
/-- Ints that are the same, at the head of a list. -/
theorem equalI_pre (u : Value) (ga c : Nat) (xs ys : List Int) (w : World) (hu : w.ownsRow 0 3 1 u xs.length (intsV xs)) (hy : ∀ i, i < ys.length → w.cell? ⟨ga, 0 + i, none⟩ = some (.int .i64 (ys.getD i 0))) (hp : ∀ i, i < xs.length → xs.getD i 0 = ys.getD i 0) (hl : xs.length ≤ ys.length) (hm : ys.length ≤ 1000000) : Calls Try.prog 33 #[u, .slice (some ⟨ga, 0, none⟩) xs.length c] w fun e w' => e = .returned (.bool true) ∧ Below w.heap.size w w' := by
  rcases ints_cells hu with ⟨x, d, rfl, rfl⟩ | ⟨g, d, rfl, hc⟩
  · exact equalI_nil x _ d c w
  · exact equalI_row g 0 ga 0 xs.length d c xs rfl (by omega) w hc (fun i hi => by rw [hy i (by omega), hp i hi])
set_option maxRecDepth 100000 in
set_option maxHeartbeats 8000000 in
theorem told_no (m : Int) (hm : m < 2 ∨ 5 < m) (v : Value) (ac : List ActD) (st : Nat) (_hs : st < 65536) (w : World) (hx : ActsIn w.heap.size w v ac) : Calls Try.prog 4 #[.int .i64 m, v, .int .u16 st] w fun e w' => e = .returned (.bool true) ∧ Below w.heap.size w w' := by
  have HW := hid (awake12 w)
  have hf0 := fld0
  have HSN := hid (fun W => (show Calls Try.prog 19 #[.pointer none, .int .i64 1, .agg #[.int .u8 0, .bool false, .int .u8 0, .int .u8 0, .int .u8 0, .int .u8 0]] W _ from set_nil 1 cel0 W))
  have HPU := hid (fun W => put_nil 1 1 W)
  have HPL := hid (fun W => place_nil 1 W)
  have HCL := hid (fun W => clear_nil true W)
  have HCE := hid (fun W => callsIn_wide.1 (cells_nil 8 (by omega) 9 W))
  have HSZ := hid (fun W => size_nil W)
  have HMO := hid (fun W => smodel_nil W)
  have HAL := hid (fun W => alternate_nil W)
  have HAT := hid (fun W => at_nil 1 W)
  have HCU := hid (fun W => cursor_nil W)
  have HFO := hid (fun W => callsIn_wide.1 (formatted_nil 8 (by omega) W))
  have HCP := hid (fun W => copy_nil W)
  have HSM := hid (fun W => same_nil W)
  have HNW := hid (fun W => new_no m hm W)
  have HRN := hid (fun W => rnew_no m hm W)
  have HDF := hid (fun W => callsIn_wide.1 (diff_nil 8 (by omega) W (fun W' _ => size_nil W')))
  obtain ⟨x, cp, rfl⟩ := hx.sl
  clear hx hm
  go_enter Try.func4, Try.ntmps4
  go_wp2_with fail
  with_reducible refine HW.out.mono ?_
  rintro e w1 ⟨rfl, hb1⟩
  have HB1 := hid hb1
  clear hb1
  go_wp2_with fail
  with_reducible refine (HNW.out _).mono ?_
  rintro e w2 ⟨rfl, hb2⟩
  have HB2 := hid (below_t HB1.out hb2)
  clear hb2 HB1
  go_wp2_with fail
  with_reducible refine (HRN.out _).mono ?_
  rintro e w3 ⟨rfl, hb3⟩
  have HB3 := hid (below_t HB2.out hb3)
  clear hb3 HB2
  go_wp2_with fail
  with_reducible refine (HSN.out _).mono ?_
  rintro e w4 ⟨⟨v4, rfl⟩, hb4⟩
  have HB4 := hid (below_t HB3.out hb4)
  clear hb4 HB3
  go_wp2_with fail
  with_reducible refine (HPU.out _).mono ?_
  rintro e w5 ⟨⟨v5, rfl⟩, hb5⟩
  have HB5 := hid (below_t HB4.out hb5)
  clear hb5 HB4
  go_wp2_with fail
  with_reducible refine (HPL.out _).mono ?_
  rintro e w6 ⟨⟨v6, rfl⟩, hb6⟩
  have HB6 := hid (below_t HB5.out hb6)
  clear hb6 HB5
  go_wp2_with fail
  with_reducible refine (HCL.out _).mono ?_
  rintro e w7 ⟨⟨v7, rfl⟩, hb7⟩
  have HB7 := hid (below_t HB6.out hb7)
  clear hb7 HB6
  go_wp2_with fail
  with_reducible refine (HCE.out _).mono ?_
  rintro e w8 ⟨rfl, hb8⟩
  have HB8 := hid (below_t HB7.out hb8)
  clear hb8 HB7
  go_wp2_with fail
  with_reducible refine (HSZ.out _).mono ?_
  rintro e w9 ⟨rfl, hb9⟩
  have HB9 := hid (below_t HB8.out hb9)
  clear hb9 HB8
  rw [show sizeV 0 0 = .agg #[.int .i64 0, .int .i64 0] from rfl]
  go_wp2_with fail
  with_reducible refine (HMO.out _).mono ?_
  rintro e w10 ⟨rfl, hb10⟩
  have HB10 := hid (below_t HB9.out hb10)
  clear hb10 HB9
  go_wp2_with fail
  with_reducible refine (HAL.out _).mono ?_
  rintro e w11 ⟨rfl, hb11⟩
  have HB11 := hid (below_t HB10.out hb11)
  clear hb11 HB10
  go_wp2_with fail
  with_reducible refine (HAT.out _).mono ?_
  rintro e w12 ⟨rfl, hb12⟩
  have HB12 := hid (below_t HB11.out hb12)
  clear hb12 HB11
  rw [show cel0.v = .agg #[.int .u8 0, .bool false, .int .u8 0, .int .u8 0, .int .u8 0, .int .u8 0] from rfl]
  go_wp2_with fail
  with_reducible refine (HCU.out _).mono ?_
  rintro e w13 ⟨rfl, hb13⟩
  have HB13 := hid (below_t HB12.out hb13)
  clear hb13 HB12
  go_wp2_with fail
  with_reducible refine (HFO.out _).mono ?_
  rintro e w14 ⟨rfl, hb14⟩
  have HB14 := hid (below_t HB13.out hb14)
  clear hb14 HB13
  go_wp2_with fail
  with_reducible refine (HCP.out _).mono ?_
  rintro e w15 ⟨rfl, hb15⟩
  have HB15 := hid (below_t HB14.out hb15)
  clear hb15 HB14
  go_wp2_with fail
  with_reducible refine (HSM.out _).mono ?_
  rintro e w16 ⟨rfl, hb16⟩
  have HB16 := hid (below_t HB15.out hb16)
  clear hb16 HB15
  go_wp2_with fail
  with_reducible refine (HSM.out _).mono ?_
  rintro e w17 ⟨rfl, hb17⟩
  have HB17 := hid (below_t HB16.out hb17)
  clear hb17 HB16
  go_wp2_with fail
  with_reducible refine (HDF.out _).mono ?_
  rintro e w18 ⟨rfl, hb18⟩
  have HB18 := hid (below_t HB17.out hb18)
  clear hb18 HB17
  go_wp2
  go_ret
  exact ⟨rfl, HB18.out⟩
set_option maxRecDepth 100000 in
set_option maxHeartbeats 8000000 in
theorem told_yes (m : Int) (hm1 : 2 ≤ m) (hm2 : m ≤ 5) (v : Value) (ac : List ActD) (st : Nat) (hs : st < 65536) (w : World) (hx : ActsIn w.heap.size w v ac) : Calls Try.prog 4 #[.int .i64 m, v, .int .u16 st] w fun e w' => e = .returned (.bool true) ∧ Below w.heap.size w w' := by
  have HW := hid (awake12 w)
  have hf0 := fld0
  have HSN := hid (fun W => (show Calls Try.prog 19 #[.pointer none, .int .i64 1, .agg #[.int .u8 0, .bool false, .int .u8 0, .int .u8 0, .int .u8 0, .int .u8 0]] W _ from set_nil 1 cel0 W))
  have HPU := hid (fun W => put_nil 1 1 W)
  have HPL := hid (fun W => place_nil 1 W)
  have HCL := hid (fun W => clear_nil true W)
  have HCE := hid (fun W => callsIn_wide.1 (cells_nil 8 (by omega) 9 W))
  have HSZ := hid (fun W => size_nil W)
  have HMO := hid (fun W => smodel_nil W)
  have HAL := hid (fun W => alternate_nil W)
  have HAT := hid (fun W => at_nil 1 W)
  have HCU := hid (fun W => cursor_nil W)
  have HFO := hid (fun W => callsIn_wide.1 (formatted_nil 8 (by omega) W))
  have HCP := hid (fun W => copy_nil W)
  have HSM := hid (fun W => same_nil W)
  have HNW := hid (fun W => new_yes m hm1 hm2 W)
  have HRN := hid (fun W => rnew_yes m hm1 hm2 W)
  have HS2N := hid (fun b W => same_nil2 b W)
  obtain ⟨KS, hK⟩ : ∃ KS : Nat, KS = 1 + st % 2500 := ⟨_, rfl⟩
  have hst0 : (0 : Int) ≤ (st : Int) := by omega
  have hst1 : (st : Int) < 65536 := by omega
  have hst : (st : Int).tmod 2500 = ((KS - 1 : Nat) : Int) := by rw [Int.tmod_eq_emod_of_nonneg (by omega)]; omega
  have hK1 : 1 ≤ KS ∧ KS ≤ 2500 := by omega
  have hKa : 1 + ((KS - 1 : Nat) : Int) = (KS : Int) := by omega
  obtain ⟨x, cp, rfl⟩ := hx.sl
  have HX := hid hx
  have HLE := hid (Nat.le_refl w.heap.size)
  obtain ⟨M, hM⟩ : ∃ M, M = ac.length := ⟨_, rfl⟩
  have HM := hid hM
  have hML : M ≤ 9223372036854775807 := by rw [hM]; exact hx.len
  rw [← hM]
  clear hx hM hK
  go_enter Try.func4, Try.ntmps4
  go_wp2_with fail
  with_reducible refine HW.out.mono ?_
  rintro e w1 ⟨rfl, hb1⟩
  have HB1 := hid hb1
  clear hb1
  go_wp2_with fail
  with_reducible refine (HNW.out _).mono ?_
  rintro e w2 ⟨b1, g1, rfl, hb, hg, hs, h2⟩
  have HS2 := hid hs
  have HB2 := hid (below_t HB1.out h2)
  have HLB := hid (show w.heap.size ≤ b1 ∧ w.heap.size ≤ g1 from ⟨Nat.le_trans HB1.out.size hb, Nat.le_trans HB1.out.size hg⟩)
  clear hs h2 hb hg
  go_wp2_with fail
  with_reducible refine (HRN.out _).mono ?_
  rintro e w3 ⟨b2, g2, rfl, hb, hg, hs, h3⟩
  have HP := hid (show Pair w w3 b1 b2 g1 g2 (clearS m false) from ⟨⟨HS2.out.below h3, hs, fun k hk q => by
      have := HS2.out.lt
      simp at hk q
      omega⟩, below_t HB2.out h3, fun k hk => by
      have := HLB.out
      have := HB2.out.size
      simp at hk
      omega⟩)
  have HS3 := hid HP.out.two.sp
  have HB3 := hid (Below.refl w3.heap.size w3)
  have hro : ¬ (0 : Int) = (clearS m false).r := by
    show ¬ (0 : Int) = rowsZ m false
    unfold rowsZ
    simp
  have HDF := hid (fun W (h : SpM W b1 g1 (clearS m false)) => callsIn_wide.1 (diff_nil2 8 (by omega) (some ⟨b1, 0, none⟩) (clearS m false).r (clearS m false).c hro W (fun W' hb => size_any W' (h.below hb))))
  clear hs h3 hb hg HLB HS2 HB2 hro
  go_wp2_with fail
  with_reducible refine (HSN.out _).mono ?_
  rintro e w4 ⟨⟨v4, rfl⟩, hb4⟩
  have HB4 := hid (below_t HB3.out hb4)
  clear hb4 HB3
  go_wp2_with fail
  with_reducible refine (HPU.out _).mono ?_
  rintro e w5 ⟨⟨v5, rfl⟩, hb5⟩
  have HB5 := hid (below_t HB4.out hb5)
  clear hb5 HB4
  go_wp2_with fail
  with_reducible refine (HPL.out _).mono ?_
  rintro e w6 ⟨⟨v6, rfl⟩, hb6⟩
  have HB6 := hid (below_t HB5.out hb6)
  clear hb6 HB5
  go_wp2_with fail
  with_reducible refine (HCL.out _).mono ?_
  rintro e w7 ⟨⟨v7, rfl⟩, hb7⟩
  have HB7 := hid (below_t HB6.out hb7)
  clear hb7 HB6
  go_wp2_with fail
  with_reducible refine (HCE.out _).mono ?_
  rintro e w8 ⟨rfl, hb8⟩
  have HB8 := hid (below_t HB7.out hb8)
  clear hb8 HB7
  go_wp2_with fail
  with_reducible refine (HSZ.out _).mono ?_
  rintro e w9 ⟨rfl, hb9⟩
  have HB9 := hid (below_t HB8.out hb9)
  clear hb9 HB8
  rw [show sizeV 0 0 = .agg #[.int .i64 0, .int .i64 0] from rfl]
  go_wp2_with fail
  with_reducible refine (HMO.out _).mono ?_
  rintro e w10 ⟨rfl, hb10⟩
  have HB10 := hid (below_t HB9.out hb10)
  clear hb10 HB9
  go_wp2_with fail
  with_reducible refine (HAL.out _).mono ?_
  rintro e w11 ⟨rfl, hb11⟩
  have HB11 := hid (below_t HB10.out hb11)
  clear hb11 HB10
  go_wp2_with fail
  with_reducible refine (HAT.out _).mono ?_
  rintro e w12 ⟨rfl, hb12⟩
  have HB12 := hid (below_t HB11.out hb12)
  clear hb12 HB11
  rw [show cel0.v = .agg #[.int .u8 0, .bool false, .int .u8 0, .int .u8 0, .int .u8 0, .int .u8 0] from rfl]
  go_wp2_with fail
  with_reducible refine (HCU.out _).mono ?_
  rintro e w13 ⟨rfl, hb13⟩
  have HB13 := hid (below_t HB12.out hb13)
  clear hb13 HB12
  go_wp2_with fail
  with_reducible refine (HFO.out _).mono ?_
  rintro e w14 ⟨rfl, hb14⟩
  have HB14 := hid (below_t HB13.out hb14)
  clear hb14 HB13
  go_wp2_with fail
  with_reducible refine (HCP.out _).mono ?_
  rintro e w15 ⟨rfl, hb15⟩
  have HB15 := hid (below_t HB14.out hb15)
  clear hb15 HB14
  go_wp2_with fail
  with_reducible refine (HSM.out _).mono ?_
  rintro e w16 ⟨rfl, hb16⟩
  have HB16 := hid (below_t HB15.out hb16)
  clear hb16 HB15
  go_wp2_with fail
  with_reducible refine (HS2N.out b1 _).mono ?_
  rintro e w17 ⟨rfl, hb17⟩
  have HB17 := hid (below_t HB16.out hb17)
  clear hb17 HB16
  go_wp2_with fail
  with_reducible refine (HDF.out _ (HS3.out.below HB17.out)).mono ?_
  rintro e w18 ⟨rfl, hb18⟩
  have HB18 := hid (below_t HB17.out hb18)
  clear hb18 HB17
  have HPX := hid (HP.out.below HB18.out)
  clear HP HB18 HS3 HDF
  have HP := HPX
  clear HPX
  go_wp2_with fail
  go_loopw [116] (fun i W => ∃ q : Nat, q ≤ M ∧ i = .int .i64 q ∧ ∃ (g1 g2 : Nat) (s : Spc), Hid (Pair w W b1 b2 g1 g2 s)) (fun i _ => M - (intOf i).toNat)
  case atStart => exact ⟨0, by omega, rfl, g1, g2, _, HP.out⟩
  case round =>
    clear HP
    obtain ⟨q, hq, rfl, g1, g2, s, HP⟩ := hrel
    by_cases hqM : q < M
    · have hqi : (q : Int) < M := by omega
      have HBR := hid (HP.out.bel.mono HLE.out)
      obtain ⟨g3, o3, rfl, hg3, hcell⟩ := (HX.out.below HBR.out).at_ x cp rfl q (by rw [← HM.out]; exact hqM)
      have hfit := (HX.out.below HBR.out).fit q (by rw [← HM.out]; exact hqM)
      generalize ac.getD q act0 = a at hcell hfit
      obtain ⟨k, nn, on, code, c, tx, xs⟩ := a
      have htx := hfit.tx.sl
      dsimp only at htx
      obtain ⟨tp, tc, rfl⟩ := htx
      obtain ⟨x0, x1, x2, x3, x4, x5⟩ := c
      have HF := hid hfit
      have HXL := hid (show (ActD.mk k nn on code ⟨x0, x1, x2, x3, x4, x5⟩ (.slice tp xs.length tc) xs).Fit w.heap.size wr from hfit)
      (try dsimp only at hcell)
      have u0 : wr.cell? ⟨g3, o3 + q * 11, none⟩ = some (.int .u8 k) := hcell 0 (by omega)
      have u1 : wr.cell? ⟨g3, o3 + q * 11 + 1, none⟩ = some (.int .i64 nn) := hcell 1 (by omega)
      have u2 : wr.cell? ⟨g3, o3 + q * 11 + 2, none⟩ = some (.bool on) := hcell 2 (by omega)
      have u3 : wr.cell? ⟨g3, o3 + q * 11 + 3, none⟩ = some (.int .u8 code) := hcell 3 (by omega)
      have u4 : wr.cell? ⟨g3, o3 + q * 11 + 4, none⟩ = some (.int .u8 x0) := hcell 4 (by omega)
      have u5 : wr.cell? ⟨g3, o3 + q * 11 + 5, none⟩ = some (.bool x1) := hcell 5 (by omega)
      have u6 : wr.cell? ⟨g3, o3 + q * 11 + 6, none⟩ = some (.int .u8 x2) := hcell 6 (by omega)
      have u7 : wr.cell? ⟨g3, o3 + q * 11 + 7, none⟩ = some (.int .u8 x3) := hcell 7 (by omega)
      have u8 : wr.cell? ⟨g3, o3 + q * 11 + 8, none⟩ = some (.int .u8 x4) := hcell 8 (by omega)
      have u9 : wr.cell? ⟨g3, o3 + q * 11 + 9, none⟩ = some (.int .u8 x5) := hcell 9 (by omega)
      have u10 : wr.cell? ⟨g3, o3 + q * 11 + 10, none⟩ = some (.slice tp xs.length tc) := hcell 10 (by omega)
      have hgl3 := World.block_lt_of_cell? wr _ u0
      clear hcell hfit
      obtain ⟨W0, hW0⟩ : ∃ W0, wr.alloc (.cells #[.int .u8 k, .int .i64 nn, .bool on, .int .u8 code, .int .u8 x0, .bool x1, .int .u8 x2, .int .u8 x3, .int .u8 x4, .int .u8 x5, .slice tp xs.length tc] 34) = W0 := ⟨_, rfl⟩
      have hb0 : Below wr.heap.size wr W0 := by rw [← hW0]; exact bal (Below.refl _ _) _
      have HPW := hid (HP.out.below hb0)
      have HFW := hid (HXL.out.below (hb0.mono (Nat.le_trans HLE.out HP.out.bel.size)))
      have HW0 := hid hW0
      clear hb0 hW0
      by_cases h20 : q < 20
      · have h2i : (q : Int) < 20 := by omega
        have HDO := hid (show ∀ W, (ActD.mk k nn on code ⟨x0, x1, x2, x3, x4, x5⟩ (.slice tp xs.length tc) xs).Fit w.heap.size W → Two W b1 g1 b2 g2 s → Calls Try.prog 14 #[.pointer (some ⟨b1, 0, none⟩), .pointer (some ⟨b2, 0, none⟩), .agg #[.int .u8 k, .int .i64 nn, .bool on, .int .u8 code, .int .u8 x0, .bool x1, .int .u8 x2, .int .u8 x3, .int .u8 x4, .int .u8 x5, .slice tp xs.length tc]] W (TwoD b1 g1 b2 g2 (doS s (ActD.mk k nn on code ⟨x0, x1, x2, x3, x4, x5⟩ (.slice tp xs.length tc) xs)) W) from fun W ha h => do_any _ W ha h (fun k hk => Nat.le_trans HLE.out (HP.out.lb k hk)))
        generalize doS s (ActD.mk k nn on code ⟨x0, x1, x2, x3, x4, x5⟩ (.slice tp xs.length tc) xs) = s2 at HDO
        go_wp2_with fail
        rw [HW0.out]
        with_reducible refine (HDO.out _ HFW.out HPW.out.two).mono ?_
        rintro e w5 ⟨⟨v5, rfl⟩, g1', g2', ht, hm⟩
        have HP2 := hid (HPW.out.step ht hm)
        clear ht hm HPW HP HDO
        go_wp2
        go_roundw
        case rel => exact ⟨q + 1, by omega, by go_num, g1', g2', s2, HP2.out⟩
        case measure => simp [intOf]; omega
      · have h2i : ¬ (q : Int) < 20 := by omega
        go_wp2_with fail
        rw [HW0.out]
        clear HP
        go_wp2
        go_roundw
        case rel => exact ⟨q + 1, by omega, by go_num, g1, g2, s, HPW.out⟩
        case measure => simp [intOf]; omega
    · obtain rfl : q = M := by omega
      have hok := HP.out.two.sp.ok
      have hLp := hok.pos
      have hAl : s.A.length ≤ 3564 := Nat.le_trans (attP_len _ _) hLp.2
      have HCK := hid (fun W (h : SpM W b1 g1 s) => callsIn_wide.1 (cells_in 8 (by omega) b1 g1 KS s (by omega) W h))
      have HAK := hid (fun W (h : SpM W b1 g1 s) => (show Calls Try.prog 34 #[.pointer (some ⟨b1, 0, none⟩), .int .i64 2] W _ from callsIn_wide.1 (attrs_in 8 (by omega) b1 g1 2 s (by omega) W h)))
      have HSB := hid (fun W => same_no ⟨b1, 0, none⟩ W)
      have HRA := hid (fun W (h : RfM W b2 g2 s) => rattrs_any b2 g2 s W h)
      obtain ⟨N, hN⟩ : ∃ N : Nat, N = s.L.length := ⟨_, rfl⟩
      have hN1 : 0 < N ∧ N ≤ 3564 := by rw [hN]; exact hLp
      obtain ⟨kk, hkk⟩ : ∃ kk : Nat, kk = min KS N := ⟨_, rfl⟩
      obtain ⟨NA, hNA⟩ : ∃ NA : Nat, NA = s.A.length := ⟨_, rfl⟩
      have hNA1 : NA ≤ 3564 := by rw [hNA]; exact hAl
      have HTK := hid (show kk = (s.L.take KS).length by rw [hkk, hN, List.length_take])
      have HKP := hid (show 0 < kk by omega)
      have HCV := hid (show s.cA KS = cellsV (s.L.take KS) from rfl)
      have HC4 := hid HP.out.two.rf.hd.h4
      rw [← hN] at HCK HC4
      rw [← hkk] at HCK
      rw [← hNA] at HRA HAK
      have hb2l := HP.out.lt b2 (by simp)
      have hg2l := HP.out.lt g2 (by simp)
      have hmin1 : (if KS < N then (KS : Int) else (N : Int)) = (kk : Int) := by split <;> omega
      have hkN : kk ≤ N := by omega
      obtain ⟨ka, hka⟩ : ∃ ka : Nat, ka = min 2 NA := ⟨_, rfl⟩
      rw [← hka] at HAK
      have hmin2 : (if (2 : Int) < (NA : Int) then (2 : Int) else (NA : Int)) = (ka : Int) := by split <;> omega
      have hkA : ka ≤ NA := by omega
      have HEQ := hid (fun g c c' W h1 h2 => equalC_row g g2 kk c c' (s.L.take KS) HTK.out (by omega) W h1 h2)
      have HIA := hid (show s.iA 2 = intsV ((s.A.map Int.ofNat).take ka) ∧ s.iA NA = intsV (s.A.map Int.ofNat) ∧ (s.A.map Int.ofNat).length = NA ∧ ((s.A.map Int.ofNat).take ka).length = ka by
        have e : (s.A.map Int.ofNat).length = NA := by rw [hNA]; simp
        refine ⟨?_, ?_, e, by rw [List.length_take]; omega⟩
        · unfold Spc.iA
          rw [List.map_take]
          congr 1
          rw [hka]
          by_cases h : 2 ≤ NA
          · rw [Nat.min_eq_left h]
          · rw [Nat.min_eq_right (by omega), List.take_of_length_le (by omega), List.take_of_length_le (by omega)]
        · unfold Spc.iA
          rw [hNA, List.take_length])
      generalize s.A.map Int.ofNat = ys at HIA
      clear hok hLp hAl hN hkk hNA hka
      go_wp2_with fail
      with_reducible refine (HRA.out _ HP.out.two.rf).mono ?_
      rintro e wa ⟨va, rfl, hoa, hka', hba⟩
      rw [HIA.out.2.1] at hoa
      have HPA := hid (HP.out.below hba)
      have HC4A := hid (keepc hba HC4.out)
      have HOA := hid hoa
      clear hka' hba HP HC4
      rcases hoa.2 with ⟨rfl, hn0⟩ | ⟨ga, ca, cur, rfl, -, -, hca1, hca2, -, -⟩
      · obtain rfl : ka = 0 := by omega
        obtain rfl : NA = 0 := hn0
        go_wp2_with fail
        refine wp_region_held_drew (S := fun V => V.cell? ⟨b2, 4, none⟩ = some (.slice (some ⟨g2, 0, none⟩) N N) ∧ Below wa.heap.size wa V) (by kernel_rfl) ?_ (fun hHeld => ?_)
        · have hdr : Below wa.heap.size wa wa.drew := (Below.refl _ _).drew
          exact ⟨keepc hdr HC4A.out, hdr⟩
        refine takeD (i := 0) (v := ?_) 134 rfl rfl (by kernel_rfl) (by kernel_rfl) (by kernel_rfl) (fun _ _ _ h => h) (by assumption) (Or.inl ⟨by rfl, ?_⟩) ?_
        rotate_left
        · intro w hSw
          (try dsimp only at hSw)
          go_simp
          try with_reducible rfl
        simp only [List.setIfInBounds_toArray, List.set_cons_zero, List.set_cons_succ]
        refine takeD (i := 1) (v := ?_) 135 rfl rfl (by kernel_rfl) (by kernel_rfl) (by kernel_rfl) (fun _ _ _ h => h) (by assumption) (Or.inl ⟨by rfl, ?_⟩) ?_
        rotate_left
        · intro w hSw
          (try dsimp only at hSw)
          go_simp
          try with_reducible rfl
        simp only [List.setIfInBounds_toArray, List.set_cons_zero, List.set_cons_succ]
        refine takeD (i := 3) (v := ?_) 137 rfl rfl (by kernel_rfl) (by kernel_rfl) (by kernel_rfl) (fun _ _ _ h => h) (by assumption) (Or.inl ⟨by rfl, ?_⟩) ?_
        rotate_left
        · intro w hSw
          (try dsimp only at hSw)
          go_simp
          try with_reducible rfl
        simp only [List.setIfInBounds_toArray, List.set_cons_zero, List.set_cons_succ]
        refine takeD (i := 4) (v := ?_) 138 rfl rfl (by kernel_rfl) (by kernel_rfl) (by kernel_rfl) (fun _ _ _ h => h) (by assumption) (Or.inl ⟨by rfl, ?_⟩) ?_
        rotate_left
        · intro w hSw
          (try dsimp only at hSw)
          go_simp
          try with_reducible rfl
        simp only [List.setIfInBounds_toArray, List.set_cons_zero, List.set_cons_succ]
        refine takeD (i := 5) (v := ?_) 139 rfl rfl (by kernel_rfl) (by kernel_rfl) (by kernel_rfl) (fun _ _ _ h => h) (by assumption) (Or.inl ⟨by rfl, ?_⟩) ?_
        rotate_left
        · intro w hSw
          (try dsimp only at hSw)
          go_simp
          try with_reducible rfl
        simp only [List.setIfInBounds_toArray, List.set_cons_zero, List.set_cons_succ]
        refine takeD (i := 6) (v := ?_) 140 rfl rfl (by kernel_rfl) (by kernel_rfl) (by kernel_rfl) (fun _ _ _ h => h) (by assumption) (Or.inl ⟨by rfl, ?_⟩) ?_
        rotate_left
        · intro w hSw
          (try dsimp only at hSw)
          go_simp
          try with_reducible rfl
        simp only [List.setIfInBounds_toArray, List.set_cons_zero, List.set_cons_succ]
        refine takeD (i := 7) (v := ?_) 141 rfl rfl (by kernel_rfl) (by kernel_rfl) (by kernel_rfl) (fun _ _ _ h => h) (by assumption) (Or.inl ⟨by rfl, ?_⟩) ?_
        rotate_left
        · intro w hSw
          (try dsimp only at hSw)
          go_simp
          try with_reducible rfl
        simp only [List.setIfInBounds_toArray, List.set_cons_zero, List.set_cons_succ]
        refine takeD (i := 8) (v := ?_) 142 rfl rfl (by kernel_rfl) (by kernel_rfl) (by kernel_rfl) (fun _ _ _ h => h) (by assumption) (Or.inl ⟨by rfl, ?_⟩) ?_
        rotate_left
        · intro w hSw
          (try dsimp only at hSw)
          go_simp
          try with_reducible rfl
        simp only [List.setIfInBounds_toArray, List.set_cons_zero, List.set_cons_succ]
        refine takeD (i := 9) (v := ?_) 143 rfl rfl (by kernel_rfl) (by kernel_rfl) (by kernel_rfl) (fun _ _ _ h => h) (by assumption) (Or.inl ⟨by rfl, ?_⟩) ?_
        rotate_left
        · intro w hSw
          (try dsimp only at hSw)
          go_simp
          try with_reducible rfl
        simp only [List.setIfInBounds_toArray, List.set_cons_zero, List.set_cons_succ]
        refine takeD (i := 10) (v := ?_) 144 rfl rfl (by kernel_rfl) (by kernel_rfl) (by kernel_rfl) (fun _ _ _ h => h) (by assumption) (Or.inl ⟨by rfl, ?_⟩) ?_
        rotate_left
        · intro w hSw
          (try dsimp only at hSw)
          go_simp
          try with_reducible rfl
        simp only [List.setIfInBounds_toArray, List.set_cons_zero, List.set_cons_succ]
        refine takeD (i := 11) (v := ?_) 145 rfl rfl (by kernel_rfl) (by kernel_rfl) (by kernel_rfl) (fun _ _ _ h => h) (by assumption) (Or.inl ⟨by rfl, ?_⟩) ?_
        rotate_left
        · intro w hSw
          (try dsimp only at hSw)
          go_simp
          try with_reducible rfl
        simp only [List.setIfInBounds_toArray, List.set_cons_zero, List.set_cons_succ]
        refine takeD (i := 12) (v := ?_) 146 rfl rfl (by kernel_rfl) (by kernel_rfl) (by kernel_rfl) (fun _ _ _ h => h) (by assumption) (Or.inl ⟨by rfl, ?_⟩) ?_
        rotate_left
        · intro w hSw
          (try dsimp only at hSw)
          go_simp
          try with_reducible rfl
        simp only [List.setIfInBounds_toArray, List.set_cons_zero, List.set_cons_succ]
        refine takeD (i := 13) (v := ?_) 147 rfl rfl (by kernel_rfl) (by kernel_rfl) (by kernel_rfl) (fun _ _ _ h => h) (by assumption) (Or.inl ⟨by rfl, ?_⟩) ?_
        rotate_left
        · intro w hSw
          (try dsimp only at hSw)
          go_simp
          try with_reducible rfl
        simp only [List.setIfInBounds_toArray, List.set_cons_zero, List.set_cons_succ]
        refine takeD (i := 14) (v := ?_) 148 rfl rfl (by kernel_rfl) (by kernel_rfl) (by kernel_rfl) (fun _ _ _ h => h) (by assumption) (Or.inl ⟨by rfl, ?_⟩) ?_
        rotate_left
        · intro w hSw
          (try dsimp only at hSw)
          go_simp
          try with_reducible rfl
        simp only [List.setIfInBounds_toArray, List.set_cons_zero, List.set_cons_succ]
        refine wpAnyH_ready (rs := [2]) (by kernel_rfl) (by simp) ?_
        refine AllReadyH.cons (by simp only [List.getElem?_toArray, List.getElem?_cons_succ, List.getElem?_cons_zero]; rfl) (fun K hK => ?_) AllReadyH.nil
        go_simp
        go_at_call 23; (with_reducible refine (HCK.out _ (HPA.out.two.sp.below hHeld.2)).mono ?_); rintro e w7 ⟨v7, rfl, ho7, hk7, hb7⟩; rw [HCV.out, HTK.out] at ho7; obtain ⟨g7, c7, rfl, hc7⟩ := cells_row ho7 (by rw [← HTK.out]; exact HKP.out); have HO7 := hid hc7; rw [← HTK.out]; clear ho7 hk7 hc7
        refine hK.out _ _ ?_ (fun hHeldN => ?_)
        · exact ⟨keepc hb7 hHeld.1, below_t hHeld.2 hb7⟩
        clear hK K hHeld
        have hHeld := hHeldN
        clear hHeldN
        (try simp only [Act.put, List.setIfInBounds_toArray, List.set_cons_zero, List.set_cons_succ])
        refine wpAnyH_ready (rs := [15]) (by kernel_rfl) (by simp) ?_
        refine AllReadyH.cons (by simp only [List.getElem?_toArray, List.getElem?_cons_succ, List.getElem?_cons_zero]; rfl) (fun K hK => ?_) AllReadyH.nil
        go_simp
        go_at_call 32; (with_reducible refine (HEQ.out g7 c7 _ _ HO7.out (take_at (HPA.out.two.rf.below hHeld.2).row KS)).mono ?_); rintro e w8 ⟨rfl, hb8⟩
        refine hK.out _ _ ?_ (fun hHeldN => ?_)
        · exact ⟨keepc hb8 hHeld.1, below_t hHeld.2 hb8⟩
        clear hK K hHeld
        have hHeld := hHeldN
        clear hHeldN
        (try simp only [Act.put, List.setIfInBounds_toArray, List.set_cons_zero, List.set_cons_succ])
        refine takeD (i := 16) (v := ?_) 150 rfl rfl (by kernel_rfl) (by kernel_rfl) (by kernel_rfl) (fun _ _ _ h => h) (by assumption) (Or.inl ⟨by rfl, ?_⟩) ?_
        rotate_left
        · intro w hSw
          (try dsimp only at hSw)
          go_simp
          try with_reducible rfl
        simp only [List.setIfInBounds_toArray, List.set_cons_zero, List.set_cons_succ]
        refine takeD (i := 17) (v := ?_) 151 rfl rfl (by kernel_rfl) (by kernel_rfl) (by kernel_rfl) (fun _ _ _ h => h) (by assumption) (Or.inl ⟨by rfl, ?_⟩) ?_
        rotate_left
        · intro w hSw
          (try dsimp only at hSw)
          go_simp
          try with_reducible rfl
        simp only [List.setIfInBounds_toArray, List.set_cons_zero, List.set_cons_succ]
        refine takeD (i := 19) (v := ?_) 153 rfl rfl (by kernel_rfl) (by kernel_rfl) (by kernel_rfl) (fun _ _ _ h => h) (by assumption) (Or.inl ⟨by rfl, ?_⟩) ?_
        rotate_left
        · intro w hSw
          (try dsimp only at hSw)
          go_simp
          try with_reducible rfl
        simp only [List.setIfInBounds_toArray, List.set_cons_zero, List.set_cons_succ]
        refine takeD (i := 20) (v := ?_) 154 rfl rfl (by kernel_rfl) (by kernel_rfl) (by kernel_rfl) (fun _ _ _ h => h) (by assumption) (Or.inl ⟨by rfl, ?_⟩) ?_
        rotate_left
        · intro w hSw
          (try dsimp only at hSw)
          go_simp
          try with_reducible rfl
        simp only [List.setIfInBounds_toArray, List.set_cons_zero, List.set_cons_succ]
        refine takeD (i := 21) (v := ?_) 155 rfl rfl (by kernel_rfl) (by kernel_rfl) (by kernel_rfl) (fun _ _ _ h => h) (by assumption) (Or.inl ⟨by rfl, ?_⟩) ?_
        rotate_left
        · intro w hSw
          (try dsimp only at hSw)
          go_simp
          try with_reducible rfl
        simp only [List.setIfInBounds_toArray, List.set_cons_zero, List.set_cons_succ]
        refine takeD (i := 22) (v := ?_) 156 rfl rfl (by kernel_rfl) (by kernel_rfl) (by kernel_rfl) (fun _ _ _ h => h) (by assumption) (Or.inl ⟨by rfl, ?_⟩) ?_
        rotate_left
        · intro w hSw
          (try dsimp only at hSw)
          go_simp
          try with_reducible rfl
        simp only [List.setIfInBounds_toArray, List.set_cons_zero, List.set_cons_succ]
        refine takeD (i := 23) (v := ?_) 157 rfl rfl (by kernel_rfl) (by kernel_rfl) (by kernel_rfl) (fun _ _ _ h => h) (by assumption) (Or.inl ⟨by rfl, ?_⟩) ?_
        rotate_left
        · intro w hSw
          (try dsimp only at hSw)
          go_simp
          try with_reducible rfl
        simp only [List.setIfInBounds_toArray, List.set_cons_zero, List.set_cons_succ]
        refine wpAnyH_ready (rs := [18]) (by kernel_rfl) (by simp) ?_
        refine AllReadyH.cons (by simp only [List.getElem?_toArray, List.getElem?_cons_succ, List.getElem?_cons_zero]; rfl) (fun K hK => ?_) AllReadyH.nil
        go_simp
        go_at_call 34; (with_reducible refine (HAK.out _ (HPA.out.two.sp.below hHeld.2)).mono ?_); rintro e w9 ⟨v9, rfl, ho9, hk9, hb9⟩; rw [HIA.out.1] at ho9; obtain ⟨y9, c9, rfl⟩ := row_any ho9; have HO9 := hid ho9; clear ho9 hk9
        refine hK.out _ _ ?_ (fun hHeldN => ?_)
        · exact ⟨keepc hb9 hHeld.1, below_t hHeld.2 hb9⟩
        clear hK K hHeld
        have hHeld := hHeldN
        clear hHeldN
        (try simp only [Act.put, List.setIfInBounds_toArray, List.set_cons_zero, List.set_cons_succ])
        refine wpAnyH_ready (rs := [24]) (by kernel_rfl) (by simp) ?_
        refine AllReadyH.cons (by simp only [List.getElem?_toArray, List.getElem?_cons_succ, List.getElem?_cons_zero]; rfl) (fun K hK => ?_) AllReadyH.nil
        go_simp
        go_at_call 33; (with_reducible refine (equalI_nil _ none _ 0 _).mono ?_); rintro e w10 ⟨rfl, hb10⟩
        refine hK.out _ _ ?_ (fun hHeldN => ?_)
        · exact ⟨keepc hb10 hHeld.1, below_t hHeld.2 hb10⟩
        clear hK K hHeld
        have hHeld := hHeldN
        clear hHeldN
        (try simp only [Act.put, List.setIfInBounds_toArray, List.set_cons_zero, List.set_cons_succ])
        refine takeD (i := 25) (v := ?_) 159 rfl rfl (by kernel_rfl) (by kernel_rfl) (by kernel_rfl) (fun _ _ _ h => h) (by assumption) (Or.inl ⟨by rfl, ?_⟩) ?_
        rotate_left
        · intro w hSw
          (try dsimp only at hSw)
          go_simp
          try with_reducible rfl
        simp only [List.setIfInBounds_toArray, List.set_cons_zero, List.set_cons_succ]
        refine takeD (i := 26) (v := ?_) 160 rfl rfl (by kernel_rfl) (by kernel_rfl) (by kernel_rfl) (fun _ _ _ h => h) (by assumption) (Or.inl ⟨by rfl, ?_⟩) ?_
        rotate_left
        · intro w hSw
          (try dsimp only at hSw)
          go_simp
          try with_reducible rfl
        simp only [List.setIfInBounds_toArray, List.set_cons_zero, List.set_cons_succ]
        refine takeD (i := 27) (v := ?_) 161 rfl rfl (by kernel_rfl) (by kernel_rfl) (by kernel_rfl) (fun _ _ _ h => h) (by assumption) (Or.inl ⟨by rfl, ?_⟩) ?_
        rotate_left
        · intro w hSw
          (try dsimp only at hSw)
          go_simp
          try with_reducible rfl
        simp only [List.setIfInBounds_toArray, List.set_cons_zero, List.set_cons_succ]
        refine wpAnyH_ready (rs := [28]) (by kernel_rfl) (by simp) ?_
        refine AllReadyH.cons (by simp only [List.getElem?_toArray, List.getElem?_cons_succ, List.getElem?_cons_zero]; rfl) (fun K hK => ?_) AllReadyH.nil
        go_simp
        go_at_call 29; (with_reducible refine (HSB.out _).mono ?_); rintro e w11 ⟨rfl, hb11⟩
        refine hK.out _ _ ?_ (fun hHeldN => ?_)
        · exact ⟨keepc hb11 hHeld.1, below_t hHeld.2 hb11⟩
        clear hK K hHeld
        have hHeld := hHeldN
        clear hHeldN
        (try simp only [Act.put, List.setIfInBounds_toArray, List.set_cons_zero, List.set_cons_succ])
        refine takeD (i := 29) (v := ?_) 163 rfl rfl (by kernel_rfl) (by kernel_rfl) (by kernel_rfl) (fun _ _ _ h => h) (by assumption) (Or.inl ⟨by rfl, ?_⟩) ?_
        rotate_left
        · intro w hSw
          (try dsimp only at hSw)
          go_simp
          try with_reducible rfl
        simp only [List.setIfInBounds_toArray, List.set_cons_zero, List.set_cons_succ]
        refine takeD (i := 30) (v := ?_) 164 rfl rfl (by kernel_rfl) (by kernel_rfl) (by kernel_rfl) (fun _ _ _ h => h) (by assumption) (Or.inl ⟨by rfl, ?_⟩) ?_
        rotate_left
        · intro w hSw
          (try dsimp only at hSw)
          go_simp
          try with_reducible rfl
        simp only [List.setIfInBounds_toArray, List.set_cons_zero, List.set_cons_succ]
        refine takeD (i := 31) (v := ?_) 6 rfl rfl (by kernel_rfl) (by kernel_rfl) (by kernel_rfl) (fun _ _ _ h => h) (by assumption) (Or.inl ⟨by rfl, ?_⟩) ?_
        rotate_left
        · intro w hSw
          (try dsimp only at hSw)
          go_simp
          try with_reducible rfl
        simp only [List.setIfInBounds_toArray, List.set_cons_zero, List.set_cons_succ]
        refine wpAnyH_done (by kernel_rfl) ?_ _
        have HE := hid hHeld
        clear hHeld
        go_wp2
        go_ret
        exact ⟨rfl, below_t HPA.out.bel HE.out.2⟩
      · have hkc : ka ≤ ca := by omega
        have HCA := hid (fun W (hb : Below wa.heap.size wa W) => (show ∀ i, i < ys.length → W.cell? ⟨ga, 0 + i, none⟩ = some (.int .i64 (ys.getD i 0)) from by
          rcases ints_cells (xs := ys) (by rw [HIA.out.2.2.1]; exact own_below HOA.out hb) with ⟨x, c, e, h0⟩ | ⟨g, c, e, hc⟩
          · intro i hi
            rw [h0] at hi
            exact absurd hi (Nat.not_lt_zero i)
          · rw [HIA.out.2.2.1] at e
            injection e with e1 e2 e3
            injection e1 with e1
            injection e1 with e1
            subst e1
            exact hc))
        have HE2 := hid (fun u W (hu : W.ownsRow 0 3 1 u ka (intsV (ys.take ka))) hy => (show Calls Try.prog 33 #[u, .slice (some ⟨ga, 0, none⟩) ka ca] W _ from by
          have q := equalI_pre u ga ca (ys.take ka) ys W (by rw [HIA.out.2.2.2]; exact hu) hy (fun i hi => by rw [HIA.out.2.2.2] at hi; simp [List.getD, hi]) (by rw [HIA.out.2.2.2, HIA.out.2.2.1]; exact hkA) (by rw [HIA.out.2.2.1]; omega)
          rw [HIA.out.2.2.2] at q
          exact q))
        go_wp2_with fail
        refine wp_region_held_drew (S := fun V => V.cell? ⟨b2, 4, none⟩ = some (.slice (some ⟨g2, 0, none⟩) N N) ∧ Below wa.heap.size wa V) (by kernel_rfl) ?_ (fun hHeld => ?_)
        · have hdr : Below wa.heap.size wa wa.drew := (Below.refl _ _).drew
          exact ⟨keepc hdr HC4A.out, hdr⟩
        refine takeD (i := 0) (v := ?_) 134 rfl rfl (by kernel_rfl) (by kernel_rfl) (by kernel_rfl) (fun _ _ _ h => h) (by assumption) (Or.inl ⟨by rfl, ?_⟩) ?_
        rotate_left
        · intro w hSw
          (try dsimp only at hSw)
          go_simp
          try with_reducible rfl
        simp only [List.setIfInBounds_toArray, List.set_cons_zero, List.set_cons_succ]
        refine takeD (i := 1) (v := ?_) 135 rfl rfl (by kernel_rfl) (by kernel_rfl) (by kernel_rfl) (fun _ _ _ h => h) (by assumption) (Or.inl ⟨by rfl, ?_⟩) ?_
        rotate_left
        · intro w hSw
          (try dsimp only at hSw)
          go_simp
          try with_reducible rfl
        simp only [List.setIfInBounds_toArray, List.set_cons_zero, List.set_cons_succ]
        refine takeD (i := 3) (v := ?_) 137 rfl rfl (by kernel_rfl) (by kernel_rfl) (by kernel_rfl) (fun _ _ _ h => h) (by assumption) (Or.inl ⟨by rfl, ?_⟩) ?_
        rotate_left
        · intro w hSw
          (try dsimp only at hSw)
          go_simp
          try with_reducible rfl
        simp only [List.setIfInBounds_toArray, List.set_cons_zero, List.set_cons_succ]
        refine takeD (i := 4) (v := ?_) 138 rfl rfl (by kernel_rfl) (by kernel_rfl) (by kernel_rfl) (fun _ _ _ h => h) (by assumption) (Or.inl ⟨by rfl, ?_⟩) ?_
        rotate_left
        · intro w hSw
          (try dsimp only at hSw)
          go_simp
          try with_reducible rfl
        simp only [List.setIfInBounds_toArray, List.set_cons_zero, List.set_cons_succ]
        refine takeD (i := 5) (v := ?_) 139 rfl rfl (by kernel_rfl) (by kernel_rfl) (by kernel_rfl) (fun _ _ _ h => h) (by assumption) (Or.inl ⟨by rfl, ?_⟩) ?_
        rotate_left
        · intro w hSw
          (try dsimp only at hSw)
          go_simp
          try with_reducible rfl
        simp only [List.setIfInBounds_toArray, List.set_cons_zero, List.set_cons_succ]
        refine takeD (i := 6) (v := ?_) 140 rfl rfl (by kernel_rfl) (by kernel_rfl) (by kernel_rfl) (fun _ _ _ h => h) (by assumption) (Or.inl ⟨by rfl, ?_⟩) ?_
        rotate_left
        · intro w hSw
          (try dsimp only at hSw)
          go_simp
          try with_reducible rfl
        simp only [List.setIfInBounds_toArray, List.set_cons_zero, List.set_cons_succ]
        refine takeD (i := 7) (v := ?_) 141 rfl rfl (by kernel_rfl) (by kernel_rfl) (by kernel_rfl) (fun _ _ _ h => h) (by assumption) (Or.inl ⟨by rfl, ?_⟩) ?_
        rotate_left
        · intro w hSw
          (try dsimp only at hSw)
          go_simp
          try with_reducible rfl
        simp only [List.setIfInBounds_toArray, List.set_cons_zero, List.set_cons_succ]
        refine takeD (i := 8) (v := ?_) 142 rfl rfl (by kernel_rfl) (by kernel_rfl) (by kernel_rfl) (fun _ _ _ h => h) (by assumption) (Or.inl ⟨by rfl, ?_⟩) ?_
        rotate_left
        · intro w hSw
          (try dsimp only at hSw)
          go_simp
          try with_reducible rfl
        simp only [List.setIfInBounds_toArray, List.set_cons_zero, List.set_cons_succ]
        refine takeD (i := 9) (v := ?_) 143 rfl rfl (by kernel_rfl) (by kernel_rfl) (by kernel_rfl) (fun _ _ _ h => h) (by assumption) (Or.inl ⟨by rfl, ?_⟩) ?_
        rotate_left
        · intro w hSw
          (try dsimp only at hSw)
          go_simp
          try with_reducible rfl
        simp only [List.setIfInBounds_toArray, List.set_cons_zero, List.set_cons_succ]
        refine takeD (i := 10) (v := ?_) 144 rfl rfl (by kernel_rfl) (by kernel_rfl) (by kernel_rfl) (fun _ _ _ h => h) (by assumption) (Or.inl ⟨by rfl, ?_⟩) ?_
        rotate_left
        · intro w hSw
          (try dsimp only at hSw)
          go_simp
          try with_reducible rfl
        simp only [List.setIfInBounds_toArray, List.set_cons_zero, List.set_cons_succ]
        refine takeD (i := 11) (v := ?_) 145 rfl rfl (by kernel_rfl) (by kernel_rfl) (by kernel_rfl) (fun _ _ _ h => h) (by assumption) (Or.inl ⟨by rfl, ?_⟩) ?_
        rotate_left
        · intro w hSw
          (try dsimp only at hSw)
          go_simp
          try with_reducible rfl
        simp only [List.setIfInBounds_toArray, List.set_cons_zero, List.set_cons_succ]
        refine takeD (i := 12) (v := ?_) 146 rfl rfl (by kernel_rfl) (by kernel_rfl) (by kernel_rfl) (fun _ _ _ h => h) (by assumption) (Or.inl ⟨by rfl, ?_⟩) ?_
        rotate_left
        · intro w hSw
          (try dsimp only at hSw)
          go_simp
          try with_reducible rfl
        simp only [List.setIfInBounds_toArray, List.set_cons_zero, List.set_cons_succ]
        refine takeD (i := 13) (v := ?_) 147 rfl rfl (by kernel_rfl) (by kernel_rfl) (by kernel_rfl) (fun _ _ _ h => h) (by assumption) (Or.inl ⟨by rfl, ?_⟩) ?_
        rotate_left
        · intro w hSw
          (try dsimp only at hSw)
          go_simp
          try with_reducible rfl
        simp only [List.setIfInBounds_toArray, List.set_cons_zero, List.set_cons_succ]
        refine takeD (i := 14) (v := ?_) 148 rfl rfl (by kernel_rfl) (by kernel_rfl) (by kernel_rfl) (fun _ _ _ h => h) (by assumption) (Or.inl ⟨by rfl, ?_⟩) ?_
        rotate_left
        · intro w hSw
          (try dsimp only at hSw)
          go_simp
          try with_reducible rfl
        simp only [List.setIfInBounds_toArray, List.set_cons_zero, List.set_cons_succ]
        refine wpAnyH_ready (rs := [2]) (by kernel_rfl) (by simp) ?_
        refine AllReadyH.cons (by simp only [List.getElem?_toArray, List.getElem?_cons_succ, List.getElem?_cons_zero]; rfl) (fun K hK => ?_) AllReadyH.nil
        go_simp
        go_at_call 23; (with_reducible refine (HCK.out _ (HPA.out.two.sp.below hHeld.2)).mono ?_); rintro e w7 ⟨v7, rfl, ho7, hk7, hb7⟩; rw [HCV.out, HTK.out] at ho7; obtain ⟨g7, c7, rfl, hc7⟩ := cells_row ho7 (by rw [← HTK.out]; exact HKP.out); have HO7 := hid hc7; rw [← HTK.out]; clear ho7 hk7 hc7
        refine hK.out _ _ ?_ (fun hHeldN => ?_)
        · exact ⟨keepc hb7 hHeld.1, below_t hHeld.2 hb7⟩
        clear hK K hHeld
        have hHeld := hHeldN
        clear hHeldN
        (try simp only [Act.put, List.setIfInBounds_toArray, List.set_cons_zero, List.set_cons_succ])
        refine wpAnyH_ready (rs := [15]) (by kernel_rfl) (by simp) ?_
        refine AllReadyH.cons (by simp only [List.getElem?_toArray, List.getElem?_cons_succ, List.getElem?_cons_zero]; rfl) (fun K hK => ?_) AllReadyH.nil
        go_simp
        go_at_call 32; (with_reducible refine (HEQ.out g7 c7 _ _ HO7.out (take_at (HPA.out.two.rf.below hHeld.2).row KS)).mono ?_); rintro e w8 ⟨rfl, hb8⟩
        refine hK.out _ _ ?_ (fun hHeldN => ?_)
        · exact ⟨keepc hb8 hHeld.1, below_t hHeld.2 hb8⟩
        clear hK K hHeld
        have hHeld := hHeldN
        clear hHeldN
        (try simp only [Act.put, List.setIfInBounds_toArray, List.set_cons_zero, List.set_cons_succ])
        refine takeD (i := 16) (v := ?_) 150 rfl rfl (by kernel_rfl) (by kernel_rfl) (by kernel_rfl) (fun _ _ _ h => h) (by assumption) (Or.inl ⟨by rfl, ?_⟩) ?_
        rotate_left
        · intro w hSw
          (try dsimp only at hSw)
          go_simp
          try with_reducible rfl
        simp only [List.setIfInBounds_toArray, List.set_cons_zero, List.set_cons_succ]
        refine takeD (i := 17) (v := ?_) 151 rfl rfl (by kernel_rfl) (by kernel_rfl) (by kernel_rfl) (fun _ _ _ h => h) (by assumption) (Or.inl ⟨by rfl, ?_⟩) ?_
        rotate_left
        · intro w hSw
          (try dsimp only at hSw)
          go_simp
          try with_reducible rfl
        simp only [List.setIfInBounds_toArray, List.set_cons_zero, List.set_cons_succ]
        refine takeD (i := 19) (v := ?_) 153 rfl rfl (by kernel_rfl) (by kernel_rfl) (by kernel_rfl) (fun _ _ _ h => h) (by assumption) (Or.inl ⟨by rfl, ?_⟩) ?_
        rotate_left
        · intro w hSw
          (try dsimp only at hSw)
          go_simp
          try with_reducible rfl
        simp only [List.setIfInBounds_toArray, List.set_cons_zero, List.set_cons_succ]
        refine takeD (i := 20) (v := ?_) 154 rfl rfl (by kernel_rfl) (by kernel_rfl) (by kernel_rfl) (fun _ _ _ h => h) (by assumption) (Or.inl ⟨by rfl, ?_⟩) ?_
        rotate_left
        · intro w hSw
          (try dsimp only at hSw)
          go_simp
          try with_reducible rfl
        simp only [List.setIfInBounds_toArray, List.set_cons_zero, List.set_cons_succ]
        refine takeD (i := 21) (v := ?_) 155 rfl rfl (by kernel_rfl) (by kernel_rfl) (by kernel_rfl) (fun _ _ _ h => h) (by assumption) (Or.inl ⟨by rfl, ?_⟩) ?_
        rotate_left
        · intro w hSw
          (try dsimp only at hSw)
          go_simp
          try with_reducible rfl
        simp only [List.setIfInBounds_toArray, List.set_cons_zero, List.set_cons_succ]
        refine takeD (i := 22) (v := ?_) 156 rfl rfl (by kernel_rfl) (by kernel_rfl) (by kernel_rfl) (fun _ _ _ h => h) (by assumption) (Or.inl ⟨by rfl, ?_⟩) ?_
        rotate_left
        · intro w hSw
          (try dsimp only at hSw)
          go_simp
          try with_reducible rfl
        simp only [List.setIfInBounds_toArray, List.set_cons_zero, List.set_cons_succ]
        refine takeD (i := 23) (v := ?_) 157 rfl rfl (by kernel_rfl) (by kernel_rfl) (by kernel_rfl) (fun _ _ _ h => h) (by assumption) (Or.inl ⟨by rfl, ?_⟩) ?_
        rotate_left
        · intro w hSw
          (try dsimp only at hSw)
          go_simp
          try with_reducible rfl
        simp only [List.setIfInBounds_toArray, List.set_cons_zero, List.set_cons_succ]
        refine wpAnyH_ready (rs := [18]) (by kernel_rfl) (by simp) ?_
        refine AllReadyH.cons (by simp only [List.getElem?_toArray, List.getElem?_cons_succ, List.getElem?_cons_zero]; rfl) (fun K hK => ?_) AllReadyH.nil
        go_simp
        go_at_call 34; (with_reducible refine (HAK.out _ (HPA.out.two.sp.below hHeld.2)).mono ?_); rintro e w9 ⟨v9, rfl, ho9, hk9, hb9⟩; rw [HIA.out.1] at ho9; obtain ⟨y9, c9, rfl⟩ := row_any ho9; have HO9 := hid ho9; clear ho9 hk9
        refine hK.out _ _ ?_ (fun hHeldN => ?_)
        · exact ⟨keepc hb9 hHeld.1, below_t hHeld.2 hb9⟩
        clear hK K hHeld
        have hHeld := hHeldN
        clear hHeldN
        (try simp only [Act.put, List.setIfInBounds_toArray, List.set_cons_zero, List.set_cons_succ])
        refine wpAnyH_ready (rs := [24]) (by kernel_rfl) (by simp) ?_
        refine AllReadyH.cons (by simp only [List.getElem?_toArray, List.getElem?_cons_succ, List.getElem?_cons_zero]; rfl) (fun K hK => ?_) AllReadyH.nil
        go_simp
        go_at_call 33; (with_reducible refine (HE2.out _ _ HO9.out (HCA.out _ hHeld.2)).mono ?_); rintro e w10 ⟨rfl, hb10⟩
        refine hK.out _ _ ?_ (fun hHeldN => ?_)
        · exact ⟨keepc hb10 hHeld.1, below_t hHeld.2 hb10⟩
        clear hK K hHeld
        have hHeld := hHeldN
        clear hHeldN
        (try simp only [Act.put, List.setIfInBounds_toArray, List.set_cons_zero, List.set_cons_succ])
        refine takeD (i := 25) (v := ?_) 159 rfl rfl (by kernel_rfl) (by kernel_rfl) (by kernel_rfl) (fun _ _ _ h => h) (by assumption) (Or.inl ⟨by rfl, ?_⟩) ?_
        rotate_left
        · intro w hSw
          (try dsimp only at hSw)
          go_simp
          try with_reducible rfl
        simp only [List.setIfInBounds_toArray, List.set_cons_zero, List.set_cons_succ]
        refine takeD (i := 26) (v := ?_) 160 rfl rfl (by kernel_rfl) (by kernel_rfl) (by kernel_rfl) (fun _ _ _ h => h) (by assumption) (Or.inl ⟨by rfl, ?_⟩) ?_
        rotate_left
        · intro w hSw
          (try dsimp only at hSw)
          go_simp
          try with_reducible rfl
        simp only [List.setIfInBounds_toArray, List.set_cons_zero, List.set_cons_succ]
        refine takeD (i := 27) (v := ?_) 161 rfl rfl (by kernel_rfl) (by kernel_rfl) (by kernel_rfl) (fun _ _ _ h => h) (by assumption) (Or.inl ⟨by rfl, ?_⟩) ?_
        rotate_left
        · intro w hSw
          (try dsimp only at hSw)
          go_simp
          try with_reducible rfl
        simp only [List.setIfInBounds_toArray, List.set_cons_zero, List.set_cons_succ]
        refine wpAnyH_ready (rs := [28]) (by kernel_rfl) (by simp) ?_
        refine AllReadyH.cons (by simp only [List.getElem?_toArray, List.getElem?_cons_succ, List.getElem?_cons_zero]; rfl) (fun K hK => ?_) AllReadyH.nil
        go_simp
        go_at_call 29; (with_reducible refine (HSB.out _).mono ?_); rintro e w11 ⟨rfl, hb11⟩
        refine hK.out _ _ ?_ (fun hHeldN => ?_)
        · exact ⟨keepc hb11 hHeld.1, below_t hHeld.2 hb11⟩
        clear hK K hHeld
        have hHeld := hHeldN
        clear hHeldN
        (try simp only [Act.put, List.setIfInBounds_toArray, List.set_cons_zero, List.set_cons_succ])
        refine takeD (i := 29) (v := ?_) 163 rfl rfl (by kernel_rfl) (by kernel_rfl) (by kernel_rfl) (fun _ _ _ h => h) (by assumption) (Or.inl ⟨by rfl, ?_⟩) ?_
        rotate_left
        · intro w hSw
          (try dsimp only at hSw)
          go_simp
          try with_reducible rfl
        simp only [List.setIfInBounds_toArray, List.set_cons_zero, List.set_cons_succ]
        refine takeD (i := 30) (v := ?_) 164 rfl rfl (by kernel_rfl) (by kernel_rfl) (by kernel_rfl) (fun _ _ _ h => h) (by assumption) (Or.inl ⟨by rfl, ?_⟩) ?_
        rotate_left
        · intro w hSw
          (try dsimp only at hSw)
          go_simp
          try with_reducible rfl
        simp only [List.setIfInBounds_toArray, List.set_cons_zero, List.set_cons_succ]
        refine takeD (i := 31) (v := ?_) 6 rfl rfl (by kernel_rfl) (by kernel_rfl) (by kernel_rfl) (fun _ _ _ h => h) (by assumption) (Or.inl ⟨by rfl, ?_⟩) ?_
        rotate_left
        · intro w hSw
          (try dsimp only at hSw)
          go_simp
          try with_reducible rfl
        simp only [List.setIfInBounds_toArray, List.set_cons_zero, List.set_cons_succ]
        refine wpAnyH_done (by kernel_rfl) ?_ _
        have HE := hid hHeld
        clear hHeld
        go_wp2
        go_ret
        exact ⟨rfl, below_t HPA.out.bel HE.out.2⟩
end Go.Proofs.Ytdaainifnbbhiaa
