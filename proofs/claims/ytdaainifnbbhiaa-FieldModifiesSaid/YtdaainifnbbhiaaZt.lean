/-
  FieldStarts: the reference's Start, Field, Open; the law's own walk.
-/
import Derived.Test.YtdaainifnbbhiaaZs
namespace Go.Proofs.Ytdaainifnbbhiaa
open Go.RowKit Go.Lib Go.Deep

theorem rattf0 (p n m : Bool) (d : Int) (w : World) : (Instr.field 74 (.agg #[.bool p, .bool n, .int .i64 d, .bool m]) 0).run Try.prog w = .ok (.bool p) w := by kernel_rfl
section
variable {b g : Nat} {s : Spc}
set_option maxRecDepth 100000 in
set_option maxHeartbeats 8000000 in
theorem rstart_any (n : Int) (hn : I64 n) (w : World) (h : RfM w b g s) : Calls Try.prog 46 #[.pointer (some ⟨b, 0, none⟩), .int .i64 n] w fun e w' => e = .returned (.int .i64 (stF s.P s.L.length (s.wr n))) ∧ Below w.heap.size w w' := by
  have HS := hid (fun W h => rstarts_any (b := b) (g := g) (s := s) W h)
  have HP := hid (fun W h => rpos_any (b := b) (g := g) (s := s) n hn W h)
  have HH := hid h
  have hw := h.ok.wr_lt n
  have hN := h.ok.pos
  generalize s.wr n = p at HP hw ⊢
  generalize s.L.length = N at HS hw hN ⊢
  clear h hn
  go_enter Try.func46, Try.ntmps46
  go_wp2_with fail
  with_reducible refine (HS.out _ HH.out).mono ?_
  rintro e w1 ⟨hh, rfl, hg, ho, hb1⟩
  have HO := hid ho
  have HB1 := hid hb1
  clear hg ho hb1
  go_wp2_with fail
  with_reducible refine (HP.out _ (HH.out.below HB1.out)).mono ?_
  rintro e w2 ⟨rfl, hb2⟩
  obtain ⟨x, hx, hxe⟩ := (HO.out.below hb2).at_ p hw
  have HE := hid (hxe hw)
  have hlx := World.block_lt_of_cell? w2 _ hx
  have HB2 := hid (below_t HB1.out hb2)
  have hpi : (p : Int) < N := by omega
  clear hb2 hxe HO
  go_wp2
  go_ret
  exact ⟨by rw [← HE.out]; rfl, HB2.out⟩
set_option maxRecDepth 100000 in
set_option maxHeartbeats 8000000 in
theorem rfield_any (a : Nat) (ha : a < s.L.length) (w : World) (h : RfM w b g s) : Calls Try.prog 43 #[.pointer (some ⟨b, 0, none⟩), .int .i64 a] w fun e w' => e = .returned (s.cel a).fv ∧ Below w.heap.size w w' := by
  have hN := h.ok.pos
  have h4 := h.h4
  have hlt := h.lt.1
  have hgt := h.lt.2
  have HOF := hid (fun W => rof_cel (s.cel a) (h.ok.cel a) W)
  obtain ⟨a0, a1, a2, a3, a4, a5⟩ := h.row.six a ha _ rfl
  have e0 : s.L.getD a cel0 = s.cel a := rfl
  rw [e0] at a0 a1 a2 a3 a4 a5
  have hai : (a : Int) < s.L.length := by omega
  obtain ⟨fp, fn, fd, fm, hf⟩ : ∃ p n d m, (s.cel a).fv = .agg #[.bool p, .bool n, .int .i64 d, .bool m] := ⟨_, _, _, _, rfl⟩
  rw [hf] at HOF ⊢
  generalize s.cel a = c at HOF a0 a1 a2 a3 a4 a5
  generalize s.L.length = N at h4 hai hN
  clear h ha hf e0
  go_enter Try.func43, Try.ntmps43
  go_wp2_with fail
  with_reducible refine (HOF.out _).mono ?_
  rintro e w1 ⟨rfl, hb1⟩
  obtain ⟨⟨c0, c1, c2, c3⟩, ⟨f0, f1, f2, f3⟩, hs⟩ := box4 hb1
  have HB1 := hid (blw hb1)
  clear hb1 HOF
  go_wp2
  exact bodyPost_ret (v := .agg #[.bool fp, .bool fn, .int .i64 fd, .bool fm]) (by simp [results, Try.results43, go_sem, c0, c1, c2, c3]) rfl ⟨rfl, ((((HB1.out.sc _ _ _ (Nat.le_refl _)).sc _ _ _ (Nat.le_refl _)).sc _ _ _ (Nat.le_refl _)).sc _ _ _ (Nat.le_refl _))⟩
set_option maxRecDepth 100000 in
set_option maxHeartbeats 8000000 in
theorem ropen_any (n : Int) (hn : I64 n) (w : World) (h : RfM w b g s) : Calls Try.prog 45 #[.pointer (some ⟨b, 0, none⟩), .int .i64 n] w fun e w' => e = .returned (.bool (openB s n)) ∧ Below w.heap.size w w' := by
  have HP := hid (fun W h => rpos_any (b := b) (g := g) (s := s) n hn W h)
  have hw := h.ok.wr_lt n
  have hN := h.ok.pos
  have HE0 := hid (show openB s n = (!(s.cel (s.wr n)).at_ && !protF s (stF s.P s.L.length (s.wr n))) from rfl)
  have HST := hid (fun W h => (show Calls Try.prog 46 #[.pointer (some ⟨b, 0, none⟩), .int .i64 (s.wr n : Nat)] W fun e w' => e = .returned (.int .i64 (stF s.P s.L.length (s.wr n))) ∧ Below W.heap.size W w' from by
    have q := rstart_any (b := b) (g := g) (s := s) (s.wr n : Nat) (i64_small (by omega) (by omega)) W h
    rwa [wr_nat hw] at q))
  have HRF := hid (fun (a : Nat) (ha : a < s.L.length) W h => rfield_any (b := b) (g := g) (s := s) a ha W h)
  have HH := hid h
  have hbd := stF_bd s.P hw
  obtain ⟨p, hpe⟩ : ∃ p, s.wr n = p := ⟨_, rfl⟩
  rw [hpe] at HP HST HE0 hw hbd
  have hf0 := rattf0
  have hpi : (p : Int) < s.L.length := by omega
  rw [HE0.out]
  have HX := hid (fun W (hb : Below w.heap.size w W) => (show W.cell? ⟨b, 4, none⟩ = some (.slice (some ⟨g, 0, none⟩) s.L.length s.L.length) ∧ W.cell? ⟨g, p * 6 + 1, none⟩ = some (.bool (s.cel p).at_) from ⟨(h.below hb).h4, ((h.below hb).row.six p hw _ rfl).2.1⟩))
  clear h hn hpe HE0
  rcases hbd with he | ⟨a, ha, -, he⟩
  · have HPR := hid (show protF s (stF s.P s.L.length p) = false by rw [he]; rfl)
    rw [HPR.out]
    rw [he] at HST
    generalize (s.cel p).at_ = x1 at HX ⊢
    cases x1
    · go_enter Try.func45, Try.ntmps45
      go_wp2_with fail
      with_reducible refine (HP.out _ HH.out).mono ?_
      rintro e w1 ⟨rfl, hb1⟩
      have HB1 := hid hb1
      clear hb1
      go_wp2_with fail
      with_reducible refine (HST.out _ (HH.out.below HB1.out)).mono ?_
      rintro e w2 ⟨rfl, hb2⟩
      have HB2 := hid (below_t HB1.out hb2)
      clear hb2 HB1
      obtain ⟨x4, xa⟩ := HX.out _ HB2.out
      have hl4 := World.block_lt_of_cell? w2 _ x4
      have hlg := World.block_lt_of_cell? w2 _ xa
      go_wp2
      go_ret
      exact ⟨by simp, HB2.out⟩
    · go_enter Try.func45, Try.ntmps45
      go_wp2_with fail
      with_reducible refine (HP.out _ HH.out).mono ?_
      rintro e w1 ⟨rfl, hb1⟩
      have HB1 := hid hb1
      clear hb1
      go_wp2_with fail
      with_reducible refine (HST.out _ (HH.out.below HB1.out)).mono ?_
      rintro e w2 ⟨rfl, hb2⟩
      have HB2 := hid (below_t HB1.out hb2)
      clear hb2 HB1
      obtain ⟨x4, xa⟩ := HX.out _ HB2.out
      have hl4 := World.block_lt_of_cell? w2 _ x4
      have hlg := World.block_lt_of_cell? w2 _ xa
      go_wp2
      go_ret
      exact ⟨by simp, HB2.out⟩
  · have HPR := hid (show protF s (stF s.P s.L.length p) = (s.cel a).prot by rw [he]; unfold protF; rw [if_neg (by omega), Int.toNat_natCast])
    rw [HPR.out]
    rw [he] at HST
    have hneg : ¬ ((a : Int) < 0) := by omega
    obtain ⟨fp, fn, fd, fm, hfp, hf⟩ : ∃ p n' d m, p = (s.cel a).prot ∧ (s.cel a).fv = .agg #[.bool p, .bool n', .int .i64 d, .bool m] := ⟨_, _, _, _, rfl, rfl⟩
    have HFI := hid (fun W h => HRF.out a ha W h)
    rw [hf] at HFI
    rw [← hfp]
    generalize (s.cel p).at_ = x1 at HX ⊢
    clear hfp hf
    cases x1
    · go_enter Try.func45, Try.ntmps45
      go_wp2_with fail
      with_reducible refine (HP.out _ HH.out).mono ?_
      rintro e w1 ⟨rfl, hb1⟩
      have HB1 := hid hb1
      clear hb1
      go_wp2_with fail
      with_reducible refine (HST.out _ (HH.out.below HB1.out)).mono ?_
      rintro e w2 ⟨rfl, hb2⟩
      have HB2 := hid (below_t HB1.out hb2)
      clear hb2 HB1
      obtain ⟨x4, xa⟩ := HX.out _ HB2.out
      have hl4 := World.block_lt_of_cell? w2 _ x4
      have hlg := World.block_lt_of_cell? w2 _ xa
      go_wp2_with fail
      with_reducible refine (HFI.out _ (HH.out.below HB2.out)).mono ?_
      rintro e w3 ⟨rfl, hb3⟩
      have HB3 := hid (below_t HB2.out hb3)
      clear hb3
      go_wp2
      go_ret
      exact ⟨by cases fp <;> rfl, HB3.out⟩
    · go_enter Try.func45, Try.ntmps45
      go_wp2_with fail
      with_reducible refine (HP.out _ HH.out).mono ?_
      rintro e w1 ⟨rfl, hb1⟩
      have HB1 := hid hb1
      clear hb1
      go_wp2_with fail
      with_reducible refine (HST.out _ (HH.out.below HB1.out)).mono ?_
      rintro e w2 ⟨rfl, hb2⟩
      have HB2 := hid (below_t HB1.out hb2)
      clear hb2 HB1
      obtain ⟨x4, xa⟩ := HX.out _ HB2.out
      have hl4 := World.block_lt_of_cell? w2 _ x4
      have hlg := World.block_lt_of_cell? w2 _ xa
      go_wp2
      go_ret
      exact ⟨by simp, HB2.out⟩
end
set_option maxRecDepth 100000 in
set_option maxHeartbeats 8000000 in
theorem starts_any (m : Nat) (hm : m < 256) (v : Value) (ac : List ActD) (nz : Int) (hnz : I64 nz) (w : World) (hx : ActsIn w.heap.size w v ac) : Calls Try.prog 6 #[.int .u8 m, v, .int .i64 nz] w fun e w' => e = .returned (.bool true) ∧ Below w.heap.size w w' := by
  have HW := hid (awake13 w)
  have HLY := hid (fun W (hb : Below w.heap.size w W) => lay_any m hm v ac w.heap.size W hb.size (hx.below hb))
  obtain ⟨x, cp, rfl⟩ := hx.sl
  generalize runS (clearS (2 + ((m % 4 : Nat) : Int)) false) ac ac.length = s at HLY
  have HST := hid (fun b g n hn W h => start_any (b := b) (g := g) (s := s) n hn W h)
  have HRS := hid (fun b g n hn W h => rstart_any (b := b) (g := g) (s := s) n hn W h)
  have HRA := hid (fun b g W h => rstarts_any (b := b) (g := g) (s := s) W h)
  have HOP := hid (fun b g n hn W h => open_any (b := b) (g := g) (s := s) n hn W h)
  have HRO := hid (fun b g n hn W h => ropen_any (b := b) (g := g) (s := s) n hn W h)
  have HRF := hid (fun b g (a : Nat) (ha : a < s.L.length) W h => rfield_any (b := b) (g := g) (s := s) a ha W h)
  have HFY := hid (fun b g n hn a ha W h => fof_yes (b := b) (g := g) (s := s) n hn a ha W h)
  have HFN := hid (fun b g n hn ha W h => fof_no (b := b) (g := g) (s := s) n hn ha W h)
  have HNZ := hid hnz
  clear hx hnz hm
  go_enter Try.func6, Try.ntmps6
  go_wp2_with fail
  with_reducible refine HW.out.mono ?_
  rintro e w1 ⟨rfl, hb1⟩
  have HB1 := hid hb1
  clear hb1
  go_wp2_with fail
  with_reducible refine (HLY.out _ HB1.out).mono ?_
  rintro e w2 ⟨b1, g1, b2, g2, rfl, hd, -⟩
  have HD2 := hid (show SpM w2 b1 g1 s ∧ RfM w2 b2 g2 s ∧ Below w.heap.size w w2 from ⟨hd.sp, hd.rf, below_t HB1.out hd.bel⟩)
  clear hd HB1
  have hok := HD2.out.1.ok
  have hN := hok.pos
  obtain ⟨N, hNe⟩ : ∃ N : Nat, s.L.length = N := ⟨_, rfl⟩
  have HNE := hid hNe
  rw [hNe] at hN
  clear hok hNe
  go_wp2_with fail
  with_reducible refine (HRA.out b2 g2 _ HD2.out.2.1).mono ?_
  rintro e w3 ⟨hh, rfl, hg, ho, hb3⟩
  rw [HNE.out] at ho ⊢
  have HO := hid ho
  have HD3 := hid (show SpM w3 b1 g1 s ∧ RfM w3 b2 g2 s ∧ Below w.heap.size w w3 from ⟨HD2.out.1.below hb3, HD2.out.2.1.below hb3, below_t HD2.out.2.2 hb3⟩)
  clear hg ho hb3 HD2
  go_wp2_with fail
  go_loopw [26] (fun i W => ∃ q : Nat, q ≤ N ∧ i = .int .i64 q ∧ Hid (Below w3.heap.size w3 W)) (fun i _ => N - (intOf i).toNat)
  case atStart => exact ⟨0, by omega, rfl, Below.refl _ _⟩
  case round =>
    obtain ⟨q, hq, rfl, HB⟩ := hrel
    by_cases hqN : q < N
    · have hqi : (q : Int) < N := by omega
      have HQ := hid (show I64 (q : Int) from i64_small (by omega) (by omega))
      have HWQ := hid (show s.wr (q : Int) = q from wr_nat (by rw [HNE.out]; exact hqN))
      obtain ⟨xo, ho, hoe⟩ := (HO.out.below HB.out).at_ q hqN
      have hlo := World.block_lt_of_cell? wr _ ho
      have HXO := hid (hoe hqN)
      have HST1 := hid (fun W h => HST.out b1 g1 q HQ.out W h)
      rw [HWQ.out, HNE.out] at HST1
      clear hoe
      rcases stF_bd s.P (show q < N from hqN) with he | ⟨a, ha, -, he⟩
      · rw [he] at HXO
        obtain rfl := HXO.out
        have HFN1 := hid (fun W h => HFN.out b1 g1 q HQ.out (by rw [HWQ.out, HNE.out]; exact he) W h)
        rw [he] at HST1
        clear he
        go_wp2_with fail
        with_reducible refine (HFN1.out _ (HD3.out.1.below HB.out)).mono ?_
        rintro e w5 ⟨rfl, hb5⟩
        obtain ⟨WX, hWX⟩ : ∃ WX, w5.alloc (.cells #[.bool false, .bool false, .int .i64 0, .bool false] 70) = WX := ⟨_, rfl⟩
        have HBX := hid (show Below w3.heap.size w3 WX by rw [← hWX]; exact bal (below_t HB.out hb5) _)
        have HC0 := hid (show WX.cell? ⟨w5.heap.size, 0, none⟩ = some (.bool false) ∧ WX.cell? ⟨w5.heap.size, 1, none⟩ = some (.bool false) ∧ WX.cell? ⟨w5.heap.size, 2, none⟩ = some (.int .i64 0) ∧ WX.cell? ⟨w5.heap.size, 3, none⟩ = some (.bool false) ∧ Below WX.heap.size WX WX by
          rw [← hWX]
          exact ⟨by simp [go_sem], by simp [go_sem], by simp [go_sem], by simp [go_sem], Below.refl _ _⟩)
        have HWX := hid hWX
        clear hb5 hWX HB
        go_wp2_with fail
        simp only [HWX.out]
        refine wp_region_held_drew (S := fun V => V.cell? ⟨w5.heap.size, 0, none⟩ = some (.bool false) ∧ V.cell? ⟨w5.heap.size, 1, none⟩ = some (.bool false) ∧ V.cell? ⟨w5.heap.size, 2, none⟩ = some (.int .i64 0) ∧ V.cell? ⟨w5.heap.size, 3, none⟩ = some (.bool false) ∧ Below WX.heap.size WX V) (by kernel_rfl) ?_ (fun hHeld => ?_)
        · have hdr : Below WX.heap.size WX WX.drew := (Below.refl _ _).drew
          exact ⟨keepc hdr HC0.out.1, keepc hdr HC0.out.2.1, keepc hdr HC0.out.2.2.1, keepc hdr HC0.out.2.2.2.1, hdr⟩
        refine takeD (i := 0) (v := ?_) 37 rfl rfl (by kernel_rfl) (by kernel_rfl) (by kernel_rfl) (fun _ _ _ h => h) (by assumption) (Or.inl ⟨by rfl, ?_⟩) ?_
        rotate_left
        · intro w hSw
          (try dsimp only at hSw)
          go_simp
          try with_reducible rfl
        simp only [List.setIfInBounds_toArray, List.set_cons_zero, List.set_cons_succ]
        refine takeD (i := 1) (v := ?_) 38 rfl rfl (by kernel_rfl) (by kernel_rfl) (by kernel_rfl) (fun _ _ _ h => h) (by assumption) (Or.inl ⟨by rfl, ?_⟩) ?_
        rotate_left
        · intro w hSw
          (try dsimp only at hSw)
          go_simp
          try with_reducible rfl
        simp only [List.setIfInBounds_toArray, List.set_cons_zero, List.set_cons_succ]
        refine takeD (i := 3) (v := ?_) 40 rfl rfl (by kernel_rfl) (by kernel_rfl) (by kernel_rfl) (fun _ _ _ h => h) (by assumption) (Or.inl ⟨by rfl, ?_⟩) ?_
        rotate_left
        · intro w hSw
          (try dsimp only at hSw)
          go_simp
          try with_reducible rfl
        simp only [List.setIfInBounds_toArray, List.set_cons_zero, List.set_cons_succ]
        refine wpAnyH_ready (rs := [2]) (by kernel_rfl) (by simp) ?_
        refine AllReadyH.cons (by simp only [List.getElem?_toArray, List.getElem?_cons_succ, List.getElem?_cons_zero]; rfl) (fun K hK => ?_) AllReadyH.nil
        go_simp
        go_at_call 42; (with_reducible refine (HST1.out _ (HD3.out.1.below (below_t HBX.out hHeld.2.2.2.2))).mono ?_); rintro e w6 ⟨rfl, hb6⟩
        refine hK.out _ _ ?_ (fun hHeldN => ?_)
        · exact ⟨keepc hb6 hHeld.1, keepc hb6 hHeld.2.1, keepc hb6 hHeld.2.2.1, keepc hb6 hHeld.2.2.2.1, below_t hHeld.2.2.2.2 hb6⟩
        clear hK K hHeld
        have hHeld := hHeldN
        clear hHeldN
        (try simp only [Act.put, List.setIfInBounds_toArray, List.set_cons_zero, List.set_cons_succ])
        refine takeD (i := 4) (v := ?_) 41 rfl rfl (by kernel_rfl) (by kernel_rfl) (by kernel_rfl) (fun _ _ _ h => h) (by assumption) (Or.inl ⟨by rfl, ?_⟩) ?_
        rotate_left
        · intro w hSw
          (try dsimp only at hSw)
          go_simp
          try with_reducible rfl
        simp only [List.setIfInBounds_toArray, List.set_cons_zero, List.set_cons_succ]
        refine takeD (i := 5) (v := ?_) 42 rfl rfl (by kernel_rfl) (by kernel_rfl) (by kernel_rfl) (fun _ _ _ h => h) (by assumption) (Or.inl ⟨by rfl, ?_⟩) ?_
        rotate_left
        · intro w hSw
          (try dsimp only at hSw)
          go_simp
          try with_reducible rfl
        simp only [List.setIfInBounds_toArray, List.set_cons_zero, List.set_cons_succ]
        refine takeD (i := 6) (v := ?_) 43 rfl rfl (by kernel_rfl) (by kernel_rfl) (by kernel_rfl) (fun _ _ _ h => h) (by assumption) (Or.inl ⟨by rfl, ?_⟩) ?_
        rotate_left
        · intro w hSw
          (try dsimp only at hSw)
          go_simp
          try with_reducible rfl
        simp only [List.setIfInBounds_toArray, List.set_cons_zero, List.set_cons_succ]
        refine takeD (i := 7) (v := ?_) 44 rfl rfl (by kernel_rfl) (by kernel_rfl) (by kernel_rfl) (fun _ _ _ h => h) (by assumption) (Or.inl ⟨by rfl, ?_⟩) ?_
        rotate_left
        · intro w hSw
          (try dsimp only at hSw)
          go_simp
          try with_reducible rfl
        simp only [List.setIfInBounds_toArray, List.set_cons_zero, List.set_cons_succ]
        refine takeD (i := 8) (v := ?_) 45 rfl rfl (by kernel_rfl) (by kernel_rfl) (by kernel_rfl) (fun _ _ _ h => h) (by assumption) (Or.inl ⟨by rfl, ?_⟩) ?_
        rotate_left
        · intro w hSw
          (try dsimp only at hSw)
          go_simp
          try with_reducible rfl
        simp only [List.setIfInBounds_toArray, List.set_cons_zero, List.set_cons_succ]
        refine takeD (i := 9) (v := ?_) 46 rfl rfl (by kernel_rfl) (by kernel_rfl) (by kernel_rfl) (fun _ _ _ h => h) (by assumption) (Or.inl ⟨by rfl, ?_⟩) ?_
        rotate_left
        · intro w hSw
          (try dsimp only at hSw)
          go_simp
          try with_reducible rfl
        simp only [List.setIfInBounds_toArray, List.set_cons_zero, List.set_cons_succ]
        refine takeD (i := 10) (v := ?_) 47 rfl rfl (by kernel_rfl) (by kernel_rfl) (by kernel_rfl) (fun _ _ _ h => h) (by assumption) (Or.inl ⟨by rfl, ?_⟩) ?_
        rotate_left
        · intro w hSw
          (try dsimp only at hSw)
          go_simp
          try with_reducible rfl
        simp only [List.setIfInBounds_toArray, List.set_cons_zero, List.set_cons_succ]
        refine takeD (i := 11) (v := ?_) 48 rfl rfl (by kernel_rfl) (by kernel_rfl) (by kernel_rfl) (fun _ _ _ h => h) (by assumption) (Or.inl ⟨by rfl, ?_⟩) ?_
        rotate_left
        · intro w hSw
          (try dsimp only at hSw)
          go_simp
          try with_reducible rfl
        simp only [List.setIfInBounds_toArray, List.set_cons_zero, List.set_cons_succ]
        refine takeD (i := 12) (v := ?_) 49 rfl rfl (by kernel_rfl) (by kernel_rfl) (by kernel_rfl) (fun _ _ _ h => h) (by assumption) (Or.inl ⟨by rfl, ?_⟩) ?_
        rotate_left
        · intro w hSw
          (try dsimp only at hSw)
          go_simp
          try with_reducible rfl
        simp only [List.setIfInBounds_toArray, List.set_cons_zero, List.set_cons_succ]
        refine takeD (i := 13) (v := ?_) 50 rfl rfl (by kernel_rfl) (by kernel_rfl) (by kernel_rfl) (fun _ _ _ h => h) (by assumption) (Or.inl ⟨by rfl, ?_⟩) ?_
        rotate_left
        · intro w hSw
          (try dsimp only at hSw)
          go_simp
          try with_reducible rfl
        simp only [List.setIfInBounds_toArray, List.set_cons_zero, List.set_cons_succ]
        refine takeD (i := 14) (v := undef) 51 rfl rfl (by kernel_rfl) (by kernel_rfl) (by kernel_rfl) (fun _ _ _ h => h) (by assumption) (Or.inr ⟨by rfl, rfl⟩) ?_
        simp only [List.setIfInBounds_toArray, List.set_cons_zero, List.set_cons_succ]
        refine takeD (i := 15) (v := undef) 52 rfl rfl (by kernel_rfl) (by kernel_rfl) (by kernel_rfl) (fun _ _ _ h => h) (by assumption) (Or.inr ⟨by rfl, rfl⟩) ?_
        simp only [List.setIfInBounds_toArray, List.set_cons_zero, List.set_cons_succ]
        refine takeD (i := 16) (v := undef) 53 rfl rfl (by kernel_rfl) (by kernel_rfl) (by kernel_rfl) (fun _ _ _ h => h) (by assumption) (Or.inr ⟨by rfl, rfl⟩) ?_
        simp only [List.setIfInBounds_toArray, List.set_cons_zero, List.set_cons_succ]
        refine takeD (i := 17) (v := undef) 54 rfl rfl (by kernel_rfl) (by kernel_rfl) (by kernel_rfl) (fun _ _ _ h => h) (by assumption) (Or.inr ⟨by rfl, rfl⟩) ?_
        simp only [List.setIfInBounds_toArray, List.set_cons_zero, List.set_cons_succ]
        refine takeD (i := 18) (v := undef) 55 rfl rfl (by kernel_rfl) (by kernel_rfl) (by kernel_rfl) (fun _ _ _ h => h) (by assumption) (Or.inr ⟨by rfl, rfl⟩) ?_
        simp only [List.setIfInBounds_toArray, List.set_cons_zero, List.set_cons_succ]
        refine takeD (i := 19) (v := ?_) 56 rfl rfl (by kernel_rfl) (by kernel_rfl) (by kernel_rfl) (fun _ _ _ h => h) (by assumption) (Or.inl ⟨by rfl, ?_⟩) ?_
        rotate_left
        · intro w hSw
          (try dsimp only at hSw)
          go_simp
          try with_reducible rfl
        simp only [List.setIfInBounds_toArray, List.set_cons_zero, List.set_cons_succ]
        refine takeD (i := 20) (v := ?_) 57 rfl rfl (by kernel_rfl) (by kernel_rfl) (by kernel_rfl) (fun _ _ _ h => h) (by assumption) (Or.inl ⟨by rfl, ?_⟩) ?_
        rotate_left
        · intro w hSw
          (try dsimp only at hSw)
          go_simp
          try with_reducible rfl
        simp only [List.setIfInBounds_toArray, List.set_cons_zero, List.set_cons_succ]
        refine wpAnyH_done (by kernel_rfl) ?_ _
        have HE := hid hHeld
        clear hHeld
        have HBE := hid (below_t HBX.out HE.out.2.2.2.2)
        clear HE HC0 HBX
        by_cases h300 : 300 < q ∧ q + 300 < N
        · have h1 : (300 : Int) < q := by omega
          have h2 : (q : Int) + 300 < N := by omega
          have hw3 : IntKind.i64.wrap ((q : Int) + 300) = (q : Int) + 300 := wrapI (i64_small (by omega) (by omega))
          go_wp2
          go_roundw
          case rel => exact ⟨q + 1, by omega, by go_num, HBE.out⟩
          case measure => simp [intOf]; omega
        · have HOP1 := hid (fun W h => HOP.out b1 g1 q HQ.out W h)
          have HRO1 := hid (fun W h => HRO.out b2 g2 q HQ.out W h)
          by_cases h3 : 300 < q
          · have h1 : (300 : Int) < q := by omega
            have h2 : ¬ (q : Int) + 300 < N := by omega
            have hw3 : IntKind.i64.wrap ((q : Int) + 300) = (q : Int) + 300 := wrapI (i64_small (by omega) (by omega))
            go_wp2_with fail
            with_reducible refine (HOP1.out _ (HD3.out.1.below HBE.out)).mono ?_
            rintro e w8 ⟨rfl, hb8⟩
            have HB8 := hid (below_t HBE.out hb8)
            clear hb8
            go_wp2_with fail
            with_reducible refine (HRO1.out _ (HD3.out.2.1.below HB8.out)).mono ?_
            rintro e w9 ⟨rfl, hb9⟩
            have HB9 := hid (below_t HB8.out hb9)
            clear hb9
            go_wp2
            go_roundw
            case rel => exact ⟨q + 1, by omega, by go_num, HB9.out⟩
            case measure => simp [intOf]; omega
          · have h1 : ¬ (300 : Int) < q := by omega
            go_wp2_with fail
            with_reducible refine (HOP1.out _ (HD3.out.1.below HBE.out)).mono ?_
            rintro e w8 ⟨rfl, hb8⟩
            have HB8 := hid (below_t HBE.out hb8)
            clear hb8
            go_wp2_with fail
            with_reducible refine (HRO1.out _ (HD3.out.2.1.below HB8.out)).mono ?_
            rintro e w9 ⟨rfl, hb9⟩
            have HB9 := hid (below_t HB8.out hb9)
            clear hb9
            go_wp2
            go_roundw
            case rel => exact ⟨q + 1, by omega, by go_num, HB9.out⟩
            case measure => simp [intOf]; omega
      · rw [he] at HXO
        obtain rfl := HXO.out
        have hneg : ¬ ((a : Int) < 0) := by omega
        have hpos : (0 : Int) ≤ (a : Int) := by omega
        have HFN1 := hid (fun W h => HFY.out b1 g1 q HQ.out a (by rw [HWQ.out, HNE.out]; exact he) W h)
        have HRF1 := hid (fun W h => HRF.out b2 g2 a (by rw [HNE.out]; exact ha) W h)
        rw [he] at HST1
        obtain ⟨fp, fn, fd, fm, hf⟩ : ∃ p n d m, (s.cel a).fv = .agg #[.bool p, .bool n, .int .i64 d, .bool m] := ⟨_, _, _, _, rfl⟩
        rw [hf] at HFN1 HRF1
        clear he hf
        go_wp2_with fail
        with_reducible refine (HFN1.out _ (HD3.out.1.below HB.out)).mono ?_
        rintro e w5 ⟨rfl, hb5⟩
        obtain ⟨WX, hWX⟩ : ∃ WX, w5.alloc (.cells #[.bool fp, .bool fn, .int .i64 fd, .bool fm] 70) = WX := ⟨_, rfl⟩
        have HBX := hid (show Below w3.heap.size w3 WX by rw [← hWX]; exact bal (below_t HB.out hb5) _)
        have HC0 := hid (show WX.cell? ⟨w5.heap.size, 0, none⟩ = some (.bool fp) ∧ WX.cell? ⟨w5.heap.size, 1, none⟩ = some (.bool fn) ∧ WX.cell? ⟨w5.heap.size, 2, none⟩ = some (.int .i64 fd) ∧ WX.cell? ⟨w5.heap.size, 3, none⟩ = some (.bool fm) ∧ Below WX.heap.size WX WX by
          rw [← hWX]
          exact ⟨by simp [go_sem], by simp [go_sem], by simp [go_sem], by simp [go_sem], Below.refl _ _⟩)
        have HWX := hid hWX
        clear hb5 hWX HB
        go_wp2_with fail
        simp only [HWX.out]
        refine wp_region_held_drew (S := fun V => V.cell? ⟨w5.heap.size, 0, none⟩ = some (.bool fp) ∧ V.cell? ⟨w5.heap.size, 1, none⟩ = some (.bool fn) ∧ V.cell? ⟨w5.heap.size, 2, none⟩ = some (.int .i64 fd) ∧ V.cell? ⟨w5.heap.size, 3, none⟩ = some (.bool fm) ∧ Below WX.heap.size WX V) (by kernel_rfl) ?_ (fun hHeld => ?_)
        · have hdr : Below WX.heap.size WX WX.drew := (Below.refl _ _).drew
          exact ⟨keepc hdr HC0.out.1, keepc hdr HC0.out.2.1, keepc hdr HC0.out.2.2.1, keepc hdr HC0.out.2.2.2.1, hdr⟩
        refine takeD (i := 0) (v := ?_) 37 rfl rfl (by kernel_rfl) (by kernel_rfl) (by kernel_rfl) (fun _ _ _ h => h) (by assumption) (Or.inl ⟨by rfl, ?_⟩) ?_
        rotate_left
        · intro w hSw
          (try dsimp only at hSw)
          go_simp
          try with_reducible rfl
        simp only [List.setIfInBounds_toArray, List.set_cons_zero, List.set_cons_succ]
        refine takeD (i := 1) (v := ?_) 38 rfl rfl (by kernel_rfl) (by kernel_rfl) (by kernel_rfl) (fun _ _ _ h => h) (by assumption) (Or.inl ⟨by rfl, ?_⟩) ?_
        rotate_left
        · intro w hSw
          (try dsimp only at hSw)
          go_simp
          try with_reducible rfl
        simp only [List.setIfInBounds_toArray, List.set_cons_zero, List.set_cons_succ]
        refine takeD (i := 3) (v := ?_) 40 rfl rfl (by kernel_rfl) (by kernel_rfl) (by kernel_rfl) (fun _ _ _ h => h) (by assumption) (Or.inl ⟨by rfl, ?_⟩) ?_
        rotate_left
        · intro w hSw
          (try dsimp only at hSw)
          go_simp
          try with_reducible rfl
        simp only [List.setIfInBounds_toArray, List.set_cons_zero, List.set_cons_succ]
        refine wpAnyH_ready (rs := [2]) (by kernel_rfl) (by simp) ?_
        refine AllReadyH.cons (by simp only [List.getElem?_toArray, List.getElem?_cons_succ, List.getElem?_cons_zero]; rfl) (fun K hK => ?_) AllReadyH.nil
        go_simp
        go_at_call 42; (with_reducible refine (HST1.out _ (HD3.out.1.below (below_t HBX.out hHeld.2.2.2.2))).mono ?_); rintro e w6 ⟨rfl, hb6⟩
        refine hK.out _ _ ?_ (fun hHeldN => ?_)
        · exact ⟨keepc hb6 hHeld.1, keepc hb6 hHeld.2.1, keepc hb6 hHeld.2.2.1, keepc hb6 hHeld.2.2.2.1, below_t hHeld.2.2.2.2 hb6⟩
        clear hK K hHeld
        have hHeld := hHeldN
        clear hHeldN
        (try simp only [Act.put, List.setIfInBounds_toArray, List.set_cons_zero, List.set_cons_succ])
        refine takeD (i := 4) (v := ?_) 41 rfl rfl (by kernel_rfl) (by kernel_rfl) (by kernel_rfl) (fun _ _ _ h => h) (by assumption) (Or.inl ⟨by rfl, ?_⟩) ?_
        rotate_left
        · intro w hSw
          (try dsimp only at hSw)
          go_simp
          try with_reducible rfl
        simp only [List.setIfInBounds_toArray, List.set_cons_zero, List.set_cons_succ]
        refine takeD (i := 5) (v := ?_) 42 rfl rfl (by kernel_rfl) (by kernel_rfl) (by kernel_rfl) (fun _ _ _ h => h) (by assumption) (Or.inl ⟨by rfl, ?_⟩) ?_
        rotate_left
        · intro w hSw
          (try dsimp only at hSw)
          go_simp
          try with_reducible rfl
        simp only [List.setIfInBounds_toArray, List.set_cons_zero, List.set_cons_succ]
        refine takeD (i := 6) (v := ?_) 43 rfl rfl (by kernel_rfl) (by kernel_rfl) (by kernel_rfl) (fun _ _ _ h => h) (by assumption) (Or.inl ⟨by rfl, ?_⟩) ?_
        rotate_left
        · intro w hSw
          (try dsimp only at hSw)
          go_simp
          try with_reducible rfl
        simp only [List.setIfInBounds_toArray, List.set_cons_zero, List.set_cons_succ]
        refine takeD (i := 7) (v := ?_) 44 rfl rfl (by kernel_rfl) (by kernel_rfl) (by kernel_rfl) (fun _ _ _ h => h) (by assumption) (Or.inl ⟨by rfl, ?_⟩) ?_
        rotate_left
        · intro w hSw
          (try dsimp only at hSw)
          go_simp
          try with_reducible rfl
        simp only [List.setIfInBounds_toArray, List.set_cons_zero, List.set_cons_succ]
        refine takeD (i := 8) (v := ?_) 45 rfl rfl (by kernel_rfl) (by kernel_rfl) (by kernel_rfl) (fun _ _ _ h => h) (by assumption) (Or.inl ⟨by rfl, ?_⟩) ?_
        rotate_left
        · intro w hSw
          (try dsimp only at hSw)
          go_simp
          try with_reducible rfl
        simp only [List.setIfInBounds_toArray, List.set_cons_zero, List.set_cons_succ]
        refine takeD (i := 9) (v := ?_) 46 rfl rfl (by kernel_rfl) (by kernel_rfl) (by kernel_rfl) (fun _ _ _ h => h) (by assumption) (Or.inl ⟨by rfl, ?_⟩) ?_
        rotate_left
        · intro w hSw
          (try dsimp only at hSw)
          go_simp
          try with_reducible rfl
        simp only [List.setIfInBounds_toArray, List.set_cons_zero, List.set_cons_succ]
        refine takeD (i := 10) (v := ?_) 47 rfl rfl (by kernel_rfl) (by kernel_rfl) (by kernel_rfl) (fun _ _ _ h => h) (by assumption) (Or.inl ⟨by rfl, ?_⟩) ?_
        rotate_left
        · intro w hSw
          (try dsimp only at hSw)
          go_simp
          try with_reducible rfl
        simp only [List.setIfInBounds_toArray, List.set_cons_zero, List.set_cons_succ]
        refine takeD (i := 11) (v := ?_) 48 rfl rfl (by kernel_rfl) (by kernel_rfl) (by kernel_rfl) (fun _ _ _ h => h) (by assumption) (Or.inl ⟨by rfl, ?_⟩) ?_
        rotate_left
        · intro w hSw
          (try dsimp only at hSw)
          go_simp
          try with_reducible rfl
        simp only [List.setIfInBounds_toArray, List.set_cons_zero, List.set_cons_succ]
        refine takeD (i := 12) (v := ?_) 49 rfl rfl (by kernel_rfl) (by kernel_rfl) (by kernel_rfl) (fun _ _ _ h => h) (by assumption) (Or.inl ⟨by rfl, ?_⟩) ?_
        rotate_left
        · intro w hSw
          (try dsimp only at hSw)
          go_simp
          try with_reducible rfl
        simp only [List.setIfInBounds_toArray, List.set_cons_zero, List.set_cons_succ]
        refine takeD (i := 13) (v := ?_) 50 rfl rfl (by kernel_rfl) (by kernel_rfl) (by kernel_rfl) (fun _ _ _ h => h) (by assumption) (Or.inl ⟨by rfl, ?_⟩) ?_
        rotate_left
        · intro w hSw
          (try dsimp only at hSw)
          go_simp
          try with_reducible rfl
        simp only [List.setIfInBounds_toArray, List.set_cons_zero, List.set_cons_succ]
        refine takeD (i := 14) (v := ?_) 51 rfl rfl (by kernel_rfl) (by kernel_rfl) (by kernel_rfl) (fun _ _ _ h => h) (by assumption) (Or.inl ⟨by rfl, ?_⟩) ?_
        rotate_left
        · intro w hSw
          (try dsimp only at hSw)
          go_simp
          try with_reducible rfl
        simp only [List.setIfInBounds_toArray, List.set_cons_zero, List.set_cons_succ]
        refine takeD (i := 15) (v := ?_) 52 rfl rfl (by kernel_rfl) (by kernel_rfl) (by kernel_rfl) (fun _ _ _ h => h) (by assumption) (Or.inl ⟨by rfl, ?_⟩) ?_
        rotate_left
        · intro w hSw
          (try dsimp only at hSw)
          go_simp
          try with_reducible rfl
        simp only [List.setIfInBounds_toArray, List.set_cons_zero, List.set_cons_succ]
        refine takeD (i := 16) (v := ?_) 53 rfl rfl (by kernel_rfl) (by kernel_rfl) (by kernel_rfl) (fun _ _ _ h => h) (by assumption) (Or.inl ⟨by rfl, ?_⟩) ?_
        rotate_left
        · intro w hSw
          (try dsimp only at hSw)
          go_simp
          try with_reducible rfl
        simp only [List.setIfInBounds_toArray, List.set_cons_zero, List.set_cons_succ]
        refine wpAnyH_ready (rs := [17]) (by kernel_rfl) (by simp) ?_
        refine AllReadyH.cons (by simp only [List.getElem?_toArray, List.getElem?_cons_succ, List.getElem?_cons_zero]; rfl) (fun K hK => ?_) AllReadyH.nil
        go_simp
        go_at_call 43; (with_reducible refine (HRF1.out _ (HD3.out.2.1.below (below_t HBX.out hHeld.2.2.2.2))).mono ?_); rintro e w7 ⟨rfl, hb7⟩
        refine hK.out _ _ ?_ (fun hHeldN => ?_)
        · exact ⟨keepc hb7 hHeld.1, keepc hb7 hHeld.2.1, keepc hb7 hHeld.2.2.1, keepc hb7 hHeld.2.2.2.1, below_t hHeld.2.2.2.2 hb7⟩
        clear hK K hHeld
        have hHeld := hHeldN
        clear hHeldN
        (try simp only [Act.put, List.setIfInBounds_toArray, List.set_cons_zero, List.set_cons_succ])
        refine takeD (i := 18) (v := ?_) 55 rfl rfl (by kernel_rfl) (by kernel_rfl) (by kernel_rfl) (fun _ _ _ h => h) (by assumption) (Or.inl ⟨by rfl, ?_⟩) ?_
        rotate_left
        · intro w hSw
          (try dsimp only at hSw)
          go_simp
          try with_reducible rfl
        simp only [List.setIfInBounds_toArray, List.set_cons_zero, List.set_cons_succ]
        refine takeD (i := 19) (v := ?_) 56 rfl rfl (by kernel_rfl) (by kernel_rfl) (by kernel_rfl) (fun _ _ _ h => h) (by assumption) (Or.inl ⟨by rfl, ?_⟩) ?_
        rotate_left
        · intro w hSw
          (try dsimp only at hSw)
          go_simp
          try with_reducible rfl
        simp only [List.setIfInBounds_toArray, List.set_cons_zero, List.set_cons_succ]
        refine takeD (i := 20) (v := ?_) 57 rfl rfl (by kernel_rfl) (by kernel_rfl) (by kernel_rfl) (fun _ _ _ h => h) (by assumption) (Or.inl ⟨by rfl, ?_⟩) ?_
        rotate_left
        · intro w hSw
          (try dsimp only at hSw)
          go_simp
          try with_reducible rfl
        simp only [List.setIfInBounds_toArray, List.set_cons_zero, List.set_cons_succ]
        refine wpAnyH_done (by kernel_rfl) ?_ _
        have HE := hid hHeld
        clear hHeld
        have HBE := hid (below_t HBX.out HE.out.2.2.2.2)
        clear HE HC0 HBX
        by_cases h300 : 300 < q ∧ q + 300 < N
        · have h1 : (300 : Int) < q := by omega
          have h2 : (q : Int) + 300 < N := by omega
          have hw3 : IntKind.i64.wrap ((q : Int) + 300) = (q : Int) + 300 := wrapI (i64_small (by omega) (by omega))
          go_wp2
          go_roundw
          case rel => exact ⟨q + 1, by omega, by go_num, HBE.out⟩
          case measure => simp [intOf]; omega
        · have HOP1 := hid (fun W h => HOP.out b1 g1 q HQ.out W h)
          have HRO1 := hid (fun W h => HRO.out b2 g2 q HQ.out W h)
          by_cases h3 : 300 < q
          · have h1 : (300 : Int) < q := by omega
            have h2 : ¬ (q : Int) + 300 < N := by omega
            have hw3 : IntKind.i64.wrap ((q : Int) + 300) = (q : Int) + 300 := wrapI (i64_small (by omega) (by omega))
            go_wp2_with fail
            with_reducible refine (HOP1.out _ (HD3.out.1.below HBE.out)).mono ?_
            rintro e w8 ⟨rfl, hb8⟩
            have HB8 := hid (below_t HBE.out hb8)
            clear hb8
            go_wp2_with fail
            with_reducible refine (HRO1.out _ (HD3.out.2.1.below HB8.out)).mono ?_
            rintro e w9 ⟨rfl, hb9⟩
            have HB9 := hid (below_t HB8.out hb9)
            clear hb9
            go_wp2
            go_roundw
            case rel => exact ⟨q + 1, by omega, by go_num, HB9.out⟩
            case measure => simp [intOf]; omega
          · have h1 : ¬ (300 : Int) < q := by omega
            go_wp2_with fail
            with_reducible refine (HOP1.out _ (HD3.out.1.below HBE.out)).mono ?_
            rintro e w8 ⟨rfl, hb8⟩
            have HB8 := hid (below_t HBE.out hb8)
            clear hb8
            go_wp2_with fail
            with_reducible refine (HRO1.out _ (HD3.out.2.1.below HB8.out)).mono ?_
            rintro e w9 ⟨rfl, hb9⟩
            have HB9 := hid (below_t HB8.out hb9)
            clear hb9
            go_wp2
            go_roundw
            case rel => exact ⟨q + 1, by omega, by go_num, HB9.out⟩
            case measure => simp [intOf]; omega
    · obtain rfl : q = N := by omega
      go_wp2_with fail
      with_reducible refine (HST.out b1 g1 nz HNZ.out _ (HD3.out.1.below HB.out)).mono ?_
      rintro e wa ⟨rfl, hba⟩
      have HA := hid (below_t HB.out hba)
      clear hba HB
      go_wp2_with fail
      with_reducible refine (HRS.out b2 g2 nz HNZ.out _ (HD3.out.2.1.below HA.out)).mono ?_
      rintro e wb ⟨rfl, hbb⟩
      have HBB := hid (below_t HA.out hbb)
      clear hbb HA
      go_wp2_with fail
      with_reducible refine (HOP.out b1 g1 nz HNZ.out _ (HD3.out.1.below HBB.out)).mono ?_
      rintro e wc ⟨rfl, hbc⟩
      have HC := hid (below_t HBB.out hbc)
      clear hbc HBB
      go_wp2_with fail
      with_reducible refine (HRO.out b2 g2 nz HNZ.out _ (HD3.out.2.1.below HC.out)).mono ?_
      rintro e wd ⟨rfl, hbd⟩
      have HDD := hid (below_t HC.out hbd)
      clear hbd HC
      go_wp2
      go_ret
      exact ⟨rfl, below_t HD3.out.2.2 HDD.out⟩
end Go.Proofs.Ytdaainifnbbhiaa
