/-
  query: the size, the number; the names of the codes.
-/
import Derived.Test.YtdpgmepblmlaaaaDoorTd
namespace Go.Proofs.YtdpgmepblmlaaaaDoor
open Go.RowKit Go.Lib Go.Deep

theorem ret_eq {a b : Int} (h : a = b) : Ending.returned (.int .i64 a) = .returned (.int .i64 b) := by rw [h]
theorem ret_eq3 {a b a' b' : Int} {c : Bool} (h : a = a') (k : b = b') : Ending.returned (.tuple #[.int .i64 a, .int .i64 b, .bool c]) = .returned (.tuple #[.int .i64 a', .int .i64 b', .bool c]) := by rw [h, k]
theorem ret_eq2 {a a' : Int} {c : Bool} (h : a = a') : Ending.returned (.tuple #[.int .i64 a, .bool c]) = .returned (.tuple #[.int .i64 a', .bool c]) := by rw [h]
def sizF (ps : List Int) : Int × Int × Bool := match fnd (repF ps).2 129 7 with
  | none => (0, 0, false)
  | some d => (num2 d 5, num2 d 3, true)
def nmbF (ps : List Int) : Int × Bool := match fnd (repF ps).2 133 15 with
  | none => (0, false)
  | some d => (num2 d 13, true)
def rnbF (ps : List Int) (c : Int) (at_ len : Nat) : Int := match fnd (repF ps).2 c len with
  | none => -1
  | some d => num2 d at_
set_option maxRecDepth 100000 in
set_option maxHeartbeats 4000000 in
theorem size_of (v : Value) (ps : List Int) (w : World) (h : Reads w v ps) (hl : ps.length ≤ 1000000) : Calls Tryd.prog 39 #[v] w fun e w' => e = .returned (.tuple #[.int .i64 (sizF ps).1, .int .i64 (sizF ps).2.1, .bool (sizF ps).2.2]) ∧ Below w.heap.size w w' := by
  have HFD := hid (show Calls Tryd.prog 64 #[v, .int .u8 129, .int .i64 7] w (FdD (fnd (repF ps).2 129 7) w) from find_any v ps 129 7 w h hl)
  unfold sizF
  have hfl := fun d (q : fnd (repF ps).2 129 7 = some d) => fnd_len q
  obtain ⟨x0, c0, rfl⟩ := reads_sl h
  generalize fnd (repF ps).2 129 7 = r at HFD hfl ⊢
  clear h
  go_enter Tryd.func39, Tryd.ntmps39
  go_wp2_with fail
  with_reducible refine HFD.out.mono ?_
  rintro e w1 ⟨⟨rfl, rfl⟩ | ⟨d, u, rfl, rfl, ho⟩, hb1⟩
  · dsimp only
    have HB := hid hb1
    clear hfl hb1
    go_wp2
    exact bodyPost_ret (v := .tuple #[.int .i64 0, .int .i64 0, .bool false]) (by simp [results, Tryd.results39, go_sem]) rfl ⟨rfl, HB.out⟩
  · dsimp only
    have hd := hfl d rfl
    have HN1 := hid (show Calls Tryd.prog 65 #[u, .int .i64 5] w1 (fun e w' => e = .returned (.int .i64 (num2 d 5)) ∧ Below w1.heap.size w1 w') from numberAt_any u d 5 w1 ho.reads (by omega) (by omega))
    have HN2 := hid (fun W (hW : Below w1.heap.size w1 W) => (show Calls Tryd.prog 65 #[u, .int .i64 3] W (fun e w' => e = .returned (.int .i64 (num2 d 3)) ∧ Below W.heap.size W w') from numberAt_any u d 3 W (ho.step hW).reads (by omega) (by omega)))
    have HB := hid hb1
    obtain ⟨xd, nd, cd, rfl⟩ := own_slice ho
    clear hfl hb1 hd ho
    obtain ⟨a, ha⟩ : ∃ a, num2 d 5 = a := ⟨_, rfl⟩
    obtain ⟨b, hb⟩ : ∃ b, num2 d 3 = b := ⟨_, rfl⟩
    rw [ha] at HN1
    rw [hb] at HN2
    have HA := hid ha
    have HBB := hid hb
    clear ha hb
    go_wp2_with fail
    with_reducible refine HN1.out.mono ?_
    rintro e w2 ⟨rfl, hb2⟩
    have HN20 := hid (HN2.out w2 hb2)
    have HB2 := hid (below_t HB.out hb2)
    clear hb2 HN2
    go_wp2_with fail
    with_reducible refine HN20.out.mono ?_
    rintro e w3 ⟨rfl, hb3⟩
    have HB3 := hid (below_t HB2.out hb3)
    clear hb3
    go_wp2
    exact bodyPost_ret (v := .tuple #[.int .i64 a, .int .i64 b, .bool true]) (by simp [results, Tryd.results39, go_sem]) rfl ⟨ret_eq3 HA.out.symm HBB.out.symm, HB3.out⟩
set_option maxRecDepth 100000 in
set_option maxHeartbeats 4000000 in
theorem number_of (v : Value) (ps : List Int) (w : World) (h : Reads w v ps) (hl : ps.length ≤ 1000000) : Calls Tryd.prog 40 #[v] w fun e w' => e = .returned (.tuple #[.int .i64 (nmbF ps).1, .bool (nmbF ps).2]) ∧ Below w.heap.size w w' := by
  have HFD := hid (show Calls Tryd.prog 64 #[v, .int .u8 133, .int .i64 15] w (FdD (fnd (repF ps).2 133 15) w) from find_any v ps 133 15 w h hl)
  unfold nmbF
  have hfl := fun d (q : fnd (repF ps).2 133 15 = some d) => fnd_len q
  obtain ⟨x0, c0, rfl⟩ := reads_sl h
  generalize fnd (repF ps).2 133 15 = r at HFD hfl ⊢
  clear h
  go_enter Tryd.func40, Tryd.ntmps40
  go_wp2_with fail
  with_reducible refine HFD.out.mono ?_
  rintro e w1 ⟨⟨rfl, rfl⟩ | ⟨d, u, rfl, rfl, ho⟩, hb1⟩
  · dsimp only
    have HB := hid hb1
    clear hfl hb1
    go_wp2
    go_ret2
    exact ⟨rfl, HB.out⟩
  · dsimp only
    have hd := hfl d rfl
    have HN1 := hid (show Calls Tryd.prog 65 #[u, .int .i64 13] w1 (fun e w' => e = .returned (.int .i64 (num2 d 13)) ∧ Below w1.heap.size w1 w') from numberAt_any u d 13 w1 ho.reads (by omega) (by omega))
    have HB := hid hb1
    obtain ⟨xd, nd, cd, rfl⟩ := own_slice ho
    clear hfl hb1 hd ho
    obtain ⟨a, ha⟩ : ∃ a, num2 d 13 = a := ⟨_, rfl⟩
    rw [ha] at HN1
    have HA := hid ha
    clear ha
    go_wp2_with fail
    with_reducible refine HN1.out.mono ?_
    rintro e w2 ⟨rfl, hb2⟩
    have HB2 := hid (below_t HB.out hb2)
    clear hb2
    go_wp2
    go_ret2
    exact ⟨ret_eq2 HA.out.symm, HB2.out⟩
set_option maxRecDepth 100000 in
set_option maxHeartbeats 4000000 in
theorem rnumber_of (v : Value) (ps : List Int) (c : Int) (at_ len : Nat) (hal : at_ + 2 ≤ len) (hlen : len ≤ 1000) (w : World) (h : Reads w v ps) (hl : ps.length ≤ 1000000) : Calls Tryd.prog 44 #[v, .int .u8 c, .int .i64 at_, .int .i64 len] w fun e w' => e = .returned (.int .i64 (rnbF ps c at_ len)) ∧ Below w.heap.size w w' := by
  have HRP := hid (rreplies_any v ps w h hl)
  have hne := repF_ne ps
  have hrl := repF_len ps hl
  unfold rnbF
  obtain ⟨x0, c0, rfl⟩ := reads_sl h
  generalize ps.length = L0 at *
  generalize repF ps = r at HRP hne hrl ⊢
  obtain ⟨er, ds⟩ := r
  dsimp only at hne hrl ⊢
  obtain ⟨R, hR⟩ : ∃ R, (match fnd ds c len with | none => (-1 : Int) | some d => num2 d at_) = R := ⟨_, rfl⟩
  rw [hR]
  have HR := hid hR
  clear h hR
  go_enter Tryd.func44, Tryd.ntmps44
  go_wp2_with fail
  with_reducible refine HRP.out.mono ?_
  rintro e w1 ⟨lv, xs, rfl, hxd, hM, hb1⟩
  dsimp only at hxd ⊢
  have HB1 := hid hb1
  obtain ⟨xl, cl, rfl⟩ := row_any hM.row
  have hxl : xs.length ≤ 1000000 := by have h1 := congrArg List.length hxd; rw [List.length_map] at h1; omega
  obtain ⟨g1, cap1, e1, -, -, hat⟩ := hM.at
  injection e1 with e1a e1b e1c
  subst e1a e1c
  have HAT := hid hat
  have HHD := hid (fun k (hk : k < xs.length) => head_len hxd hne k hk)
  have HRD := hid (fun k (hk : k < xs.length) => (hM.txt _ (List.getElem_mem hk)).reads)
  have HGD := hid (fun k (hk : k < xs.length) => (show ds[k]? = some xs[k].d from by rw [← hxd, List.getElem?_map, List.getElem?_eq_getElem hk]; rfl))
  have HNN := hid (fun (q : ∀ x ∈ xs, x.d.getD 0 0 ≠ c) => fnd_none (ds := ds) (c := c) (len := len) (fun d hd => by
    rw [← hxd] at hd
    obtain ⟨x, hx, rfl⟩ := List.mem_map.1 hd
    exact q x hx))
  obtain ⟨N, hN⟩ : ∃ N, xs.length = N := ⟨_, rfl⟩
  have HN := hid hN
  rw [hN] at hxl ⊢
  clear hb1 hxd hM hat e1b hN HRP hrl hne
  go_wp2_with fail
  go_loopw [20] (fun i wr => ∃ k : Nat, k ≤ N ∧ i = .int .i64 k ∧ Hid (∀ j (hj : j < xs.length), j < k → xs[j].d.getD 0 0 ≠ c) ∧ Hid (Below w1.heap.size w1 wr)) (fun i _ => N - (intOf i).toNat)
  case atStart => exact ⟨0, Nat.zero_le _, rfl, hid (fun j _ q => absurd q (Nat.not_lt_zero j)), hid (Below.refl _ _)⟩
  case round =>
    obtain ⟨k, hk, rfl, HNO, HB⟩ := hrel
    by_cases hlt : k < N
    · have hki : (k : Int) < N := by omega
      have hkx : k < xs.length := by rw [HN.out]; exact hlt
      obtain ⟨g, rfl, hg, a0⟩ := HAT.out k hkx
      have hpos := HHD.out k hkx
      have hrd := HRD.out k hkx
      have hgd := HGD.out k hkx
      have HST := hid (fun (q : xs[k].d.getD 0 0 ≠ c) => (show ∀ j (hj : j < xs.length), j < k + 1 → xs[j].d.getD 0 0 ≠ c from fun j hj hjk => by
        rcases Nat.lt_succ_iff_lt_or_eq.1 hjk with r | r
        · exact HNO.out j hj r
        · subst r; exact q))
      have HHIT := hid (fun (q : xs[k].d.getD 0 0 = c) => find_hit hgd q (fun j hj x hx => by
        have hjx : j < xs.length := by omega
        rw [HGD.out j hjx] at hx
        injection hx with hx
        rw [← hx]
        exact HNO.out j hjx hj))
      generalize xs[k] = x at a0 hpos hrd HST HHIT
      obtain ⟨ys, tv⟩ := x
      dsimp only at a0 hpos hrd HST HHIT
      have hrd2 := reads_below hrd HB.out
      obtain ⟨xt, ct, rfl⟩ := reads_sl hrd2
      have a0 := (HB.out.cell (p := ⟨g, k, none⟩) hg).trans a0
      obtain ⟨gt, ot, rfl, d0, _, _⟩ := reads_at hrd2 0 hpos
      rw [Nat.add_zero] at d0
      have hpi : (0 : Int) < ys.length := by omega
      by_cases hh : ys.getD 0 0 = c
      · have hfd := HHIT.out hh
        rw [hh] at d0
        by_cases hsh : ys.length < len
        · have HFN := hid (fnd_short hfd hsh)
          have hsi : (ys.length : Int) < len := by omega
          clear hfd hh hgd HST HHIT hrd hrd2
          generalize ys.length = nt at *
          go_wp2
          go_ret
          exact ⟨ret_eq (by rw [← HR.out, HFN.out]), below_t HB1.out HB.out⟩
        · have HFN := hid (fnd_some hfd hsh)
          have hsi : ¬ (ys.length : Int) < len := by omega
          obtain ⟨g2, o2, q2, d1, _, _⟩ := reads_at hrd2 at_ (by omega)
          injection q2 with q2
          injection q2 with q2 q2'
          subst q2 q2'
          obtain ⟨g3, o3, q3, d2, _, _⟩ := reads_at hrd2 (at_ + 1) (by omega)
          injection q3 with q3
          injection q3 with q3 q3'
          subst q3 q3'
          obtain ⟨x0', x1'⟩ := BytL.getD hrd2.1 at_
          obtain ⟨y0', y1'⟩ := BytL.getD hrd2.1 (at_ + 1)
          have HNU := hid (show num2 ys at_ = 256 * ys.getD at_ 0 + ys.getD (at_ + 1) 0 from rfl)
          have l1 : (at_ : Int) < ys.length := by omega
          have l2 : (at_ : Int) + 1 < ys.length := by omega
          have l3 : at_ < ys.length := by omega
          have l4 : at_ + 1 < ys.length := by omega
          have l5 : (0 : Int) ≤ (at_ : Int) + 1 := by omega
          have l6 : ¬ (at_ : Int) + 1 < 0 := by omega
          generalize ys.getD at_ 0 = a at *
          generalize ys.getD (at_ + 1) 0 = b at *
          clear hfd hh hgd HST HHIT hrd hrd2
          generalize ys.length = nt at *
          have e1 : IntKind.i64.wrap a = a := wraps_i64 a (by omega) (by omega)
          have e2 : IntKind.i64.wrap b = b := wraps_i64 b (by omega) (by omega)
          have e3 : IntKind.i64.wrap (256 * a) = 256 * a := wraps_i64 _ (by omega) (by omega)
          have e4 : IntKind.i64.wrap (256 * a + b) = 256 * a + b := wraps_i64 _ (by omega) (by omega)
          have e5 : IntKind.i64.wrap ((at_ : Int) + 1) = (at_ : Int) + 1 := wraps_i64 _ (by omega) (by omega)
          have hdr : Below wr.heap.size wr wr.drew := (Below.refl _ _).drew
          have HX := hid (And.intro (keepc hdr d1) (And.intro (keepc hdr d2) hdr))
          clear d1 d2 hdr
          go_wp2
          go_region_held3 (fun w' => w'.cell? ⟨gt, ot + at_, none⟩ = some (.int .u8 a) ∧ w'.cell? ⟨gt, ot + (at_ + 1), none⟩ = some (.int .u8 b) ∧ Below wr.heap.size wr w') (first | exact HX.out | fail) (first | fail)
          rename_i hH
          have HBE := hid hH.2.2
          clear hH HX
          go_wp2
          go_ret
          exact ⟨ret_eq (by rw [← HR.out, HFN.out]; exact HNU.out.symm), below_t HB1.out (below_t HB.out HBE.out)⟩
      · have HS1 := hid (HST.out hh)
        have hhb : (ys.getD 0 0 == c) = false := by simpa using hh
        have hhb' : (ys.getD 0 0 != c) = true := by simpa using hh
        clear hh hgd HST HHIT hrd hrd2
        generalize ys.length = nt at *
        generalize ys.getD 0 0 = b0 at *
        go_wp2
        go_roundw
        case rel => exact ⟨k + 1, by omega, by go_num, HS1, HB⟩
        case measure => simp [intOf]; omega
    · have hkn : N = k := by omega
      subst hkn
      have HFN := hid (HNN.out (fun x hx => by
        obtain ⟨j, hj, rfl⟩ := List.mem_iff_getElem.1 hx
        exact HNO.out j hj (by rw [← HN.out]; exact hj)))
      go_wp2
      go_ret
      exact ⟨ret_eq (by rw [← HR.out, HFN.out]), below_t HB1.out HB.out⟩
set_option maxRecDepth 100000 in
set_option maxHeartbeats 4000000 in
theorem qnum_128 (W : World) : Calls Tryd.prog 75 #[.string ⟨#[56, 48]⟩] W fun e w' => e = .returned (.int .i64 128) ∧ w' = W := by
  go_enter Tryd.func75, Tryd.ntmps75
  go_wp2_with fail
  go_loopw [4, 3] (fun i n wr => wr = W ∧ (i = .int .i64 0 ∧ n = .int .i64 0 ∨ i = .int .i64 1 ∧ n = .int .i64 8 ∨ i = .int .i64 2 ∧ n = .int .i64 128)) (fun i _ _ => 2 - (RowKit.intOf i).toNat)
  case atStart => exact ⟨rfl, .inl ⟨rfl, rfl⟩⟩
  case round =>
    obtain ⟨rfl, ⟨rfl, rfl⟩ | ⟨rfl, rfl⟩ | ⟨rfl, rfl⟩⟩ := hrel
    · go_wp2
      go_roundw
      case rel => exact ⟨by simp, .inr (.inl ⟨rfl, rfl⟩)⟩
      case measure => simp [RowKit.intOf]
    · go_wp2
      go_roundw
      case rel => exact ⟨by simp, .inr (.inr ⟨rfl, rfl⟩)⟩
      case measure => simp [RowKit.intOf]
    · go_wp2
      go_ret
      exact ⟨rfl, rfl⟩
set_option maxRecDepth 100000 in
set_option maxHeartbeats 4000000 in
theorem qnum_129 (W : World) : Calls Tryd.prog 75 #[.string ⟨#[56, 49]⟩] W fun e w' => e = .returned (.int .i64 129) ∧ w' = W := by
  go_enter Tryd.func75, Tryd.ntmps75
  go_wp2_with fail
  go_loopw [4, 3] (fun i n wr => wr = W ∧ (i = .int .i64 0 ∧ n = .int .i64 0 ∨ i = .int .i64 1 ∧ n = .int .i64 8 ∨ i = .int .i64 2 ∧ n = .int .i64 129)) (fun i _ _ => 2 - (RowKit.intOf i).toNat)
  case atStart => exact ⟨rfl, .inl ⟨rfl, rfl⟩⟩
  case round =>
    obtain ⟨rfl, ⟨rfl, rfl⟩ | ⟨rfl, rfl⟩ | ⟨rfl, rfl⟩⟩ := hrel
    · go_wp2
      go_roundw
      case rel => exact ⟨by simp, .inr (.inl ⟨rfl, rfl⟩)⟩
      case measure => simp [RowKit.intOf]
    · go_wp2
      go_roundw
      case rel => exact ⟨by simp, .inr (.inr ⟨rfl, rfl⟩)⟩
      case measure => simp [RowKit.intOf]
    · go_wp2
      go_ret
      exact ⟨rfl, rfl⟩
set_option maxRecDepth 100000 in
set_option maxHeartbeats 4000000 in
theorem qnum_133 (W : World) : Calls Tryd.prog 75 #[.string ⟨#[56, 53]⟩] W fun e w' => e = .returned (.int .i64 133) ∧ w' = W := by
  go_enter Tryd.func75, Tryd.ntmps75
  go_wp2_with fail
  go_loopw [4, 3] (fun i n wr => wr = W ∧ (i = .int .i64 0 ∧ n = .int .i64 0 ∨ i = .int .i64 1 ∧ n = .int .i64 8 ∨ i = .int .i64 2 ∧ n = .int .i64 133)) (fun i _ _ => 2 - (RowKit.intOf i).toNat)
  case atStart => exact ⟨rfl, .inl ⟨rfl, rfl⟩⟩
  case round =>
    obtain ⟨rfl, ⟨rfl, rfl⟩ | ⟨rfl, rfl⟩ | ⟨rfl, rfl⟩⟩ := hrel
    · go_wp2
      go_roundw
      case rel => exact ⟨by simp, .inr (.inl ⟨rfl, rfl⟩)⟩
      case measure => simp [RowKit.intOf]
    · go_wp2
      go_roundw
      case rel => exact ⟨by simp, .inr (.inr ⟨rfl, rfl⟩)⟩
      case measure => simp [RowKit.intOf]
    · go_wp2
      go_ret
      exact ⟨rfl, rfl⟩
set_option maxRecDepth 100000 in
set_option maxHeartbeats 4000000 in
theorem qnum_134 (W : World) : Calls Tryd.prog 75 #[.string ⟨#[56, 54]⟩] W fun e w' => e = .returned (.int .i64 134) ∧ w' = W := by
  go_enter Tryd.func75, Tryd.ntmps75
  go_wp2_with fail
  go_loopw [4, 3] (fun i n wr => wr = W ∧ (i = .int .i64 0 ∧ n = .int .i64 0 ∨ i = .int .i64 1 ∧ n = .int .i64 8 ∨ i = .int .i64 2 ∧ n = .int .i64 134)) (fun i _ _ => 2 - (RowKit.intOf i).toNat)
  case atStart => exact ⟨rfl, .inl ⟨rfl, rfl⟩⟩
  case round =>
    obtain ⟨rfl, ⟨rfl, rfl⟩ | ⟨rfl, rfl⟩ | ⟨rfl, rfl⟩⟩ := hrel
    · go_wp2
      go_roundw
      case rel => exact ⟨by simp, .inr (.inl ⟨rfl, rfl⟩)⟩
      case measure => simp [RowKit.intOf]
    · go_wp2
      go_roundw
      case rel => exact ⟨by simp, .inr (.inr ⟨rfl, rfl⟩)⟩
      case measure => simp [RowKit.intOf]
    · go_wp2
      go_ret
      exact ⟨rfl, rfl⟩
set_option maxRecDepth 100000 in
set_option maxHeartbeats 4000000 in
theorem qnum_135 (W : World) : Calls Tryd.prog 75 #[.string ⟨#[56, 55]⟩] W fun e w' => e = .returned (.int .i64 135) ∧ w' = W := by
  go_enter Tryd.func75, Tryd.ntmps75
  go_wp2_with fail
  go_loopw [4, 3] (fun i n wr => wr = W ∧ (i = .int .i64 0 ∧ n = .int .i64 0 ∨ i = .int .i64 1 ∧ n = .int .i64 8 ∨ i = .int .i64 2 ∧ n = .int .i64 135)) (fun i _ _ => 2 - (RowKit.intOf i).toNat)
  case atStart => exact ⟨rfl, .inl ⟨rfl, rfl⟩⟩
  case round =>
    obtain ⟨rfl, ⟨rfl, rfl⟩ | ⟨rfl, rfl⟩ | ⟨rfl, rfl⟩⟩ := hrel
    · go_wp2
      go_roundw
      case rel => exact ⟨by simp, .inr (.inl ⟨rfl, rfl⟩)⟩
      case measure => simp [RowKit.intOf]
    · go_wp2
      go_roundw
      case rel => exact ⟨by simp, .inr (.inr ⟨rfl, rfl⟩)⟩
      case measure => simp [RowKit.intOf]
    · go_wp2
      go_ret
      exact ⟨rfl, rfl⟩
set_option maxRecDepth 100000 in
set_option maxHeartbeats 4000000 in
theorem qnum_136 (W : World) : Calls Tryd.prog 75 #[.string ⟨#[56, 56]⟩] W fun e w' => e = .returned (.int .i64 136) ∧ w' = W := by
  go_enter Tryd.func75, Tryd.ntmps75
  go_wp2_with fail
  go_loopw [4, 3] (fun i n wr => wr = W ∧ (i = .int .i64 0 ∧ n = .int .i64 0 ∨ i = .int .i64 1 ∧ n = .int .i64 8 ∨ i = .int .i64 2 ∧ n = .int .i64 136)) (fun i _ _ => 2 - (RowKit.intOf i).toNat)
  case atStart => exact ⟨rfl, .inl ⟨rfl, rfl⟩⟩
  case round =>
    obtain ⟨rfl, ⟨rfl, rfl⟩ | ⟨rfl, rfl⟩ | ⟨rfl, rfl⟩⟩ := hrel
    · go_wp2
      go_roundw
      case rel => exact ⟨by simp, .inr (.inl ⟨rfl, rfl⟩)⟩
      case measure => simp [RowKit.intOf]
    · go_wp2
      go_roundw
      case rel => exact ⟨by simp, .inr (.inr ⟨rfl, rfl⟩)⟩
      case measure => simp [RowKit.intOf]
    · go_wp2
      go_ret
      exact ⟨rfl, rfl⟩
set_option maxRecDepth 100000 in
set_option maxHeartbeats 4000000 in
theorem qnum_166 (W : World) : Calls Tryd.prog 75 #[.string ⟨#[97, 54]⟩] W fun e w' => e = .returned (.int .i64 166) ∧ w' = W := by
  go_enter Tryd.func75, Tryd.ntmps75
  go_wp2_with fail
  go_loopw [4, 3] (fun i n wr => wr = W ∧ (i = .int .i64 0 ∧ n = .int .i64 0 ∨ i = .int .i64 1 ∧ n = .int .i64 10 ∨ i = .int .i64 2 ∧ n = .int .i64 166)) (fun i _ _ => 2 - (RowKit.intOf i).toNat)
  case atStart => exact ⟨rfl, .inl ⟨rfl, rfl⟩⟩
  case round =>
    obtain ⟨rfl, ⟨rfl, rfl⟩ | ⟨rfl, rfl⟩ | ⟨rfl, rfl⟩⟩ := hrel
    · go_wp2
      go_roundw
      case rel => exact ⟨by simp, .inr (.inl ⟨rfl, rfl⟩)⟩
      case measure => simp [RowKit.intOf]
    · go_wp2
      go_roundw
      case rel => exact ⟨by simp, .inr (.inr ⟨rfl, rfl⟩)⟩
      case measure => simp [RowKit.intOf]
    · go_wp2
      go_ret
      exact ⟨rfl, rfl⟩
end Go.Proofs.YtdpgmepblmlaaaaDoor
