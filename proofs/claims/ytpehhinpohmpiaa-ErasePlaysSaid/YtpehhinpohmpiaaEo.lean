/-
  EraseBack: the law's own walk.
-/
import Derived.Test.YtpehhinpohmpiaaEn
import Derived.Test.YtpehhinpohmpiaaEj
namespace Go.Proofs.Ytpehhinpohmpiaa
open Go.RowKit Go.Lib Go.Deep

theorem delS_alike (t : Spc) (n : Int) : Alike t (delS t n) := ((delR_alike t n _ _).put _ _).trans (modS_alike _ _)
theorem rowS_len {s : Spc} (n : Int) : (rowS s n).length ≤ s.L.length := (row_is s n).le
theorem collectW_any (b g : Nat) (s : Spc) (n : Int) (hn : I64 n) (bx by_ : Nat) (w : World) (h : SpM w b g s) (h1 : w.cell? ⟨bx, 0, none⟩ = some (.pointer (some ⟨b, 0, none⟩))) (h2 : w.cell? ⟨by_, 0, none⟩ = some (.int .i64 n)) : Calls Try.prog 25 #[.func (.func 78) #[] #[.pointer (some ⟨bx, 0, none⟩), .pointer (some ⟨by_, 0, none⟩)]] w (IntsD ((rowS s n).map Int.ofNat) w) :=
  collect_any 78 #[.pointer (some ⟨bx, 0, none⟩), .pointer (some ⟨by_, 0, none⟩)] (rowS s n) (by have := rowS_len (s := s) n; have := h.ok.pos; omega) (RRo bx by_ b s.L.length s.r s.c n s.P) (enters_of Try.func78 (by kernel_rfl) rfl)
    (fun V => row_seq 7 (by omega) bx by_ b s.L.length s.r s.c n h.ok.sz h.ok.len.symm hn s.P V) w (fun V hV => ⟨keepc hV h1, keepc hV h2, g, s, h.below hV, rfl, rfl, rfl, rfl⟩)
set_option maxRecDepth 100000 in
set_option maxHeartbeats 8000000 in
theorem eback_any (m : Nat) (hm : m < 256) (v : Value) (ac : List ActD) (n : Int) (hn : I64 n) (c : Nat) (hc : c < 256) (w : World) (hx : ActsIn w.heap.size w v ac) : Calls Try.prog 5 #[.int .u8 m, v, .int .i64 n, .int .u8 c] w fun e w' => e = .returned (.bool true) ∧ Below w.heap.size w w' := by
  have HW := hid (awake14 w)
  have HLY := hid (fun W (hb : Below w.heap.size w W) => lay_any m hm v ac w.heap.size W hb.size (hx.below hb))
  obtain ⟨x, cp, rfl⟩ := hx.sl
  have hc8 : U8 (c : Int) := ⟨by omega, by omega⟩
  have HNI := hid hn
  generalize runS (clearS (2 + ((m % 4 : Nat) : Int)) false) ac ac.length = s at HLY
  clear hx hm hn hc
  go_enter Try.func5, Try.ntmps5
  go_wp2_with fail
  with_reducible refine HW.out.mono ?_
  rintro e w1 ⟨rfl, hb1⟩
  have HB1 := hid hb1
  clear hb1
  go_wp2_with fail
  with_reducible refine (HLY.out _ HB1.out).mono ?_
  rintro e w2 ⟨b1, g1, b2, g2, rfl, hd, -⟩
  have HD := hid (show SpM w2 b1 g1 s ∧ RfM w2 b2 g2 s ∧ Below w.heap.size w w2 ∧ (∀ k ∈ [b1, g1], k ∉ [b2, g2]) ∧ w.heap.size ≤ b1 ∧ w.heap.size ≤ g1 ∧ b1 < w2.heap.size ∧ g1 < w2.heap.size from ⟨hd.sp, hd.rf, below_t HB1.out hd.bel, hd.ap, Nat.le_trans HB1.out.size (hd.lb b1 (by simp)), Nat.le_trans HB1.out.size (hd.lb g1 (by simp)), hd.sp.lt.1, hd.sp.lt.2⟩)
  have hok := hd.sp.ok
  have hNp := hok.pos
  have hr0 := row_is s n
  obtain ⟨a, ha⟩ : ∃ a, s.wr n = a := ⟨_, rfl⟩
  obtain ⟨K, hK⟩ : ∃ K, (rowS s n).length = K := ⟨_, rfl⟩
  rw [ha, hK] at hr0
  obtain ⟨ys, hys⟩ : ∃ ys, (rowS s n).map Int.ofNat = ys := ⟨_, rfl⟩
  have HYS := hid (show ys.length = K by rw [← hys, List.length_map]; exact hK)
  have HYG := hid (show ∀ i, i < K → ys.getD i 0 = ((a + i : Nat) : Int) from fun i hi => by
    have q := hr0.get i hi
    rw [List.getD_eq_getElem?_getD, List.getElem?_eq_getElem (by rw [hK]; exact hi)] at q
    rw [← hys, List.getD_eq_getElem?_getD, List.getElem?_map, List.getElem?_eq_getElem (by rw [hK]; exact hi)]
    show Int.ofNat (rowS s n)[i] = _
    rw [show (rowS s n)[i] = a + i from q]
    rfl)
  have hKN := hr0.le
  have HRR := hid (fun W h => rrow_any (b := b2) (g := g2) (s := s) n HNI.out W h)
  have HRI := hid (fun W => rowIt (some ⟨b1, 0, none⟩) n W)
  have HCO := hid (fun bx by_ W h h1 h2 => collectW_any b1 g1 s n HNI.out bx by_ W h h1 h2)
  rw [hys] at HRR HCO
  rw [hK] at HRR
  have HEQ := hid (fun u v W (hu : W.ownsRow 0 3 1 u K (intsV ys)) (hv : W.ownsRow 0 3 1 v K (intsV ys)) => equalI_any u v ys W (by rw [HYS.out]; exact hu) (by rw [HYS.out]; exact hv) (by rw [HYS.out]; omega))
  have HIN := hid (fun W h => insert_any (b := b1) (g := g1) (s := s) n HNI.out (c : Int) hc8 W h)
  have HBA := hid (fun (hh : hasB s a K = true) hl => back_all hok hr0 (c : Int) hh hl)
  have HDE := hid (fun W h => callsIn_wide.1 (delete_in (b := b1) (g := g1) (s := insS s n c) 8 (by omega) n HNI.out W h))
  rw [openB_ins hok] at HDE
  have HATN := hid (fun W h => at_any (b := b1) (g := g1) (s := insS s n c) n HNI.out W h)
  have HATC := hid (show ((insS s n c).atC n) = (insS s n c).cel a by unfold Spc.atC; rw [(insS_alike s n c).wr, ha])
  have HAT := hid (fun p (hp : p < s.L.length) W h => (show Calls Try.prog 20 #[.pointer (some ⟨b1, 0, none⟩), .int .i64 (p : Nat)] W fun e w' => e = .returned ((delS (insS s n c) n).cel p).v ∧ Below W.heap.size W w' from by
    have q := at_any (b := b1) (g := g1) (s := delS (insS s n c) n) (p : Int) (i64_small (by omega) (by omega)) W h
    unfold Spc.atC at q
    rwa [wr_nat (by rw [(delS_alike _ n).len, (insS_alike s n c).len]; exact hp)] at q))
  have HRC := hid (fun p (hp : p < s.L.length) W (h : RfM W b2 g2 s) => (show W.cell? ⟨b2, 4, none⟩ = some (.slice (some ⟨g2, 0, none⟩) s.L.length s.L.length) ∧ W.cell? ⟨g2, p * 6, none⟩ = some (.int .u8 (s.cel p).ch) from ⟨h.h4, (h.row.six p hp _ rfl).1⟩))
  have HPN := hid (fun k (hk : k < K) => (hr0.at_ k hk).1)
  have HOI := hid (fun (h : insB s n = true) => (show openB s n = true from by unfold insB at h; rw [Bool.and_eq_true] at h; exact h.1))
  have HLL := hid hNp
  obtain ⟨N, hNe⟩ : ∃ N : Nat, s.L.length = N := ⟨_, rfl⟩
  rw [hNe] at HAT HRC HPN hKN
  rw [hNe] at hNp
  clear hd HB1 hys hK ha hr0 hok HLL
  go_wp2_with fail
  with_reducible refine (HRR.out _ HD.out.2.1).mono ?_
  rintro e w3 ⟨vr, rfl, hor, hkr, hb3⟩
  obtain ⟨y, cr, rfl⟩ := row_any hor
  have HOR := hid hor
  have HKR := hid hkr
  have HB3 := hid hb3
  clear hor hkr hb3
  by_cases hK0 : K = 0
  · subst hK0
    go_wp2_with fail
    with_reducible refine (HRI.out _).mono ?_
    rintro e w4 ⟨bx, by_, rfl, -, -, hcx, hcy, hb4⟩
    have HB4 := hid (below_t HB3.out hb4)
    have HXY := hid (And.intro hcx hcy)
    clear hb4 hcx hcy
    go_wp2_with fail
    with_reducible refine (HCO.out bx by_ _ (HD.out.1.below HB4.out) HXY.out.1 HXY.out.2).mono ?_
    rintro e w5 ⟨vl, rfl, hol, hkl, hb5⟩
    rw [HYS.out] at hol
    obtain ⟨z, cz, rfl⟩ := row_any hol
    have HB5 := hid (below_t HB4.out hb5)
    clear hol hkl hb5
    go_wp2
    go_ret
    exact ⟨rfl, below_t HD.out.2.2.1 HB5.out⟩
  · have hKi : ¬ (K : Int) = 0 := by omega
    go_wp2_with fail
    with_reducible refine (HRI.out _).mono ?_
    rintro e w4 ⟨bx, by_, rfl, -, -, hcx, hcy, hb4⟩
    have HB4 := hid (below_t HB3.out hb4)
    have HO4 := hid (own_below HOR.out hb4)
    have HXY := hid (And.intro hcx hcy)
    clear hb4 hcx hcy
    go_wp2_with fail
    with_reducible refine (HCO.out bx by_ _ (HD.out.1.below HB4.out) HXY.out.1 HXY.out.2).mono ?_
    rintro e w5 ⟨vl, rfl, hol, hkl, hb5⟩
    rw [HYS.out] at hol
    have HOL := hid hol
    obtain ⟨z, cz, rfl⟩ := row_any hol
    have HB5 := hid (below_t HB4.out hb5)
    have HO5 := hid (own_below HO4.out hb5)
    clear hol hkl hb5 HO4
    go_wp2_with fail
    with_reducible refine (HEQ.out _ _ _ HOL.out HO5.out).mono ?_
    rintro e w6 ⟨rfl, hb6⟩
    have HB6 := hid (below_t HB5.out hb6)
    obtain ⟨gy, rfl, hgy, hcy⟩ : ∃ gy, y = some ⟨gy, 0, none⟩ ∧ w2.heap.size ≤ gy ∧ ∀ i, i < K → w6.cell? ⟨gy, i, none⟩ = some (.int .i64 ((a + i : Nat) : Int)) := by
      have ho := own_below HO5.out hb6
      rcases ints_cells (xs := ys) (by rw [HYS.out]; exact ho) with ⟨x, cc, e, hx⟩ | ⟨gg, cc, e, hc⟩
      · have : K = 0 := by rw [← HYS.out, hx]; rfl
        omega
      · injection e with e1
        refine ⟨gg, e1, HKR.out gg (by rw [e1]; simp [blkV, Value.ownBlock]), fun i hi => ?_⟩
        have q := hc i (by rw [HYS.out]; exact hi)
        rw [Nat.zero_add, HYG.out i hi] at q
        exact q
    have HCY := hid hcy
    have HGY := hid hgy
    clear hb6 hcy hgy HOL HO5 HOR HKR
    go_wp2_with fail
    go_loopw [54, 12, 13] (fun i h l W => ∃ k : Nat, k ≤ K ∧ i = .int .i64 k ∧ h = .bool (hasB s a k) ∧ l = .bool (lateB s a k) ∧ Hid (Below w6.heap.size w6 W)) (fun i _ _ _ => K - (RowKit.intOf i).toNat)
    case atStart => exact ⟨0, by omega, rfl, rfl, rfl, Below.refl _ _⟩
    case round =>
      obtain ⟨k, hk, rfl, rfl, rfl, HB⟩ := hrel
      by_cases hkK : k < K
      · have hki : (k : Int) < K := by omega
        have hpN := HPN.out k hkK
        have HRF := hid ((HD.out.2.1.below HB6.out).below HB.out)
        obtain ⟨c4, cc⟩ := HRC.out (a + k) hpN _ HRF.out
        have cy := keepc HB.out (HCY.out k hkK)
        have l4 := World.block_lt_of_cell? wr _ c4
        have lc := World.block_lt_of_cell? wr _ cc
        have ly := World.block_lt_of_cell? wr _ cy
        have HNX := hid (show hasB s a (k + 1) = (hasB s a k || ((s.cel (a + k)).ch == 0)) ∧ lateB s a (k + 1) = (lateB s a k || (hasB s a (k + 1) && ((s.cel (a + k)).ch != 0))) from ⟨rfl, rfl⟩)
        obtain ⟨p, hp⟩ : ∃ p, a + k = p := ⟨_, rfl⟩
        rw [hp] at hpN cc cy HNX
        have hpi : (p : Int) < N := by omega
        generalize (s.cel p).ch = ch at cc HNX
        generalize hasB s a k = H at HNX ⊢
        generalize lateB s a k = L at HNX ⊢
        clear hp
        by_cases hz : ch = 0
        · subst hz
          cases H <;> cases L <;>
          · go_wp2
            go_roundw
            case rel => exact ⟨k + 1, by omega, by go_num, by rw [HNX.out.1]; rfl, by rw [HNX.out.2, HNX.out.1]; rfl, HB.out⟩
            case measure => simp [RowKit.intOf]; omega
        · have hzb : (ch == 0) = false := beq_eq_false_iff_ne.2 hz
          have hzn : (ch != 0) = true := bne_iff_ne.2 hz
          cases H <;> cases L <;>
          · go_wp2
            go_roundw
            case rel => exact ⟨k + 1, by omega, by go_num, by rw [HNX.out.1, hzb]; rfl, by rw [HNX.out.2, HNX.out.1, hzb, hzn]; rfl, HB.out⟩
            case measure => simp [RowKit.intOf]; omega
      · obtain rfl : k = K := by omega
        have HW6 := hid (below_t HD.out.2.2.1 (below_t HB6.out HB.out))
        have HS6 := hid ((HD.out.1.below HB6.out).below HB.out)
        have HR6 := hid ((HD.out.2.1.below HB6.out).below HB.out)
        cases hh : hasB s a k
        · go_wp2
          go_ret
          exact ⟨rfl, HW6.out⟩
        · cases hl : lateB s a k
          · go_wp2_with fail
            with_reducible refine (HIN.out _ HS6.out).mono ?_
            rintro e w7 ⟨rfl, hs7, hm7⟩
            have HM7 := hid hm7
            have HW7 := hid (HW6.out.trans (hm7.toBelow HW6.out.size (fun k hk => by
              simp at hk
              rcases hk with rfl | rfl
              · exact HD.out.2.2.2.2.1
              · exact HD.out.2.2.2.2.2.1)))
            cases hi : insB s n
            · clear hs7 hm7
              go_wp2
              go_ret
              exact ⟨rfl, HW7.out⟩
            · rw [hi, if_pos rfl] at hs7
              rw [HOI.out hi] at HDE
              have HBK := hid (HBA.out hh hl)
              have HS7 := hid hs7
              have hce := HBK.out.1
              rw [← HATC.out] at hce
              generalize (insS s n c).atC n = cl at HATN hce
              obtain ⟨x0, x1, x2, x3, x4, x5⟩ := cl
              dsimp only at hce
              subst hce
              have hf0 := celf0
              clear hs7 hm7 HATC
              go_wp2_with fail
              with_reducible refine (HATN.out _ HS7.out).mono ?_
              rintro e w8 ⟨rfl, hb8⟩
              have HB8 := hid hb8
              clear hb8
              go_wp2_with fail
              with_reducible refine (HDE.out _ (HS7.out.below HB8.out)).mono ?_
              rintro e w9 ⟨rfl, hs9, hm9⟩
              rw [if_pos trivial] at hs9
              have HS9 := hid hs9
              have HM9 := hid ((HM7.out.trans (Moved.below HB8.out [b1, g1])).trans hm9)
              have HW9 := hid ((HW7.out.trans (HB8.out.mono HW7.out.size)).trans (hm9.toBelow (Nat.le_trans HW7.out.size HB8.out.size) (fun k hk => by
                simp at hk
                rcases hk with rfl | rfl
                · exact HD.out.2.2.2.2.1
                · exact HD.out.2.2.2.2.2.1)))
              have HR9 := hid (HR6.out.moved HM9.out (fun q => HD.out.2.2.2.1 b2 q (by simp)) (fun q => HD.out.2.2.2.1 g2 q (by simp)))
              have HC9 := hid (fun i (hi : i < k) => (show w9.cell? ⟨gy, i, none⟩ = some (.int .i64 ((a + i : Nat) : Int)) from cell_moved HM9.out (keepc HB.out (HCY.out i hi)) (by
                have := HGY.out
                have := HD.out.2.2.2.2.2.2
                simp
                omega)))
              clear hs9 hm9 HM7 HM9 HB8 HCY HGY
              go_wp2_with fail
              go_loopw [112] (fun i W => ∃ q : Nat, q ≤ k ∧ i = .int .i64 q ∧ Hid (Below w9.heap.size w9 W)) (fun i _ => k - (RowKit.intOf i).toNat)
              case atStart => exact ⟨0, by omega, rfl, Below.refl _ _⟩
              case round =>
                obtain ⟨q, hq, rfl, HBQ⟩ := hrel
                by_cases hqk : q < k
                · have hqi : (q : Int) < k := by omega
                  have hpN := HPN.out q hqk
                  obtain ⟨c4, cc⟩ := HRC.out (a + q) hpN _ (HR9.out.below HBQ.out)
                  have cy := keepc HBQ.out (HC9.out q hqk)
                  have ly := World.block_lt_of_cell? wr _ cy
                  have hce := HBK.out.2 q hqk
                  have HA1 := hid (fun W h => HAT.out (a + q) hpN W h)
                  obtain ⟨p, hp⟩ : ∃ p, a + q = p := ⟨_, rfl⟩
                  rw [hp] at hpN cc cy HA1 hce
                  have hpi : (p : Int) < N := by omega
                  generalize (delS (insS s n (c : Int)) n).cel p = cl at HA1 hce
                  obtain ⟨z0, z1, z2, z3, z4, z5⟩ := cl
                  dsimp only at hce
                  rw [← hce] at cc
                  clear hp hce
                  go_wp2_with fail
                  refine wp_region_held_drew (S := fun V => V.cell? ⟨b2, 4, none⟩ = some (.slice (some ⟨g2, 0, none⟩) N N) ∧ V.cell? ⟨g2, p * 6, none⟩ = some (.int .u8 z0) ∧ Below wr.heap.size wr V) (by kernel_rfl) ?_ (fun hHeld => ?_)
                  · have hdr : Below wr.heap.size wr wr.drew := (Below.refl _ _).drew
                    exact ⟨keepc hdr c4, keepc hdr cc, hdr⟩
                  refine takeD (i := 0) (v := ?_) 116 rfl rfl (by kernel_rfl) (by kernel_rfl) (by kernel_rfl) (fun _ _ _ h => h) (by assumption) (Or.inl ⟨by rfl, ?_⟩) ?_
                  rotate_left
                  · intro w hSw
                    (try dsimp only at hSw)
                    go_simp
                    try with_reducible rfl
                  simp only [List.setIfInBounds_toArray, List.set_cons_zero, List.set_cons_succ]
                  refine takeD (i := 1) (v := ?_) 117 rfl rfl (by kernel_rfl) (by kernel_rfl) (by kernel_rfl) (fun _ _ _ h => h) (by assumption) (Or.inl ⟨by rfl, ?_⟩) ?_
                  rotate_left
                  · intro w hSw
                    (try dsimp only at hSw)
                    go_simp
                    try with_reducible rfl
                  simp only [List.setIfInBounds_toArray, List.set_cons_zero, List.set_cons_succ]
                  refine takeD (i := 4) (v := ?_) 120 rfl rfl (by kernel_rfl) (by kernel_rfl) (by kernel_rfl) (fun _ _ _ h => h) (by assumption) (Or.inl ⟨by rfl, ?_⟩) ?_
                  rotate_left
                  · intro w hSw
                    (try dsimp only at hSw)
                    go_simp
                    try with_reducible rfl
                  simp only [List.setIfInBounds_toArray, List.set_cons_zero, List.set_cons_succ]
                  refine takeD (i := 5) (v := ?_) 121 rfl rfl (by kernel_rfl) (by kernel_rfl) (by kernel_rfl) (fun _ _ _ h => h) (by assumption) (Or.inl ⟨by rfl, ?_⟩) ?_
                  rotate_left
                  · intro w hSw
                    (try dsimp only at hSw)
                    go_simp
                    try with_reducible rfl
                  simp only [List.setIfInBounds_toArray, List.set_cons_zero, List.set_cons_succ]
                  refine takeD (i := 6) (v := ?_) 122 rfl rfl (by kernel_rfl) (by kernel_rfl) (by kernel_rfl) (fun _ _ _ h => h) (by assumption) (Or.inl ⟨by rfl, ?_⟩) ?_
                  rotate_left
                  · intro w hSw
                    (try dsimp only at hSw)
                    go_simp
                    try with_reducible rfl
                  simp only [List.setIfInBounds_toArray, List.set_cons_zero, List.set_cons_succ]
                  refine takeD (i := 7) (v := ?_) 123 rfl rfl (by kernel_rfl) (by kernel_rfl) (by kernel_rfl) (fun _ _ _ h => h) (by assumption) (Or.inl ⟨by rfl, ?_⟩) ?_
                  rotate_left
                  · intro w hSw
                    (try dsimp only at hSw)
                    go_simp
                    try with_reducible rfl
                  simp only [List.setIfInBounds_toArray, List.set_cons_zero, List.set_cons_succ]
                  refine takeD (i := 8) (v := ?_) 124 rfl rfl (by kernel_rfl) (by kernel_rfl) (by kernel_rfl) (fun _ _ _ h => h) (by assumption) (Or.inl ⟨by rfl, ?_⟩) ?_
                  rotate_left
                  · intro w hSw
                    (try dsimp only at hSw)
                    go_simp
                    try with_reducible rfl
                  simp only [List.setIfInBounds_toArray, List.set_cons_zero, List.set_cons_succ]
                  refine takeD (i := 9) (v := ?_) 125 rfl rfl (by kernel_rfl) (by kernel_rfl) (by kernel_rfl) (fun _ _ _ h => h) (by assumption) (Or.inl ⟨by rfl, ?_⟩) ?_
                  rotate_left
                  · intro w hSw
                    (try dsimp only at hSw)
                    go_simp
                    try with_reducible rfl
                  simp only [List.setIfInBounds_toArray, List.set_cons_zero, List.set_cons_succ]
                  refine takeD (i := 10) (v := ?_) 126 rfl rfl (by kernel_rfl) (by kernel_rfl) (by kernel_rfl) (fun _ _ _ h => h) (by assumption) (Or.inl ⟨by rfl, ?_⟩) ?_
                  rotate_left
                  · intro w hSw
                    (try dsimp only at hSw)
                    go_simp
                    try with_reducible rfl
                  simp only [List.setIfInBounds_toArray, List.set_cons_zero, List.set_cons_succ]
                  refine takeD (i := 11) (v := ?_) 127 rfl rfl (by kernel_rfl) (by kernel_rfl) (by kernel_rfl) (fun _ _ _ h => h) (by assumption) (Or.inl ⟨by rfl, ?_⟩) ?_
                  rotate_left
                  · intro w hSw
                    (try dsimp only at hSw)
                    go_simp
                    try with_reducible rfl
                  simp only [List.setIfInBounds_toArray, List.set_cons_zero, List.set_cons_succ]
                  refine wpAnyH_ready (rs := [2]) (by kernel_rfl) (by simp) ?_
                  refine AllReadyH.cons (by simp only [List.getElem?_toArray, List.getElem?_cons_succ, List.getElem?_cons_zero]; rfl) (fun K hK => ?_) AllReadyH.nil
                  go_simp
                  go_at_call 20; (with_reducible refine (HA1.out _ ((HS9.out.below HBQ.out).below hHeld.2.2)).mono ?_); rintro e w10 ⟨rfl, hb10⟩
                  refine hK.out _ _ ?_ (fun hHeldN => ?_)
                  · exact ⟨keepc hb10 hHeld.1, keepc hb10 hHeld.2.1, below_t hHeld.2.2 hb10⟩
                  clear hK K hHeld
                  have hHeld := hHeldN
                  clear hHeldN
                  (try simp only [Act.put, List.setIfInBounds_toArray, List.set_cons_zero, List.set_cons_succ])
                  refine takeD (i := 3) (v := ?_) 119 rfl rfl (by kernel_rfl) (by kernel_rfl) (by kernel_rfl) (fun _ _ _ h => h) (by assumption) (Or.inl ⟨by rfl, ?_⟩) ?_
                  rotate_left
                  · intro w hSw
                    (try dsimp only at hSw)
                    go_simp
                    try with_reducible rfl
                  simp only [List.setIfInBounds_toArray, List.set_cons_zero, List.set_cons_succ]
                  refine takeD (i := 12) (v := ?_) 128 rfl rfl (by kernel_rfl) (by kernel_rfl) (by kernel_rfl) (fun _ _ _ h => h) (by assumption) (Or.inl ⟨by rfl, ?_⟩) ?_
                  rotate_left
                  · intro w hSw
                    (try dsimp only at hSw)
                    go_simp
                    try with_reducible rfl
                  simp only [List.setIfInBounds_toArray, List.set_cons_zero, List.set_cons_succ]
                  refine wpAnyH_done (by kernel_rfl) ?_ _
                  have HE := hid hHeld
                  clear hHeld
                  have HE2 := hid (HBQ.out.trans (HE.out.2.2.mono HBQ.out.size))
                  clear HE
                  go_wp2
                  go_roundw
                  case rel => exact ⟨q + 1, by omega, by go_num, HE2.out⟩
                  case measure => simp [RowKit.intOf]; omega
                · obtain rfl : q = k := by omega
                  go_wp2
                  go_ret
                  exact ⟨rfl, below_t HW9.out HBQ.out⟩
          · go_wp2
            go_ret
            exact ⟨rfl, HW6.out⟩
end Go.Proofs.Ytpehhinpohmpiaa
