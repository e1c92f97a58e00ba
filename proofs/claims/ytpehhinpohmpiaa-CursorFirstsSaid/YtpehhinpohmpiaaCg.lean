/-
  CursorFirsts: the law's own walk.
-/
import Derived.Test.YtpehhinpohmpiaaCf
namespace Go.Proofs.Ytpehhinpohmpiaa
open Go.RowKit Go.Lib Go.Deep

set_option maxRecDepth 100000 in
set_option maxHeartbeats 8000000 in
theorem firsts_any (m : Nat) (hm : m < 256) (v : Value) (ac : List ActD) (u : Value) (xs : List Int) (w : World) (hx : ActsIn w.heap.size w v ac) (hu : NumsIn w.heap.size w u xs) : Calls Try.prog 11 #[.int .u8 m, v, u] w fun e w' => e = .returned (.bool true) ∧ Below w.heap.size w w' := by
  have HW := hid (awake15 w)
  have HLY := hid (fun W (hb : Below w.heap.size w W) => lay15_any m hm v ac w.heap.size W hb.size (hx.below hb))
  obtain ⟨x, cp, rfl⟩ := hx.sl
  obtain ⟨y, cq, rfl⟩ := hu.sl
  have HU := hid hu
  obtain ⟨M, hM⟩ : ∃ M, M = xs.length := ⟨_, rfl⟩
  have HM := hid hM
  have hML : M ≤ 9223372036854775807 := by rw [hM]; exact hu.len
  rw [← hM]
  generalize runS (clearS (2 + ((m % 4 : Nat) : Int)) false) ac ac.length = s at HLY
  have HCF := hid (fun b g n hn W h => cfirst_any (b := b) (g := g) (s := s) n hn W h)
  have HRF := hid (fun b g n hn W h => rcfirst_any (b := b) (g := g) (s := s) n hn W h)
  have HRZ := hid (fun b g W h => rcfirst_any (b := b) (g := g) (s := s) 0 ⟨by decide, by decide⟩ W h)
  have HHM := hid (fun b g W h => home_any (b := b) (g := g) (s := s) W h)
  have HCU := hid (fun b g W (h : SpM W b g (s.cuS (frstZ s 0))) => (show Calls Try.prog 22 #[.pointer (some ⟨b, 0, none⟩)] W fun e w' => e = .returned (.int .i64 (frstZ s 0)) ∧ Below W.heap.size W w' from cursor_any (b := b) (g := g) W h))
  clear hx hu hm hM
  go_enter Try.func11, Try.ntmps11
  go_wp2_with fail
  with_reducible refine HW.out.mono ?_
  rintro e w1 ⟨rfl, hb1⟩
  have HB1 := hid hb1
  clear hb1
  go_wp2_with fail
  with_reducible refine (HLY.out _ HB1.out).mono ?_
  rintro e w2 ⟨b1, g1, b2, g2, rfl, hd, -⟩
  have HD2 := hid (show SpM w2 b1 g1 s ∧ RfM w2 b2 g2 s ∧ Below w.heap.size w w2 ∧ (∀ k ∈ [b1, g1], k ∉ [b2, g2]) ∧ w.heap.size ≤ b1 ∧ w.heap.size ≤ g1 from ⟨hd.sp, hd.rf, below_t HB1.out hd.bel, hd.ap, Nat.le_trans HB1.out.size (hd.lb b1 (by simp)), Nat.le_trans HB1.out.size (hd.lb g1 (by simp))⟩)
  clear hd HB1
  go_wp2_with fail
  go_loopw [21] (fun i W => ∃ q : Nat, q ≤ M ∧ i = .int .i64 q ∧ Hid (Below w2.heap.size w2 W)) (fun i _ => M - (intOf i).toNat)
  case atStart => exact ⟨0, by omega, rfl, Below.refl _ _⟩
  case round =>
    obtain ⟨q, hq, rfl, HB⟩ := hrel
    by_cases hqM : q < M
    · have hqi : (q : Int) < M := by omega
      obtain ⟨gu, ou, rfl, hgu, hcu⟩ := (HU.out.below (HD2.out.2.2.1.trans (HB.out.mono HD2.out.2.2.1.size))).at_ y cq rfl q (by rw [← HM.out]; exact hqM)
      have HNI := hid (HU.out.i64 q (by rw [← HM.out]; exact hqM))
      have hlu := World.block_lt_of_cell? wr _ hcu
      generalize xs.getD q 0 = n at hcu HNI
      by_cases h8 : q < 8
      · have h8i : (q : Int) < 8 := by omega
        go_wp2_with fail
        with_reducible refine (HCF.out b1 g1 n HNI.out _ (HD2.out.1.below HB.out)).mono ?_
        rintro e w3 ⟨rfl, hb3⟩
        have HB3 := hid (below_t HB.out hb3)
        clear hb3
        go_wp2_with fail
        with_reducible refine (HRF.out b2 g2 n HNI.out _ (HD2.out.2.1.below HB3.out)).mono ?_
        rintro e w4 ⟨rfl, hb4⟩
        have HB4 := hid (below_t HB3.out hb4)
        clear hb4
        go_wp2
        go_roundw
        case rel => exact ⟨q + 1, by omega, by go_num, HB4.out⟩
        case measure => simp [intOf]; omega
      · have h8i : ¬ (q : Int) < 8 := by omega
        go_wp2
        go_roundw
        case rel => exact ⟨q + 1, by omega, by go_num, HB.out⟩
        case measure => simp [intOf]; omega
    · obtain rfl : q = M := by omega
      go_wp2_with fail
      with_reducible refine (HHM.out b1 g1 _ (HD2.out.1.below HB.out)).mono ?_
      rintro e w3 ⟨⟨v3, rfl⟩, hs, hm⟩
      have HM3 := hid ((Moved.below HB.out [b1, g1]).trans hm)
      have HR3 := hid (HD2.out.2.1.moved HM3.out (fun q => HD2.out.2.2.2.1 b2 q (by simp)) (fun q => HD2.out.2.2.2.1 g2 q (by simp)))
      have HS3 := hid hs
      clear hs hm HB
      go_wp2_with fail
      with_reducible refine (HCU.out b1 g1 _ HS3.out).mono ?_
      rintro e w4 ⟨rfl, hb4⟩
      have HB4 := hid hb4
      clear hb4
      go_wp2_with fail
      with_reducible refine (HRZ.out b2 g2 _ (HR3.out.below HB4.out)).mono ?_
      rintro e w5 ⟨rfl, hb5⟩
      have HB5 := hid (below_t HB4.out hb5)
      clear hb5
      go_wp2
      go_ret
      refine ⟨by simp, ?_⟩
      have k3 : Below w.heap.size w w3 := HD2.out.2.2.1.trans (HM3.out.toBelow HD2.out.2.2.1.size (fun k hk => by
        simp at hk
        rcases hk with rfl | rfl
        · exact HD2.out.2.2.2.2.1
        · exact HD2.out.2.2.2.2.2))
      exact below_t k3 HB5.out
end Go.Proofs.Ytpehhinpohmpiaa
