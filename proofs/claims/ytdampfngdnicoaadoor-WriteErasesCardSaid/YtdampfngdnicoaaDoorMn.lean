/-
  The example of write, as it must be.
-/
import Derived.Test.YtdampfngdnicoaaDoorMm
namespace Go.Proofs.YtdampfngdnicoaaDoor
open Go.RowKit Go.Lib Go.Deep

def exR : List Int := [195, 17, 64, 64, 29, 96, 193]
theorem exR_cmd : cmdF 245 = (2, true) := by decide +kernel
theorem exR_cmdA : cmdF 126 = (3, true) := by decide +kernel
theorem exR_cmdU : cmdF 111 = (4, true) := by decide +kernel
theorem exR_res : (ewS 2 false exR).2 = (3, 0) := by decide +kernel
theorem exR_val : ewV 2 2 false exR = resV 2 true false true 3 := by
  unfold ewV
  rw [exR_res]
  rfl
theorem exR_len : (ewS 2 false exR).1.s.L.length = 1920 := by decide +kernel
theorem exR_0 : (ewS 2 false exR).1.s.cel 0 = ⟨0, true, 32, 0, 0, 0⟩ := by decide +kernel
theorem exR_1 : (ewS 2 false exR).1.s.cel 1 = ⟨193, false, 0, 0, 0, 0⟩ := by decide +kernel
theorem celf0 (x0 : Int) (x1 : Bool) (x2 x3 x4 x5 : Int) (w : World) : (Instr.field 47 (.agg #[.int .u8 x0, .bool x1, .int .u8 x2, .int .u8 x3, .int .u8 x4, .int .u8 x5]) 0).run Tryd.prog w = .ok (.int .u8 x0) w := by kernel_rfl
set_option maxRecDepth 100000 in
set_option maxHeartbeats 2000000 in
theorem awake17 (w : World) (hC : Cods w) : Calls Tryd.prog 6 #[] w fun e w' => e = .returned (.bool true) ∧ Below w.heap.size w w' := by
  have HNW := hid (fun W => new_yes 2 (by decide) (by decide) W)
  have HRC := hid (fun b g s v W (h : SpM W b g s) (hp : Reads W v ((245 : Nat) :: exR)) (hv : ∀ k ∈ blkV v, k ≠ b) (hC : Cods W) => recE_2 (b := b) (g := g) (s := s) 245 (by decide) exR_cmd exR (by decide) v W h hp hv hC)
  have HAT := hid (fun b g W (h : SpM W b g (ewS 2 false exR).1.s) (k : Nat) (hk : k < 1920) => (show Calls Tryd.prog 14 #[.pointer (some ⟨b, 0, none⟩), .int .i64 k] W fun e w' => e = .returned ((ewS 2 false exR).1.s.cel k).v ∧ Below W.heap.size W w' from by
    have q := at_any (b := b) (g := g) (s := (ewS 2 false exR).1.s) (k : Int) (i64_small (by omega) (by omega)) W h
    unfold Spc.atC at q
    rwa [wr_nat (by rw [exR_len]; exact hk)] at q))
  have HV := hid exR_val
  have HRS := hid (show (ewS 2 false exR).2.2 = 0 by rw [exR_res])
  have H0 := hid (fun b g W h => (show Calls Tryd.prog 14 #[.pointer (some ⟨b, 0, none⟩), .int .i64 0] W fun e w' => e = .returned ((ewS 2 false exR).1.s.cel 0).v ∧ Below W.heap.size W w' from HAT.out b g W h 0 (by decide)))
  have H1 := hid (fun b g W h => (show Calls Tryd.prog 14 #[.pointer (some ⟨b, 0, none⟩), .int .i64 1] W fun e w' => e = .returned ((ewS 2 false exR).1.s.cel 1).v ∧ Below W.heap.size W w' from HAT.out b g W h 1 (by decide)))
  rw [exR_0] at H0
  rw [exR_1] at H1
  have HC := hid hC
  have h0w := hC.2
  have hf0 := celf0
  have hf1 := celf1
  have hf2 := celf2
  clear hC HAT
  go_enter Tryd.func6, Tryd.ntmps6
  go_wp2_with fail
  with_reducible refine (HNW.out _).mono ?_
  rintro e w1 ⟨b, g, rfl, hb, hg, hs, hb1⟩
  have HS1 := hid hs
  have HB1 := hid hb1
  have HC1 := hid (HC.out.below h0w hb1)
  have hbl := hs.lt.1
  clear hs hb1
  go_wp2_with fail
  have hal : Below w1.heap.size w1 (w1.alloc (.cells #[.int .u8 245, .int .u8 195, .int .u8 17, .int .u8 64, .int .u8 64, .int .u8 29, .int .u8 96, .int .u8 193] 5)) := (Below.refl _ _).alloc (Nat.le_refl _) _
  have HRD := hid (show Reads (w1.alloc (.cells #[.int .u8 245, .int .u8 195, .int .u8 17, .int .u8 64, .int .u8 64, .int .u8 29, .int .u8 96, .int .u8 193] 5)) (.slice (some ⟨w1.heap.size, 0, none⟩) 8 8) (((245 : Nat) : Int) :: exR) from (own_lit w1 #[.int .u8 245, .int .u8 195, .int .u8 17, .int .u8 64, .int .u8 64, .int .u8 29, .int .u8 96, .int .u8 193] 8 (((245 : Nat) : Int) :: exR) (by decide) rfl rfl (by decide) _ rfl).reads)
  with_reducible refine (HRC.out b g _ _ _ (HS1.out.below hal) HRD.out (fun k hk => by
    have : k = w1.heap.size := by simpa [blkV, Value.ownBlock] using hk
    omega) (HC1.out.below (by omega) hal)).mono ?_
  rintro e w2 ⟨rfl, g2, hg2, hs2, hm2⟩
  have hmo : (clearS 2 false).mo = 2 := rfl
  rw [hmo] at hs2 ⊢
  rw [HV.out, HRS.out]
  unfold resV
  have HS2 := hid hs2
  have HB2 := hid (HB1.out.trans ((hal.mono HB1.out.size).trans (hm2.toBelow (B := w.heap.size) (by have := HB1.out.size; simp; omega) (by simp; omega))))
  clear hs2 hm2
  go_wp2_with fail
  have hst : Below w2.heap.size w2 (w2.alloc (.cells #[.int .i64 2, .bool true, .bool false, .bool true, .int .i64 3, .slice none 0 0] 31)) := (Below.refl _ _).alloc (Nat.le_refl _) _
  with_reducible refine (H0.out b g2 _ (HS2.out.below hst)).mono ?_
  rintro e w3 ⟨rfl, hb3⟩
  have HB3 := hid (below_t hst hb3)
  clear hb3
  go_wp2_with fail
  with_reducible refine (H0.out b g2 _ (HS2.out.below HB3.out)).mono ?_
  rintro e w4 ⟨rfl, hb⟩
  have HB4 := hid (below_t HB3.out hb)
  clear hb
  go_wp2_with fail
  with_reducible refine (H1.out b g2 _ (HS2.out.below HB4.out)).mono ?_
  rintro e w5 ⟨rfl, hb⟩
  have HB5 := hid (below_t HB4.out hb)
  clear hb
  go_wp2
  go_ret
  exact ⟨rfl, HB2.out.trans (HB5.out.mono HB2.out.size)⟩
end Go.Proofs.YtdampfngdnicoaaDoor
