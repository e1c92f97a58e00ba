/-
  AddrSixes' walk.
-/
import Derived.Test.YtpnfdmfmdacjmaaAwk
namespace Go.Proofs.Ytpnfdmfmdacjmaa
open Go.RowKit Go.Lib

set_option maxRecDepth 100000 in
set_option maxHeartbeats 2000000 in
theorem addrSixes_true (b : Nat) (hb : b < 256) (w : World) : Calls Try.prog 8 #[.int .u8 b] w fun e w' => e = .returned (.bool true) ∧ Below w.heap.size w w' := by
  have hbi : (b : Int) ≤ 255 := by omega
  have HU := hid (unsix_any b (by omega) hbi)
  have HV := hid (runsix_any b hb)
  go_enter Try.func8, Try.ntmps8
  go_wp2_with fail
  with_reducible refine (awake_true _).mono ?_
  rintro e w1 ⟨rfl, hb1⟩
  have HB1 := hid hb1
  clear hb1
  go_wp2_with fail
  go_loop [6] (fun i => ∃ k : Nat, k ≤ 64 ∧ i = .int .i64 k) (fun i => 64 - (intOf i).toNat)
  case atStart => exact ⟨0, Nat.zero_le _, rfl⟩
  case round =>
    obtain ⟨k, hk, rfl⟩ := hrel
    by_cases hlt : k < 64
    · have HS := hid (six_any k)
      have HR := hid (rsix_any k (i64_small (by omega) (by omega)))
      rw [show ((k : Int) % 64).toNat = k by omega] at HS HR
      obtain ⟨hz1, hz2⟩ := sixZ_bd k hlt
      have HX := hid (unsix_any (sixZ k) hz1 hz2)
      rw [sixZ_mod k hlt] at HX
      generalize sixZ k = Z at HS HR HX hz1 hz2
      go_wp2_with fail
      with_reducible refine (HS.out _).mono ?_
      rintro e w2 ⟨rfl, rfl⟩
      go_wp2_with fail
      with_reducible refine (HR.out _).mono ?_
      rintro e w2 ⟨rfl, rfl⟩
      go_wp2_with fail
      with_reducible refine (HS.out _).mono ?_
      rintro e w2 ⟨rfl, rfl⟩
      go_wp2_with fail
      with_reducible refine (HX.out _).mono ?_
      rintro e w2 ⟨rfl, rfl⟩
      go_wp2
      go_round
      case rel => exact ⟨k + 1, by omega, by go_num⟩
      case measure => simp [intOf]; omega
    · go_wp2_with fail
      with_reducible refine (HU.out _).mono ?_
      rintro e w2 ⟨rfl, rfl⟩
      go_wp2_with fail
      with_reducible refine (HV.out _).mono ?_
      rintro e w2 ⟨rfl, rfl⟩
      go_wp2
      go_ret
      exact ⟨rfl, HB1.out⟩
end Go.Proofs.Ytpnfdmfmdacjmaa
