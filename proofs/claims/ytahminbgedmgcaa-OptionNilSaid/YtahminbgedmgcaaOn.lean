/-
  The law's own walk: OptionNil.
-/
import Derived.Test.YtahminbgedmgcaaOm
namespace Go.Proofs.Ytahminbgedmgcaa
open Go.RowKit Go.Lib

theorem onL_none (k : Nat) : onL (fun _ => false) k = [] := by
  induction k with
  | zero => rfl
  | succ k ih => rw [onL_no rfl, ih]
set_option maxRecDepth 100000 in
set_option maxHeartbeats 2000000 in
theorem optionNil_true (v o : Nat) (side : Int) (w : World) : Calls Try.prog 6 #[.int .u8 v, .int .u8 o, .int .i64 side] w fun e w' => e = .returned (.bool true) ∧ Below w.heap.size w w' := by
  have HW := hid (oawake_true w)
  have HH := hid (fun W => hear_nil v o W)
  have HA := hid (fun W => ask_nil side o true W)
  have HS := hid (fun W => state_nil side o W)
  have HO := hid (fun W => on_nil side o W)
  have HQ := hid (fun W => quiet_nil W)
  have HG := hid (fun W => agreed_made none side (fun _ => false) W (fun W' _ o' _ => on_nil side o' W'))
  have HC := hid (fun W b (h : AgX b (onL (fun _ => false) 256) W) => collect_any b _ (by rw [onL_none]; simp) W h)
  rw [onL_none] at HG HC
  go_enter Try.func6, Try.ntmps6
  go_wp2_with fail
  with_reducible refine HW.out.mono ?_
  rintro e w1 ⟨rfl, hb1⟩
  have HB1 := hid hb1
  clear hb1
  go_wp2_with fail
  with_reducible refine (HH.out _).mono ?_
  rintro e w2 ⟨rfl, rfl⟩
  go_wp2_with fail
  with_reducible refine (HA.out _).mono ?_
  rintro e w2 ⟨rfl, rfl⟩
  go_wp2_with fail
  with_reducible refine (HS.out _).mono ?_
  rintro e w2 ⟨rfl, rfl⟩
  go_wp2_with fail
  with_reducible refine (HO.out _).mono ?_
  rintro e w2 ⟨rfl, rfl⟩
  go_wp2_with fail
  with_reducible refine (HQ.out _).mono ?_
  rintro e w2 ⟨rfl, rfl⟩
  go_wp2_with fail
  with_reducible refine (HG.out _).mono ?_
  rintro e w2 ⟨rfl, hx, hb2⟩
  have HX := hid hx
  have HB2 := hid (below_t HB1.out hb2)
  clear hx hb2
  go_wp2_with fail
  with_reducible refine (HC.out _ _ HX.out).mono ?_
  rintro e w3 ⟨v3, b3, rfl, _, ho, hb3⟩
  obtain ⟨x3, c3, hv3⟩ : ∃ x c, v3 = .slice x 0 c := by
    rcases ho.2 with ⟨h, _⟩ | ⟨g, cap, cur, h, _⟩
    · exact ⟨_, _, h⟩
    · exact ⟨_, _, h⟩
  subst hv3
  have HB3 := hid (below_t HB2.out hb3)
  clear ho hb3
  go_wp2
  go_ret
  exact ⟨rfl, HB3.out⟩
end Go.Proofs.Ytahminbgedmgcaa
