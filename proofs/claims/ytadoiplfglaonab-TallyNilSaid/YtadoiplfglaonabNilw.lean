/-
  The whole road of TallyNil: it answers true whatever the name and the number, and what lay in memory lies as it lay.
-/
import Derived.Test.YtadoiplfglaonabAwake
import Derived.Test.YtadoiplfglaonabNilb
namespace Go.Proofs.Ytadoiplfglaonab
open Go.RowKit Go.Shelf Go.Deep Go.Lib

set_option maxRecDepth 100000 in
set_option maxHeartbeats 1000000 in
theorem tallyNil_true (s : ByteArray) (n : Int) (w : World) (hs : s.size ≤ maxLen) : Calls Try.prog 5 #[.string s, .int .u64 n] w fun e w' => e = .returned (.bool true) ∧ Below w.heap.size w w' := by
  have HSZ := hid hs
  clear hs
  go_enter Try.func5, Try.ntmps5
  go_wp2_with (first
    | (go_at_call 6; refine (awake_true _).mono ?_; rintro e w1 ⟨rfl, hB1⟩)
    | (go_at_call 15; refine (cutText_any _ _ HSZ.out).mono ?_; rintro e w' ⟨rfl, rfl⟩)
    | (go_at_call 8; refine (new_one _ _ (by decide)).mono ?_; rintro e w2 ⟨p, k, rfl, hB2⟩)
    | (go_at_call 16; refine (reset_nil _).mono ?_; rintro e w' ⟨rfl, rfl⟩)
    | (go_at_call 17; refine (add_nil _ _ _).mono ?_; rintro e w' ⟨rfl, rfl⟩)
    | (go_at_call 18; refine (most_nil _ _ _).mono ?_; rintro e w' ⟨rfl, rfl⟩)
    | (go_at_call 19; refine (take_nil _ _).mono ?_; rintro e w' ⟨rfl, rfl⟩)
    | (go_at_call 20; refine (get_nil _ _).mono ?_; rintro e w' ⟨rfl, rfl⟩)
    | (go_at_call 21; refine (names_nil _).mono ?_; rintro e w' ⟨rfl, rfl⟩)
    | (go_at_call 12; refine (all_nil _).mono ?_; rintro e w3 ⟨rfl, hB3⟩)
    | (go_at_call 14; refine (sum_nil _ _).mono ?_; rintro e w4 ⟨rfl, hB4⟩))
  go_ret
  refine ⟨rfl, ?_⟩
  rename_i wx hBx
  have hB2' : Below w1.heap.size w1 w2 := ((Below.refl _ _).alloc (Nat.le_refl _) _).trans (hB2.mono (by omega))
  have s1 := hB1.size
  have s2 := hB2'.size
  have s3 := hB3.size
  have s4 := hBx.size
  exact (((hB1.trans (hB2'.mono s1)).trans (hB3.mono (by omega))).trans (hBx.mono (by omega))).trans (hB4.mono (by omega))
end Go.Proofs.Ytadoiplfglaonab
