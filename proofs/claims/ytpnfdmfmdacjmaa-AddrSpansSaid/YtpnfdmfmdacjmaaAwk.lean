/-
  The law's own examples (awake).
-/
import Derived.Test.YtpnfdmfmdacjmaaSzc
import Derived.Test.YtpnfdmfmdacjmaaCodb
namespace Go.Proofs.Ytpnfdmfmdacjmaa
open Go.RowKit Go.Lib

theorem ok_two : Ok 24 80 := ⟨by decide, by decide, by decide, by decide, by decide⟩
/-- Encode(12, 81). -/
theorem encode_81 (w : World) : Calls Try.prog 36 #[.int .i64 12, .int .i64 81] w fun e w' => ∃ v, e = .returned (.tuple #[v, .int .i64 0]) ∧ Below w.heap.size w w' ∧ Reads w' v [193, 209] := by
  refine (encode_any 12 81 w).mono ?_
  rintro e w' ⟨v, er, rfl, hb, h | h | h⟩
  · exact absurd rfl h.1.1
  · have := h.2.1
    unfold mostZ at this
    omega
  · obtain ⟨_, _, _, rfl, h⟩ := h
    exact ⟨v, rfl, hb, h⟩
/-- Decode(12, 00 51). -/
theorem decode_81 (v : Value) (w : World) (h : Reads w v [0, 81]) : Calls Try.prog 39 #[.int .i64 12, v] w fun e w' => e = .returned (.tuple #[.int .i64 81, .int .i64 0]) ∧ Below w.heap.size w w' :=
  decode_any 12 v [0, 81] w h
set_option maxRecDepth 100000 in
set_option maxHeartbeats 2000000 in
theorem model_two (w : World) : Calls Try.prog 28 #[.int .i64 2] w fun e w' => e = .returned (.tuple #[.agg #[.int .i64 24, .int .i64 80], .int .i64 0]) ∧ Below w.heap.size w w' := by
  go_enter Try.func28, Try.ntmps28
  go_wp2
  exact bodyPost_ret (v := .tuple #[.agg #[.int .i64 24, .int .i64 80], .int .i64 0]) (by simp [results, Try.results28, go_sem]) rfl ⟨rfl, (Below.refl _ _).alloc (Nat.le_refl _) _⟩
theorem bsize {W w1 : World} (hb : Below W.heap.size W w1) {n : Nat} (h : n < W.heap.size) : n < w1.heap.size := Nat.lt_of_lt_of_le h hb.size
set_option maxRecDepth 100000 in
set_option maxHeartbeats 2000000 in
theorem awake_true (w : World) : Calls Try.prog 14 #[] w fun e w' => e = .returned (.bool true) ∧ Below w.heap.size w w' := by
  have HA := hid (move_ok 24 80 1919 1 0 ok_two (i64_small (by decide) (by decide)) (i64_small (by decide) (by decide)) (i64_small (by decide) (by decide)))
  have HB := hid (move_ok 24 80 1919 0 1 ok_two (i64_small (by decide) (by decide)) (i64_small (by decide) (by decide)) (i64_small (by decide) (by decide)))
  rw [show moveZ 24 80 1919 1 0 = 79 by decide] at HA
  rw [show moveZ 24 80 1919 0 1 = 0 by decide] at HB
  go_enter Try.func14, Try.ntmps14
  go_wp2_with fail
  with_reducible refine (model_two _).mono ?_
  rintro e w1 ⟨rfl, hb1⟩
  have HB1 := hid hb1
  clear hb1
  go_wp2_with fail
  with_reducible refine (encode_81 _).mono ?_
  rintro e w2 ⟨p, rfl, hb2, hr2⟩
  have K1 := hid (box_new hb2)
  have HR2 := hid hr2
  clear hb2 hr2
  go_wp2_with fail
  with_reducible refine (decode_81 _ _ (reads_two _ 0 81 (by decide) (by decide))).mono ?_
  rintro e w3 ⟨rfl, hb3⟩
  have hb3' : Below w2.heap.size w2 w3 := ((Below.refl _ _).alloc (Nat.le_refl _) _).trans (hb3.mono (by simp))
  have K2 := hid (box_kept hb3' K1.out)
  have HR3 := hid (reads_below HR2.out hb3')
  clear hb3 hb3' K1 HR2
  go_wp2_with fail
  have hbw : Below w3.heap.size w3 (w3.alloc (.cells #[.int .u8 193, .int .u8 209] 5)) := (Below.refl _ _).alloc (Nat.le_refl _) _
  with_reducible refine (same_true _ _ [193, 209] _ (reads_below HR3.out hbw) (reads_two _ 193 209 (by decide) (by decide))).mono ?_
  rintro e w4 ⟨rfl, rfl⟩
  have K3 := hid (box_kept hbw K2.out)
  clear hbw K2
  obtain ⟨c0, c1, hbb⟩ := K3.out
  clear K3
  have HW := hid hbb
  clear hbb
  go_wp2_with fail
  with_reducible refine (HA.out _).mono ?_
  rintro e w5 ⟨rfl, hb5⟩
  have K4 := hid (box_kept hb5 ⟨c0, c1, HW.out⟩)
  clear hb5 c0 c1 HW
  obtain ⟨c0, c1, hbb⟩ := K4.out
  clear K4
  have HW := hid hbb
  clear hbb
  go_wp2_with fail
  with_reducible refine (HB.out _).mono ?_
  rintro e w6 ⟨rfl, hb6⟩
  have K5 := hid (box_kept hb6 ⟨c0, c1, HW.out⟩)
  clear hb6
  go_wp2
  go_ret
  refine ⟨rfl, ?_⟩
  have h1 : Below w.heap.size w w1 := HB1.out
  have h2 := K5.out.2.2
  exact h1.trans (h2.mono h1.size)
end Go.Proofs.Ytpnfdmfmdacjmaa
