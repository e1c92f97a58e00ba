/-
  The laws' own walks: HeaderResponses, HeaderAnswers.
-/
import Derived.Test.YtahminbgedmgcaaDoorHf
namespace Go.Proofs.YtahminbgedmgcaaDoor
open Go.RowKit Go.Lib

theorem own_empty {w : World} {v : Value} (h : OwnB w v []) : ∃ x c, v = .slice x 0 c := by
  rcases h.2.2 with ⟨rfl, _⟩ | ⟨g, cap, cur, rfl, _⟩
  · exact ⟨_, _, rfl⟩
  · exact ⟨_, _, rfl⟩
set_option maxRecDepth 100000 in
set_option maxHeartbeats 4000000 in
theorem headerResponses_true (q : Int) (c t : Nat) (q0 : 0 ≤ q) (q1 : q < 65536) (hc : c < 256) (ht : t < 256) (w : World) (hN : Names w) : Calls Tryd.prog 5 #[.int .u16 q, .int .u8 c, .int .u8 t] w fun e w' => e = .returned (.bool true) ∧ Below w.heap.size w w' := by
  have HW := hid (hawake_true w hN)
  have HN := hid hN
  have HPO := hid (fun W => positive_any q W q0 q1)
  have HRO := hid (fun W => rresponse_ok q 0 W q0 q1)
  have HNM := hid (fun W h => name_any t ht W h)
  have HRN := hid (fun W => rname_any t ht W)
  have HNX := hid (fun W => next_any q q0 q1 W)
  clear hN
  by_cases h3 : c ≤ 3
  · have HNE := hid (fun W => negative_ok q c W q0 q1 (by omega) (by omega))
    have HRR := hid (fun W => rresponse_no q c W q0 q1 (by omega) (by omega))
    have i3 : (c : Int) ≤ 3 := by omega
    by_cases hq : q < 32767
    all_goals
      first | rw [if_pos hq] at HNX | rw [if_neg hq] at HNX
      go_enter Tryd.func5, Tryd.ntmps5
      go_wp2_with fail
      with_reducible refine HW.out.mono ?_
      rintro e w1 ⟨rfl, hb1⟩
      have HB1 := hid hb1
      clear hb1
      go_wp2_with fail
      with_reducible refine (HNE.out _).mono ?_
      rintro e w2 ⟨v2, rfl, ho2, hb2, hk2⟩
      obtain ⟨x2, n2, c2, rfl⟩ := own_slice ho2
      have HO2 := hid ho2
      have HB2 := hid (below_t HB1.out hb2)
      clear ho2 hb2 hk2
      go_wp2_with fail
      with_reducible refine (HRR.out _).mono ?_
      rintro e w3 ⟨v3, rfl, ho3, hb3, hk3⟩
      obtain ⟨x3, n3, c3, rfl⟩ := own_slice ho3
      have HO3 := hid ho3
      have HO2b := hid (HO2.out.step hb3)
      have HB3 := hid (below_t HB2.out hb3)
      clear ho3 hb3 hk3
      go_wp2_with fail
      with_reducible refine (same_true _ _ _ _ HO2b.out.reads HO3.out.reads).mono ?_
      rintro e w4 ⟨rfl, rfl⟩
      go_wp2_with fail
      with_reducible refine (HPO.out _).mono ?_
      rintro e w5 ⟨v5, rfl, ho5, hb5, hk5⟩
      obtain ⟨x5, n5, c5, rfl⟩ := own_slice ho5
      have HO5 := hid ho5
      have HB5 := hid (below_t HB3.out hb5)
      clear ho5 hb5 hk5
      go_wp2_with fail
      with_reducible refine (HRO.out _).mono ?_
      rintro e w6 ⟨v6, rfl, ho6, hb6, hk6⟩
      obtain ⟨x6, n6, c6, rfl⟩ := own_slice ho6
      have HO6 := hid ho6
      have HO5b := hid (HO5.out.step hb6)
      have HB6 := hid (below_t HB5.out hb6)
      clear ho6 hb6 hk6
      go_wp2_with fail
      with_reducible refine (same_true _ _ _ _ HO5b.out.reads HO6.out.reads).mono ?_
      rintro e w7 ⟨rfl, rfl⟩
      go_wp2_with fail
      with_reducible refine (HNM.out _ (HN.out.step HB6.out)).mono ?_
      rintro e w7 ⟨rfl, rfl⟩
      go_wp2_with fail
      with_reducible refine (HRN.out _).mono ?_
      rintro e w8 ⟨rfl, hb8⟩
      have HB8 := hid (below_t HB6.out hb8)
      clear hb8
      go_wp2_with fail
      with_reducible refine (HNX.out _).mono ?_
      rintro e w9 ⟨rfl, rfl⟩
      go_wp2
      go_ret
      exact ⟨rfl, HB8.out⟩
  · have HNE := hid (fun W => negative_no q c W (by omega))
    have i3 : ¬ (c : Int) ≤ 3 := by omega
    by_cases hq : q < 32767
    all_goals
      first | rw [if_pos hq] at HNX | rw [if_neg hq] at HNX
      go_enter Tryd.func5, Tryd.ntmps5
      go_wp2_with fail
      with_reducible refine HW.out.mono ?_
      rintro e w1 ⟨rfl, hb1⟩
      have HB1 := hid hb1
      clear hb1
      go_wp2_with fail
      with_reducible refine (HNE.out _).mono ?_
      rintro e w2 ⟨v2, rfl, ho2, hb2, hk2⟩
      obtain ⟨x2, c2, rfl⟩ := own_empty ho2
      have HB3 := hid (below_t HB1.out hb2)
      clear ho2 hb2 hk2
      go_wp2_with fail
      with_reducible refine (HPO.out _).mono ?_
      rintro e w5 ⟨v5, rfl, ho5, hb5, hk5⟩
      obtain ⟨x5, n5, c5, rfl⟩ := own_slice ho5
      have HO5 := hid ho5
      have HB5 := hid (below_t HB3.out hb5)
      clear ho5 hb5 hk5
      go_wp2_with fail
      with_reducible refine (HRO.out _).mono ?_
      rintro e w6 ⟨v6, rfl, ho6, hb6, hk6⟩
      obtain ⟨x6, n6, c6, rfl⟩ := own_slice ho6
      have HO6 := hid ho6
      have HO5b := hid (HO5.out.step hb6)
      have HB6 := hid (below_t HB5.out hb6)
      clear ho6 hb6 hk6
      go_wp2_with fail
      with_reducible refine (same_true _ _ _ _ HO5b.out.reads HO6.out.reads).mono ?_
      rintro e w7 ⟨rfl, rfl⟩
      go_wp2_with fail
      with_reducible refine (HNM.out _ (HN.out.step HB6.out)).mono ?_
      rintro e w7 ⟨rfl, rfl⟩
      go_wp2_with fail
      with_reducible refine (HRN.out _).mono ?_
      rintro e w8 ⟨rfl, hb8⟩
      have HB8 := hid (below_t HB6.out hb8)
      clear hb8
      go_wp2_with fail
      with_reducible refine (HNX.out _).mono ?_
      rintro e w9 ⟨rfl, rfl⟩
      go_wp2
      go_ret
      exact ⟨rfl, HB8.out⟩
end Go.Proofs.YtahminbgedmgcaaDoor
