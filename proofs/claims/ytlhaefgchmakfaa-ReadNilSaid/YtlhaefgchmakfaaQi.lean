/-
  ReadNil: the law's own walk.
-/
import Derived.Test.YtlhaefgchmakfaaQh
namespace Go.Proofs.Ytlhaefgchmakfaa
open Go.RowKit Go.Lib Go.Deep

set_option maxRecDepth 100000 in
set_option maxHeartbeats 4000000 in
theorem rnil_any (k aid md : Int) (ha : U8 aid) (w : World) : Calls Try.prog 5 #[.int .i64 k, .int .u8 aid, .int .i64 md] w fun e w' => e = .returned (.bool true) ∧ Below w.heap.size w w' := by
  have HAW := hid awake19
  have HBU := hid (rbuf_nil aid md)
  have HMO := hid (rmod_nil (fun a w h => short_any a w h) aid md ha)
  have HAL := hid (rall_nil aid md)
  have HFO := hid (rfor_nil (fun a w h => short_any a w h) k aid md ha)
  have HLE := hid (rlen_nil md)
  have HMS := hid rmost_nil
  by_cases h5 : k = 5
  · subst h5
    rw [show forE 5 = 5 from rfl] at HFO
    go_enter Try.func5, Try.ntmps5
    go_wp2_with fail
    with_reducible refine (HAW.out _).mono ?_
    rintro e w1 ⟨rfl, hb⟩
    have HB1 := hid hb
    clear hb
    go_wp2_with fail
    with_reducible refine (HBU.out _).mono ?_
    rintro e w2 ⟨rfl, hb⟩
    have HB2 := hid (below_t HB1.out hb)
    clear hb
    go_wp2_with fail
    with_reducible refine (HMO.out _).mono ?_
    rintro e w3 ⟨rfl, hb⟩
    have HB3 := hid (below_t HB2.out hb)
    clear hb
    go_wp2_with fail
    with_reducible refine (HAL.out _).mono ?_
    rintro e w4 ⟨rfl, hb⟩
    have HB4 := hid (below_t HB3.out hb)
    clear hb
    go_wp2_with fail
    with_reducible refine (HFO.out _).mono ?_
    rintro e w5 ⟨rfl, hb⟩
    have HB5 := hid (below_t HB4.out hb)
    clear hb
    go_wp2_with fail
    with_reducible refine (HLE.out _).mono ?_
    rintro e w6 ⟨rfl, hb⟩
    have HB6 := hid (below_t HB5.out hb)
    clear hb
    go_wp2_with fail
    with_reducible refine (HMS.out _).mono ?_
    rintro e w7 ⟨rfl, hb⟩
    have HB7 := hid (below_t HB6.out hb)
    clear hb
    go_wp2_with fail
    go_ret
    exact ⟨rfl, HB7.out⟩
  by_cases h6 : k = 6
  · subst h6
    rw [show forE 6 = 5 from rfl] at HFO
    go_enter Try.func5, Try.ntmps5
    go_wp2_with fail
    with_reducible refine (HAW.out _).mono ?_
    rintro e w1 ⟨rfl, hb⟩
    have HB1 := hid hb
    clear hb
    go_wp2_with fail
    with_reducible refine (HBU.out _).mono ?_
    rintro e w2 ⟨rfl, hb⟩
    have HB2 := hid (below_t HB1.out hb)
    clear hb
    go_wp2_with fail
    with_reducible refine (HMO.out _).mono ?_
    rintro e w3 ⟨rfl, hb⟩
    have HB3 := hid (below_t HB2.out hb)
    clear hb
    go_wp2_with fail
    with_reducible refine (HAL.out _).mono ?_
    rintro e w4 ⟨rfl, hb⟩
    have HB4 := hid (below_t HB3.out hb)
    clear hb
    go_wp2_with fail
    with_reducible refine (HFO.out _).mono ?_
    rintro e w5 ⟨rfl, hb⟩
    have HB5 := hid (below_t HB4.out hb)
    clear hb
    go_wp2_with fail
    with_reducible refine (HLE.out _).mono ?_
    rintro e w6 ⟨rfl, hb⟩
    have HB6 := hid (below_t HB5.out hb)
    clear hb
    go_wp2_with fail
    with_reducible refine (HMS.out _).mono ?_
    rintro e w7 ⟨rfl, hb⟩
    have HB7 := hid (below_t HB6.out hb)
    clear hb
    go_wp2_with fail
    go_ret
    exact ⟨rfl, HB7.out⟩
  by_cases h7 : k = 7
  · subst h7
    rw [show forE 7 = 5 from rfl] at HFO
    go_enter Try.func5, Try.ntmps5
    go_wp2_with fail
    with_reducible refine (HAW.out _).mono ?_
    rintro e w1 ⟨rfl, hb⟩
    have HB1 := hid hb
    clear hb
    go_wp2_with fail
    with_reducible refine (HBU.out _).mono ?_
    rintro e w2 ⟨rfl, hb⟩
    have HB2 := hid (below_t HB1.out hb)
    clear hb
    go_wp2_with fail
    with_reducible refine (HMO.out _).mono ?_
    rintro e w3 ⟨rfl, hb⟩
    have HB3 := hid (below_t HB2.out hb)
    clear hb
    go_wp2_with fail
    with_reducible refine (HAL.out _).mono ?_
    rintro e w4 ⟨rfl, hb⟩
    have HB4 := hid (below_t HB3.out hb)
    clear hb
    go_wp2_with fail
    with_reducible refine (HFO.out _).mono ?_
    rintro e w5 ⟨rfl, hb⟩
    have HB5 := hid (below_t HB4.out hb)
    clear hb
    go_wp2_with fail
    with_reducible refine (HLE.out _).mono ?_
    rintro e w6 ⟨rfl, hb⟩
    have HB6 := hid (below_t HB5.out hb)
    clear hb
    go_wp2_with fail
    with_reducible refine (HMS.out _).mono ?_
    rintro e w7 ⟨rfl, hb⟩
    have HB7 := hid (below_t HB6.out hb)
    clear hb
    go_wp2_with fail
    go_ret
    exact ⟨rfl, HB7.out⟩
  rw [show forE k = 11 by unfold forE; rw [if_neg h5, if_neg h6, if_neg h7]] at HFO
  by_cases hl : k < 5
  · clear h5 h6 h7
    go_enter Try.func5, Try.ntmps5
    go_wp2_with fail
    with_reducible refine (HAW.out _).mono ?_
    rintro e w1 ⟨rfl, hb⟩
    have HB1 := hid hb
    clear hb
    go_wp2_with fail
    with_reducible refine (HBU.out _).mono ?_
    rintro e w2 ⟨rfl, hb⟩
    have HB2 := hid (below_t HB1.out hb)
    clear hb
    go_wp2_with fail
    with_reducible refine (HMO.out _).mono ?_
    rintro e w3 ⟨rfl, hb⟩
    have HB3 := hid (below_t HB2.out hb)
    clear hb
    go_wp2_with fail
    with_reducible refine (HAL.out _).mono ?_
    rintro e w4 ⟨rfl, hb⟩
    have HB4 := hid (below_t HB3.out hb)
    clear hb
    go_wp2_with fail
    with_reducible refine (HFO.out _).mono ?_
    rintro e w5 ⟨rfl, hb⟩
    have HB5 := hid (below_t HB4.out hb)
    clear hb
    go_wp2_with fail
    with_reducible refine (HLE.out _).mono ?_
    rintro e w6 ⟨rfl, hb⟩
    have HB6 := hid (below_t HB5.out hb)
    clear hb
    go_wp2_with fail
    with_reducible refine (HMS.out _).mono ?_
    rintro e w7 ⟨rfl, hb⟩
    have HB7 := hid (below_t HB6.out hb)
    clear hb
    go_wp2_with fail
    go_ret
    exact ⟨rfl, HB7.out⟩
  · have hg : 7 < k := by omega
    clear h5 h6 h7
    go_enter Try.func5, Try.ntmps5
    go_wp2_with fail
    with_reducible refine (HAW.out _).mono ?_
    rintro e w1 ⟨rfl, hb⟩
    have HB1 := hid hb
    clear hb
    go_wp2_with fail
    with_reducible refine (HBU.out _).mono ?_
    rintro e w2 ⟨rfl, hb⟩
    have HB2 := hid (below_t HB1.out hb)
    clear hb
    go_wp2_with fail
    with_reducible refine (HMO.out _).mono ?_
    rintro e w3 ⟨rfl, hb⟩
    have HB3 := hid (below_t HB2.out hb)
    clear hb
    go_wp2_with fail
    with_reducible refine (HAL.out _).mono ?_
    rintro e w4 ⟨rfl, hb⟩
    have HB4 := hid (below_t HB3.out hb)
    clear hb
    go_wp2_with fail
    with_reducible refine (HFO.out _).mono ?_
    rintro e w5 ⟨rfl, hb⟩
    have HB5 := hid (below_t HB4.out hb)
    clear hb
    go_wp2_with fail
    with_reducible refine (HLE.out _).mono ?_
    rintro e w6 ⟨rfl, hb⟩
    have HB6 := hid (below_t HB5.out hb)
    clear hb
    go_wp2_with fail
    with_reducible refine (HMS.out _).mono ?_
    rintro e w7 ⟨rfl, hb⟩
    have HB7 := hid (below_t HB6.out hb)
    clear hb
    go_wp2_with fail
    go_ret
    exact ⟨rfl, HB7.out⟩
end Go.Proofs.Ytlhaefgchmakfaa
