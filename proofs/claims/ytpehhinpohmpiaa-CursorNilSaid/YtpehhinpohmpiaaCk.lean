/-
  CursorNil: of no space nothing.
-/
import Derived.Test.YtpehhinpohmpiaaCj
namespace Go.Proofs.Ytpehhinpohmpiaa
open Go.RowKit Go.Lib Go.Deep

theorem orf_neg (w : World) : Calls Try.prog 107 #[.int .i64 (-1)] w fun e w' => e = .returned (.int .i64 0) ∧ Below w.heap.size w w' := orf_any (-1) w
set_option maxRecDepth 100000 in
set_option maxHeartbeats 2000000 in
theorem ctab_nil (w : World) : Calls Try.prog 51 #[.pointer none] w fun e w' => (∃ v, e = .returned v) ∧ Below w.heap.size w w' := by
  have HC := hid (fun W => cursor_nil W)
  have HO := hid (fun W => orf_neg W)
  have HP := hid (fun W => place_nil 0 W)
  have HN := hid (fun W => next_nil 0 W)
  go_enter Try.func51, Try.ntmps51
  go_wp2_with fail
  with_reducible refine (HC.out _).mono ?_
  rintro e w1 ⟨rfl, hb⟩
  have HB1 := hid (hb)
  clear hb
  go_wp2_with fail
  with_reducible refine (HN.out _).mono ?_
  rintro e w2 ⟨rfl, hb⟩
  have HB2 := hid (below_t HB1.out hb)
  clear hb HB1
  go_wp2_with fail
  with_reducible refine (HO.out _).mono ?_
  rintro e w3 ⟨rfl, hb⟩
  have HB3 := hid (below_t HB2.out hb)
  clear hb HB2
  go_wp2_with fail
  with_reducible refine (HP.out _).mono ?_
  rintro e w4 ⟨⟨v4, rfl⟩, hb⟩
  have HB4 := hid (below_t HB3.out hb)
  clear hb HB3
  go_wp2
  go_end0
  exact ⟨⟨_, rfl⟩, HB4.out⟩
set_option maxRecDepth 100000 in
set_option maxHeartbeats 2000000 in
theorem cback_nil (w : World) : Calls Try.prog 54 #[.pointer none] w fun e w' => (∃ v, e = .returned v) ∧ Below w.heap.size w w' := by
  have HC := hid (fun W => cursor_nil W)
  have HO := hid (fun W => orf_neg W)
  have HP := hid (fun W => place_nil 0 W)
  have HN := hid (fun W => prev_nil 0 W)
  go_enter Try.func54, Try.ntmps54
  go_wp2_with fail
  with_reducible refine (HC.out _).mono ?_
  rintro e w1 ⟨rfl, hb⟩
  have HB1 := hid (hb)
  clear hb
  go_wp2_with fail
  with_reducible refine (HN.out _).mono ?_
  rintro e w2 ⟨rfl, hb⟩
  have HB2 := hid (below_t HB1.out hb)
  clear hb HB1
  go_wp2_with fail
  with_reducible refine (HO.out _).mono ?_
  rintro e w3 ⟨rfl, hb⟩
  have HB3 := hid (below_t HB2.out hb)
  clear hb HB2
  go_wp2_with fail
  with_reducible refine (HP.out _).mono ?_
  rintro e w4 ⟨⟨v4, rfl⟩, hb⟩
  have HB4 := hid (below_t HB3.out hb)
  clear hb HB3
  go_wp2
  go_end0
  exact ⟨⟨_, rfl⟩, HB4.out⟩
set_option maxRecDepth 100000 in
set_option maxHeartbeats 2000000 in
theorem cfirst_nil (n : Int) (w : World) : Calls Try.prog 55 #[.pointer none, .int .i64 n] w fun e w' => e = .returned (.int .i64 0) ∧ Below w.heap.size w w' := by
  have HOP := hid (fun W => open_nil n W)
  have HN := hid (fun W => next_nil n W)
  have HO := hid (fun W => orf_neg W)
  go_enter Try.func55, Try.ntmps55
  go_wp2_with fail
  with_reducible refine (HOP.out _).mono ?_
  rintro e w1 ⟨rfl, hb⟩
  have HB1 := hid (hb)
  clear hb
  go_wp2_with fail
  with_reducible refine (HN.out _).mono ?_
  rintro e w2 ⟨rfl, hb⟩
  have HB2 := hid (below_t HB1.out hb)
  clear hb HB1
  go_wp2_with fail
  with_reducible refine (HO.out _).mono ?_
  rintro e w3 ⟨rfl, hb⟩
  have HB3 := hid (below_t HB2.out hb)
  clear hb HB2
  go_wp2
  go_ret
  exact ⟨rfl, HB3.out⟩
set_option maxRecDepth 100000 in
set_option maxHeartbeats 2000000 in
theorem cnewline_nil (w : World) : Calls Try.prog 58 #[.pointer none] w fun e w' => (∃ v, e = .returned v) ∧ Below w.heap.size w w' := by
  have HC := hid (fun W => cursor_nil W)
  have HO := hid (fun W => orf_neg W)
  have HP := hid (fun W => place_nil 0 W)
  have HSZ := hid (fun W => (show Calls Try.prog 79 #[.pointer none] W fun e w' => e = .returned (.agg #[.int .i64 0, .int .i64 0]) ∧ Below W.heap.size W w' from size_nil W))
  have HL := hid (fun W => line_no 0 0 0 vB00 W)
  have HF := hid (fun W => cfirst_nil 0 W)
  go_enter Try.func58, Try.ntmps58
  go_wp2_with fail
  with_reducible refine (HSZ.out _).mono ?_
  rintro e w1 ⟨rfl, hb⟩
  have HB1 := hid (hb)
  clear hb
  go_wp2_with fail
  with_reducible refine (HC.out _).mono ?_
  rintro e w2 ⟨rfl, hb⟩
  have HB2 := hid (below_t HB1.out hb)
  clear hb HB1
  go_wp2_with fail
  with_reducible refine (HL.out _).mono ?_
  rintro e w3 ⟨rfl, hb⟩
  have HB3 := hid (below_t HB2.out hb)
  clear hb HB2
  go_wp2_with fail
  with_reducible refine (HF.out _).mono ?_
  rintro e w4 ⟨rfl, hb⟩
  have HB4 := hid (below_t HB3.out hb)
  clear hb HB3
  go_wp2_with fail
  with_reducible refine (HP.out _).mono ?_
  rintro e w5 ⟨⟨v5, rfl⟩, hb⟩
  have HB5 := hid (below_t HB4.out hb)
  clear hb HB4
  go_wp2
  go_end0
  exact ⟨⟨_, rfl⟩, HB5.out⟩
set_option maxRecDepth 100000 in
set_option maxHeartbeats 2000000 in
theorem chome_nil (w : World) : Calls Try.prog 57 #[.pointer none] w fun e w' => (∃ v, e = .returned v) ∧ Below w.heap.size w w' := by
  have HF := hid (fun W => cfirst_nil 0 W)
  have HP := hid (fun W => place_nil 0 W)
  go_enter Try.func57, Try.ntmps57
  go_wp2_with fail
  with_reducible refine (HF.out _).mono ?_
  rintro e w1 ⟨rfl, hb⟩
  have HB1 := hid (hb)
  clear hb
  go_wp2_with fail
  with_reducible refine (HP.out _).mono ?_
  rintro e w2 ⟨⟨v2, rfl⟩, hb⟩
  have HB2 := hid (below_t HB1.out hb)
  clear hb HB1
  go_wp2
  go_end0
  exact ⟨⟨_, rfl⟩, HB2.out⟩
set_option maxRecDepth 100000 in
set_option maxHeartbeats 2000000 in
theorem cmove_nil (p q : Int) (w : World) : Calls Try.prog 59 #[.pointer none, .int .i64 p, .int .i64 q] w fun e w' => (∃ v, e = .returned v) ∧ Below w.heap.size w w' := by
  have HC := hid (fun W => cursor_nil W)
  have HO := hid (fun W => orf_neg W)
  have HP := hid (fun W => place_nil 0 W)
  have HSZ := hid (fun W => (show Calls Try.prog 79 #[.pointer none] W fun e w' => e = .returned (.agg #[.int .i64 0, .int .i64 0]) ∧ Below W.heap.size W w' from size_nil W))
  have HM := hid (fun W => move_no 0 0 0 p q vB00 W)
  go_enter Try.func59, Try.ntmps59
  go_wp2_with fail
  with_reducible refine (HSZ.out _).mono ?_
  rintro e w1 ⟨rfl, hb⟩
  have HB1 := hid (hb)
  clear hb
  go_wp2_with fail
  with_reducible refine (HC.out _).mono ?_
  rintro e w2 ⟨rfl, hb⟩
  have HB2 := hid (below_t HB1.out hb)
  clear hb HB1
  go_wp2_with fail
  with_reducible refine (HM.out _).mono ?_
  rintro e w3 ⟨rfl, hb⟩
  have HB3 := hid (below_t HB2.out hb)
  clear hb HB2
  go_wp2_with fail
  with_reducible refine (HP.out _).mono ?_
  rintro e w4 ⟨⟨v4, rfl⟩, hb⟩
  have HB4 := hid (below_t HB3.out hb)
  clear hb HB3
  go_wp2
  go_end0
  exact ⟨⟨_, rfl⟩, HB4.out⟩
set_option maxRecDepth 100000 in
set_option maxHeartbeats 2000000 in
theorem cafter_nil (w : World) : Calls Try.prog 60 #[.pointer none] w fun e w' => (∃ v, e = .returned v) ∧ Below w.heap.size w w' := by
  have HM := hid (fun W => cmove_nil 0 1 W)
  have HC := hid (fun W => cursor_nil W)
  have HA := hid (fun W => at_nil 0 W)
  have hf1 := celf1
  go_enter Try.func60, Try.ntmps60
  go_wp2_with fail
  with_reducible refine (HM.out _).mono ?_
  rintro e w1 ⟨⟨v1, rfl⟩, hb⟩
  have HB1 := hid (hb)
  clear hb
  go_wp2_with fail
  with_reducible refine (HC.out _).mono ?_
  rintro e w2 ⟨rfl, hb⟩
  have HB2 := hid (below_t HB1.out hb)
  clear hb HB1
  go_wp2_with fail
  with_reducible refine (HA.out _).mono ?_
  rintro e w3 ⟨rfl, hb⟩
  have HB3 := hid (below_t HB2.out hb)
  clear hb HB2
  go_wp2
  exact bodyPost_ret (results_none rfl _ _ _) rfl ⟨⟨_, rfl⟩, HB3.out⟩
set_option maxRecDepth 100000 in
set_option maxHeartbeats 2000000 in
theorem cnil_any (p q : Int) (w : World) : Calls Try.prog 12 #[.int .i64 p, .int .i64 q] w fun e w' => e = .returned (.bool true) ∧ Below w.heap.size w w' := by
  have HW := hid (fun W => awake15 W)
  have HT := hid (fun W => ctab_nil W)
  have HBT := hid (fun W => cback_nil W)
  have HNL := hid (fun W => cnewline_nil W)
  have HHM := hid (fun W => chome_nil W)
  have HMV := hid (fun W => cmove_nil p q W)
  have HAF := hid (fun W => cafter_nil W)
  have HF := hid (fun W => cfirst_nil p W)
  have HIX := hid (fun W => callsIn_wide.1 (index_nil 8 (by omega) W))
  go_enter Try.func12, Try.ntmps12
  go_wp2_with fail
  with_reducible refine (HW.out _).mono ?_
  rintro e w1 ⟨rfl, hb⟩
  have HB1 := hid (hb)
  clear hb
  go_wp2_with fail
  with_reducible refine (HT.out _).mono ?_
  rintro e w2 ⟨⟨v2, rfl⟩, hb⟩
  have HB2 := hid (below_t HB1.out hb)
  clear hb HB1
  go_wp2_with fail
  with_reducible refine (HBT.out _).mono ?_
  rintro e w3 ⟨⟨v3, rfl⟩, hb⟩
  have HB3 := hid (below_t HB2.out hb)
  clear hb HB2
  go_wp2_with fail
  with_reducible refine (HNL.out _).mono ?_
  rintro e w4 ⟨⟨v4, rfl⟩, hb⟩
  have HB4 := hid (below_t HB3.out hb)
  clear hb HB3
  go_wp2_with fail
  with_reducible refine (HHM.out _).mono ?_
  rintro e w5 ⟨⟨v5, rfl⟩, hb⟩
  have HB5 := hid (below_t HB4.out hb)
  clear hb HB4
  go_wp2_with fail
  with_reducible refine (HMV.out _).mono ?_
  rintro e w6 ⟨⟨v6, rfl⟩, hb⟩
  have HB6 := hid (below_t HB5.out hb)
  clear hb HB5
  go_wp2_with fail
  with_reducible refine (HAF.out _).mono ?_
  rintro e w7 ⟨⟨v7, rfl⟩, hb⟩
  have HB7 := hid (below_t HB6.out hb)
  clear hb HB6
  go_wp2_with fail
  with_reducible refine (HF.out _).mono ?_
  rintro e w8 ⟨rfl, hb⟩
  have HB8 := hid (below_t HB7.out hb)
  clear hb HB7
  go_wp2_with fail
  with_reducible refine (tabsIt none _).mono ?_
  rintro e w9 ⟨bs, rfl, hbs, hcs, hb⟩
  have HB9 := hid (below_t HB8.out hb)
  have HCS := hid hcs
  clear hb hbs hcs HB8
  go_wp2_with fail
  with_reducible refine (collectT_nil bs _ HCS.out).mono ?_
  rintro e w10 ⟨⟨x, c, rfl⟩, hb⟩
  have HB10 := hid (below_t HB9.out hb)
  clear hb HB9
  go_wp2_with fail
  with_reducible refine (HIX.out _).mono ?_
  rintro e w11 ⟨rfl, hb⟩
  have HB11 := hid (below_t HB10.out hb)
  clear hb HB10
  go_wp2
  go_ret
  exact ⟨by simp, HB11.out⟩
end Go.Proofs.Ytpehhinpohmpiaa
