/-
  The cursor's ways: the program's Tab, BackTab, First, Home, NewLine, Move, by contracts; of no space nothing.
-/
import Derived.Test.YtpehhinpohmpiaaCc
namespace Go.Proofs.Ytpehhinpohmpiaa
open Go.RowKit Go.Lib Go.Deep

theorem place_row {a b c : Int} (hb : 0 ≤ b) (hc : b < c) : (a * c + b) / c = a := by
  rw [Int.add_comm, Int.add_mul_ediv_right _ _ (by omega), Int.ediv_eq_zero_of_lt hb hc, Int.zero_add]
theorem move_right {r c n q : Int} (h : Ok r c) : moveZ r c n 0 q = (n + q) % (r * c) := by
  have hr := h.r1
  have hc := h.c1
  have hp := ok_pos h
  have e : (n % (r * c) + q % (r * c)) % (r * c) = (n + q) % (r * c) := by rw [← Int.add_emod]
  unfold moveZ
  rw [e]
  have b := mod_bd (n + q) hp.1
  generalize (n + q) % (r * c) = k at b ⊢
  have d := div_bd b.1 hc b.2
  have m := mod_bd k hc
  rw [Int.zero_emod, Int.add_zero, Int.emod_eq_of_lt d.1 d.2, Int.emod_eq_of_lt m.1 m.2, Int.mul_comm]
  exact Int.mul_ediv_add_emod k c
theorem moveZ_bd {r c : Int} (h : Ok r c) (n p q : Int) : 0 ≤ moveZ r c n p q ∧ moveZ r c n p q < r * c := by
  have hr := h.r1
  have hc := h.c1
  unfold moveZ
  generalize (n % (r * c) + q % (r * c)) % (r * c) = k
  have m := mod_bd (k / c + p % r) hr
  have j := mod_bd (k % c) hc
  generalize (k / c + p % r) % r = x at m ⊢
  generalize k % c % c = y at j ⊢
  have h1 : 0 ≤ x * c := Int.mul_nonneg m.1 (by omega)
  have h2 : (x + 1) * c ≤ r * c := Int.mul_le_mul_of_nonneg_right (by omega) (by omega)
  rw [Int.add_mul] at h2
  omega
set_option maxRecDepth 100000 in
theorem orf_any (n : Int) (w : World) : Calls Try.prog 107 #[.int .i64 n] w fun e w' => e = .returned (.int .i64 (if n < 0 then 0 else n)) ∧ Below w.heap.size w w' := by
  by_cases h : n < 0
  · rw [if_pos h]
    go_enter Try.func107, Try.ntmps107
    go_wp2
    go_ret
    exact ⟨rfl, Below.refl _ _⟩
  · rw [if_neg h]
    go_enter Try.func107, Try.ntmps107
    go_wp2
    go_ret
    exact ⟨rfl, Below.refl _ _⟩
section
variable {b g : Nat} {s : Spc}
theorem cu_i64 (h : s.OK) : I64 s.cu := i64_small (by have := h.cu1; omega) (by have := h.cu2; have := h.pos; omega)
theorem nat_i64 {a : Nat} (h : s.OK) (ha : a < s.L.length) : I64 (a : Int) := i64_small (by omega) (by have := h.pos; omega)
theorem orf_tab (n : Int) (back : Bool) (w : World) : Calls Try.prog 107 #[.int .i64 (seekZ s (s.wr n) (stB back))] w fun e w' => e = .returned (.int .i64 (tabZ s n back)) ∧ Below w.heap.size w w' := orf_any _ w
/-- Placed where it is told. -/
theorem placed_any {v : Int} (hv : ∃ a : Nat, a < s.L.length ∧ v = (a : Int)) (w : World) (h : SpM w b g s) : Calls Try.prog 53 #[.pointer (some ⟨b, 0, none⟩), .int .i64 v] w (SpD b g (s.cuS v) w) := by
  obtain ⟨a, ha, rfl⟩ := hv
  have q := place_any (a : Int) (nat_i64 h.ok ha) w h
  rwa [place_cuS ha] at q
theorem SpD.pre {s' : Spc} {w w1 w' : World} {e : Ending} (h : SpD b g s' w1 e w') (hb : Below w.heap.size w w1) : SpD b g s' w e w' := ⟨h.1, h.2.1, (Moved.below hb [b, g]).trans h.2.2⟩
set_option maxRecDepth 100000 in
set_option maxHeartbeats 1000000 in
theorem tab_any (w : World) (h : SpM w b g s) : Calls Try.prog 51 #[.pointer (some ⟨b, 0, none⟩)] w (SpD b g (s.cuS (tabZ s s.cu false)) w) := by
  have HC := hid (fun W h => cursor_any (b := b) (g := g) (s := s) W h)
  have HN := hid (fun W h => next_is (b := b) (g := g) (s := s) s.cu (cu_i64 h.ok) W h)
  have HO := hid (fun W => orf_tab (s := s) s.cu false W)
  have HP := hid (fun W h => placed_any (b := b) (g := g) (s := s) (tabZ_bd h.ok s.cu false) W h)
  change Hid (∀ W, Calls _ _ #[.int .i64 (seekZ s (s.wr s.cu) 1)] W _) at HO
  have HH := hid h
  clear h
  generalize seekZ s (s.wr s.cu) 1 = z at HN HO
  generalize tabZ s s.cu false = t at HO HP ⊢
  generalize s.cu = c at HC HN
  go_enter Try.func51, Try.ntmps51
  go_wp2_with fail
  with_reducible refine (HC.out _ HH.out).mono ?_
  rintro e w1 ⟨rfl, hb⟩
  have HB1 := hid (hb)
  clear hb
  go_wp2_with fail
  with_reducible refine (HN.out _ (HH.out.below HB1.out)).mono ?_
  rintro e w2 ⟨rfl, hb⟩
  have HB2 := hid (below_t HB1.out hb)
  clear hb HB1
  go_wp2_with fail
  with_reducible refine (HO.out _ ).mono ?_
  rintro e w3 ⟨rfl, hb⟩
  have HB3 := hid (below_t HB2.out hb)
  clear hb HB2
  go_wp2_with fail
  with_reducible refine (HP.out _ (HH.out.below HB3.out)).mono ?_
  rintro e w4 ⟨⟨v4, rfl⟩, hs, hm⟩
  have HM4 := hid ((Moved.below HB3.out [b, g]).trans hm)
  have HH4 := hid hs
  clear hs hm HB3
  go_wp2
  go_end0
  exact ⟨⟨_, rfl⟩, HH4.out, HM4.out⟩
set_option maxRecDepth 100000 in
set_option maxHeartbeats 1000000 in
theorem backtab_any (w : World) (h : SpM w b g s) : Calls Try.prog 54 #[.pointer (some ⟨b, 0, none⟩)] w (SpD b g (s.cuS (tabZ s s.cu true)) w) := by
  have HC := hid (fun W h => cursor_any (b := b) (g := g) (s := s) W h)
  have HN := hid (fun W h => prev_is (b := b) (g := g) (s := s) s.cu (cu_i64 h.ok) W h)
  have HO := hid (fun W => orf_tab (s := s) s.cu true W)
  have HP := hid (fun W h => placed_any (b := b) (g := g) (s := s) (tabZ_bd h.ok s.cu true) W h)
  change Hid (∀ W, Calls _ _ #[.int .i64 (seekZ s (s.wr s.cu) (-1))] W _) at HO
  have HH := hid h
  clear h
  generalize seekZ s (s.wr s.cu) (-1) = z at HN HO
  generalize tabZ s s.cu true = t at HO HP ⊢
  generalize s.cu = c at HC HN
  go_enter Try.func54, Try.ntmps54
  go_wp2_with fail
  with_reducible refine (HC.out _ HH.out).mono ?_
  rintro e w1 ⟨rfl, hb⟩
  have HB1 := hid (hb)
  clear hb
  go_wp2_with fail
  with_reducible refine (HN.out _ (HH.out.below HB1.out)).mono ?_
  rintro e w2 ⟨rfl, hb⟩
  have HB2 := hid (below_t HB1.out hb)
  clear hb HB1
  go_wp2_with fail
  with_reducible refine (HO.out _ ).mono ?_
  rintro e w3 ⟨rfl, hb⟩
  have HB3 := hid (below_t HB2.out hb)
  clear hb HB2
  go_wp2_with fail
  with_reducible refine (HP.out _ (HH.out.below HB3.out)).mono ?_
  rintro e w4 ⟨⟨v4, rfl⟩, hs, hm⟩
  have HM4 := hid ((Moved.below HB3.out [b, g]).trans hm)
  have HH4 := hid hs
  clear hs hm HB3
  go_wp2
  go_end0
  exact ⟨⟨_, rfl⟩, HH4.out, HM4.out⟩
set_option maxRecDepth 100000 in
set_option maxHeartbeats 1000000 in
theorem cfirst_any (n : Int) (hn : I64 n) (w : World) (h : SpM w b g s) : Calls Try.prog 55 #[.pointer (some ⟨b, 0, none⟩), .int .i64 n] w fun e w' => e = .returned (.int .i64 (frstZ s n)) ∧ Below w.heap.size w w' := by
  have HOP := hid (fun W h => open_any (b := b) (g := g) (s := s) n hn W h)
  have HSZ := hid (fun W h => size_any (b := b) (g := g) (s := s) W h)
  have HWR := hid (fun W => (show Calls Try.prog 81 #[.agg #[.int .i64 s.r, .int .i64 s.c], .int .i64 n] W fun e w' => e = .returned (.int .i64 (s.wr n : Nat)) ∧ Below W.heap.size W w' from by
    rw [h.ok.wr_eq, h.ok.len]
    exact wrap_ok s.r s.c n h.ok.sz hn W))
  have HN := hid (fun W h => next_is (b := b) (g := g) (s := s) n hn W h)
  have HO := hid (fun W => orf_tab (s := s) n false W)
  change Hid (∀ W, Calls _ _ #[.int .i64 (seekZ s (s.wr n) 1)] W _) at HO
  have HH := hid h
  clear h hn
  unfold frstZ
  generalize seekZ s (s.wr n) 1 = z at HN HO
  generalize tabZ s n false = t at HO ⊢
  generalize (s.wr n : Int) = a at HWR ⊢
  generalize s.r = R at HSZ HWR
  generalize s.c = C at HSZ HWR
  cases ho : openB s n
  · rw [if_neg (by simp)]
    rw [ho] at HOP
    clear ho
    go_enter Try.func55, Try.ntmps55
    go_wp2_with fail
    with_reducible refine (HOP.out _ HH.out).mono ?_
    rintro e w1 ⟨rfl, hb⟩
    have HB1 := hid (hb)
    clear hb
    go_wp2_with fail
    with_reducible refine (HN.out _ (HH.out.below HB1.out)).mono ?_
    rintro e w2 ⟨rfl, hb⟩
    have HB2 := hid (below_t HB1.out hb)
    clear hb HB1
    go_wp2_with fail
    with_reducible refine (HO.out _ ).mono ?_
    rintro e w3 ⟨rfl, hb⟩
    have HB3 := hid (below_t HB2.out hb)
    clear hb HB2
    go_wp2
    go_ret
    exact ⟨rfl, HB3.out⟩
  · rw [if_pos rfl]
    rw [ho] at HOP
    clear ho
    go_enter Try.func55, Try.ntmps55
    go_wp2_with fail
    with_reducible refine (HOP.out _ HH.out).mono ?_
    rintro e w1 ⟨rfl, hb⟩
    have HB1 := hid (hb)
    clear hb
    go_wp2_with fail
    with_reducible refine (HSZ.out _ (HH.out.below HB1.out)).mono ?_
    rintro e w2 ⟨rfl, hb⟩
    have HB2 := hid (below_t HB1.out hb)
    clear hb HB1
    go_wp2_with fail
    with_reducible refine (HWR.out _ ).mono ?_
    rintro e w3 ⟨rfl, hb⟩
    have HB3 := hid (below_t HB2.out hb)
    clear hb HB2
    go_wp2
    go_ret
    exact ⟨rfl, HB3.out⟩
set_option maxRecDepth 100000 in
set_option maxHeartbeats 1000000 in
theorem home_any (w : World) (h : SpM w b g s) : Calls Try.prog 57 #[.pointer (some ⟨b, 0, none⟩)] w (SpD b g (s.cuS (frstZ s 0)) w) := by
  have HF := hid (fun W h => cfirst_any (b := b) (g := g) (s := s) 0 ⟨by decide, by decide⟩ W h)
  have HP := hid (fun W h => placed_any (b := b) (g := g) (s := s) (frstZ_bd h.ok 0) W h)
  have HH := hid h
  clear h
  generalize frstZ s 0 = t at HF HP ⊢
  go_enter Try.func57, Try.ntmps57
  go_wp2_with fail
  with_reducible refine (HF.out _ HH.out).mono ?_
  rintro e w1 ⟨rfl, hb⟩
  have HB1 := hid (hb)
  clear hb
  go_wp2_with fail
  with_reducible refine (HP.out _ (HH.out.below HB1.out)).mono ?_
  rintro e w2 ⟨⟨v2, rfl⟩, hs, hm⟩
  have HM2 := hid ((Moved.below HB1.out [b, g]).trans hm)
  have HH2 := hid hs
  clear hs hm HB1
  go_wp2
  go_end0
  exact ⟨⟨_, rfl⟩, HH2.out, HM2.out⟩
/-- The next row's first place. -/
def lineZ (s : Spc) : Int := (s.cu % (s.r * s.c) / s.c + 1) % s.r * s.c
theorem line_i64 (h : s.OK) : I64 (lineZ s) := by
  have hr := h.sz.r1
  have hr2 := h.sz.r2
  have hc := h.sz.c1
  have hc2 := h.sz.c2
  have m := mod_bd (s.cu % (s.r * s.c) / s.c + 1) hr
  unfold lineZ
  generalize (s.cu % (s.r * s.c) / s.c + 1) % s.r = x at m ⊢
  have h1 : 0 ≤ x * s.c := Int.mul_nonneg m.1 (by omega)
  have h2 : x * s.c ≤ 43 * 132 := Int.mul_le_mul (by omega) (by omega) (by omega) (by omega)
  exact i64_small (by omega) (by omega)
set_option maxRecDepth 100000 in
set_option maxHeartbeats 1000000 in
theorem newline_any (w : World) (h : SpM w b g s) : Calls Try.prog 58 #[.pointer (some ⟨b, 0, none⟩)] w (SpD b g (s.cuS (frstZ s (lineZ s))) w) := by
  have HSZ := hid (fun W h => size_any (b := b) (g := g) (s := s) W h)
  have HC := hid (fun W h => cursor_any (b := b) (g := g) (s := s) W h)
  have HL := hid (fun W => (show Calls Try.prog 110 #[.agg #[.int .i64 s.r, .int .i64 s.c], .int .i64 s.cu] W fun e w' => e = .returned (.int .i64 (lineZ s)) ∧ Below W.heap.size W w' from line_ok s.r s.c s.cu h.ok.sz (cu_i64 h.ok) W))
  have HF := hid (fun W h => cfirst_any (b := b) (g := g) (s := s) (lineZ s) (line_i64 h.ok) W h)
  have HP := hid (fun W h => placed_any (b := b) (g := g) (s := s) (frstZ_bd h.ok (lineZ s)) W h)
  have HH := hid h
  clear h
  generalize frstZ s (lineZ s) = t at HF HP ⊢
  generalize lineZ s = l at HL HF
  generalize s.cu = c at HC HL
  generalize s.r = R at HSZ HL
  generalize s.c = C at HSZ HL
  go_enter Try.func58, Try.ntmps58
  go_wp2_with fail
  with_reducible refine (HSZ.out _ HH.out).mono ?_
  rintro e w1 ⟨rfl, hb⟩
  have HB1 := hid (hb)
  clear hb
  go_wp2_with fail
  with_reducible refine (HC.out _ (HH.out.below HB1.out)).mono ?_
  rintro e w2 ⟨rfl, hb⟩
  have HB2 := hid (below_t HB1.out hb)
  clear hb HB1
  go_wp2_with fail
  with_reducible refine (HL.out _ ).mono ?_
  rintro e w3 ⟨rfl, hb⟩
  have HB3 := hid (below_t HB2.out hb)
  clear hb HB2
  go_wp2_with fail
  with_reducible refine (HF.out _ (HH.out.below HB3.out)).mono ?_
  rintro e w4 ⟨rfl, hb⟩
  have HB4 := hid (below_t HB3.out hb)
  clear hb HB3
  go_wp2_with fail
  with_reducible refine (HP.out _ (HH.out.below HB4.out)).mono ?_
  rintro e w5 ⟨⟨v5, rfl⟩, hs, hm⟩
  have HM5 := hid ((Moved.below HB4.out [b, g]).trans hm)
  have HH5 := hid hs
  clear hs hm HB4
  go_wp2
  go_end0
  exact ⟨⟨_, rfl⟩, HH5.out, HM5.out⟩
theorem move_in (h : s.OK) (n p q : Int) : ∃ a : Nat, a < s.L.length ∧ moveZ s.r s.c n p q = (a : Int) := by
  have q1 := moveZ_bd h.sz n p q
  have hl := h.len
  exact ⟨(moveZ s.r s.c n p q).toNat, by omega, by omega⟩
set_option maxRecDepth 100000 in
set_option maxHeartbeats 1000000 in
theorem cmove_any (p q : Int) (hp : I64 p) (hq : I64 q) (w : World) (h : SpM w b g s) : Calls Try.prog 59 #[.pointer (some ⟨b, 0, none⟩), .int .i64 p, .int .i64 q] w (SpD b g (s.cuS (moveZ s.r s.c s.cu p q)) w) := by
  have HSZ := hid (fun W h => size_any (b := b) (g := g) (s := s) W h)
  have HC := hid (fun W h => cursor_any (b := b) (g := g) (s := s) W h)
  have HM := hid (fun W => move_ok s.r s.c s.cu p q h.ok.sz (cu_i64 h.ok) hp hq W)
  have HP := hid (fun W h => placed_any (b := b) (g := g) (s := s) (move_in h.ok s.cu p q) W h)
  have HH := hid h
  clear h hp hq
  generalize moveZ s.r s.c s.cu p q = t at HM HP ⊢
  generalize s.cu = c at HC HM
  generalize s.r = R at HSZ HM
  generalize s.c = C at HSZ HM
  go_enter Try.func59, Try.ntmps59
  go_wp2_with fail
  with_reducible refine (HSZ.out _ HH.out).mono ?_
  rintro e w1 ⟨rfl, hb⟩
  have HB1 := hid (hb)
  clear hb
  go_wp2_with fail
  with_reducible refine (HC.out _ (HH.out.below HB1.out)).mono ?_
  rintro e w2 ⟨rfl, hb⟩
  have HB2 := hid (below_t HB1.out hb)
  clear hb HB1
  go_wp2_with fail
  with_reducible refine (HM.out _ ).mono ?_
  rintro e w3 ⟨rfl, hb⟩
  have HB3 := hid (below_t HB2.out hb)
  clear hb HB2
  go_wp2_with fail
  with_reducible refine (HP.out _ (HH.out.below HB3.out)).mono ?_
  rintro e w4 ⟨⟨v4, rfl⟩, hs, hm⟩
  have HM4 := hid ((Moved.below HB3.out [b, g]).trans hm)
  have HH4 := hid hs
  clear hs hm HB3
  go_wp2
  go_end0
  exact ⟨⟨_, rfl⟩, HH4.out, HM4.out⟩
end
end Go.Proofs.Ytpehhinpohmpiaa
