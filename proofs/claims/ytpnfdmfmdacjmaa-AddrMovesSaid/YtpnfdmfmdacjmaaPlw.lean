/-
  AddrPlaces' walk.
-/
import Derived.Test.YtpnfdmfmdacjmaaSzd
import Derived.Test.YtpnfdmfmdacjmaaAwk
import Derived.Deep.DeepCutAuto
namespace Go.Proofs.Ytpnfdmfmdacjmaa
open Go.RowKit Go.Lib

theorem below_tr {a b c : World} (h : Below a.heap.size a b) (k : Below b.heap.size b c) : Below a.heap.size a c := h.trans (k.mono h.size)
/-- Two boxes, behind a call that only makes memory. -/
theorem boxes_kept {b0 b1 : Nat} {w w1 w2 : World} {x y u v : Value} (hb : Below w1.heap.size w1 w2) (h : w1.cell? ⟨b0, 0, none⟩ = some x ∧ w1.cell? ⟨b0, 1, none⟩ = some y ∧ w1.cell? ⟨b1, 0, none⟩ = some u ∧ w1.cell? ⟨b1, 1, none⟩ = some v ∧ Below w.heap.size w w1) :
    w2.cell? ⟨b0, 0, none⟩ = some x ∧ w2.cell? ⟨b0, 1, none⟩ = some y ∧ w2.cell? ⟨b1, 0, none⟩ = some u ∧ w2.cell? ⟨b1, 1, none⟩ = some v ∧ Below w.heap.size w w2 := by
  have hl := World.block_lt_of_cell? w1 _ h.1
  have hm := World.block_lt_of_cell? w1 _ h.2.2.1
  exact ⟨(hb.cell (p := ⟨b0, 0, none⟩) hl).trans h.1, (hb.cell (p := ⟨b0, 1, none⟩) hl).trans h.2.1, (hb.cell (p := ⟨b1, 0, none⟩) hm).trans h.2.2.1, (hb.cell (p := ⟨b1, 1, none⟩) hm).trans h.2.2.2.1, below_tr h.2.2.2.2 hb⟩
theorem boxes_drew {b0 b1 : Nat} {w w1 : World} {x y u v : Value} (h : w1.cell? ⟨b0, 0, none⟩ = some x ∧ w1.cell? ⟨b0, 1, none⟩ = some y ∧ w1.cell? ⟨b1, 0, none⟩ = some u ∧ w1.cell? ⟨b1, 1, none⟩ = some v ∧ Below w.heap.size w w1) :
    w1.drew.cell? ⟨b0, 0, none⟩ = some x ∧ w1.drew.cell? ⟨b0, 1, none⟩ = some y ∧ w1.drew.cell? ⟨b1, 0, none⟩ = some u ∧ w1.drew.cell? ⟨b1, 1, none⟩ = some v ∧ Below w.heap.size w w1.drew := ⟨h.1, h.2.1, h.2.2.1, h.2.2.2.1, h.2.2.2.2.drew⟩
/-- The second box is made. -/
theorem boxes_new {b0 : Nat} {w w1 : World} {x y : Value} (u v : Value) (t : TypeId) (h : w1.cell? ⟨b0, 0, none⟩ = some x ∧ w1.cell? ⟨b0, 1, none⟩ = some y ∧ Below w.heap.size w w1) :
    (w1.alloc (.cells #[u, v] t)).cell? ⟨b0, 0, none⟩ = some x ∧ (w1.alloc (.cells #[u, v] t)).cell? ⟨b0, 1, none⟩ = some y ∧ (w1.alloc (.cells #[u, v] t)).cell? ⟨w1.heap.size, 0, none⟩ = some u ∧ (w1.alloc (.cells #[u, v] t)).cell? ⟨w1.heap.size, 1, none⟩ = some v ∧ Below w.heap.size w (w1.alloc (.cells #[u, v] t)) := by
  have hb : Below w1.heap.size w1 (w1.alloc (.cells #[u, v] t)) := (Below.refl _ _).alloc (Nat.le_refl _) _
  have k := box_kept hb h
  exact ⟨k.1, k.2.1, by simp [go_sem], by simp [go_sem], k.2.2⟩
theorem place_back {k r c : Int} (h : Ok r c) (h0 : 0 ≤ k) (h1 : k < r * c) : k / c % r * c + k % c % c = k := by
  obtain ⟨d1, d2⟩ := div_bd (c := c) (r := r) h0 h.c1 h1
  rw [Int.emod_emod, Int.emod_eq_of_lt d1 d2]
  have := Int.mul_ediv_add_emod k c
  rw [Int.mul_comm] at this
  exact this

set_option maxRecDepth 100000 in
set_option maxHeartbeats 4000000 in
theorem addrPlaces_no (r c n p q : Int) (h : vB r c = false) (w : World) : Calls Try.prog 3 #[.agg #[.int .i64 r, .int .i64 c], .int .i64 n, .int .i64 p, .int .i64 q] w fun e w' => e = .returned (.bool true) ∧ Below w.heap.size w w' := by
  have A15 := hid (valid_no r c h)
  have A16 := hid (rvalid_no r c h)
  have A17 := hid (cells_no r c h)
  have A18 := hid (rcells_no r c h)
  have A19 := hid (fun n => wrap_no r c n h)
  have A20 := hid (fun n => rwrap_no r c n h)
  have A21 := hid (fun n m => at_no r c n m h)
  have A22 := hid (fun n m => rat_no r c n m h)
  have A23 := hid (fun n m k => move_no r c n m k h)
  have A24 := hid (fun n m k => rmove_no r c n m k h)
  have A25 := hid (fun n => row_no r c n h)
  have A26 := hid (fun n => col_no r c n h)
  have A27 := hid (fun n => line_no r c n h)
  clear h
  go_enter Try.func3, Try.ntmps3
  go_wp2_with fail
  with_reducible refine (awake_true _).mono ?_
  rintro e w1 ⟨rfl, hb1⟩
  have K1 := hid (box_new hb1)
  clear hb1
  obtain ⟨c0, c1, hbb⟩ := K1.out
  clear hbb
  go_upto_region 4 with fail
  clear c0 c1
  obtain ⟨b1, hb1⟩ : ∃ b1, b1 = w1.heap.size := ⟨_, rfl⟩
  have HX := hid (boxes_new (.int .i64 r) (.int .i64 c) 25 K1.out)
  rw [← hb1] at HX ⊢
  clear hb1 K1
  generalize w1.alloc (.cells #[.int .i64 r, .int .i64 c] 25) = wa at HX ⊢
  go_cut [60] (fun t wx => t = .bool false ∧ wx.cell? ⟨w.heap.size, 0, none⟩ = some (.int .i64 r) ∧ wx.cell? ⟨w.heap.size, 1, none⟩ = some (.int .i64 c) ∧ wx.cell? ⟨b1, 0, none⟩ = some (.int .i64 r) ∧ wx.cell? ⟨b1, 1, none⟩ = some (.int .i64 c) ∧ Below w.heap.size w wx)
  case first =>
    go_region_held3 (fun w' => w'.cell? ⟨w.heap.size, 0, none⟩ = some (.int .i64 r) ∧ w'.cell? ⟨w.heap.size, 1, none⟩ = some (.int .i64 c) ∧ w'.cell? ⟨b1, 0, none⟩ = some (.int .i64 r) ∧ w'.cell? ⟨b1, 1, none⟩ = some (.int .i64 c) ∧ Below w.heap.size w w') (first | exact boxes_kept (by assumption) (by assumption) | assumption | exact boxes_drew HX.out)
      (first
        | (go_at_call 15; (with_reducible refine (A15.out _).mono ?_); rintro e w2 ⟨rfl, hb2⟩)
        | (go_at_call 16; (with_reducible refine (A16.out _).mono ?_); rintro e w2 ⟨rfl, hb2⟩)
        | (go_at_call 17; (with_reducible refine (A17.out _).mono ?_); rintro e w2 ⟨rfl, hb2⟩)
        | (go_at_call 18; (with_reducible refine (A18.out _).mono ?_); rintro e w2 ⟨rfl, hb2⟩)
        | (go_at_call 19; (with_reducible refine (A19.out _ _).mono ?_); rintro e w2 ⟨rfl, hb2⟩)
        | (go_at_call 20; (with_reducible refine (A20.out _ _).mono ?_); rintro e w2 ⟨rfl, hb2⟩)
        | (go_at_call 21; (with_reducible refine (A21.out _ _ _).mono ?_); rintro e w2 ⟨rfl, hb2⟩)
        | (go_at_call 22; (with_reducible refine (A22.out _ _ _).mono ?_); rintro e w2 ⟨rfl, hb2⟩)
        | (go_at_call 23; (with_reducible refine (A23.out _ _ _ _).mono ?_); rintro e w2 ⟨rfl, hb2⟩)
        | (go_at_call 24; (with_reducible refine (A24.out _ _ _ _).mono ?_); rintro e w2 ⟨rfl, hb2⟩))
    all_goals
      rename_i hH
      go_wp2_with fail
      go_meet
      exact ⟨rfl, hH⟩
  case rest =>
    obtain ⟨rfl, hX⟩ := hcut
    have HY := hid hX
    clear hX HX
    obtain ⟨c0, c1, c2, c3, hbb⟩ := HY.out
    clear hbb
    go_wp2_with fail
    with_reducible refine (A16.out _).mono ?_
    rintro e wb ⟨rfl, hb⟩
    have HX := hid (boxes_kept hb HY.out)
    clear hb HY c0 c1 c2 c3
    go_upto_region 10 with fail
    go_region_held3 (fun w' => w'.cell? ⟨w.heap.size, 0, none⟩ = some (.int .i64 r) ∧ w'.cell? ⟨w.heap.size, 1, none⟩ = some (.int .i64 c) ∧ w'.cell? ⟨b1, 0, none⟩ = some (.int .i64 r) ∧ w'.cell? ⟨b1, 1, none⟩ = some (.int .i64 c) ∧ Below w.heap.size w w') (first | exact boxes_kept (by assumption) (by assumption) | assumption | exact boxes_drew HX.out)
      (first
        | (go_at_call 25; (with_reducible refine (A25.out _ _).mono ?_); rintro e w2 ⟨rfl, hb2⟩)
        | (go_at_call 26; (with_reducible refine (A26.out _ _).mono ?_); rintro e w2 ⟨rfl, hb2⟩)
        | (go_at_call 27; (with_reducible refine (A27.out _ _).mono ?_); rintro e w2 ⟨rfl, hb2⟩)
        | (go_at_call 21; (with_reducible refine (A21.out _ _ _).mono ?_); rintro e w2 ⟨rfl, hb2⟩)
        | (go_at_call 19; (with_reducible refine (A19.out _ _).mono ?_); rintro e w2 ⟨rfl, hb2⟩))
    all_goals
      rename_i hH
      go_wp2
      go_ret
      exact ⟨rfl, hH.2.2.2.2⟩

set_option maxRecDepth 100000 in
set_option maxHeartbeats 4000000 in
theorem addrPlaces_ok (r c n p q : Int) (h : Ok r c) (hn : I64 n) (hp : I64 p) (hq : I64 q) (w : World) : Calls Try.prog 3 #[.agg #[.int .i64 r, .int .i64 c], .int .i64 n, .int .i64 p, .int .i64 q] w fun e w' => e = .returned (.bool true) ∧ Below w.heap.size w w' := by
  have A15 := hid (valid_ok r c h)
  have A16 := hid (rvalid_ok r c h)
  have A17 := hid (cells_ok r c h)
  have A18 := hid (rcells_ok r c h)
  have A19 := hid (wrap_ok r c n h hn)
  have A20 := hid (rwrap_ok r c n h hn)
  have A21 := hid (at_ok r c p q h hp hq)
  have A22 := hid (rat_ok r c p q h hp hq)
  have A23 := hid (move_ok r c n p q h hn hp hq)
  have A24 := hid (rmove_ok r c n p q h hn hp hq)
  have A25 := hid (row_ok r c n h hn)
  have A26 := hid (col_ok r c n h hn)
  have A27 := hid (line_ok r c n h hn)
  have hN := ok_pos h
  obtain ⟨k1, k2⟩ := mod_bd n hN.1
  generalize moveZ r c n p q = M at A23 A24
  generalize p % r * c + q % c = P at A21 A22
  generalize n % (r * c) = K at A19 A20 A25 A26 A27 k1 k2
  obtain ⟨d1, d2⟩ := div_bd (c := c) (r := r) k1 h.c1 k2
  obtain ⟨e1, e2⟩ := mod_bd K h.c1
  have B21 := hid (at_ok r c (K / c) (K % c) h (i64_small (by have := h.r2; omega) (by have := h.r2; omega)) (i64_small (by have := h.c2; omega) (by have := h.c2; omega)))
  rw [place_back h k1 k2] at B21
  have B22 := hid (rat_ok r c (K / c + 1) 0 h (i64_small (by have := h.r2; omega) (by have := h.r2; omega)) (i64_small (by omega) (by omega)))
  rw [Int.zero_emod, Int.add_zero] at B22
  generalize (K / c + 1) % r * c = L at B22 A27
  generalize r * c = N at A17 A18 hN k2
  obtain ⟨r1, r2, c1, c2, hm⟩ := h
  have k3 : K < 3564 := by omega
  clear hn hp hq hm hN k2
  go_enter Try.func3, Try.ntmps3
  go_wp2_with fail
  with_reducible refine (awake_true _).mono ?_
  rintro e w1 ⟨rfl, hb1⟩
  have K1 := hid (box_new hb1)
  clear hb1
  obtain ⟨c0, c1, hbb⟩ := K1.out
  clear hbb
  go_upto_region 4 with fail
  clear c0 c1
  obtain ⟨b1, hb1⟩ : ∃ b1, b1 = w1.heap.size := ⟨_, rfl⟩
  have HX := hid (boxes_new (.int .i64 r) (.int .i64 c) 25 K1.out)
  rw [← hb1] at HX ⊢
  clear hb1 K1
  generalize w1.alloc (.cells #[.int .i64 r, .int .i64 c] 25) = wa at HX ⊢
  go_cut [60] (fun t wx => t = .bool false ∧ wx.cell? ⟨w.heap.size, 0, none⟩ = some (.int .i64 r) ∧ wx.cell? ⟨w.heap.size, 1, none⟩ = some (.int .i64 c) ∧ wx.cell? ⟨b1, 0, none⟩ = some (.int .i64 r) ∧ wx.cell? ⟨b1, 1, none⟩ = some (.int .i64 c) ∧ Below w.heap.size w wx)
  case first =>
    go_region_held3 (fun w' => w'.cell? ⟨w.heap.size, 0, none⟩ = some (.int .i64 r) ∧ w'.cell? ⟨w.heap.size, 1, none⟩ = some (.int .i64 c) ∧ w'.cell? ⟨b1, 0, none⟩ = some (.int .i64 r) ∧ w'.cell? ⟨b1, 1, none⟩ = some (.int .i64 c) ∧ Below w.heap.size w w') (first | exact boxes_kept (by assumption) (by assumption) | assumption | exact boxes_drew HX.out)
      (first
        | (go_at_call 15; (with_reducible refine (A15.out _).mono ?_); rintro e w2 ⟨rfl, hb2⟩)
        | (go_at_call 16; (with_reducible refine (A16.out _).mono ?_); rintro e w2 ⟨rfl, hb2⟩)
        | (go_at_call 17; (with_reducible refine (A17.out _).mono ?_); rintro e w2 ⟨rfl, hb2⟩)
        | (go_at_call 18; (with_reducible refine (A18.out _).mono ?_); rintro e w2 ⟨rfl, hb2⟩)
        | (go_at_call 19; (with_reducible refine (A19.out _).mono ?_); rintro e w2 ⟨rfl, hb2⟩)
        | (go_at_call 20; (with_reducible refine (A20.out _).mono ?_); rintro e w2 ⟨rfl, hb2⟩)
        | (go_at_call 21; (with_reducible refine (A21.out _).mono ?_); rintro e w2 ⟨rfl, hb2⟩)
        | (go_at_call 22; (with_reducible refine (A22.out _).mono ?_); rintro e w2 ⟨rfl, hb2⟩)
        | (go_at_call 23; (with_reducible refine (A23.out _).mono ?_); rintro e w2 ⟨rfl, hb2⟩)
        | (go_at_call 24; (with_reducible refine (A24.out _).mono ?_); rintro e w2 ⟨rfl, hb2⟩))
    all_goals
      rename_i hH
      go_wp2_with fail
      go_meet
      exact ⟨rfl, hH⟩
  case rest =>
    obtain ⟨rfl, hX⟩ := hcut
    have HY := hid hX
    clear hX HX
    obtain ⟨c0, c1, c2, c3, hbb⟩ := HY.out
    clear hbb
    go_wp2_with fail
    with_reducible refine (A16.out _).mono ?_
    rintro e wb ⟨rfl, hb⟩
    have HX := hid (boxes_kept hb HY.out)
    clear hb HY c0 c1 c2 c3
    go_upto_region 8 with fail
    have z0 : ¬ c = 0 := by omega
    have z1 : K.tdiv c = K / c := Int.tdiv_eq_ediv_of_nonneg k1
    have z2 : K.tmod c = K % c := Int.tmod_eq_emod_of_nonneg k1
    have z3 : IntKind.i64.wrap (K / c) = K / c := IntWalk.i64_in _ (by omega)
    have z4 : IntKind.i64.wrap (K % c) = K % c := IntWalk.i64_in _ (by omega)
    go_cut [10, 11] (fun t u wx => t = .int .i64 (K / c) ∧ u = .int .i64 (K % c) ∧ wx.cell? ⟨w.heap.size, 0, none⟩ = some (.int .i64 r) ∧ wx.cell? ⟨w.heap.size, 1, none⟩ = some (.int .i64 c) ∧ wx.cell? ⟨b1, 0, none⟩ = some (.int .i64 r) ∧ wx.cell? ⟨b1, 1, none⟩ = some (.int .i64 c) ∧ Below w.heap.size w wx)
    case first =>
      go_region_held3 (fun w' => w'.cell? ⟨w.heap.size, 0, none⟩ = some (.int .i64 r) ∧ w'.cell? ⟨w.heap.size, 1, none⟩ = some (.int .i64 c) ∧ w'.cell? ⟨b1, 0, none⟩ = some (.int .i64 r) ∧ w'.cell? ⟨b1, 1, none⟩ = some (.int .i64 c) ∧ Below w.heap.size w w') (first | exact boxes_kept (by assumption) (by assumption) | assumption | exact boxes_drew HX.out)
        (first
          | (go_at_call 20; (with_reducible refine (A20.out _).mono ?_); rintro e w2 ⟨rfl, hb2⟩))
      all_goals
        rename_i hH
        go_wp2_with fail
        go_meet
        exact ⟨rfl, rfl, hH⟩
    case rest =>
      obtain ⟨rfl, rfl, hX⟩ := hcut
      have HY := hid hX
      clear hX HX z1 z2 z3 z4
      obtain ⟨c0, c1, c2, c3, hbb⟩ := HY.out
      clear hbb
      go_wp2_with fail
      with_reducible refine (B22.out _).mono ?_
      rintro e wc ⟨rfl, hb⟩
      have HX := hid (boxes_kept hb HY.out)
      clear hb HY c0 c1 c2 c3
      go_upto_region 10 with fail
      go_region_held3 (fun w' => w'.cell? ⟨w.heap.size, 0, none⟩ = some (.int .i64 r) ∧ w'.cell? ⟨w.heap.size, 1, none⟩ = some (.int .i64 c) ∧ w'.cell? ⟨b1, 0, none⟩ = some (.int .i64 r) ∧ w'.cell? ⟨b1, 1, none⟩ = some (.int .i64 c) ∧ Below w.heap.size w w') (first | exact boxes_kept (by assumption) (by assumption) | assumption | exact boxes_drew HX.out)
        (first
          | (go_at_call 25; (with_reducible refine (A25.out _).mono ?_); rintro e w2 ⟨rfl, hb2⟩)
          | (go_at_call 26; (with_reducible refine (A26.out _).mono ?_); rintro e w2 ⟨rfl, hb2⟩)
          | (go_at_call 27; (with_reducible refine (A27.out _).mono ?_); rintro e w2 ⟨rfl, hb2⟩)
          | (go_at_call 21; (with_reducible refine (B21.out _).mono ?_); rintro e w2 ⟨rfl, hb2⟩)
          | (go_at_call 19; (with_reducible refine (A19.out _).mono ?_); rintro e w2 ⟨rfl, hb2⟩))
      all_goals
        rename_i hH
        go_wp2
        go_ret
        exact ⟨rfl, hH.2.2.2.2⟩

theorem addrPlaces_true (r c n p q : Int) (hn : I64 n) (hp : I64 p) (hq : I64 q) (w : World) : Calls Try.prog 3 #[.agg #[.int .i64 r, .int .i64 c], .int .i64 n, .int .i64 p, .int .i64 q] w fun e w' => e = .returned (.bool true) ∧ Below w.heap.size w w' := by
  rcases ok_or r c with h | h
  · exact addrPlaces_ok r c n p q h hn hp hq w
  · exact addrPlaces_no r c n p q h w
end Go.Proofs.Ytpnfdmfmdacjmaa
