/-
  AddrMoves' walk.
-/
import Derived.Test.YtpnfdmfmdacjmaaPlw
import Derived.Deep.RegionWith
namespace Go.Proofs.Ytpnfdmfmdacjmaa
open Go.RowKit Go.Lib

section
variable {P : Program} {ops : Array Oper} {Q : Exit → Act → World → Prop} {md : Region.Mode} {S : World → Prop}
/-- An operation is taken first: its slot is written. -/
theorem takeD {i : Nat} {oi : Oper} {v : Value} (d : Tmp) {fuel : Nat} {listed : Array Bool} {ts : Array Value} {ds : List Deferred} {w : World} (hi : ops[i]? = some oi) (hd : oi.dst = some d)
    (hs : Region.noSelect ops = true) (hf : Region.free md ops listed i = true) (hr : (Region.ready md ops listed).contains i = true)
    (hQ : ∀ c a w, Q (.panic c) (a.put oi.dst v) w → Q (.panic c) a w) (hS : S w) (hy : YieldsIf P ops S oi v ⟨ts, ds⟩)
    (h : wpAnyH P md ops Q S fuel (listed.setIfInBounds i true) ⟨ts.setIfInBounds d v, ds⟩ w) : wpAnyH P md ops Q S (fuel + 1) listed ⟨ts, ds⟩ w :=
  wpAnyH_take hi hs hf hr hQ hy hS (by rw [hd]; exact h)
end

theorem place_row {a b c : Int} (hb : 0 ≤ b) (hc : b < c) : (a * c + b) / c = a := by
  rw [Int.add_comm, Int.add_mul_ediv_right _ _ (by omega), Int.ediv_eq_zero_of_lt hb hc, Int.zero_add]
theorem place_col {a b c : Int} (hb : 0 ≤ b) (hc : b < c) : (a * c + b) % c = b := by
  rw [Int.add_comm, Int.add_mul_emod_self_right, Int.emod_eq_of_lt hb hc]
theorem place_lt {a b r c : Int} (h0 : 0 ≤ a) (h1 : a < r) (hb : 0 ≤ b) (hc : b < c) : 0 ≤ a * c + b ∧ a * c + b < r * c := by
  have m1 : 0 ≤ a * c := Int.mul_nonneg h0 (by omega)
  have m2 : (a + 1) * c ≤ r * c := Int.mul_le_mul_of_nonneg_right (by omega) (by omega)
  rw [Int.add_mul, Int.one_mul] at m2
  omega
theorem move_eq {r c n p q : Int} (_h : Ok r c) : moveZ r c n p q = ((n + q) % (r * c) / c + p) % r * c + (n + q) % (r * c) % c := by
  unfold moveZ
  rw [← Int.add_emod, Int.emod_emod, Int.add_emod_emod]
theorem move_down {r c n p : Int} (h : Ok r c) : moveZ r c n p 0 = (n % (r * c) / c + p) % r * c + n % (r * c) % c := by
  rw [move_eq h, Int.add_zero]
theorem move_right {r c n q : Int} (h : Ok r c) : moveZ r c n 0 q = (n + q) % (r * c) := by
  rw [move_eq h, Int.add_zero]
  have hN := ok_pos h
  obtain ⟨k1, k2⟩ := mod_bd (n + q) hN.1
  have := place_back h k1 k2
  rw [Int.emod_emod] at this
  exact this
theorem move_there {r c n p : Int} (h : Ok r c) : moveZ r c (moveZ r c n p 0) (-p) 0 = n % (r * c) := by
  have hN := ok_pos h
  obtain ⟨k1, k2⟩ := mod_bd n hN.1
  rw [move_down h, move_down h]
  generalize n % (r * c) = K at k1 k2 ⊢
  obtain ⟨d1, d2⟩ := div_bd (c := c) (r := r) k1 h.c1 k2
  obtain ⟨e1, e2⟩ := mod_bd K h.c1
  obtain ⟨f1, f2⟩ := mod_bd (K / c + p) h.r1
  obtain ⟨g1, g2⟩ := place_lt f1 f2 e1 e2
  rw [Int.emod_eq_of_lt g1 g2, place_row e1 e2, place_col e1 e2, Int.emod_add_emod, Int.add_neg_cancel_right, Int.emod_eq_of_lt d1 d2]
  have := Int.mul_ediv_add_emod K c
  rw [Int.mul_comm] at this
  exact this
theorem move_back {r c n q : Int} (h : Ok r c) : moveZ r c (moveZ r c n 0 q) 0 (-q) = n % (r * c) := by
  rw [move_right h, move_right h, Int.emod_add_emod, Int.add_neg_cancel_right]
theorem move_rows {r c n : Int} (h : Ok r c) : moveZ r c n r 0 = n % (r * c) := by
  have hN := ok_pos h
  obtain ⟨k1, k2⟩ := mod_bd n hN.1
  rw [move_down h]
  generalize n % (r * c) = K at k1 k2 ⊢
  obtain ⟨d1, d2⟩ := div_bd (c := c) (r := r) k1 h.c1 k2
  rw [Int.add_emod_right, Int.emod_eq_of_lt d1 d2]
  have := Int.mul_ediv_add_emod K c
  rw [Int.mul_comm] at this
  exact this
theorem move_cells {r c n : Int} (h : Ok r c) : moveZ r c n 0 (r * c) = n % (r * c) := by
  rw [move_right h, Int.add_emod_right]
theorem move_bd {r c : Int} (h : Ok r c) (n p q : Int) : 0 ≤ moveZ r c n p q ∧ moveZ r c n p q < r * c := by
  rw [move_eq h]
  obtain ⟨e1, e2⟩ := mod_bd ((n + q) % (r * c)) h.c1
  obtain ⟨f1, f2⟩ := mod_bd ((n + q) % (r * c) / c + p) h.r1
  exact place_lt f1 f2 e1 e2
/-- One down: the column stays; the row is the next, or the first. -/
theorem down_all {r c n : Int} (h : Ok r c) : (moveZ r c n 1 0) % (r * c) % c = n % (r * c) % c ∧ (n % (r * c) / c = r - 1 ∧ (moveZ r c n 1 0) % (r * c) / c = 0 ∨ n % (r * c) / c ≠ r - 1 ∧ moveZ r c n 1 0 = n % (r * c) + c) := by
  have hN := ok_pos h
  obtain ⟨k1, k2⟩ := mod_bd n hN.1
  obtain ⟨m1, m2⟩ := move_bd h n 1 0
  rw [Int.emod_eq_of_lt m1 m2]
  clear m1 m2
  rw [move_down h]
  generalize n % (r * c) = K at k1 k2 ⊢
  obtain ⟨d1, d2⟩ := div_bd (c := c) (r := r) k1 h.c1 k2
  obtain ⟨e1, e2⟩ := mod_bd K h.c1
  have hK := Int.mul_ediv_add_emod K c
  rw [Int.mul_comm] at hK
  generalize K / c = D at d1 d2 hK ⊢
  generalize K % c = E at e1 e2 hK ⊢
  rw [place_col e1 e2, place_row e1 e2]
  refine ⟨rfl, ?_⟩
  by_cases hd : D = r - 1
  · left
    refine ⟨hd, ?_⟩
    rw [hd, Int.sub_add_cancel, Int.emod_self]
  · right
    refine ⟨hd, ?_⟩
    rw [Int.emod_eq_of_lt (by omega) (by omega), Int.add_mul, Int.one_mul]
    omega
theorem tmod_bd (p : Int) : -10000 < p.tmod 10000 ∧ p.tmod 10000 < 10000 := by
  have := Int.emod_nonneg p (by omega : (10000 : Int) ≠ 0)
  have := Int.emod_lt_of_pos p (by omega : (0 : Int) < 10000)
  rw [Int.tmod_eq_emod]
  constructor <;> split <;> omega

set_option maxRecDepth 100000 in
set_option maxHeartbeats 4000000 in
theorem addrMoves_no (r c n p q : Int) (h : vB r c = false) (hp : I64 p) (hq : I64 q) (w : World) : Calls Try.prog 6 #[.agg #[.int .i64 r, .int .i64 c], .int .i64 n, .int .i64 p, .int .i64 q] w fun e w' => e = .returned (.bool true) ∧ Below w.heap.size w w' := by
  have A15 := hid (valid_no r c h)
  have A23 := hid (fun n m k => move_no r c n m k h)
  clear h
  obtain ⟨R, hR⟩ : ∃ R, p.tmod 10000 = R := ⟨_, rfl⟩
  obtain ⟨C, hC⟩ : ∃ C, q.tmod 10000 = C := ⟨_, rfl⟩
  obtain ⟨R1, R2⟩ : -10000 < R ∧ R < 10000 := hR ▸ tmod_bd p
  obtain ⟨C1, C2⟩ : -10000 < C ∧ C < 10000 := hC ▸ tmod_bd q
  obtain ⟨p1, p2⟩ := hp
  obtain ⟨q1, q2⟩ := hq
  go_enter Try.func6, Try.ntmps6
  go_wp2_with fail
  with_reducible refine (awake_true _).mono ?_
  rintro e w1 ⟨rfl, hb1⟩
  have K1 := hid (box_new hb1)
  clear hb1
  obtain ⟨c0, c1, hbb⟩ := K1.out
  clear hbb
  go_wp2_with fail
  with_reducible refine (A15.out _).mono ?_
  rintro e w2 ⟨rfl, hb2⟩
  have HX := hid (boxes_kept hb2 (boxes_new _ _ _ K1.out))
  clear hb2 c0 c1
  obtain ⟨c0, c1, c2, c3, hbb⟩ := HX.out
  clear hbb
  go_wp2_with fail
  with_reducible refine (A23.out _ _ _ _).mono ?_
  rintro e w3 ⟨rfl, hb3⟩
  have HY := hid (boxes_kept hb3 HX.out)
  clear hb3 c0 c1 c2 c3
  go_wp2
  go_ret
  exact ⟨rfl, HY.out.2.2.2.2⟩

set_option maxRecDepth 100000 in
set_option maxHeartbeats 4000000 in
theorem addrMoves_ok (r c n p q : Int) (h : Ok r c) (hn : I64 n) (hp : I64 p) (hq : I64 q) (w : World) : Calls Try.prog 6 #[.agg #[.int .i64 r, .int .i64 c], .int .i64 n, .int .i64 p, .int .i64 q] w fun e w' => e = .returned (.bool true) ∧ Below w.heap.size w w' := by
  obtain ⟨R, hR⟩ : ∃ R, p.tmod 10000 = R := ⟨_, rfl⟩
  obtain ⟨C, hC⟩ : ∃ C, q.tmod 10000 = C := ⟨_, rfl⟩
  obtain ⟨R1, R2⟩ : -10000 < R ∧ R < 10000 := hR ▸ tmod_bd p
  obtain ⟨C1, C2⟩ : -10000 < C ∧ C < 10000 := hC ▸ tmod_bd q
  obtain ⟨p1, p2⟩ := hp
  obtain ⟨q1, q2⟩ := hq
  have hN := ok_pos h
  have i0 : I64 0 := i64_small (by omega) (by omega)
  have iR : I64 R := i64_small (by omega) (by omega)
  have iR' : I64 (-R) := i64_small (by omega) (by omega)
  have iC : I64 C := i64_small (by omega) (by omega)
  have iC' : I64 (-C) := i64_small (by omega) (by omega)
  have im : ∀ x y z, I64 (moveZ r c x y z) := fun x y z => by have := move_bd h x y z; exact i64_small (by omega) (by omega)
  have A15 := hid (valid_ok r c h)
  have A17 := hid (cells_ok r c h)
  have A19 := hid (wrap_ok r c n h hn)
  have M1 := hid (move_ok r c n R 0 h hn iR i0)
  have M2 := hid (move_ok r c (moveZ r c n R 0) (-R) 0 h (im _ _ _) iR' i0)
  have M3 := hid (move_ok r c n 0 C h hn i0 iC)
  have M4 := hid (move_ok r c (moveZ r c n 0 C) 0 (-C) h (im _ _ _) i0 iC')
  have M5 := hid (move_ok r c n r 0 h hn (i64_small (by have := h.r1; omega) (by have := h.r2; omega)) i0)
  have M6 := hid (move_ok r c n 0 (r * c) h hn i0 (i64_small (by omega) (by omega)))
  have M7 := hid (move_ok r c n 1 0 h hn (i64_small (by omega) (by omega)) i0)
  have RN := hid (row_ok r c n h hn)
  have CN := hid (col_ok r c n h hn)
  have RD := hid (row_ok r c (moveZ r c n 1 0) h (im _ _ _))
  have CD := hid (col_ok r c (moveZ r c n 1 0) h (im _ _ _))
  rw [move_there h] at M2
  rw [move_back h] at M4
  rw [move_rows h] at M5
  rw [move_cells h] at M6
  obtain ⟨dc, dd⟩ := down_all (n := n) h
  rw [dc] at CD
  obtain ⟨k1, k2⟩ := mod_bd n hN.1
  generalize n % (r * c) = K at A19 M2 M4 M5 M6 RN CN CD dd dc k1 k2
  obtain ⟨g1, g2⟩ := div_bd (c := c) (r := r) k1 h.c1 k2
  generalize K / c = D at RN dd g1 g2
  generalize K % c = E at CN CD dc
  generalize moveZ r c n R 0 = X1 at M1 M2
  generalize moveZ r c n 0 C = X2 at M3 M4
  generalize moveZ r c n 1 0 = X3 at M7 RD CD dd dc
  generalize X3 % (r * c) / c = F at RD dd
  obtain ⟨r1, r2, c1, c2, hm⟩ := h
  have k3 : K < 3564 := by omega
  generalize r * c = N at A17 M6 hN
  clear im i0 iR iR' iC iC' hn hm dc k2 hN
  have HR := hid hR
  have HC := hid hC
  have HD := hid dd
  clear dd
  go_enter Try.func6, Try.ntmps6
  go_wp2_with fail
  with_reducible refine (awake_true _).mono ?_
  rintro e w1 ⟨rfl, hb1⟩
  have K1 := hid (box_new hb1)
  clear hb1
  obtain ⟨c0, c1, hbb⟩ := K1.out
  clear hbb
  go_wp2_with fail
  with_reducible refine (A15.out _).mono ?_
  rintro e w2 ⟨rfl, hb2⟩
  have HX := hid (boxes_kept hb2 (boxes_new _ _ _ K1.out))
  clear hb2 c0 c1
  obtain ⟨c0, c1, c2, c3, hbb⟩ := HX.out
  clear hbb
  go_wp2_with fail
  with_reducible refine (A19.out _).mono ?_
  rintro e w3 ⟨rfl, hb3⟩
  have HY := hid (boxes_kept hb3 HX.out)
  clear hb3 c0 c1 c2 c3 HX
  go_upto_region 8 with fail
  obtain ⟨b1, hb1⟩ : ∃ b1, b1 = w1.heap.size := ⟨_, rfl⟩
  rw [← hb1] at HY ⊢
  clear hb1 K1 hR hC
  go_cut [70] (fun t wx => t = .bool false ∧ wx.cell? ⟨w.heap.size, 0, none⟩ = some (.int .i64 r) ∧ wx.cell? ⟨w.heap.size, 1, none⟩ = some (.int .i64 c) ∧ wx.cell? ⟨b1, 0, none⟩ = some (.int .i64 r) ∧ wx.cell? ⟨b1, 1, none⟩ = some (.int .i64 c) ∧ Below w.heap.size w wx)
  case first =>
    have z1 : IntKind.i64.wrap (-R) = -R := IntWalk.i64_in _ (by omega)
    have z2 : IntKind.i64.wrap (-C) = -C := IntWalk.i64_in _ (by omega)
    go_region_held3 (fun w' => w'.cell? ⟨w.heap.size, 0, none⟩ = some (.int .i64 r) ∧ w'.cell? ⟨w.heap.size, 1, none⟩ = some (.int .i64 c) ∧ w'.cell? ⟨b1, 0, none⟩ = some (.int .i64 r) ∧ w'.cell? ⟨b1, 1, none⟩ = some (.int .i64 c) ∧ Below w.heap.size w w') (first | exact boxes_kept (by assumption) (by assumption) | assumption | exact boxes_drew HY.out)
      (first
        | (go_at_call 23; (with_reducible refine (M1.out _).mono ?_); rintro e w2 ⟨rfl, hb2⟩)
        | (go_at_call 23; (with_reducible refine (M2.out _).mono ?_); rintro e w2 ⟨rfl, hb2⟩)
        | (go_at_call 23; (with_reducible refine (M3.out _).mono ?_); rintro e w2 ⟨rfl, hb2⟩)
        | (go_at_call 23; (with_reducible refine (M4.out _).mono ?_); rintro e w2 ⟨rfl, hb2⟩)
        | (go_at_call 23; (with_reducible refine (M5.out _).mono ?_); rintro e w2 ⟨rfl, hb2⟩)
        | (go_at_call 17; (with_reducible refine (A17.out _).mono ?_); rintro e w2 ⟨rfl, hb2⟩)
        | (go_at_call 23; (with_reducible refine (M6.out _).mono ?_); rintro e w2 ⟨rfl, hb2⟩))
    all_goals
      rename_i hH
      go_wp2_with fail
      go_meet
      exact ⟨rfl, hH⟩
  case rest =>
    obtain ⟨rfl, hX⟩ := hcut
    have HX := hid hX
    clear hX HY
    obtain ⟨c0, c1, c2, c3, hbb⟩ := HX.out
    clear hbb
    go_wp2_with fail
    with_reducible refine (M7.out _).mono ?_
    rintro e w3 ⟨rfl, hb3⟩
    have HY := hid (boxes_kept hb3 HX.out)
    clear hb3 c0 c1 c2 c3 HX
    go_upto_region 11 with fail
    obtain ⟨c0, c1, c2, c3, hbb⟩ := HY.out
    have z3 : IntKind.i64.wrap (r - 1) = r - 1 := IntWalk.i64_in _ (by omega)
    have z4 : IntKind.i64.wrap (K + c) = K + c := IntWalk.i64_in _ (by omega)
    clear c0 c1 c2 c3 hbb
    rcases HD.out with ⟨rfl, rfl⟩ | ⟨hne, rfl⟩
    · clear HD
      refine wp_region_held_drew (S := (fun w' => w'.cell? ⟨w.heap.size, 0, none⟩ = some (.int .i64 r) ∧ w'.cell? ⟨w.heap.size, 1, none⟩ = some (.int .i64 c) ∧ w'.cell? ⟨b1, 0, none⟩ = some (.int .i64 r) ∧ w'.cell? ⟨b1, 1, none⟩ = some (.int .i64 c) ∧ Below w.heap.size w w')) (by kernel_rfl) ?_ (fun hHeld => ?_)
      · exact boxes_drew HY.out
      refine takeD (i := 0) (v := ?_) 74 rfl rfl (by kernel_rfl) (by kernel_rfl) (by kernel_rfl) (fun _ _ _ h => h) (by assumption) (Or.inl ⟨by rfl, ?_⟩) ?_
      rotate_left
      · intro w hSw
        (try dsimp only at hSw)
        go_simp
        try with_reducible rfl
      simp only [List.setIfInBounds_toArray, List.set_cons_zero, List.set_cons_succ]
      refine takeD (i := 1) (v := ?_) 75 rfl rfl (by kernel_rfl) (by kernel_rfl) (by kernel_rfl) (fun _ _ _ h => h) (by assumption) (Or.inl ⟨by rfl, ?_⟩) ?_
      rotate_left
      · intro w hSw
        (try dsimp only at hSw)
        go_simp
        try with_reducible rfl
      simp only [List.setIfInBounds_toArray, List.set_cons_zero, List.set_cons_succ]
      refine takeD (i := 3) (v := ?_) 77 rfl rfl (by kernel_rfl) (by kernel_rfl) (by kernel_rfl) (fun _ _ _ h => h) (by assumption) (Or.inl ⟨by rfl, ?_⟩) ?_
      rotate_left
      · intro w hSw
        (try dsimp only at hSw)
        go_simp
        try with_reducible rfl
      simp only [List.setIfInBounds_toArray, List.set_cons_zero, List.set_cons_succ]
      refine takeD (i := 4) (v := ?_) 78 rfl rfl (by kernel_rfl) (by kernel_rfl) (by kernel_rfl) (fun _ _ _ h => h) (by assumption) (Or.inl ⟨by rfl, ?_⟩) ?_
      rotate_left
      · intro w hSw
        (try dsimp only at hSw)
        go_simp
        try with_reducible rfl
      simp only [List.setIfInBounds_toArray, List.set_cons_zero, List.set_cons_succ]
      refine wpAnyH_ready (rs := [2]) (by kernel_rfl) (by simp) ?_
      refine AllReadyH.cons (by simp only [List.getElem?_toArray, List.getElem?_cons_succ, List.getElem?_cons_zero]; rfl) (fun K hK => ?_) AllReadyH.nil
      go_simp
      (with_reducible refine (CD.out _).mono ?_)
      rintro e w2 ⟨rfl, hb2⟩
      (try go_wp2_with fail)
      refine hK.out _ _ ?_ (fun hHeldN => ?_)
      · exact boxes_kept hb2 hHeld
      clear hK K hHeld
      have hHeld := hHeldN
      clear hHeldN
      refine wpAnyH_ready (rs := [5]) (by kernel_rfl) (by simp) ?_
      refine AllReadyH.cons (by simp only [List.getElem?_toArray, List.getElem?_cons_succ, List.getElem?_cons_zero]; rfl) (fun K hK => ?_) AllReadyH.nil
      go_simp
      (with_reducible refine (CN.out _).mono ?_)
      rintro e w2 ⟨rfl, hb2⟩
      (try go_wp2_with fail)
      refine hK.out _ _ ?_ (fun hHeldN => ?_)
      · exact boxes_kept hb2 hHeld
      clear hK K hHeld
      have hHeld := hHeldN
      clear hHeldN
      refine takeD (i := 6) (v := ?_) 80 rfl rfl (by kernel_rfl) (by kernel_rfl) (by kernel_rfl) (fun _ _ _ h => h) (by assumption) (Or.inl ⟨by rfl, ?_⟩) ?_
      rotate_left
      · intro w hSw
        (try dsimp only at hSw)
        go_simp
        try with_reducible rfl
      simp only [List.setIfInBounds_toArray, List.set_cons_zero, List.set_cons_succ]
      refine takeD (i := 7) (v := ?_) 81 rfl rfl (by kernel_rfl) (by kernel_rfl) (by kernel_rfl) (fun _ _ _ h => h) (by assumption) (Or.inl ⟨by rfl, ?_⟩) ?_
      rotate_left
      · intro w hSw
        (try dsimp only at hSw)
        go_simp
        try with_reducible rfl
      simp only [List.setIfInBounds_toArray, List.set_cons_zero, List.set_cons_succ]
      refine takeD (i := 8) (v := ?_) 82 rfl rfl (by kernel_rfl) (by kernel_rfl) (by kernel_rfl) (fun _ _ _ h => h) (by assumption) (Or.inl ⟨by rfl, ?_⟩) ?_
      rotate_left
      · intro w hSw
        (try dsimp only at hSw)
        go_simp
        try with_reducible rfl
      simp only [List.setIfInBounds_toArray, List.set_cons_zero, List.set_cons_succ]
      refine takeD (i := 9) (v := ?_) 83 rfl rfl (by kernel_rfl) (by kernel_rfl) (by kernel_rfl) (fun _ _ _ h => h) (by assumption) (Or.inl ⟨by rfl, ?_⟩) ?_
      rotate_left
      · intro w hSw
        (try dsimp only at hSw)
        go_simp
        try with_reducible rfl
      simp only [List.setIfInBounds_toArray, List.set_cons_zero, List.set_cons_succ]
      refine takeD (i := 11) (v := ?_) 85 rfl rfl (by kernel_rfl) (by kernel_rfl) (by kernel_rfl) (fun _ _ _ h => h) (by assumption) (Or.inl ⟨by rfl, ?_⟩) ?_
      rotate_left
      · intro w hSw
        (try dsimp only at hSw)
        go_simp
        try with_reducible rfl
      simp only [List.setIfInBounds_toArray, List.set_cons_zero, List.set_cons_succ]
      refine takeD (i := 12) (v := ?_) 86 rfl rfl (by kernel_rfl) (by kernel_rfl) (by kernel_rfl) (fun _ _ _ h => h) (by assumption) (Or.inl ⟨by rfl, ?_⟩) ?_
      rotate_left
      · intro w hSw
        (try dsimp only at hSw)
        go_simp
        try with_reducible rfl
      simp only [List.setIfInBounds_toArray, List.set_cons_zero, List.set_cons_succ]
      refine takeD (i := 13) (v := ?_) 87 rfl rfl (by kernel_rfl) (by kernel_rfl) (by kernel_rfl) (fun _ _ _ h => h) (by assumption) (Or.inl ⟨by rfl, ?_⟩) ?_
      rotate_left
      · intro w hSw
        (try dsimp only at hSw)
        go_simp
        try with_reducible rfl
      simp only [List.setIfInBounds_toArray, List.set_cons_zero, List.set_cons_succ]
      refine wpAnyH_ready (rs := [10]) (by kernel_rfl) (by simp) ?_
      refine AllReadyH.cons (by simp only [List.getElem?_toArray, List.getElem?_cons_succ, List.getElem?_cons_zero]; rfl) (fun K hK => ?_) AllReadyH.nil
      go_simp
      (with_reducible refine (RN.out _).mono ?_)
      rintro e w2 ⟨rfl, hb2⟩
      (try go_wp2_with fail)
      refine hK.out _ _ ?_ (fun hHeldN => ?_)
      · exact boxes_kept hb2 hHeld
      clear hK K hHeld
      have hHeld := hHeldN
      clear hHeldN
      refine takeD (i := 14) (v := ?_) 88 rfl rfl (by kernel_rfl) (by kernel_rfl) (by kernel_rfl) (fun _ _ _ h => h) (by assumption) (Or.inl ⟨by rfl, ?_⟩) ?_
      rotate_left
      · intro w hSw
        (try dsimp only at hSw)
        go_simp
        try with_reducible rfl
      simp only [List.setIfInBounds_toArray, List.set_cons_zero, List.set_cons_succ]
      refine takeD (i := 15) (v := ?_) 89 rfl rfl (by kernel_rfl) (by kernel_rfl) (by kernel_rfl) (fun _ _ _ h => h) (by assumption) (Or.inl ⟨by rfl, ?_⟩) ?_
      rotate_left
      · intro w hSw
        (try dsimp only at hSw)
        go_simp
        try with_reducible rfl
      simp only [List.setIfInBounds_toArray, List.set_cons_zero, List.set_cons_succ]
      refine takeD (i := 16) (v := ?_) 90 rfl rfl (by kernel_rfl) (by kernel_rfl) (by kernel_rfl) (fun _ _ _ h => h) (by assumption) (Or.inl ⟨by rfl, ?_⟩) ?_
      rotate_left
      · intro w hSw
        (try dsimp only at hSw)
        go_simp
        try with_reducible rfl
      simp only [List.setIfInBounds_toArray, List.set_cons_zero, List.set_cons_succ]
      refine takeD (i := 17) (v := ?_) 91 rfl rfl (by kernel_rfl) (by kernel_rfl) (by kernel_rfl) (fun _ _ _ h => h) (by assumption) (Or.inl ⟨by rfl, ?_⟩) ?_
      rotate_left
      · intro w hSw
        (try dsimp only at hSw)
        go_simp
        try with_reducible rfl
      simp only [List.setIfInBounds_toArray, List.set_cons_zero, List.set_cons_succ]
      refine wpAnyH_ready (rs := [18]) (by kernel_rfl) (by simp) ?_
      refine AllReadyH.cons (by simp only [List.getElem?_toArray, List.getElem?_cons_succ, List.getElem?_cons_zero]; rfl) (fun K hK => ?_) AllReadyH.nil
      go_simp
      (with_reducible refine (RD.out _).mono ?_)
      rintro e w2 ⟨rfl, hb2⟩
      (try go_wp2_with fail)
      refine hK.out _ _ ?_ (fun hHeldN => ?_)
      · exact boxes_kept hb2 hHeld
      clear hK K hHeld
      have hHeld := hHeldN
      clear hHeldN
      refine takeD (i := 19) (v := ?_) 93 rfl rfl (by kernel_rfl) (by kernel_rfl) (by kernel_rfl) (fun _ _ _ h => h) (by assumption) (Or.inl ⟨by rfl, ?_⟩) ?_
      rotate_left
      · intro w hSw
        (try dsimp only at hSw)
        go_simp
        try with_reducible rfl
      simp only [List.setIfInBounds_toArray, List.set_cons_zero, List.set_cons_succ]
      refine takeD (i := 20) (v := ?_) 94 rfl rfl (by kernel_rfl) (by kernel_rfl) (by kernel_rfl) (fun _ _ _ h => h) (by assumption) (Or.inl ⟨by rfl, ?_⟩) ?_
      rotate_left
      · intro w hSw
        (try dsimp only at hSw)
        go_simp
        try with_reducible rfl
      simp only [List.setIfInBounds_toArray, List.set_cons_zero, List.set_cons_succ]
      refine takeD (i := 21) (v := ?_) 95 rfl rfl (by kernel_rfl) (by kernel_rfl) (by kernel_rfl) (fun _ _ _ h => h) (by assumption) (Or.inl ⟨by rfl, ?_⟩) ?_
      rotate_left
      · intro w hSw
        (try dsimp only at hSw)
        go_simp
        try with_reducible rfl
      simp only [List.setIfInBounds_toArray, List.set_cons_zero, List.set_cons_succ]
      refine takeD (i := 22) (v := undef) 96 rfl rfl (by kernel_rfl) (by kernel_rfl) (by kernel_rfl) (fun _ _ _ h => h) (by assumption) (Or.inr ⟨by rfl, rfl⟩) ?_
      simp only [List.setIfInBounds_toArray, List.set_cons_zero, List.set_cons_succ]
      refine takeD (i := 23) (v := undef) 97 rfl rfl (by kernel_rfl) (by kernel_rfl) (by kernel_rfl) (fun _ _ _ h => h) (by assumption) (Or.inr ⟨by rfl, rfl⟩) ?_
      simp only [List.setIfInBounds_toArray, List.set_cons_zero, List.set_cons_succ]
      refine takeD (i := 24) (v := undef) 98 rfl rfl (by kernel_rfl) (by kernel_rfl) (by kernel_rfl) (fun _ _ _ h => h) (by assumption) (Or.inr ⟨by rfl, rfl⟩) ?_
      simp only [List.setIfInBounds_toArray, List.set_cons_zero, List.set_cons_succ]
      refine takeD (i := 25) (v := undef) 99 rfl rfl (by kernel_rfl) (by kernel_rfl) (by kernel_rfl) (fun _ _ _ h => h) (by assumption) (Or.inr ⟨by rfl, rfl⟩) ?_
      simp only [List.setIfInBounds_toArray, List.set_cons_zero, List.set_cons_succ]
      refine takeD (i := 26) (v := undef) 100 rfl rfl (by kernel_rfl) (by kernel_rfl) (by kernel_rfl) (fun _ _ _ h => h) (by assumption) (Or.inr ⟨by rfl, rfl⟩) ?_
      simp only [List.setIfInBounds_toArray, List.set_cons_zero, List.set_cons_succ]
      refine takeD (i := 27) (v := undef) 101 rfl rfl (by kernel_rfl) (by kernel_rfl) (by kernel_rfl) (fun _ _ _ h => h) (by assumption) (Or.inr ⟨by rfl, rfl⟩) ?_
      simp only [List.setIfInBounds_toArray, List.set_cons_zero, List.set_cons_succ]
      refine takeD (i := 28) (v := ?_) 102 rfl rfl (by kernel_rfl) (by kernel_rfl) (by kernel_rfl) (fun _ _ _ h => h) (by assumption) (Or.inl ⟨by rfl, ?_⟩) ?_
      rotate_left
      · intro w hSw
        (try dsimp only at hSw)
        go_simp
        try with_reducible rfl
      simp only [List.setIfInBounds_toArray, List.set_cons_zero, List.set_cons_succ]
      refine takeD (i := 29) (v := ?_) 103 rfl rfl (by kernel_rfl) (by kernel_rfl) (by kernel_rfl) (fun _ _ _ h => h) (by assumption) (Or.inl ⟨by rfl, ?_⟩) ?_
      rotate_left
      · intro w hSw
        (try dsimp only at hSw)
        go_simp
        try with_reducible rfl
      simp only [List.setIfInBounds_toArray, List.set_cons_zero, List.set_cons_succ]
      refine takeD (i := 30) (v := ?_) 8 rfl rfl (by kernel_rfl) (by kernel_rfl) (by kernel_rfl) (fun _ _ _ h => h) (by assumption) (Or.inl ⟨by rfl, ?_⟩) ?_
      rotate_left
      · intro w hSw
        (try dsimp only at hSw)
        go_simp
        try with_reducible rfl
      simp only [List.setIfInBounds_toArray, List.set_cons_zero, List.set_cons_succ]
      refine wpAnyH_done (by kernel_rfl) ?_ _
      go_wp2
      go_ret
      exact ⟨rfl, hHeld.2.2.2.2⟩

    · clear HD
      have z5 : ¬ D = r - 1 := hne
      have z6 : (D == r - 1) = false := by simpa using hne
      refine wp_region_held_drew (S := (fun w' => w'.cell? ⟨w.heap.size, 0, none⟩ = some (.int .i64 r) ∧ w'.cell? ⟨w.heap.size, 1, none⟩ = some (.int .i64 c) ∧ w'.cell? ⟨b1, 0, none⟩ = some (.int .i64 r) ∧ w'.cell? ⟨b1, 1, none⟩ = some (.int .i64 c) ∧ Below w.heap.size w w')) (by kernel_rfl) ?_ (fun hHeld => ?_)
      · exact boxes_drew HY.out
      refine takeD (i := 0) (v := ?_) 74 rfl rfl (by kernel_rfl) (by kernel_rfl) (by kernel_rfl) (fun _ _ _ h => h) (by assumption) (Or.inl ⟨by rfl, ?_⟩) ?_
      rotate_left
      · intro w hSw
        (try dsimp only at hSw)
        go_simp
        try with_reducible rfl
      simp only [List.setIfInBounds_toArray, List.set_cons_zero, List.set_cons_succ]
      refine takeD (i := 1) (v := ?_) 75 rfl rfl (by kernel_rfl) (by kernel_rfl) (by kernel_rfl) (fun _ _ _ h => h) (by assumption) (Or.inl ⟨by rfl, ?_⟩) ?_
      rotate_left
      · intro w hSw
        (try dsimp only at hSw)
        go_simp
        try with_reducible rfl
      simp only [List.setIfInBounds_toArray, List.set_cons_zero, List.set_cons_succ]
      refine takeD (i := 3) (v := ?_) 77 rfl rfl (by kernel_rfl) (by kernel_rfl) (by kernel_rfl) (fun _ _ _ h => h) (by assumption) (Or.inl ⟨by rfl, ?_⟩) ?_
      rotate_left
      · intro w hSw
        (try dsimp only at hSw)
        go_simp
        try with_reducible rfl
      simp only [List.setIfInBounds_toArray, List.set_cons_zero, List.set_cons_succ]
      refine takeD (i := 4) (v := ?_) 78 rfl rfl (by kernel_rfl) (by kernel_rfl) (by kernel_rfl) (fun _ _ _ h => h) (by assumption) (Or.inl ⟨by rfl, ?_⟩) ?_
      rotate_left
      · intro w hSw
        (try dsimp only at hSw)
        go_simp
        try with_reducible rfl
      simp only [List.setIfInBounds_toArray, List.set_cons_zero, List.set_cons_succ]
      refine wpAnyH_ready (rs := [2]) (by kernel_rfl) (by simp) ?_
      refine AllReadyH.cons (by simp only [List.getElem?_toArray, List.getElem?_cons_succ, List.getElem?_cons_zero]; rfl) (fun K hK => ?_) AllReadyH.nil
      go_simp
      (with_reducible refine (CD.out _).mono ?_)
      rintro e w2 ⟨rfl, hb2⟩
      (try go_wp2_with fail)
      refine hK.out _ _ ?_ (fun hHeldN => ?_)
      · exact boxes_kept hb2 hHeld
      clear hK K hHeld
      have hHeld := hHeldN
      clear hHeldN
      refine wpAnyH_ready (rs := [5]) (by kernel_rfl) (by simp) ?_
      refine AllReadyH.cons (by simp only [List.getElem?_toArray, List.getElem?_cons_succ, List.getElem?_cons_zero]; rfl) (fun K hK => ?_) AllReadyH.nil
      go_simp
      (with_reducible refine (CN.out _).mono ?_)
      rintro e w2 ⟨rfl, hb2⟩
      (try go_wp2_with fail)
      refine hK.out _ _ ?_ (fun hHeldN => ?_)
      · exact boxes_kept hb2 hHeld
      clear hK K hHeld
      have hHeld := hHeldN
      clear hHeldN
      refine takeD (i := 6) (v := ?_) 80 rfl rfl (by kernel_rfl) (by kernel_rfl) (by kernel_rfl) (fun _ _ _ h => h) (by assumption) (Or.inl ⟨by rfl, ?_⟩) ?_
      rotate_left
      · intro w hSw
        (try dsimp only at hSw)
        go_simp
        try with_reducible rfl
      simp only [List.setIfInBounds_toArray, List.set_cons_zero, List.set_cons_succ]
      refine takeD (i := 7) (v := ?_) 81 rfl rfl (by kernel_rfl) (by kernel_rfl) (by kernel_rfl) (fun _ _ _ h => h) (by assumption) (Or.inl ⟨by rfl, ?_⟩) ?_
      rotate_left
      · intro w hSw
        (try dsimp only at hSw)
        go_simp
        try with_reducible rfl
      simp only [List.setIfInBounds_toArray, List.set_cons_zero, List.set_cons_succ]
      refine takeD (i := 8) (v := ?_) 82 rfl rfl (by kernel_rfl) (by kernel_rfl) (by kernel_rfl) (fun _ _ _ h => h) (by assumption) (Or.inl ⟨by rfl, ?_⟩) ?_
      rotate_left
      · intro w hSw
        (try dsimp only at hSw)
        go_simp
        try with_reducible rfl
      simp only [List.setIfInBounds_toArray, List.set_cons_zero, List.set_cons_succ]
      refine takeD (i := 9) (v := ?_) 83 rfl rfl (by kernel_rfl) (by kernel_rfl) (by kernel_rfl) (fun _ _ _ h => h) (by assumption) (Or.inl ⟨by rfl, ?_⟩) ?_
      rotate_left
      · intro w hSw
        (try dsimp only at hSw)
        go_simp
        try with_reducible rfl
      simp only [List.setIfInBounds_toArray, List.set_cons_zero, List.set_cons_succ]
      refine takeD (i := 11) (v := ?_) 85 rfl rfl (by kernel_rfl) (by kernel_rfl) (by kernel_rfl) (fun _ _ _ h => h) (by assumption) (Or.inl ⟨by rfl, ?_⟩) ?_
      rotate_left
      · intro w hSw
        (try dsimp only at hSw)
        go_simp
        try with_reducible rfl
      simp only [List.setIfInBounds_toArray, List.set_cons_zero, List.set_cons_succ]
      refine takeD (i := 12) (v := ?_) 86 rfl rfl (by kernel_rfl) (by kernel_rfl) (by kernel_rfl) (fun _ _ _ h => h) (by assumption) (Or.inl ⟨by rfl, ?_⟩) ?_
      rotate_left
      · intro w hSw
        (try dsimp only at hSw)
        go_simp
        try with_reducible rfl
      simp only [List.setIfInBounds_toArray, List.set_cons_zero, List.set_cons_succ]
      refine takeD (i := 13) (v := ?_) 87 rfl rfl (by kernel_rfl) (by kernel_rfl) (by kernel_rfl) (fun _ _ _ h => h) (by assumption) (Or.inl ⟨by rfl, ?_⟩) ?_
      rotate_left
      · intro w hSw
        (try dsimp only at hSw)
        go_simp
        try with_reducible rfl
      simp only [List.setIfInBounds_toArray, List.set_cons_zero, List.set_cons_succ]
      refine wpAnyH_ready (rs := [10]) (by kernel_rfl) (by simp) ?_
      refine AllReadyH.cons (by simp only [List.getElem?_toArray, List.getElem?_cons_succ, List.getElem?_cons_zero]; rfl) (fun K hK => ?_) AllReadyH.nil
      go_simp
      (with_reducible refine (RN.out _).mono ?_)
      rintro e w2 ⟨rfl, hb2⟩
      (try go_wp2_with fail)
      refine hK.out _ _ ?_ (fun hHeldN => ?_)
      · exact boxes_kept hb2 hHeld
      clear hK K hHeld
      have hHeld := hHeldN
      clear hHeldN
      refine takeD (i := 14) (v := ?_) 88 rfl rfl (by kernel_rfl) (by kernel_rfl) (by kernel_rfl) (fun _ _ _ h => h) (by assumption) (Or.inl ⟨by rfl, ?_⟩) ?_
      rotate_left
      · intro w hSw
        (try dsimp only at hSw)
        go_simp
        try with_reducible rfl
      simp only [List.setIfInBounds_toArray, List.set_cons_zero, List.set_cons_succ]
      refine takeD (i := 15) (v := ?_) 89 rfl rfl (by kernel_rfl) (by kernel_rfl) (by kernel_rfl) (fun _ _ _ h => h) (by assumption) (Or.inl ⟨by rfl, ?_⟩) ?_
      rotate_left
      · intro w hSw
        (try dsimp only at hSw)
        go_simp
        try with_reducible rfl
      simp only [List.setIfInBounds_toArray, List.set_cons_zero, List.set_cons_succ]
      refine takeD (i := 16) (v := undef) 90 rfl rfl (by kernel_rfl) (by kernel_rfl) (by kernel_rfl) (fun _ _ _ h => h) (by assumption) (Or.inr ⟨by rfl, rfl⟩) ?_
      simp only [List.setIfInBounds_toArray, List.set_cons_zero, List.set_cons_succ]
      refine takeD (i := 17) (v := undef) 91 rfl rfl (by kernel_rfl) (by kernel_rfl) (by kernel_rfl) (fun _ _ _ h => h) (by assumption) (Or.inr ⟨by rfl, rfl⟩) ?_
      simp only [List.setIfInBounds_toArray, List.set_cons_zero, List.set_cons_succ]
      refine wpAnyH_ready (rs := [18]) (by kernel_rfl) (by simp) ?_
      refine AllReadyH.cons (by simp only [List.getElem?_toArray, List.getElem?_cons_succ, List.getElem?_cons_zero]; rfl) (fun K hK => ?_) AllReadyH.nil
      go_simp
      refine hK.out _ _ hHeld (fun _ => ?_)
      clear hK K
      refine takeD (i := 19) (v := undef) 93 rfl rfl (by kernel_rfl) (by kernel_rfl) (by kernel_rfl) (fun _ _ _ h => h) (by assumption) (Or.inr ⟨by rfl, rfl⟩) ?_
      simp only [List.setIfInBounds_toArray, List.set_cons_zero, List.set_cons_succ]
      refine takeD (i := 20) (v := ?_) 94 rfl rfl (by kernel_rfl) (by kernel_rfl) (by kernel_rfl) (fun _ _ _ h => h) (by assumption) (Or.inl ⟨by rfl, ?_⟩) ?_
      rotate_left
      · intro w hSw
        (try dsimp only at hSw)
        go_simp
        try with_reducible rfl
      simp only [List.setIfInBounds_toArray, List.set_cons_zero, List.set_cons_succ]
      refine takeD (i := 21) (v := ?_) 95 rfl rfl (by kernel_rfl) (by kernel_rfl) (by kernel_rfl) (fun _ _ _ h => h) (by assumption) (Or.inl ⟨by rfl, ?_⟩) ?_
      rotate_left
      · intro w hSw
        (try dsimp only at hSw)
        go_simp
        try with_reducible rfl
      simp only [List.setIfInBounds_toArray, List.set_cons_zero, List.set_cons_succ]
      refine takeD (i := 22) (v := ?_) 96 rfl rfl (by kernel_rfl) (by kernel_rfl) (by kernel_rfl) (fun _ _ _ h => h) (by assumption) (Or.inl ⟨by rfl, ?_⟩) ?_
      rotate_left
      · intro w hSw
        (try dsimp only at hSw)
        go_simp
        try with_reducible rfl
      simp only [List.setIfInBounds_toArray, List.set_cons_zero, List.set_cons_succ]
      refine takeD (i := 23) (v := ?_) 97 rfl rfl (by kernel_rfl) (by kernel_rfl) (by kernel_rfl) (fun _ _ _ h => h) (by assumption) (Or.inl ⟨by rfl, ?_⟩) ?_
      rotate_left
      · intro w hSw
        (try dsimp only at hSw)
        go_simp
        try with_reducible rfl
      simp only [List.setIfInBounds_toArray, List.set_cons_zero, List.set_cons_succ]
      refine takeD (i := 24) (v := ?_) 98 rfl rfl (by kernel_rfl) (by kernel_rfl) (by kernel_rfl) (fun _ _ _ h => h) (by assumption) (Or.inl ⟨by rfl, ?_⟩) ?_
      rotate_left
      · intro w hSw
        (try dsimp only at hSw)
        go_simp
        try with_reducible rfl
      simp only [List.setIfInBounds_toArray, List.set_cons_zero, List.set_cons_succ]
      refine takeD (i := 25) (v := ?_) 99 rfl rfl (by kernel_rfl) (by kernel_rfl) (by kernel_rfl) (fun _ _ _ h => h) (by assumption) (Or.inl ⟨by rfl, ?_⟩) ?_
      rotate_left
      · intro w hSw
        (try dsimp only at hSw)
        go_simp
        try with_reducible rfl
      simp only [List.setIfInBounds_toArray, List.set_cons_zero, List.set_cons_succ]
      refine takeD (i := 26) (v := ?_) 100 rfl rfl (by kernel_rfl) (by kernel_rfl) (by kernel_rfl) (fun _ _ _ h => h) (by assumption) (Or.inl ⟨by rfl, ?_⟩) ?_
      rotate_left
      · intro w hSw
        (try dsimp only at hSw)
        go_simp
        try with_reducible rfl
      simp only [List.setIfInBounds_toArray, List.set_cons_zero, List.set_cons_succ]
      refine takeD (i := 27) (v := ?_) 101 rfl rfl (by kernel_rfl) (by kernel_rfl) (by kernel_rfl) (fun _ _ _ h => h) (by assumption) (Or.inl ⟨by rfl, ?_⟩) ?_
      rotate_left
      · intro w hSw
        (try dsimp only at hSw)
        go_simp
        try with_reducible rfl
      simp only [List.setIfInBounds_toArray, List.set_cons_zero, List.set_cons_succ]
      refine takeD (i := 28) (v := ?_) 102 rfl rfl (by kernel_rfl) (by kernel_rfl) (by kernel_rfl) (fun _ _ _ h => h) (by assumption) (Or.inl ⟨by rfl, ?_⟩) ?_
      rotate_left
      · intro w hSw
        (try dsimp only at hSw)
        go_simp
        try with_reducible rfl
      simp only [List.setIfInBounds_toArray, List.set_cons_zero, List.set_cons_succ]
      refine takeD (i := 29) (v := ?_) 103 rfl rfl (by kernel_rfl) (by kernel_rfl) (by kernel_rfl) (fun _ _ _ h => h) (by assumption) (Or.inl ⟨by rfl, ?_⟩) ?_
      rotate_left
      · intro w hSw
        (try dsimp only at hSw)
        go_simp
        try with_reducible rfl
      simp only [List.setIfInBounds_toArray, List.set_cons_zero, List.set_cons_succ]
      refine takeD (i := 30) (v := ?_) 8 rfl rfl (by kernel_rfl) (by kernel_rfl) (by kernel_rfl) (fun _ _ _ h => h) (by assumption) (Or.inl ⟨by rfl, ?_⟩) ?_
      rotate_left
      · intro w hSw
        (try dsimp only at hSw)
        go_simp
        try with_reducible rfl
      simp only [List.setIfInBounds_toArray, List.set_cons_zero, List.set_cons_succ]
      refine wpAnyH_done (by kernel_rfl) ?_ _
      go_wp2
      go_ret
      exact ⟨rfl, hHeld.2.2.2.2⟩


theorem addrMoves_true (r c n p q : Int) (hn : I64 n) (hp : I64 p) (hq : I64 q) (w : World) : Calls Try.prog 6 #[.agg #[.int .i64 r, .int .i64 c], .int .i64 n, .int .i64 p, .int .i64 q] w fun e w' => e = .returned (.bool true) ∧ Below w.heap.size w w' := by
  rcases ok_or r c with h | h
  · exact addrMoves_ok r c n p q h hn hp hq w
  · exact addrMoves_no r c n p q h hp hq w
end Go.Proofs.Ytpnfdmfmdacjmaa
