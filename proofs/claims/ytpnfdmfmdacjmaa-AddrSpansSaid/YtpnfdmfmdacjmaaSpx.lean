/-
  AddrSpans' walk, of a size that isn't valid; and both.
-/
import Derived.Test.YtpnfdmfmdacjmaaSpw
namespace Go.Proofs.Ytpnfdmfmdacjmaa
open Go.RowKit Go.Lib Go.Shelf

theorem ints_nil {w : World} {b : Nat} {v : Value} (h : w.ownsRow b 3 1 v ([] : List Int).length (([] : List Int).map (Value.int .i64))) : ∃ x c, v = .slice x 0 c := by
  rcases h.2 with ⟨h, _⟩ | ⟨g, cap, cur, h, _⟩
  · exact ⟨_, _, h⟩
  · exact ⟨_, _, h⟩
set_option maxRecDepth 100000 in
set_option maxHeartbeats 4000000 in
theorem addrSpans_no (r c p q : Int) (s : Nat) (h : vB r c = false) (hs : s < 65536) (w : World) : Calls Try.prog 5 #[.agg #[.int .i64 r, .int .i64 c], .int .i64 p, .int .i64 q, .int .u16 s] w fun e w' => e = .returned (.bool true) ∧ Below w.heap.size w w' := by
  have H30 := hid (fun w => rspan_no r c p q h w)
  have H33 := hid (fun w => span_made' r c p q w)
  have H34 := hid (fun w => length_no r c p q h w)
  have H35 := hid (fun W => show Calls Try.prog 35 #[.agg #[.int .i64 r, .int .i64 c], .int .i64 p, .int .i64 q, .int .i64 ((s : Int) + 1)] W (IntsDone (([] : List Int).take (s + 1)) W) from lspan_no r c p q h (s + 1) (by omega) (by omega) W)
  rw [List.take_nil] at H35
  have H32 := hid (fun b lb w (hlb : lb = lbS b) hX => (by rw [hlb]; exact collect_no b r c p q h w hX : Calls Try.prog 32 #[.func (.func 74) #[] lb] w (IntsDone [] w)))
  have hk1 : IntKind.i64.wrap (s : Int) = s := IntWalk.i64_in _ (by omega)
  have hk2 : IntKind.i64.wrap (1 + (s : Int)) = (s : Int) + 1 := by rw [IntWalk.i64_in _ (by omega)]; omega
  have hk3 : (if (s : Int) + 1 < 0 then (s : Int) + 1 else 0) = 0 := if_neg (by omega)
  go_enter Try.func5, Try.ntmps5
  go_wp2_with fail
  with_reducible refine (awake_true _).mono ?_
  rintro e w1 ⟨rfl, hb1⟩
  have K1 := hid (box_new hb1)
  clear hb1
  obtain ⟨c0, c1, hbb⟩ := K1.out
  clear hbb
  have hlt := World.block_lt_of_cell? _ _ c0
  clear h
  go_wp2_with fail
  have x0 : (w1.alloc (.cells #[.int .i64 r, .int .i64 c] 25)).cell? ⟨w1.heap.size, 0, none⟩ = some (.int .i64 r) := by simp [go_sem]
  have x1 : (w1.alloc (.cells #[.int .i64 r, .int .i64 c] 25)).cell? ⟨w1.heap.size, 1, none⟩ = some (.int .i64 c) := by simp [go_sem]
  have hB1 := K1.out.2.2.alloc K1.out.2.2.size (.cells #[.int .i64 r, .int .i64 c] 25)
  with_reducible refine (H30.out _).mono ?_
  rintro e w2 ⟨rfl, hb2⟩
  have d0 := keepc hb2 x0
  have d1 := keepc hb2 x1
  have hB2 := hB1.trans (hb2.mono hB1.size)
  have HX := hid (And.intro d0 (And.intro d1 hB2))
  clear d0 d1 hB2 hB1 x0 x1 c0 c1 hlt hb2 H30
  generalize w1.heap.size = B1 at *
  go_wp2_with fail
  refine wp_region_held_drew (S := (fun w' => w'.cell? ⟨B1, 0, none⟩ = some (.int .i64 r) ∧ w'.cell? ⟨B1, 1, none⟩ = some (.int .i64 c) ∧ Below w.heap.size w w')) (by kernel_rfl) ?_ (fun hHeld => ?_)
  · exact ⟨HX.out.1, HX.out.2.1, HX.out.2.2.drew⟩
  refine takeD (i := 0) (v := ?_) 22 rfl rfl (by kernel_rfl) (by kernel_rfl) (by kernel_rfl) (fun _ _ _ h => h) (by assumption) (Or.inl ⟨by rfl, ?_⟩) ?_
  rotate_left
  · intro w hSw
    (try dsimp only at hSw)
    go_simp
    try with_reducible rfl
  simp only [List.setIfInBounds_toArray, List.set_cons_zero, List.set_cons_succ]
  refine takeD (i := 1) (v := ?_) 23 rfl rfl (by kernel_rfl) (by kernel_rfl) (by kernel_rfl) (fun _ _ _ h => h) (by assumption) (Or.inl ⟨by rfl, ?_⟩) ?_
  rotate_left
  · intro w hSw
    (try dsimp only at hSw)
    go_simp
    try with_reducible rfl
  simp only [List.setIfInBounds_toArray, List.set_cons_zero, List.set_cons_succ]
  refine takeD (i := 2) (v := ?_) 24 rfl rfl (by kernel_rfl) (by kernel_rfl) (by kernel_rfl) (fun _ _ _ h => h) (by assumption) (Or.inl ⟨by rfl, ?_⟩) ?_
  rotate_left
  · intro w hSw
    (try dsimp only at hSw)
    go_simp
    try with_reducible rfl
  simp only [List.setIfInBounds_toArray, List.set_cons_zero, List.set_cons_succ]
  refine takeD (i := 5) (v := ?_) 27 rfl rfl (by kernel_rfl) (by kernel_rfl) (by kernel_rfl) (fun _ _ _ h => h) (by assumption) (Or.inl ⟨by rfl, ?_⟩) ?_
  rotate_left
  · intro w hSw
    (try dsimp only at hSw)
    go_simp
    try with_reducible rfl
  simp only [List.setIfInBounds_toArray, List.set_cons_zero, List.set_cons_succ]
  refine wpAnyH_ready (rs := [3]) (by kernel_rfl) (by simp) ?_
  refine AllReadyH.cons (by simp only [List.getElem?_toArray, List.getElem?_cons_succ, List.getElem?_cons_zero]; rfl) (fun K hK => ?_) AllReadyH.nil
  go_simp
  (with_reducible refine (H33.out _).mono ?_)
  rintro e w3 ⟨bx, lb, rfl, hlb, hbx, hbN⟩
  subst hlb
  refine hK.out _ _ ?_ (fun hHeldN => ?_)
  · exact ⟨keepc hbN hHeld.1, keepc hbN hHeld.2.1, hHeld.2.2.trans (hbN.mono hHeld.2.2.size)⟩
  clear hK K hHeld
  have hHeld := hHeldN
  clear hHeldN
  refine wpAnyH_ready (rs := [4]) (by kernel_rfl) (by simp) ?_
  refine AllReadyH.cons (by simp only [List.getElem?_toArray, List.getElem?_cons_succ, List.getElem?_cons_zero]; rfl) (fun K hK => ?_) AllReadyH.nil
  go_simp
  (with_reducible refine (H32.out _ _ _ rfl hbx).mono ?_)
  rintro e w4 ⟨u, bu, rfl, hbu, hou, hbN⟩
  obtain ⟨xu, cu, rfl⟩ := ints_nil hou
  clear hou
  refine hK.out _ _ ?_ (fun hHeldN => ?_)
  · exact ⟨keepc hbN hHeld.1, keepc hbN hHeld.2.1, hHeld.2.2.trans (hbN.mono hHeld.2.2.size)⟩
  clear hK K hHeld
  have hHeld := hHeldN
  clear hHeldN
  refine wpAnyH_ready (rs := [6]) (by kernel_rfl) (by simp) ?_
  refine AllReadyH.cons (by simp only [List.getElem?_toArray, List.getElem?_cons_succ, List.getElem?_cons_zero]; rfl) (fun K hK => ?_) AllReadyH.nil
  go_simp
  (with_reducible refine (equal_nil _ _ _ _ _).mono ?_)
  rintro e w5 ⟨rfl, hbN⟩
  refine hK.out _ _ ?_ (fun hHeldN => ?_)
  · exact ⟨keepc hbN hHeld.1, keepc hbN hHeld.2.1, hHeld.2.2.trans (hbN.mono hHeld.2.2.size)⟩
  clear hK K hHeld
  have hHeld := hHeldN
  clear hHeldN
  refine takeD (i := 7) (v := ?_) 29 rfl rfl (by kernel_rfl) (by kernel_rfl) (by kernel_rfl) (fun _ _ _ h => h) (by assumption) (Or.inl ⟨by rfl, ?_⟩) ?_
  rotate_left
  · intro w hSw
    (try dsimp only at hSw)
    go_simp
    try with_reducible rfl
  simp only [List.setIfInBounds_toArray, List.set_cons_zero, List.set_cons_succ]
  refine takeD (i := 8) (v := ?_) 30 rfl rfl (by kernel_rfl) (by kernel_rfl) (by kernel_rfl) (fun _ _ _ h => h) (by assumption) (Or.inl ⟨by rfl, ?_⟩) ?_
  rotate_left
  · intro w hSw
    (try dsimp only at hSw)
    go_simp
    try with_reducible rfl
  simp only [List.setIfInBounds_toArray, List.set_cons_zero, List.set_cons_succ]
  refine takeD (i := 9) (v := ?_) 31 rfl rfl (by kernel_rfl) (by kernel_rfl) (by kernel_rfl) (fun _ _ _ h => h) (by assumption) (Or.inl ⟨by rfl, ?_⟩) ?_
  rotate_left
  · intro w hSw
    (try dsimp only at hSw)
    go_simp
    try with_reducible rfl
  simp only [List.setIfInBounds_toArray, List.set_cons_zero, List.set_cons_succ]
  refine takeD (i := 10) (v := ?_) 32 rfl rfl (by kernel_rfl) (by kernel_rfl) (by kernel_rfl) (fun _ _ _ h => h) (by assumption) (Or.inl ⟨by rfl, ?_⟩) ?_
  rotate_left
  · intro w hSw
    (try dsimp only at hSw)
    go_simp
    try with_reducible rfl
  simp only [List.setIfInBounds_toArray, List.set_cons_zero, List.set_cons_succ]
  refine takeD (i := 12) (v := ?_) 34 rfl rfl (by kernel_rfl) (by kernel_rfl) (by kernel_rfl) (fun _ _ _ h => h) (by assumption) (Or.inl ⟨by rfl, ?_⟩) ?_
  rotate_left
  · intro w hSw
    (try dsimp only at hSw)
    go_simp
    try with_reducible rfl
  simp only [List.setIfInBounds_toArray, List.set_cons_zero, List.set_cons_succ]
  refine takeD (i := 13) (v := ?_) 35 rfl rfl (by kernel_rfl) (by kernel_rfl) (by kernel_rfl) (fun _ _ _ h => h) (by assumption) (Or.inl ⟨by rfl, ?_⟩) ?_
  rotate_left
  · intro w hSw
    (try dsimp only at hSw)
    go_simp
    try with_reducible rfl
  simp only [List.setIfInBounds_toArray, List.set_cons_zero, List.set_cons_succ]
  refine wpAnyH_ready (rs := [11]) (by kernel_rfl) (by simp) ?_
  refine AllReadyH.cons (by simp only [List.getElem?_toArray, List.getElem?_cons_succ, List.getElem?_cons_zero]; rfl) (fun K hK => ?_) AllReadyH.nil
  go_simp
  (with_reducible refine (H34.out _).mono ?_)
  rintro e w6 ⟨rfl, hbN⟩
  refine hK.out _ _ ?_ (fun hHeldN => ?_)
  · exact ⟨keepc hbN hHeld.1, keepc hbN hHeld.2.1, hHeld.2.2.trans (hbN.mono hHeld.2.2.size)⟩
  clear hK K hHeld
  have hHeld := hHeldN
  clear hHeldN
  refine takeD (i := 14) (v := ?_) 36 rfl rfl (by kernel_rfl) (by kernel_rfl) (by kernel_rfl) (fun _ _ _ h => h) (by assumption) (Or.inl ⟨by rfl, ?_⟩) ?_
  rotate_left
  · intro w hSw
    (try dsimp only at hSw)
    go_simp
    try with_reducible rfl
  simp only [List.setIfInBounds_toArray, List.set_cons_zero, List.set_cons_succ]
  refine takeD (i := 15) (v := ?_) 37 rfl rfl (by kernel_rfl) (by kernel_rfl) (by kernel_rfl) (fun _ _ _ h => h) (by assumption) (Or.inl ⟨by rfl, ?_⟩) ?_
  rotate_left
  · intro w hSw
    (try dsimp only at hSw)
    go_simp
    try with_reducible rfl
  simp only [List.setIfInBounds_toArray, List.set_cons_zero, List.set_cons_succ]
  refine takeD (i := 16) (v := ?_) 38 rfl rfl (by kernel_rfl) (by kernel_rfl) (by kernel_rfl) (fun _ _ _ h => h) (by assumption) (Or.inl ⟨by rfl, ?_⟩) ?_
  rotate_left
  · intro w hSw
    (try dsimp only at hSw)
    go_simp
    try with_reducible rfl
  simp only [List.setIfInBounds_toArray, List.set_cons_zero, List.set_cons_succ]
  refine takeD (i := 17) (v := ?_) 39 rfl rfl (by kernel_rfl) (by kernel_rfl) (by kernel_rfl) (fun _ _ _ h => h) (by assumption) (Or.inl ⟨by rfl, ?_⟩) ?_
  rotate_left
  · intro w hSw
    (try dsimp only at hSw)
    go_simp
    try with_reducible rfl
  simp only [List.setIfInBounds_toArray, List.set_cons_zero, List.set_cons_succ]
  refine takeD (i := 18) (v := ?_) 40 rfl rfl (by kernel_rfl) (by kernel_rfl) (by kernel_rfl) (fun _ _ _ h => h) (by assumption) (Or.inl ⟨by rfl, ?_⟩) ?_
  rotate_left
  · intro w hSw
    (try dsimp only at hSw)
    go_simp
    try with_reducible rfl
  simp only [List.setIfInBounds_toArray, List.set_cons_zero, List.set_cons_succ]
  refine takeD (i := 19) (v := ?_) 41 rfl rfl (by kernel_rfl) (by kernel_rfl) (by kernel_rfl) (fun _ _ _ h => h) (by assumption) (Or.inl ⟨by rfl, ?_⟩) ?_
  rotate_left
  · intro w hSw
    (try dsimp only at hSw)
    go_simp
    try with_reducible rfl
  simp only [List.setIfInBounds_toArray, List.set_cons_zero, List.set_cons_succ]
  refine takeD (i := 20) (v := ?_) 42 rfl rfl (by kernel_rfl) (by kernel_rfl) (by kernel_rfl) (fun _ _ _ h => h) (by assumption) (Or.inl ⟨by rfl, ?_⟩) ?_
  rotate_left
  · intro w hSw
    (try dsimp only at hSw)
    go_simp
    try with_reducible rfl
  simp only [List.setIfInBounds_toArray, List.set_cons_zero, List.set_cons_succ]
  refine takeD (i := 22) (v := ?_) 44 rfl rfl (by kernel_rfl) (by kernel_rfl) (by kernel_rfl) (fun _ _ _ h => h) (by assumption) (Or.inl ⟨by rfl, ?_⟩) ?_
  rotate_left
  · intro w hSw
    (try dsimp only at hSw)
    go_simp
    try with_reducible rfl
  simp only [List.setIfInBounds_toArray, List.set_cons_zero, List.set_cons_succ]
  refine takeD (i := 23) (v := ?_) 45 rfl rfl (by kernel_rfl) (by kernel_rfl) (by kernel_rfl) (fun _ _ _ h => h) (by assumption) (Or.inl ⟨by rfl, ?_⟩) ?_
  rotate_left
  · intro w hSw
    (try dsimp only at hSw)
    go_simp
    try with_reducible rfl
  simp only [List.setIfInBounds_toArray, List.set_cons_zero, List.set_cons_succ]
  refine takeD (i := 24) (v := ?_) 46 rfl rfl (by kernel_rfl) (by kernel_rfl) (by kernel_rfl) (fun _ _ _ h => h) (by assumption) (Or.inl ⟨by rfl, ?_⟩) ?_
  rotate_left
  · intro w hSw
    (try dsimp only at hSw)
    go_simp
    try with_reducible rfl
  simp only [List.setIfInBounds_toArray, List.set_cons_zero, List.set_cons_succ]
  refine takeD (i := 25) (v := ?_) 47 rfl rfl (by kernel_rfl) (by kernel_rfl) (by kernel_rfl) (fun _ _ _ h => h) (by assumption) (Or.inl ⟨by rfl, ?_⟩) ?_
  rotate_left
  · intro w hSw
    (try dsimp only at hSw)
    go_simp
    try with_reducible rfl
  simp only [List.setIfInBounds_toArray, List.set_cons_zero, List.set_cons_succ]
  refine takeD (i := 26) (v := ?_) 48 rfl rfl (by kernel_rfl) (by kernel_rfl) (by kernel_rfl) (fun _ _ _ h => h) (by assumption) (Or.inl ⟨by rfl, ?_⟩) ?_
  rotate_left
  · intro w hSw
    (try dsimp only at hSw)
    go_simp
    try with_reducible rfl
  simp only [List.setIfInBounds_toArray, List.set_cons_zero, List.set_cons_succ]
  refine takeD (i := 27) (v := ?_) 49 rfl rfl (by kernel_rfl) (by kernel_rfl) (by kernel_rfl) (fun _ _ _ h => h) (by assumption) (Or.inl ⟨by rfl, ?_⟩) ?_
  rotate_left
  · intro w hSw
    (try dsimp only at hSw)
    go_simp
    try with_reducible rfl
  simp only [List.setIfInBounds_toArray, List.set_cons_zero, List.set_cons_succ]
  refine wpAnyH_ready (rs := [21]) (by kernel_rfl) (by simp) ?_
  refine AllReadyH.cons (by simp only [List.getElem?_toArray, List.getElem?_cons_succ, List.getElem?_cons_zero]; rfl) (fun K hK => ?_) AllReadyH.nil
  go_simp
  (with_reducible refine (H35.out _).mono ?_)
  rintro e w7 ⟨u2, bu2, rfl, hbu2, hou2, hbN⟩
  obtain ⟨xu2, cu2, rfl⟩ := ints_nil hou2
  clear hou2
  refine hK.out _ _ ?_ (fun hHeldN => ?_)
  · exact ⟨keepc hbN hHeld.1, keepc hbN hHeld.2.1, hHeld.2.2.trans (hbN.mono hHeld.2.2.size)⟩
  clear hK K hHeld
  have hHeld := hHeldN
  clear hHeldN
  refine wpAnyH_ready (rs := [28]) (by kernel_rfl) (by simp) ?_
  refine AllReadyH.cons (by simp only [List.getElem?_toArray, List.getElem?_cons_succ, List.getElem?_cons_zero]; rfl) (fun K hK => ?_) AllReadyH.nil
  go_simp
  (with_reducible refine (equal_nil _ _ _ _ _).mono ?_)
  rintro e w5 ⟨rfl, hbN⟩
  refine hK.out _ _ ?_ (fun hHeldN => ?_)
  · exact ⟨keepc hbN hHeld.1, keepc hbN hHeld.2.1, hHeld.2.2.trans (hbN.mono hHeld.2.2.size)⟩
  clear hK K hHeld
  have hHeld := hHeldN
  clear hHeldN
  refine takeD (i := 29) (v := ?_) 51 rfl rfl (by kernel_rfl) (by kernel_rfl) (by kernel_rfl) (fun _ _ _ h => h) (by assumption) (Or.inl ⟨by rfl, ?_⟩) ?_
  rotate_left
  · intro w hSw
    (try dsimp only at hSw)
    go_simp
    try with_reducible rfl
  simp only [List.setIfInBounds_toArray, List.set_cons_zero, List.set_cons_succ]
  refine takeD (i := 30) (v := ?_) 8 rfl rfl (by kernel_rfl) (by kernel_rfl) (by kernel_rfl) (fun _ _ _ h => h) (by assumption) (Or.inl ⟨by rfl, ?_⟩) ?_
  rotate_left
  · intro w hSw
    (try dsimp only at hSw)
    go_simp
    try with_reducible rfl
  simp only [List.setIfInBounds_toArray, List.set_cons_zero, List.set_cons_succ]
  refine wpAnyH_done (by kernel_rfl) ?_ _
  go_wp2
  go_ret
  exact ⟨rfl, hHeld.2.2⟩


theorem addrSpans_true (r c p q : Int) (s : Nat) (hp : I64 p) (hq : I64 q) (hs : s < 65536) (w : World) : Calls Try.prog 5 #[.agg #[.int .i64 r, .int .i64 c], .int .i64 p, .int .i64 q, .int .u16 s] w fun e w' => e = .returned (.bool true) ∧ Below w.heap.size w w' := by
  cases hv : vB r c
  · exact addrSpans_no r c p q s hv hs w
  · obtain ⟨h1, h2, h3, h4, h5⟩ := of_decide_eq_true hv
    exact addrSpans_ok r c p q s ⟨h1, h2, h3, h4, h5⟩ hp hq hs w
end Go.Proofs.Ytpnfdmfmdacjmaa
