/-
  AttrFields' walk.
-/
import Derived.Test.YtpnfdmfmdacjmaaFlb
import Derived.Deep.RegionHeld3
import Derived.Deep.DeepCutAuto
namespace Go.Proofs.Ytpnfdmfmdacjmaa
open Go.RowKit Go.Lib

section
variable {P : Program} {ops : Array Oper} {Q : Exit → Act → World → Prop} {md : Region.Mode} {S : World → Prop}
/-- An operation is taken first: its slot is written. -/
theorem takeD {i : Nat} {oi : Oper} {v : Value} (d : Tmp) {fuel : Nat} {listed : Array Bool} {ts : Array Value} {ds : List Deferred} {w : World} (hi : ops[i]? = some oi) (hd : oi.dst = some d)
    (hs : Region.noSelect ops = true) (hf : Region.free md ops listed i = true) (hr : (Region.ready md ops listed).contains i = true)
    (hQ : ∀ c a w, Q (.panic c) (a.put oi.dst v) w → Q (.panic c) a w) (hS : S w) (hy : YieldsIf P ops S oi v ⟨ts, ds⟩)
    (h : wpAnyH P md ops Q S fuel (listed.setIfInBounds i true) ⟨ts.setIfInBounds d v, ds⟩ w) : wpAnyH P md ops Q S (fuel + 1) listed ⟨ts, ds⟩ w :=
  wpAnyH_take hi hs hf hr hQ hy hS (by rw [hd]; exact h)
end

set_option maxRecDepth 100000 in
set_option maxHeartbeats 4000000 in
theorem attrFields_ok (p n m : Bool) (d : Int) (h0 : 0 ≤ d) (h3 : d ≤ 3) (b : Nat) (hb : b < 256) (w : World) : Calls Try.prog 9 #[fieldV p n d m, .int .u8 b] w fun e w' => e = .returned (.bool true) ∧ Below w.heap.size w w' := by
  have HBI := hid (bits_ok p n m d h0 h3)
  have HRB := hid (rbits_ok p n m d h0 h3)
  have HBY := hid (byte_ok p n m d h0 h3)
  have HOB := hid (of_any b hb)
  have HRO := hid (rof_any b hb)
  have HSK := hid (skipped_any p n m d)
  have HHI := hid (hidden_any p n m d)
  have HDE := hid (detectable_any p n m d)
  obtain ⟨b0, b64⟩ := bitsZ_bd p n m d h0 h3
  obtain ⟨o1, o2, o3, o4⟩ := of_six p n m d h0 h3
  have HS6 := hid (rsix_any (bitsZ p n d m) (i64_small (by omega) (by omega)))
  generalize bitsZ p n d m = B at HBI HRB HBY HS6 b0 b64 o1 o2 o3 o4
  rw [show (B % 64).toNat = B.toNat by rw [Int.emod_eq_of_lt b0 b64]] at HS6
  obtain ⟨z0, z1⟩ := sixZ_bd B.toNat (by omega)
  have HOF := hid (of_any (sixZ B.toNat).toNat (by omega))
  rw [o1, o2, o3, o4, show ((sixZ B.toNat).toNat : Int) = sixZ B.toNat by omega] at HOF
  generalize sixZ B.toNat = Z at HBY HS6 HOF z0 z1
  clear o1 o2 o3 o4
  go_enter Try.func9, Try.ntmps9
  go_wp2_with fail
  with_reducible refine (awake5_true _).mono ?_
  rintro e w1 ⟨rfl, hb1⟩
  have K1 := hid (show w1.cell? ⟨w.heap.size, 0, none⟩ = some (.bool p) ∧ w1.cell? ⟨w.heap.size, 1, none⟩ = some (.bool n) ∧ w1.cell? ⟨w.heap.size, 2, none⟩ = some (.int .i64 d) ∧ w1.cell? ⟨w.heap.size, 3, none⟩ = some (.bool m) ∧ Below w.heap.size w w1 from ⟨keepc hb1 (by simp [go_sem]), keepc hb1 (by simp [go_sem]), keepc hb1 (by simp [go_sem]), keepc hb1 (by simp [go_sem]), ((Below.refl _ _).alloc (Nat.le_refl _) _).trans (hb1.mono (by simp))⟩)
  clear hb1
  obtain ⟨c0, c1, c2, c3, hbb⟩ := K1.out
  clear hbb
  go_upto_region 4 with fail
  clear c0 c1 c2 c3
  have KB : Below w1.heap.size w1 (w1.alloc (.cells #[.bool p, .bool n, .int .i64 d, .bool m] 69)) := (Below.refl _ _).alloc (Nat.le_refl _) _
  have HX := hid (show (w1.alloc (.cells #[.bool p, .bool n, .int .i64 d, .bool m] 69)).cell? ⟨w.heap.size, 0, none⟩ = some (.bool p) ∧ (w1.alloc (.cells #[.bool p, .bool n, .int .i64 d, .bool m] 69)).cell? ⟨w.heap.size, 1, none⟩ = some (.bool n) ∧ (w1.alloc (.cells #[.bool p, .bool n, .int .i64 d, .bool m] 69)).cell? ⟨w.heap.size, 2, none⟩ = some (.int .i64 d) ∧ (w1.alloc (.cells #[.bool p, .bool n, .int .i64 d, .bool m] 69)).cell? ⟨w.heap.size, 3, none⟩ = some (.bool m) ∧ (w1.alloc (.cells #[.bool p, .bool n, .int .i64 d, .bool m] 69)).cell? ⟨w1.heap.size, 0, none⟩ = some (.bool p) ∧ (w1.alloc (.cells #[.bool p, .bool n, .int .i64 d, .bool m] 69)).cell? ⟨w1.heap.size, 1, none⟩ = some (.bool n) ∧ (w1.alloc (.cells #[.bool p, .bool n, .int .i64 d, .bool m] 69)).cell? ⟨w1.heap.size, 2, none⟩ = some (.int .i64 d) ∧ (w1.alloc (.cells #[.bool p, .bool n, .int .i64 d, .bool m] 69)).cell? ⟨w1.heap.size, 3, none⟩ = some (.bool m) ∧ Below w.heap.size w (w1.alloc (.cells #[.bool p, .bool n, .int .i64 d, .bool m] 69)) from ⟨keepc KB K1.out.1, keepc KB K1.out.2.1, keepc KB K1.out.2.2.1, keepc KB K1.out.2.2.2.1, by simp [go_sem], by simp [go_sem], by simp [go_sem], by simp [go_sem], below_t K1.out.2.2.2.2 KB⟩)
  clear KB K1
  generalize w1.alloc (.cells #[.bool p, .bool n, .int .i64 d, .bool m] 69) = wa at HX ⊢
  obtain ⟨b1, hb1⟩ : ∃ b1, b1 = w1.heap.size := ⟨_, rfl⟩
  rw [← hb1] at HX ⊢
  clear hb1
  obtain ⟨c0, c1, c2, c3, c4, c5, c6, c7, hbb⟩ := HX.out
  clear hbb
  go_wp2_with fail
  with_reducible refine (HBI.out _).mono ?_
  rintro e w2 ⟨rfl, hb⟩
  have HX2 := hid (show w2.cell? ⟨w.heap.size, 0, none⟩ = some (.bool p) ∧ w2.cell? ⟨w.heap.size, 1, none⟩ = some (.bool n) ∧ w2.cell? ⟨w.heap.size, 2, none⟩ = some (.int .i64 d) ∧ w2.cell? ⟨w.heap.size, 3, none⟩ = some (.bool m) ∧ w2.cell? ⟨b1, 0, none⟩ = some (.bool p) ∧ w2.cell? ⟨b1, 1, none⟩ = some (.bool n) ∧ w2.cell? ⟨b1, 2, none⟩ = some (.int .i64 d) ∧ w2.cell? ⟨b1, 3, none⟩ = some (.bool m) ∧ Below w.heap.size w w2 from ⟨keepc hb HX.out.1, keepc hb HX.out.2.1, keepc hb HX.out.2.2.1, keepc hb HX.out.2.2.2.1, keepc hb HX.out.2.2.2.2.1, keepc hb HX.out.2.2.2.2.2.1, keepc hb HX.out.2.2.2.2.2.2.1, keepc hb HX.out.2.2.2.2.2.2.2.1, below_t HX.out.2.2.2.2.2.2.2.2 hb⟩)
  clear hb c0 c1 c2 c3 c4 c5 c6 c7 HX
  obtain ⟨c0, c1, c2, c3, c4, c5, c6, c7, hbb⟩ := HX2.out
  clear hbb
  go_wp2_with fail
  with_reducible refine (HRB.out _).mono ?_
  rintro e w3 ⟨rfl, hb⟩
  have HX3 := hid (show w3.cell? ⟨w.heap.size, 0, none⟩ = some (.bool p) ∧ w3.cell? ⟨w.heap.size, 1, none⟩ = some (.bool n) ∧ w3.cell? ⟨w.heap.size, 2, none⟩ = some (.int .i64 d) ∧ w3.cell? ⟨w.heap.size, 3, none⟩ = some (.bool m) ∧ w3.cell? ⟨b1, 0, none⟩ = some (.bool p) ∧ w3.cell? ⟨b1, 1, none⟩ = some (.bool n) ∧ w3.cell? ⟨b1, 2, none⟩ = some (.int .i64 d) ∧ w3.cell? ⟨b1, 3, none⟩ = some (.bool m) ∧ Below w.heap.size w w3 from ⟨keepc hb HX2.out.1, keepc hb HX2.out.2.1, keepc hb HX2.out.2.2.1, keepc hb HX2.out.2.2.2.1, keepc hb HX2.out.2.2.2.2.1, keepc hb HX2.out.2.2.2.2.2.1, keepc hb HX2.out.2.2.2.2.2.2.1, keepc hb HX2.out.2.2.2.2.2.2.2.1, below_t HX2.out.2.2.2.2.2.2.2.2 hb⟩)
  clear hb c0 c1 c2 c3 c4 c5 c6 c7 HX2
  obtain ⟨c0, c1, c2, c3, c4, c5, c6, c7, hbb⟩ := HX3.out
  clear hbb
  go_wp2_with fail
  with_reducible refine (HBY.out _).mono ?_
  rintro e w4 ⟨rfl, hb⟩
  have HX4 := hid (show w4.cell? ⟨w.heap.size, 0, none⟩ = some (.bool p) ∧ w4.cell? ⟨w.heap.size, 1, none⟩ = some (.bool n) ∧ w4.cell? ⟨w.heap.size, 2, none⟩ = some (.int .i64 d) ∧ w4.cell? ⟨w.heap.size, 3, none⟩ = some (.bool m) ∧ w4.cell? ⟨b1, 0, none⟩ = some (.bool p) ∧ w4.cell? ⟨b1, 1, none⟩ = some (.bool n) ∧ w4.cell? ⟨b1, 2, none⟩ = some (.int .i64 d) ∧ w4.cell? ⟨b1, 3, none⟩ = some (.bool m) ∧ Below w.heap.size w w4 from ⟨keepc hb HX3.out.1, keepc hb HX3.out.2.1, keepc hb HX3.out.2.2.1, keepc hb HX3.out.2.2.2.1, keepc hb HX3.out.2.2.2.2.1, keepc hb HX3.out.2.2.2.2.2.1, keepc hb HX3.out.2.2.2.2.2.2.1, keepc hb HX3.out.2.2.2.2.2.2.2.1, below_t HX3.out.2.2.2.2.2.2.2.2 hb⟩)
  clear hb c0 c1 c2 c3 c4 c5 c6 c7 HX3
  go_upto_region 7 with fail
  have zB : IntKind.i64.wrap B = B := IntWalk.i64_in _ (by omega)
  go_cut [68] (fun t wx => t = .bool false ∧ wx.cell? ⟨w.heap.size, 0, none⟩ = some (.bool p) ∧ wx.cell? ⟨w.heap.size, 1, none⟩ = some (.bool n) ∧ wx.cell? ⟨w.heap.size, 2, none⟩ = some (.int .i64 d) ∧ wx.cell? ⟨w.heap.size, 3, none⟩ = some (.bool m) ∧ wx.cell? ⟨b1, 0, none⟩ = some (.bool p) ∧ wx.cell? ⟨b1, 1, none⟩ = some (.bool n) ∧ wx.cell? ⟨b1, 2, none⟩ = some (.int .i64 d) ∧ wx.cell? ⟨b1, 3, none⟩ = some (.bool m) ∧ Below w.heap.size w wx)
  case first =>
    refine wp_region_held_drew (S := (fun w' => w'.cell? ⟨w.heap.size, 0, none⟩ = some (.bool p) ∧ w'.cell? ⟨w.heap.size, 1, none⟩ = some (.bool n) ∧ w'.cell? ⟨w.heap.size, 2, none⟩ = some (.int .i64 d) ∧ w'.cell? ⟨w.heap.size, 3, none⟩ = some (.bool m) ∧ w'.cell? ⟨b1, 0, none⟩ = some (.bool p) ∧ w'.cell? ⟨b1, 1, none⟩ = some (.bool n) ∧ w'.cell? ⟨b1, 2, none⟩ = some (.int .i64 d) ∧ w'.cell? ⟨b1, 3, none⟩ = some (.bool m) ∧ Below w.heap.size w w')) (by kernel_rfl) ?_ (fun hHeld => ?_)
    · exact ⟨HX4.out.1, HX4.out.2.1, HX4.out.2.2.1, HX4.out.2.2.2.1, HX4.out.2.2.2.2.1, HX4.out.2.2.2.2.2.1, HX4.out.2.2.2.2.2.2.1, HX4.out.2.2.2.2.2.2.2.1, HX4.out.2.2.2.2.2.2.2.2.drew⟩
    refine takeD (i := 0) (v := ?_) 31 rfl rfl (by kernel_rfl) (by kernel_rfl) (by kernel_rfl) (fun _ _ _ h => h) (by assumption) (Or.inl ⟨by rfl, ?_⟩) ?_
    rotate_left
    · intro w hSw
      (try dsimp only at hSw)
      go_simp
      try with_reducible rfl
    simp only [List.setIfInBounds_toArray, List.set_cons_zero, List.set_cons_succ]
    refine takeD (i := 1) (v := ?_) 32 rfl rfl (by kernel_rfl) (by kernel_rfl) (by kernel_rfl) (fun _ _ _ h => h) (by assumption) (Or.inl ⟨by rfl, ?_⟩) ?_
    rotate_left
    · intro w hSw
      (try dsimp only at hSw)
      go_simp
      try with_reducible rfl
    simp only [List.setIfInBounds_toArray, List.set_cons_zero, List.set_cons_succ]
    refine takeD (i := 2) (v := ?_) 33 rfl rfl (by kernel_rfl) (by kernel_rfl) (by kernel_rfl) (fun _ _ _ h => h) (by assumption) (Or.inl ⟨by rfl, ?_⟩) ?_
    rotate_left
    · intro w hSw
      (try dsimp only at hSw)
      go_simp
      try with_reducible rfl
    simp only [List.setIfInBounds_toArray, List.set_cons_zero, List.set_cons_succ]
    refine takeD (i := 3) (v := ?_) 34 rfl rfl (by kernel_rfl) (by kernel_rfl) (by kernel_rfl) (fun _ _ _ h => h) (by assumption) (Or.inl ⟨by rfl, ?_⟩) ?_
    rotate_left
    · intro w hSw
      (try dsimp only at hSw)
      go_simp
      try with_reducible rfl
    simp only [List.setIfInBounds_toArray, List.set_cons_zero, List.set_cons_succ]
    refine takeD (i := 4) (v := ?_) 35 rfl rfl (by kernel_rfl) (by kernel_rfl) (by kernel_rfl) (fun _ _ _ h => h) (by assumption) (Or.inl ⟨by rfl, ?_⟩) ?_
    rotate_left
    · intro w hSw
      (try dsimp only at hSw)
      go_simp
      try with_reducible rfl
    simp only [List.setIfInBounds_toArray, List.set_cons_zero, List.set_cons_succ]
    refine takeD (i := 5) (v := ?_) 36 rfl rfl (by kernel_rfl) (by kernel_rfl) (by kernel_rfl) (fun _ _ _ h => h) (by assumption) (Or.inl ⟨by rfl, ?_⟩) ?_
    rotate_left
    · intro w hSw
      (try dsimp only at hSw)
      go_simp
      try with_reducible rfl
    simp only [List.setIfInBounds_toArray, List.set_cons_zero, List.set_cons_succ]
    refine takeD (i := 6) (v := ?_) 37 rfl rfl (by kernel_rfl) (by kernel_rfl) (by kernel_rfl) (fun _ _ _ h => h) (by assumption) (Or.inl ⟨by rfl, ?_⟩) ?_
    rotate_left
    · intro w hSw
      (try dsimp only at hSw)
      go_simp
      try with_reducible rfl
    simp only [List.setIfInBounds_toArray, List.set_cons_zero, List.set_cons_succ]
    refine takeD (i := 7) (v := ?_) 38 rfl rfl (by kernel_rfl) (by kernel_rfl) (by kernel_rfl) (fun _ _ _ h => h) (by assumption) (Or.inl ⟨by rfl, ?_⟩) ?_
    rotate_left
    · intro w hSw
      (try dsimp only at hSw)
      go_simp
      try with_reducible rfl
    simp only [List.setIfInBounds_toArray, List.set_cons_zero, List.set_cons_succ]
    refine takeD (i := 8) (v := ?_) 39 rfl rfl (by kernel_rfl) (by kernel_rfl) (by kernel_rfl) (fun _ _ _ h => h) (by assumption) (Or.inl ⟨by rfl, ?_⟩) ?_
    rotate_left
    · intro w hSw
      (try dsimp only at hSw)
      go_simp
      try with_reducible rfl
    simp only [List.setIfInBounds_toArray, List.set_cons_zero, List.set_cons_succ]
    refine takeD (i := 9) (v := ?_) 40 rfl rfl (by kernel_rfl) (by kernel_rfl) (by kernel_rfl) (fun _ _ _ h => h) (by assumption) (Or.inl ⟨by rfl, ?_⟩) ?_
    rotate_left
    · intro w hSw
      (try dsimp only at hSw)
      go_simp
      try with_reducible rfl
    simp only [List.setIfInBounds_toArray, List.set_cons_zero, List.set_cons_succ]
    refine takeD (i := 10) (v := ?_) 41 rfl rfl (by kernel_rfl) (by kernel_rfl) (by kernel_rfl) (fun _ _ _ h => h) (by assumption) (Or.inl ⟨by rfl, ?_⟩) ?_
    rotate_left
    · intro w hSw
      (try dsimp only at hSw)
      go_simp
      try with_reducible rfl
    simp only [List.setIfInBounds_toArray, List.set_cons_zero, List.set_cons_succ]
    refine takeD (i := 11) (v := ?_) 42 rfl rfl (by kernel_rfl) (by kernel_rfl) (by kernel_rfl) (fun _ _ _ h => h) (by assumption) (Or.inl ⟨by rfl, ?_⟩) ?_
    rotate_left
    · intro w hSw
      (try dsimp only at hSw)
      go_simp
      try with_reducible rfl
    simp only [List.setIfInBounds_toArray, List.set_cons_zero, List.set_cons_succ]
    refine takeD (i := 12) (v := ?_) 43 rfl rfl (by kernel_rfl) (by kernel_rfl) (by kernel_rfl) (fun _ _ _ h => h) (by assumption) (Or.inl ⟨by rfl, ?_⟩) ?_
    rotate_left
    · intro w hSw
      (try dsimp only at hSw)
      go_simp
      try with_reducible rfl
    simp only [List.setIfInBounds_toArray, List.set_cons_zero, List.set_cons_succ]
    refine takeD (i := 13) (v := ?_) 44 rfl rfl (by kernel_rfl) (by kernel_rfl) (by kernel_rfl) (fun _ _ _ h => h) (by assumption) (Or.inl ⟨by rfl, ?_⟩) ?_
    rotate_left
    · intro w hSw
      (try dsimp only at hSw)
      go_simp
      try with_reducible rfl
    simp only [List.setIfInBounds_toArray, List.set_cons_zero, List.set_cons_succ]
    refine takeD (i := 14) (v := ?_) 45 rfl rfl (by kernel_rfl) (by kernel_rfl) (by kernel_rfl) (fun _ _ _ h => h) (by assumption) (Or.inl ⟨by rfl, ?_⟩) ?_
    rotate_left
    · intro w hSw
      (try dsimp only at hSw)
      go_simp
      try with_reducible rfl
    simp only [List.setIfInBounds_toArray, List.set_cons_zero, List.set_cons_succ]
    refine takeD (i := 15) (v := ?_) 46 rfl rfl (by kernel_rfl) (by kernel_rfl) (by kernel_rfl) (fun _ _ _ h => h) (by assumption) (Or.inl ⟨by rfl, ?_⟩) ?_
    rotate_left
    · intro w hSw
      (try dsimp only at hSw)
      go_simp
      try with_reducible rfl
    simp only [List.setIfInBounds_toArray, List.set_cons_zero, List.set_cons_succ]
    refine takeD (i := 16) (v := ?_) 47 rfl rfl (by kernel_rfl) (by kernel_rfl) (by kernel_rfl) (fun _ _ _ h => h) (by assumption) (Or.inl ⟨by rfl, ?_⟩) ?_
    rotate_left
    · intro w hSw
      (try dsimp only at hSw)
      go_simp
      try with_reducible rfl
    simp only [List.setIfInBounds_toArray, List.set_cons_zero, List.set_cons_succ]
    refine takeD (i := 17) (v := ?_) 48 rfl rfl (by kernel_rfl) (by kernel_rfl) (by kernel_rfl) (fun _ _ _ h => h) (by assumption) (Or.inl ⟨by rfl, ?_⟩) ?_
    rotate_left
    · intro w hSw
      (try dsimp only at hSw)
      go_simp
      try with_reducible rfl
    simp only [List.setIfInBounds_toArray, List.set_cons_zero, List.set_cons_succ]
    refine takeD (i := 18) (v := ?_) 49 rfl rfl (by kernel_rfl) (by kernel_rfl) (by kernel_rfl) (fun _ _ _ h => h) (by assumption) (Or.inl ⟨by rfl, ?_⟩) ?_
    rotate_left
    · intro w hSw
      (try dsimp only at hSw)
      go_simp
      try with_reducible rfl
    simp only [List.setIfInBounds_toArray, List.set_cons_zero, List.set_cons_succ]
    refine takeD (i := 19) (v := ?_) 50 rfl rfl (by kernel_rfl) (by kernel_rfl) (by kernel_rfl) (fun _ _ _ h => h) (by assumption) (Or.inl ⟨by rfl, ?_⟩) ?_
    rotate_left
    · intro w hSw
      (try dsimp only at hSw)
      go_simp
      try with_reducible rfl
    simp only [List.setIfInBounds_toArray, List.set_cons_zero, List.set_cons_succ]
    refine wpAnyH_ready (rs := [20]) (by kernel_rfl) (by simp) ?_
    refine AllReadyH.cons (by simp only [List.getElem?_toArray, List.getElem?_cons_succ, List.getElem?_cons_zero]; rfl) (fun K hK => ?_) AllReadyH.nil
    go_simp
    (with_reducible refine (HS6.out _).mono ?_)
    rintro e w2 ⟨rfl, rfl⟩
    (try go_wp2_with fail)
    refine hK.out _ _ ?_ (fun hHeldN => ?_)
    · exact hHeld
    clear hK K hHeld
    have hHeld := hHeldN
    clear hHeldN
    refine takeD (i := 21) (v := ?_) 52 rfl rfl (by kernel_rfl) (by kernel_rfl) (by kernel_rfl) (fun _ _ _ h => h) (by assumption) (Or.inl ⟨by rfl, ?_⟩) ?_
    rotate_left
    · intro w hSw
      (try dsimp only at hSw)
      go_simp
      try with_reducible rfl
    simp only [List.setIfInBounds_toArray, List.set_cons_zero, List.set_cons_succ]
    refine takeD (i := 22) (v := ?_) 53 rfl rfl (by kernel_rfl) (by kernel_rfl) (by kernel_rfl) (fun _ _ _ h => h) (by assumption) (Or.inl ⟨by rfl, ?_⟩) ?_
    rotate_left
    · intro w hSw
      (try dsimp only at hSw)
      go_simp
      try with_reducible rfl
    simp only [List.setIfInBounds_toArray, List.set_cons_zero, List.set_cons_succ]
    refine takeD (i := 23) (v := ?_) 54 rfl rfl (by kernel_rfl) (by kernel_rfl) (by kernel_rfl) (fun _ _ _ h => h) (by assumption) (Or.inl ⟨by rfl, ?_⟩) ?_
    rotate_left
    · intro w hSw
      (try dsimp only at hSw)
      go_simp
      try with_reducible rfl
    simp only [List.setIfInBounds_toArray, List.set_cons_zero, List.set_cons_succ]
    refine takeD (i := 25) (v := ?_) 56 rfl rfl (by kernel_rfl) (by kernel_rfl) (by kernel_rfl) (fun _ _ _ h => h) (by assumption) (Or.inl ⟨by rfl, ?_⟩) ?_
    rotate_left
    · intro w hSw
      (try dsimp only at hSw)
      go_simp
      try with_reducible rfl
    simp only [List.setIfInBounds_toArray, List.set_cons_zero, List.set_cons_succ]
    refine wpAnyH_ready (rs := [24]) (by kernel_rfl) (by simp) ?_
    refine AllReadyH.cons (by simp only [List.getElem?_toArray, List.getElem?_cons_succ, List.getElem?_cons_zero]; rfl) (fun K hK => ?_) AllReadyH.nil
    go_simp
    (with_reducible refine (HOF.out _).mono ?_)
    rintro e w2 ⟨rfl, hb2⟩
    (try go_wp2_with fail)
    refine hK.out _ _ ?_ (fun hHeldN => ?_)
    · exact ⟨keepc hb2 hHeld.1, keepc hb2 hHeld.2.1, keepc hb2 hHeld.2.2.1, keepc hb2 hHeld.2.2.2.1, keepc hb2 hHeld.2.2.2.2.1, keepc hb2 hHeld.2.2.2.2.2.1, keepc hb2 hHeld.2.2.2.2.2.2.1, keepc hb2 hHeld.2.2.2.2.2.2.2.1, below_t hHeld.2.2.2.2.2.2.2.2 hb2⟩
    clear hK K hHeld
    have hHeld := hHeldN
    clear hHeldN
    refine takeD (i := 26) (v := ?_) 57 rfl rfl (by kernel_rfl) (by kernel_rfl) (by kernel_rfl) (fun _ _ _ h => h) (by assumption) (Or.inl ⟨by rfl, ?_⟩) ?_
    rotate_left
    · intro w hSw
      (try dsimp only at hSw)
      go_simp
      try with_reducible rfl
    simp only [List.setIfInBounds_toArray, List.set_cons_zero, List.set_cons_succ]
    refine takeD (i := 27) (v := ?_) 58 rfl rfl (by kernel_rfl) (by kernel_rfl) (by kernel_rfl) (fun _ _ _ h => h) (by assumption) (Or.inl ⟨by rfl, ?_⟩) ?_
    rotate_left
    · intro w hSw
      (try dsimp only at hSw)
      go_simp
      try with_reducible rfl
    simp only [List.setIfInBounds_toArray, List.set_cons_zero, List.set_cons_succ]
    refine takeD (i := 28) (v := ?_) 59 rfl rfl (by kernel_rfl) (by kernel_rfl) (by kernel_rfl) (fun _ _ _ h => h) (by assumption) (Or.inl ⟨by rfl, ?_⟩) ?_
    rotate_left
    · intro w hSw
      (try dsimp only at hSw)
      go_simp
      try with_reducible rfl
    simp only [List.setIfInBounds_toArray, List.set_cons_zero, List.set_cons_succ]
    refine takeD (i := 29) (v := ?_) 60 rfl rfl (by kernel_rfl) (by kernel_rfl) (by kernel_rfl) (fun _ _ _ h => h) (by assumption) (Or.inl ⟨by rfl, ?_⟩) ?_
    rotate_left
    · intro w hSw
      (try dsimp only at hSw)
      go_simp
      try with_reducible rfl
    simp only [List.setIfInBounds_toArray, List.set_cons_zero, List.set_cons_succ]
    refine takeD (i := 30) (v := ?_) 61 rfl rfl (by kernel_rfl) (by kernel_rfl) (by kernel_rfl) (fun _ _ _ h => h) (by assumption) (Or.inl ⟨by rfl, ?_⟩) ?_
    rotate_left
    · intro w hSw
      (try dsimp only at hSw)
      go_simp
      try with_reducible rfl
    simp only [List.setIfInBounds_toArray, List.set_cons_zero, List.set_cons_succ]
    refine takeD (i := 31) (v := ?_) 62 rfl rfl (by kernel_rfl) (by kernel_rfl) (by kernel_rfl) (fun _ _ _ h => h) (by assumption) (Or.inl ⟨by rfl, ?_⟩) ?_
    rotate_left
    · intro w hSw
      (try dsimp only at hSw)
      go_simp
      try with_reducible rfl
    simp only [List.setIfInBounds_toArray, List.set_cons_zero, List.set_cons_succ]
    refine takeD (i := 32) (v := ?_) 63 rfl rfl (by kernel_rfl) (by kernel_rfl) (by kernel_rfl) (fun _ _ _ h => h) (by assumption) (Or.inl ⟨by rfl, ?_⟩) ?_
    rotate_left
    · intro w hSw
      (try dsimp only at hSw)
      go_simp
      try with_reducible rfl
    simp only [List.setIfInBounds_toArray, List.set_cons_zero, List.set_cons_succ]
    refine takeD (i := 33) (v := ?_) 64 rfl rfl (by kernel_rfl) (by kernel_rfl) (by kernel_rfl) (fun _ _ _ h => h) (by assumption) (Or.inl ⟨by rfl, ?_⟩) ?_
    rotate_left
    · intro w hSw
      (try dsimp only at hSw)
      go_simp
      try with_reducible rfl
    simp only [List.setIfInBounds_toArray, List.set_cons_zero, List.set_cons_succ]
    refine takeD (i := 34) (v := undef) 65 rfl rfl (by kernel_rfl) (by kernel_rfl) (by kernel_rfl) (fun _ _ _ h => h) (by assumption) (Or.inr ⟨by rfl, rfl⟩) ?_
    simp only [List.setIfInBounds_toArray, List.set_cons_zero, List.set_cons_succ]
    refine takeD (i := 35) (v := undef) 66 rfl rfl (by kernel_rfl) (by kernel_rfl) (by kernel_rfl) (fun _ _ _ h => h) (by assumption) (Or.inr ⟨by rfl, rfl⟩) ?_
    simp only [List.setIfInBounds_toArray, List.set_cons_zero, List.set_cons_succ]
    refine takeD (i := 36) (v := ?_) 67 rfl rfl (by kernel_rfl) (by kernel_rfl) (by kernel_rfl) (fun _ _ _ h => h) (by assumption) (Or.inl ⟨by rfl, ?_⟩) ?_
    rotate_left
    · intro w hSw
      (try dsimp only at hSw)
      go_simp
      try with_reducible rfl
    simp only [List.setIfInBounds_toArray, List.set_cons_zero, List.set_cons_succ]
    refine takeD (i := 37) (v := ?_) 68 rfl rfl (by kernel_rfl) (by kernel_rfl) (by kernel_rfl) (fun _ _ _ h => h) (by assumption) (Or.inl ⟨by rfl, ?_⟩) ?_
    rotate_left
    · intro w hSw
      (try dsimp only at hSw)
      go_simp
      try with_reducible rfl
    simp only [List.setIfInBounds_toArray, List.set_cons_zero, List.set_cons_succ]
    refine wpAnyH_done (by kernel_rfl) ?_ _
    go_wp2_with fail
    go_meet
    exact ⟨rfl, hHeld⟩
  case rest =>
    clear HX4
    obtain ⟨rfl, hX⟩ := hcut
    have HY := hid hX
    clear hX
    go_wp2_with fail
    with_reducible refine (HOB.out _).mono ?_
    rintro e w5 ⟨rfl, hb⟩
    have HZ := hid (show w5.cell? ⟨w.heap.size, 0, none⟩ = some (.bool p) ∧ w5.cell? ⟨w.heap.size, 1, none⟩ = some (.bool n) ∧ w5.cell? ⟨w.heap.size, 2, none⟩ = some (.int .i64 d) ∧ w5.cell? ⟨w.heap.size, 3, none⟩ = some (.bool m) ∧ w5.cell? ⟨b1, 0, none⟩ = some (.bool p) ∧ w5.cell? ⟨b1, 1, none⟩ = some (.bool n) ∧ w5.cell? ⟨b1, 2, none⟩ = some (.int .i64 d) ∧ w5.cell? ⟨b1, 3, none⟩ = some (.bool m) ∧ Below w.heap.size w w5 from ⟨keepc hb HY.out.1, keepc hb HY.out.2.1, keepc hb HY.out.2.2.1, keepc hb HY.out.2.2.2.1, keepc hb HY.out.2.2.2.2.1, keepc hb HY.out.2.2.2.2.2.1, keepc hb HY.out.2.2.2.2.2.2.1, keepc hb HY.out.2.2.2.2.2.2.2.1, below_t HY.out.2.2.2.2.2.2.2.2 hb⟩)
    clear hb HY
    go_upto_region 10 with fail
    have KB : Below w5.heap.size w5 (w5.alloc (.cells #[.bool (ofP b), .bool (ofN b), .int .i64 (ofD b), .bool (ofM b)] 69)) := (Below.refl _ _).alloc (Nat.le_refl _) _
    have HX := hid (show (w5.alloc (.cells #[.bool (ofP b), .bool (ofN b), .int .i64 (ofD b), .bool (ofM b)] 69)).cell? ⟨w.heap.size, 0, none⟩ = some (.bool p) ∧ (w5.alloc (.cells #[.bool (ofP b), .bool (ofN b), .int .i64 (ofD b), .bool (ofM b)] 69)).cell? ⟨w.heap.size, 1, none⟩ = some (.bool n) ∧ (w5.alloc (.cells #[.bool (ofP b), .bool (ofN b), .int .i64 (ofD b), .bool (ofM b)] 69)).cell? ⟨w.heap.size, 2, none⟩ = some (.int .i64 d) ∧ (w5.alloc (.cells #[.bool (ofP b), .bool (ofN b), .int .i64 (ofD b), .bool (ofM b)] 69)).cell? ⟨w.heap.size, 3, none⟩ = some (.bool m) ∧ (w5.alloc (.cells #[.bool (ofP b), .bool (ofN b), .int .i64 (ofD b), .bool (ofM b)] 69)).cell? ⟨b1, 0, none⟩ = some (.bool p) ∧ (w5.alloc (.cells #[.bool (ofP b), .bool (ofN b), .int .i64 (ofD b), .bool (ofM b)] 69)).cell? ⟨b1, 1, none⟩ = some (.bool n) ∧ (w5.alloc (.cells #[.bool (ofP b), .bool (ofN b), .int .i64 (ofD b), .bool (ofM b)] 69)).cell? ⟨b1, 2, none⟩ = some (.int .i64 d) ∧ (w5.alloc (.cells #[.bool (ofP b), .bool (ofN b), .int .i64 (ofD b), .bool (ofM b)] 69)).cell? ⟨b1, 3, none⟩ = some (.bool m) ∧ (w5.alloc (.cells #[.bool (ofP b), .bool (ofN b), .int .i64 (ofD b), .bool (ofM b)] 69)).cell? ⟨w5.heap.size, 0, none⟩ = some (.bool (ofP b)) ∧ (w5.alloc (.cells #[.bool (ofP b), .bool (ofN b), .int .i64 (ofD b), .bool (ofM b)] 69)).cell? ⟨w5.heap.size, 1, none⟩ = some (.bool (ofN b)) ∧ (w5.alloc (.cells #[.bool (ofP b), .bool (ofN b), .int .i64 (ofD b), .bool (ofM b)] 69)).cell? ⟨w5.heap.size, 2, none⟩ = some (.int .i64 (ofD b)) ∧ (w5.alloc (.cells #[.bool (ofP b), .bool (ofN b), .int .i64 (ofD b), .bool (ofM b)] 69)).cell? ⟨w5.heap.size, 3, none⟩ = some (.bool (ofM b)) ∧ Below w.heap.size w (w5.alloc (.cells #[.bool (ofP b), .bool (ofN b), .int .i64 (ofD b), .bool (ofM b)] 69)) from ⟨keepc KB HZ.out.1, keepc KB HZ.out.2.1, keepc KB HZ.out.2.2.1, keepc KB HZ.out.2.2.2.1, keepc KB HZ.out.2.2.2.2.1, keepc KB HZ.out.2.2.2.2.2.1, keepc KB HZ.out.2.2.2.2.2.2.1, keepc KB HZ.out.2.2.2.2.2.2.2.1, by simp [go_sem], by simp [go_sem], by simp [go_sem], by simp [go_sem], below_t HZ.out.2.2.2.2.2.2.2.2 KB⟩)
    clear KB HZ
    generalize w5.alloc (.cells #[.bool (ofP b), .bool (ofN b), .int .i64 (ofD b), .bool (ofM b)] 69) = wb at HX ⊢
    obtain ⟨b2, hb2⟩ : ∃ b2, b2 = w5.heap.size := ⟨_, rfl⟩
    rw [← hb2] at HX ⊢
    clear hb2
    generalize ofP b = P' at HX HRO ⊢
    generalize ofN b = N' at HX HRO ⊢
    generalize ofD b = D' at HX HRO ⊢
    generalize ofM b = M' at HX HRO ⊢
    by_cases h1 : d = 1
    · subst h1
      cases p
      · refine wp_region_held_drew (S := (fun w' => w'.cell? ⟨w.heap.size, 0, none⟩ = some (.bool false) ∧ w'.cell? ⟨w.heap.size, 1, none⟩ = some (.bool n) ∧ w'.cell? ⟨w.heap.size, 2, none⟩ = some (.int .i64 1) ∧ w'.cell? ⟨w.heap.size, 3, none⟩ = some (.bool m) ∧ w'.cell? ⟨b1, 0, none⟩ = some (.bool false) ∧ w'.cell? ⟨b1, 1, none⟩ = some (.bool n) ∧ w'.cell? ⟨b1, 2, none⟩ = some (.int .i64 1) ∧ w'.cell? ⟨b1, 3, none⟩ = some (.bool m) ∧ w'.cell? ⟨b2, 0, none⟩ = some (Value.bool P') ∧ w'.cell? ⟨b2, 1, none⟩ = some (Value.bool N') ∧ w'.cell? ⟨b2, 2, none⟩ = some (Value.int .i64 D') ∧ w'.cell? ⟨b2, 3, none⟩ = some (Value.bool M') ∧ Below w.heap.size w w')) (by kernel_rfl) ?_ (fun hHeld => ?_)
        · exact ⟨HX.out.1, HX.out.2.1, HX.out.2.2.1, HX.out.2.2.2.1, HX.out.2.2.2.2.1, HX.out.2.2.2.2.2.1, HX.out.2.2.2.2.2.2.1, HX.out.2.2.2.2.2.2.2.1, HX.out.2.2.2.2.2.2.2.2.1, HX.out.2.2.2.2.2.2.2.2.2.1, HX.out.2.2.2.2.2.2.2.2.2.2.1, HX.out.2.2.2.2.2.2.2.2.2.2.2.1, HX.out.2.2.2.2.2.2.2.2.2.2.2.2.drew⟩
        refine takeD (i := 0) (v := ?_) 71 rfl rfl (by kernel_rfl) (by kernel_rfl) (by kernel_rfl) (fun _ _ _ h => h) (by assumption) (Or.inl ⟨by rfl, ?_⟩) ?_
        rotate_left
        · intro w hSw
          (try dsimp only at hSw)
          go_simp
          try with_reducible rfl
        simp only [List.setIfInBounds_toArray, List.set_cons_zero, List.set_cons_succ]
        refine takeD (i := 1) (v := ?_) 72 rfl rfl (by kernel_rfl) (by kernel_rfl) (by kernel_rfl) (fun _ _ _ h => h) (by assumption) (Or.inl ⟨by rfl, ?_⟩) ?_
        rotate_left
        · intro w hSw
          (try dsimp only at hSw)
          go_simp
          try with_reducible rfl
        simp only [List.setIfInBounds_toArray, List.set_cons_zero, List.set_cons_succ]
        refine wpAnyH_ready (rs := [2]) (by kernel_rfl) (by simp) ?_
        refine AllReadyH.cons (by simp only [List.getElem?_toArray, List.getElem?_cons_succ, List.getElem?_cons_zero]; rfl) (fun K hK => ?_) AllReadyH.nil
        go_simp
        (with_reducible refine (HRO.out _).mono ?_)
        rintro e w2 ⟨rfl, hb2⟩
        (try go_wp2_with fail)
        refine hK.out _ _ ?_ (fun hHeldN => ?_)
        · exact ⟨keepc hb2 hHeld.1, keepc hb2 hHeld.2.1, keepc hb2 hHeld.2.2.1, keepc hb2 hHeld.2.2.2.1, keepc hb2 hHeld.2.2.2.2.1, keepc hb2 hHeld.2.2.2.2.2.1, keepc hb2 hHeld.2.2.2.2.2.2.1, keepc hb2 hHeld.2.2.2.2.2.2.2.1, keepc hb2 hHeld.2.2.2.2.2.2.2.2.1, keepc hb2 hHeld.2.2.2.2.2.2.2.2.2.1, keepc hb2 hHeld.2.2.2.2.2.2.2.2.2.2.1, keepc hb2 hHeld.2.2.2.2.2.2.2.2.2.2.2.1, below_t hHeld.2.2.2.2.2.2.2.2.2.2.2.2 hb2⟩
        clear hK K hHeld
        have hHeld := hHeldN
        clear hHeldN
        refine takeD (i := 3) (v := ?_) 74 rfl rfl (by kernel_rfl) (by kernel_rfl) (by kernel_rfl) (fun _ _ _ h => h) (by assumption) (Or.inl ⟨by rfl, ?_⟩) ?_
        rotate_left
        · intro w hSw
          (try dsimp only at hSw)
          go_simp
          try with_reducible rfl
        simp only [List.setIfInBounds_toArray, List.set_cons_zero, List.set_cons_succ]
        refine takeD (i := 4) (v := ?_) 75 rfl rfl (by kernel_rfl) (by kernel_rfl) (by kernel_rfl) (fun _ _ _ h => h) (by assumption) (Or.inl ⟨by rfl, ?_⟩) ?_
        rotate_left
        · intro w hSw
          (try dsimp only at hSw)
          go_simp
          try with_reducible rfl
        simp only [List.setIfInBounds_toArray, List.set_cons_zero, List.set_cons_succ]
        refine takeD (i := 5) (v := ?_) 76 rfl rfl (by kernel_rfl) (by kernel_rfl) (by kernel_rfl) (fun _ _ _ h => h) (by assumption) (Or.inl ⟨by rfl, ?_⟩) ?_
        rotate_left
        · intro w hSw
          (try dsimp only at hSw)
          go_simp
          try with_reducible rfl
        simp only [List.setIfInBounds_toArray, List.set_cons_zero, List.set_cons_succ]
        refine takeD (i := 7) (v := ?_) 78 rfl rfl (by kernel_rfl) (by kernel_rfl) (by kernel_rfl) (fun _ _ _ h => h) (by assumption) (Or.inl ⟨by rfl, ?_⟩) ?_
        rotate_left
        · intro w hSw
          (try dsimp only at hSw)
          go_simp
          try with_reducible rfl
        simp only [List.setIfInBounds_toArray, List.set_cons_zero, List.set_cons_succ]
        refine takeD (i := 8) (v := ?_) 79 rfl rfl (by kernel_rfl) (by kernel_rfl) (by kernel_rfl) (fun _ _ _ h => h) (by assumption) (Or.inl ⟨by rfl, ?_⟩) ?_
        rotate_left
        · intro w hSw
          (try dsimp only at hSw)
          go_simp
          try with_reducible rfl
        simp only [List.setIfInBounds_toArray, List.set_cons_zero, List.set_cons_succ]
        refine wpAnyH_ready (rs := [6]) (by kernel_rfl) (by simp) ?_
        refine AllReadyH.cons (by simp only [List.getElem?_toArray, List.getElem?_cons_succ, List.getElem?_cons_zero]; rfl) (fun K hK => ?_) AllReadyH.nil
        go_simp
        (with_reducible refine (HSK.out _).mono ?_)
        rintro e w2 ⟨rfl, hb2⟩
        (try go_wp2_with fail)
        refine hK.out _ _ ?_ (fun hHeldN => ?_)
        · exact ⟨keepc hb2 hHeld.1, keepc hb2 hHeld.2.1, keepc hb2 hHeld.2.2.1, keepc hb2 hHeld.2.2.2.1, keepc hb2 hHeld.2.2.2.2.1, keepc hb2 hHeld.2.2.2.2.2.1, keepc hb2 hHeld.2.2.2.2.2.2.1, keepc hb2 hHeld.2.2.2.2.2.2.2.1, keepc hb2 hHeld.2.2.2.2.2.2.2.2.1, keepc hb2 hHeld.2.2.2.2.2.2.2.2.2.1, keepc hb2 hHeld.2.2.2.2.2.2.2.2.2.2.1, keepc hb2 hHeld.2.2.2.2.2.2.2.2.2.2.2.1, below_t hHeld.2.2.2.2.2.2.2.2.2.2.2.2 hb2⟩
        clear hK K hHeld
        have hHeld := hHeldN
        clear hHeldN
        refine takeD (i := 9) (v := ?_) 80 rfl rfl (by kernel_rfl) (by kernel_rfl) (by kernel_rfl) (fun _ _ _ h => h) (by assumption) (Or.inl ⟨by rfl, ?_⟩) ?_
        rotate_left
        · intro w hSw
          (try dsimp only at hSw)
          go_simp
          try with_reducible rfl
        simp only [List.setIfInBounds_toArray, List.set_cons_zero, List.set_cons_succ]
        refine takeD (i := 10) (v := undef) 81 rfl rfl (by kernel_rfl) (by kernel_rfl) (by kernel_rfl) (fun _ _ _ h => h) (by assumption) (Or.inr ⟨by rfl, rfl⟩) ?_
        simp only [List.setIfInBounds_toArray, List.set_cons_zero, List.set_cons_succ]
        refine takeD (i := 11) (v := undef) 82 rfl rfl (by kernel_rfl) (by kernel_rfl) (by kernel_rfl) (fun _ _ _ h => h) (by assumption) (Or.inr ⟨by rfl, rfl⟩) ?_
        simp only [List.setIfInBounds_toArray, List.set_cons_zero, List.set_cons_succ]
        refine takeD (i := 12) (v := ?_) 83 rfl rfl (by kernel_rfl) (by kernel_rfl) (by kernel_rfl) (fun _ _ _ h => h) (by assumption) (Or.inl ⟨by rfl, ?_⟩) ?_
        rotate_left
        · intro w hSw
          (try dsimp only at hSw)
          go_simp
          try with_reducible rfl
        simp only [List.setIfInBounds_toArray, List.set_cons_zero, List.set_cons_succ]
        refine takeD (i := 13) (v := ?_) 84 rfl rfl (by kernel_rfl) (by kernel_rfl) (by kernel_rfl) (fun _ _ _ h => h) (by assumption) (Or.inl ⟨by rfl, ?_⟩) ?_
        rotate_left
        · intro w hSw
          (try dsimp only at hSw)
          go_simp
          try with_reducible rfl
        simp only [List.setIfInBounds_toArray, List.set_cons_zero, List.set_cons_succ]
        refine takeD (i := 14) (v := ?_) 85 rfl rfl (by kernel_rfl) (by kernel_rfl) (by kernel_rfl) (fun _ _ _ h => h) (by assumption) (Or.inl ⟨by rfl, ?_⟩) ?_
        rotate_left
        · intro w hSw
          (try dsimp only at hSw)
          go_simp
          try with_reducible rfl
        simp only [List.setIfInBounds_toArray, List.set_cons_zero, List.set_cons_succ]
        refine takeD (i := 15) (v := ?_) 86 rfl rfl (by kernel_rfl) (by kernel_rfl) (by kernel_rfl) (fun _ _ _ h => h) (by assumption) (Or.inl ⟨by rfl, ?_⟩) ?_
        rotate_left
        · intro w hSw
          (try dsimp only at hSw)
          go_simp
          try with_reducible rfl
        simp only [List.setIfInBounds_toArray, List.set_cons_zero, List.set_cons_succ]
        refine takeD (i := 16) (v := ?_) 87 rfl rfl (by kernel_rfl) (by kernel_rfl) (by kernel_rfl) (fun _ _ _ h => h) (by assumption) (Or.inl ⟨by rfl, ?_⟩) ?_
        rotate_left
        · intro w hSw
          (try dsimp only at hSw)
          go_simp
          try with_reducible rfl
        simp only [List.setIfInBounds_toArray, List.set_cons_zero, List.set_cons_succ]
        refine takeD (i := 18) (v := ?_) 89 rfl rfl (by kernel_rfl) (by kernel_rfl) (by kernel_rfl) (fun _ _ _ h => h) (by assumption) (Or.inl ⟨by rfl, ?_⟩) ?_
        rotate_left
        · intro w hSw
          (try dsimp only at hSw)
          go_simp
          try with_reducible rfl
        simp only [List.setIfInBounds_toArray, List.set_cons_zero, List.set_cons_succ]
        refine takeD (i := 19) (v := ?_) 90 rfl rfl (by kernel_rfl) (by kernel_rfl) (by kernel_rfl) (fun _ _ _ h => h) (by assumption) (Or.inl ⟨by rfl, ?_⟩) ?_
        rotate_left
        · intro w hSw
          (try dsimp only at hSw)
          go_simp
          try with_reducible rfl
        simp only [List.setIfInBounds_toArray, List.set_cons_zero, List.set_cons_succ]
        refine takeD (i := 20) (v := ?_) 91 rfl rfl (by kernel_rfl) (by kernel_rfl) (by kernel_rfl) (fun _ _ _ h => h) (by assumption) (Or.inl ⟨by rfl, ?_⟩) ?_
        rotate_left
        · intro w hSw
          (try dsimp only at hSw)
          go_simp
          try with_reducible rfl
        simp only [List.setIfInBounds_toArray, List.set_cons_zero, List.set_cons_succ]
        refine wpAnyH_ready (rs := [17]) (by kernel_rfl) (by simp) ?_
        refine AllReadyH.cons (by simp only [List.getElem?_toArray, List.getElem?_cons_succ, List.getElem?_cons_zero]; rfl) (fun K hK => ?_) AllReadyH.nil
        go_simp
        (with_reducible refine (HHI.out _).mono ?_)
        rintro e w2 ⟨rfl, hb2⟩
        (try go_wp2_with fail)
        refine hK.out _ _ ?_ (fun hHeldN => ?_)
        · exact ⟨keepc hb2 hHeld.1, keepc hb2 hHeld.2.1, keepc hb2 hHeld.2.2.1, keepc hb2 hHeld.2.2.2.1, keepc hb2 hHeld.2.2.2.2.1, keepc hb2 hHeld.2.2.2.2.2.1, keepc hb2 hHeld.2.2.2.2.2.2.1, keepc hb2 hHeld.2.2.2.2.2.2.2.1, keepc hb2 hHeld.2.2.2.2.2.2.2.2.1, keepc hb2 hHeld.2.2.2.2.2.2.2.2.2.1, keepc hb2 hHeld.2.2.2.2.2.2.2.2.2.2.1, keepc hb2 hHeld.2.2.2.2.2.2.2.2.2.2.2.1, below_t hHeld.2.2.2.2.2.2.2.2.2.2.2.2 hb2⟩
        clear hK K hHeld
        have hHeld := hHeldN
        clear hHeldN
        refine takeD (i := 21) (v := ?_) 92 rfl rfl (by kernel_rfl) (by kernel_rfl) (by kernel_rfl) (fun _ _ _ h => h) (by assumption) (Or.inl ⟨by rfl, ?_⟩) ?_
        rotate_left
        · intro w hSw
          (try dsimp only at hSw)
          go_simp
          try with_reducible rfl
        simp only [List.setIfInBounds_toArray, List.set_cons_zero, List.set_cons_succ]
        refine takeD (i := 22) (v := ?_) 93 rfl rfl (by kernel_rfl) (by kernel_rfl) (by kernel_rfl) (fun _ _ _ h => h) (by assumption) (Or.inl ⟨by rfl, ?_⟩) ?_
        rotate_left
        · intro w hSw
          (try dsimp only at hSw)
          go_simp
          try with_reducible rfl
        simp only [List.setIfInBounds_toArray, List.set_cons_zero, List.set_cons_succ]
        refine takeD (i := 23) (v := ?_) 94 rfl rfl (by kernel_rfl) (by kernel_rfl) (by kernel_rfl) (fun _ _ _ h => h) (by assumption) (Or.inl ⟨by rfl, ?_⟩) ?_
        rotate_left
        · intro w hSw
          (try dsimp only at hSw)
          go_simp
          try with_reducible rfl
        simp only [List.setIfInBounds_toArray, List.set_cons_zero, List.set_cons_succ]
        refine takeD (i := 24) (v := ?_) 95 rfl rfl (by kernel_rfl) (by kernel_rfl) (by kernel_rfl) (fun _ _ _ h => h) (by assumption) (Or.inl ⟨by rfl, ?_⟩) ?_
        rotate_left
        · intro w hSw
          (try dsimp only at hSw)
          go_simp
          try with_reducible rfl
        simp only [List.setIfInBounds_toArray, List.set_cons_zero, List.set_cons_succ]
        refine takeD (i := 26) (v := ?_) 97 rfl rfl (by kernel_rfl) (by kernel_rfl) (by kernel_rfl) (fun _ _ _ h => h) (by assumption) (Or.inl ⟨by rfl, ?_⟩) ?_
        rotate_left
        · intro w hSw
          (try dsimp only at hSw)
          go_simp
          try with_reducible rfl
        simp only [List.setIfInBounds_toArray, List.set_cons_zero, List.set_cons_succ]
        refine takeD (i := 27) (v := ?_) 98 rfl rfl (by kernel_rfl) (by kernel_rfl) (by kernel_rfl) (fun _ _ _ h => h) (by assumption) (Or.inl ⟨by rfl, ?_⟩) ?_
        rotate_left
        · intro w hSw
          (try dsimp only at hSw)
          go_simp
          try with_reducible rfl
        simp only [List.setIfInBounds_toArray, List.set_cons_zero, List.set_cons_succ]
        refine takeD (i := 28) (v := ?_) 99 rfl rfl (by kernel_rfl) (by kernel_rfl) (by kernel_rfl) (fun _ _ _ h => h) (by assumption) (Or.inl ⟨by rfl, ?_⟩) ?_
        rotate_left
        · intro w hSw
          (try dsimp only at hSw)
          go_simp
          try with_reducible rfl
        simp only [List.setIfInBounds_toArray, List.set_cons_zero, List.set_cons_succ]
        refine wpAnyH_ready (rs := [25]) (by kernel_rfl) (by simp) ?_
        refine AllReadyH.cons (by simp only [List.getElem?_toArray, List.getElem?_cons_succ, List.getElem?_cons_zero]; rfl) (fun K hK => ?_) AllReadyH.nil
        go_simp
        (with_reducible refine (HDE.out _).mono ?_)
        rintro e w2 ⟨rfl, hb2⟩
        (try go_wp2_with fail)
        refine hK.out _ _ ?_ (fun hHeldN => ?_)
        · exact ⟨keepc hb2 hHeld.1, keepc hb2 hHeld.2.1, keepc hb2 hHeld.2.2.1, keepc hb2 hHeld.2.2.2.1, keepc hb2 hHeld.2.2.2.2.1, keepc hb2 hHeld.2.2.2.2.2.1, keepc hb2 hHeld.2.2.2.2.2.2.1, keepc hb2 hHeld.2.2.2.2.2.2.2.1, keepc hb2 hHeld.2.2.2.2.2.2.2.2.1, keepc hb2 hHeld.2.2.2.2.2.2.2.2.2.1, keepc hb2 hHeld.2.2.2.2.2.2.2.2.2.2.1, keepc hb2 hHeld.2.2.2.2.2.2.2.2.2.2.2.1, below_t hHeld.2.2.2.2.2.2.2.2.2.2.2.2 hb2⟩
        clear hK K hHeld
        have hHeld := hHeldN
        clear hHeldN
        refine takeD (i := 29) (v := ?_) 100 rfl rfl (by kernel_rfl) (by kernel_rfl) (by kernel_rfl) (fun _ _ _ h => h) (by assumption) (Or.inl ⟨by rfl, ?_⟩) ?_
        rotate_left
        · intro w hSw
          (try dsimp only at hSw)
          go_simp
          try with_reducible rfl
        simp only [List.setIfInBounds_toArray, List.set_cons_zero, List.set_cons_succ]
        refine takeD (i := 30) (v := undef) 101 rfl rfl (by kernel_rfl) (by kernel_rfl) (by kernel_rfl) (fun _ _ _ h => h) (by assumption) (Or.inr ⟨by rfl, rfl⟩) ?_
        simp only [List.setIfInBounds_toArray, List.set_cons_zero, List.set_cons_succ]
        refine takeD (i := 31) (v := undef) 102 rfl rfl (by kernel_rfl) (by kernel_rfl) (by kernel_rfl) (fun _ _ _ h => h) (by assumption) (Or.inr ⟨by rfl, rfl⟩) ?_
        simp only [List.setIfInBounds_toArray, List.set_cons_zero, List.set_cons_succ]
        refine takeD (i := 32) (v := undef) 103 rfl rfl (by kernel_rfl) (by kernel_rfl) (by kernel_rfl) (fun _ _ _ h => h) (by assumption) (Or.inr ⟨by rfl, rfl⟩) ?_
        simp only [List.setIfInBounds_toArray, List.set_cons_zero, List.set_cons_succ]
        refine takeD (i := 33) (v := ?_) 104 rfl rfl (by kernel_rfl) (by kernel_rfl) (by kernel_rfl) (fun _ _ _ h => h) (by assumption) (Or.inl ⟨by rfl, ?_⟩) ?_
        rotate_left
        · intro w hSw
          (try dsimp only at hSw)
          go_simp
          try with_reducible rfl
        simp only [List.setIfInBounds_toArray, List.set_cons_zero, List.set_cons_succ]
        refine takeD (i := 34) (v := ?_) 105 rfl rfl (by kernel_rfl) (by kernel_rfl) (by kernel_rfl) (fun _ _ _ h => h) (by assumption) (Or.inl ⟨by rfl, ?_⟩) ?_
        rotate_left
        · intro w hSw
          (try dsimp only at hSw)
          go_simp
          try with_reducible rfl
        simp only [List.setIfInBounds_toArray, List.set_cons_zero, List.set_cons_succ]
        refine takeD (i := 35) (v := ?_) 106 rfl rfl (by kernel_rfl) (by kernel_rfl) (by kernel_rfl) (fun _ _ _ h => h) (by assumption) (Or.inl ⟨by rfl, ?_⟩) ?_
        rotate_left
        · intro w hSw
          (try dsimp only at hSw)
          go_simp
          try with_reducible rfl
        simp only [List.setIfInBounds_toArray, List.set_cons_zero, List.set_cons_succ]
        refine takeD (i := 36) (v := ?_) 4 rfl rfl (by kernel_rfl) (by kernel_rfl) (by kernel_rfl) (fun _ _ _ h => h) (by assumption) (Or.inl ⟨by rfl, ?_⟩) ?_
        rotate_left
        · intro w hSw
          (try dsimp only at hSw)
          go_simp
          try with_reducible rfl
        simp only [List.setIfInBounds_toArray, List.set_cons_zero, List.set_cons_succ]
        refine wpAnyH_done (by kernel_rfl) ?_ _
        go_wp2
        go_ret
        exact ⟨rfl, hHeld.2.2.2.2.2.2.2.2.2.2.2.2⟩
      · refine wp_region_held_drew (S := (fun w' => w'.cell? ⟨w.heap.size, 0, none⟩ = some (.bool true) ∧ w'.cell? ⟨w.heap.size, 1, none⟩ = some (.bool n) ∧ w'.cell? ⟨w.heap.size, 2, none⟩ = some (.int .i64 1) ∧ w'.cell? ⟨w.heap.size, 3, none⟩ = some (.bool m) ∧ w'.cell? ⟨b1, 0, none⟩ = some (.bool true) ∧ w'.cell? ⟨b1, 1, none⟩ = some (.bool n) ∧ w'.cell? ⟨b1, 2, none⟩ = some (.int .i64 1) ∧ w'.cell? ⟨b1, 3, none⟩ = some (.bool m) ∧ w'.cell? ⟨b2, 0, none⟩ = some (Value.bool P') ∧ w'.cell? ⟨b2, 1, none⟩ = some (Value.bool N') ∧ w'.cell? ⟨b2, 2, none⟩ = some (Value.int .i64 D') ∧ w'.cell? ⟨b2, 3, none⟩ = some (Value.bool M') ∧ Below w.heap.size w w')) (by kernel_rfl) ?_ (fun hHeld => ?_)
        · exact ⟨HX.out.1, HX.out.2.1, HX.out.2.2.1, HX.out.2.2.2.1, HX.out.2.2.2.2.1, HX.out.2.2.2.2.2.1, HX.out.2.2.2.2.2.2.1, HX.out.2.2.2.2.2.2.2.1, HX.out.2.2.2.2.2.2.2.2.1, HX.out.2.2.2.2.2.2.2.2.2.1, HX.out.2.2.2.2.2.2.2.2.2.2.1, HX.out.2.2.2.2.2.2.2.2.2.2.2.1, HX.out.2.2.2.2.2.2.2.2.2.2.2.2.drew⟩
        refine takeD (i := 0) (v := ?_) 71 rfl rfl (by kernel_rfl) (by kernel_rfl) (by kernel_rfl) (fun _ _ _ h => h) (by assumption) (Or.inl ⟨by rfl, ?_⟩) ?_
        rotate_left
        · intro w hSw
          (try dsimp only at hSw)
          go_simp
          try with_reducible rfl
        simp only [List.setIfInBounds_toArray, List.set_cons_zero, List.set_cons_succ]
        refine takeD (i := 1) (v := ?_) 72 rfl rfl (by kernel_rfl) (by kernel_rfl) (by kernel_rfl) (fun _ _ _ h => h) (by assumption) (Or.inl ⟨by rfl, ?_⟩) ?_
        rotate_left
        · intro w hSw
          (try dsimp only at hSw)
          go_simp
          try with_reducible rfl
        simp only [List.setIfInBounds_toArray, List.set_cons_zero, List.set_cons_succ]
        refine wpAnyH_ready (rs := [2]) (by kernel_rfl) (by simp) ?_
        refine AllReadyH.cons (by simp only [List.getElem?_toArray, List.getElem?_cons_succ, List.getElem?_cons_zero]; rfl) (fun K hK => ?_) AllReadyH.nil
        go_simp
        (with_reducible refine (HRO.out _).mono ?_)
        rintro e w2 ⟨rfl, hb2⟩
        (try go_wp2_with fail)
        refine hK.out _ _ ?_ (fun hHeldN => ?_)
        · exact ⟨keepc hb2 hHeld.1, keepc hb2 hHeld.2.1, keepc hb2 hHeld.2.2.1, keepc hb2 hHeld.2.2.2.1, keepc hb2 hHeld.2.2.2.2.1, keepc hb2 hHeld.2.2.2.2.2.1, keepc hb2 hHeld.2.2.2.2.2.2.1, keepc hb2 hHeld.2.2.2.2.2.2.2.1, keepc hb2 hHeld.2.2.2.2.2.2.2.2.1, keepc hb2 hHeld.2.2.2.2.2.2.2.2.2.1, keepc hb2 hHeld.2.2.2.2.2.2.2.2.2.2.1, keepc hb2 hHeld.2.2.2.2.2.2.2.2.2.2.2.1, below_t hHeld.2.2.2.2.2.2.2.2.2.2.2.2 hb2⟩
        clear hK K hHeld
        have hHeld := hHeldN
        clear hHeldN
        refine takeD (i := 3) (v := ?_) 74 rfl rfl (by kernel_rfl) (by kernel_rfl) (by kernel_rfl) (fun _ _ _ h => h) (by assumption) (Or.inl ⟨by rfl, ?_⟩) ?_
        rotate_left
        · intro w hSw
          (try dsimp only at hSw)
          go_simp
          try with_reducible rfl
        simp only [List.setIfInBounds_toArray, List.set_cons_zero, List.set_cons_succ]
        refine takeD (i := 4) (v := ?_) 75 rfl rfl (by kernel_rfl) (by kernel_rfl) (by kernel_rfl) (fun _ _ _ h => h) (by assumption) (Or.inl ⟨by rfl, ?_⟩) ?_
        rotate_left
        · intro w hSw
          (try dsimp only at hSw)
          go_simp
          try with_reducible rfl
        simp only [List.setIfInBounds_toArray, List.set_cons_zero, List.set_cons_succ]
        refine takeD (i := 5) (v := ?_) 76 rfl rfl (by kernel_rfl) (by kernel_rfl) (by kernel_rfl) (fun _ _ _ h => h) (by assumption) (Or.inl ⟨by rfl, ?_⟩) ?_
        rotate_left
        · intro w hSw
          (try dsimp only at hSw)
          go_simp
          try with_reducible rfl
        simp only [List.setIfInBounds_toArray, List.set_cons_zero, List.set_cons_succ]
        refine takeD (i := 7) (v := ?_) 78 rfl rfl (by kernel_rfl) (by kernel_rfl) (by kernel_rfl) (fun _ _ _ h => h) (by assumption) (Or.inl ⟨by rfl, ?_⟩) ?_
        rotate_left
        · intro w hSw
          (try dsimp only at hSw)
          go_simp
          try with_reducible rfl
        simp only [List.setIfInBounds_toArray, List.set_cons_zero, List.set_cons_succ]
        refine takeD (i := 8) (v := ?_) 79 rfl rfl (by kernel_rfl) (by kernel_rfl) (by kernel_rfl) (fun _ _ _ h => h) (by assumption) (Or.inl ⟨by rfl, ?_⟩) ?_
        rotate_left
        · intro w hSw
          (try dsimp only at hSw)
          go_simp
          try with_reducible rfl
        simp only [List.setIfInBounds_toArray, List.set_cons_zero, List.set_cons_succ]
        refine wpAnyH_ready (rs := [6]) (by kernel_rfl) (by simp) ?_
        refine AllReadyH.cons (by simp only [List.getElem?_toArray, List.getElem?_cons_succ, List.getElem?_cons_zero]; rfl) (fun K hK => ?_) AllReadyH.nil
        go_simp
        (with_reducible refine (HSK.out _).mono ?_)
        rintro e w2 ⟨rfl, hb2⟩
        (try go_wp2_with fail)
        refine hK.out _ _ ?_ (fun hHeldN => ?_)
        · exact ⟨keepc hb2 hHeld.1, keepc hb2 hHeld.2.1, keepc hb2 hHeld.2.2.1, keepc hb2 hHeld.2.2.2.1, keepc hb2 hHeld.2.2.2.2.1, keepc hb2 hHeld.2.2.2.2.2.1, keepc hb2 hHeld.2.2.2.2.2.2.1, keepc hb2 hHeld.2.2.2.2.2.2.2.1, keepc hb2 hHeld.2.2.2.2.2.2.2.2.1, keepc hb2 hHeld.2.2.2.2.2.2.2.2.2.1, keepc hb2 hHeld.2.2.2.2.2.2.2.2.2.2.1, keepc hb2 hHeld.2.2.2.2.2.2.2.2.2.2.2.1, below_t hHeld.2.2.2.2.2.2.2.2.2.2.2.2 hb2⟩
        clear hK K hHeld
        have hHeld := hHeldN
        clear hHeldN
        refine takeD (i := 9) (v := ?_) 80 rfl rfl (by kernel_rfl) (by kernel_rfl) (by kernel_rfl) (fun _ _ _ h => h) (by assumption) (Or.inl ⟨by rfl, ?_⟩) ?_
        rotate_left
        · intro w hSw
          (try dsimp only at hSw)
          go_simp
          try with_reducible rfl
        simp only [List.setIfInBounds_toArray, List.set_cons_zero, List.set_cons_succ]
        refine takeD (i := 10) (v := ?_) 81 rfl rfl (by kernel_rfl) (by kernel_rfl) (by kernel_rfl) (fun _ _ _ h => h) (by assumption) (Or.inl ⟨by rfl, ?_⟩) ?_
        rotate_left
        · intro w hSw
          (try dsimp only at hSw)
          go_simp
          try with_reducible rfl
        simp only [List.setIfInBounds_toArray, List.set_cons_zero, List.set_cons_succ]
        refine takeD (i := 11) (v := ?_) 82 rfl rfl (by kernel_rfl) (by kernel_rfl) (by kernel_rfl) (fun _ _ _ h => h) (by assumption) (Or.inl ⟨by rfl, ?_⟩) ?_
        rotate_left
        · intro w hSw
          (try dsimp only at hSw)
          go_simp
          try with_reducible rfl
        simp only [List.setIfInBounds_toArray, List.set_cons_zero, List.set_cons_succ]
        refine takeD (i := 12) (v := ?_) 83 rfl rfl (by kernel_rfl) (by kernel_rfl) (by kernel_rfl) (fun _ _ _ h => h) (by assumption) (Or.inl ⟨by rfl, ?_⟩) ?_
        rotate_left
        · intro w hSw
          (try dsimp only at hSw)
          go_simp
          try with_reducible rfl
        simp only [List.setIfInBounds_toArray, List.set_cons_zero, List.set_cons_succ]
        refine takeD (i := 13) (v := ?_) 84 rfl rfl (by kernel_rfl) (by kernel_rfl) (by kernel_rfl) (fun _ _ _ h => h) (by assumption) (Or.inl ⟨by rfl, ?_⟩) ?_
        rotate_left
        · intro w hSw
          (try dsimp only at hSw)
          go_simp
          try with_reducible rfl
        simp only [List.setIfInBounds_toArray, List.set_cons_zero, List.set_cons_succ]
        refine takeD (i := 14) (v := ?_) 85 rfl rfl (by kernel_rfl) (by kernel_rfl) (by kernel_rfl) (fun _ _ _ h => h) (by assumption) (Or.inl ⟨by rfl, ?_⟩) ?_
        rotate_left
        · intro w hSw
          (try dsimp only at hSw)
          go_simp
          try with_reducible rfl
        simp only [List.setIfInBounds_toArray, List.set_cons_zero, List.set_cons_succ]
        refine takeD (i := 15) (v := ?_) 86 rfl rfl (by kernel_rfl) (by kernel_rfl) (by kernel_rfl) (fun _ _ _ h => h) (by assumption) (Or.inl ⟨by rfl, ?_⟩) ?_
        rotate_left
        · intro w hSw
          (try dsimp only at hSw)
          go_simp
          try with_reducible rfl
        simp only [List.setIfInBounds_toArray, List.set_cons_zero, List.set_cons_succ]
        refine takeD (i := 16) (v := ?_) 87 rfl rfl (by kernel_rfl) (by kernel_rfl) (by kernel_rfl) (fun _ _ _ h => h) (by assumption) (Or.inl ⟨by rfl, ?_⟩) ?_
        rotate_left
        · intro w hSw
          (try dsimp only at hSw)
          go_simp
          try with_reducible rfl
        simp only [List.setIfInBounds_toArray, List.set_cons_zero, List.set_cons_succ]
        refine takeD (i := 18) (v := ?_) 89 rfl rfl (by kernel_rfl) (by kernel_rfl) (by kernel_rfl) (fun _ _ _ h => h) (by assumption) (Or.inl ⟨by rfl, ?_⟩) ?_
        rotate_left
        · intro w hSw
          (try dsimp only at hSw)
          go_simp
          try with_reducible rfl
        simp only [List.setIfInBounds_toArray, List.set_cons_zero, List.set_cons_succ]
        refine takeD (i := 19) (v := ?_) 90 rfl rfl (by kernel_rfl) (by kernel_rfl) (by kernel_rfl) (fun _ _ _ h => h) (by assumption) (Or.inl ⟨by rfl, ?_⟩) ?_
        rotate_left
        · intro w hSw
          (try dsimp only at hSw)
          go_simp
          try with_reducible rfl
        simp only [List.setIfInBounds_toArray, List.set_cons_zero, List.set_cons_succ]
        refine takeD (i := 20) (v := ?_) 91 rfl rfl (by kernel_rfl) (by kernel_rfl) (by kernel_rfl) (fun _ _ _ h => h) (by assumption) (Or.inl ⟨by rfl, ?_⟩) ?_
        rotate_left
        · intro w hSw
          (try dsimp only at hSw)
          go_simp
          try with_reducible rfl
        simp only [List.setIfInBounds_toArray, List.set_cons_zero, List.set_cons_succ]
        refine wpAnyH_ready (rs := [17]) (by kernel_rfl) (by simp) ?_
        refine AllReadyH.cons (by simp only [List.getElem?_toArray, List.getElem?_cons_succ, List.getElem?_cons_zero]; rfl) (fun K hK => ?_) AllReadyH.nil
        go_simp
        (with_reducible refine (HHI.out _).mono ?_)
        rintro e w2 ⟨rfl, hb2⟩
        (try go_wp2_with fail)
        refine hK.out _ _ ?_ (fun hHeldN => ?_)
        · exact ⟨keepc hb2 hHeld.1, keepc hb2 hHeld.2.1, keepc hb2 hHeld.2.2.1, keepc hb2 hHeld.2.2.2.1, keepc hb2 hHeld.2.2.2.2.1, keepc hb2 hHeld.2.2.2.2.2.1, keepc hb2 hHeld.2.2.2.2.2.2.1, keepc hb2 hHeld.2.2.2.2.2.2.2.1, keepc hb2 hHeld.2.2.2.2.2.2.2.2.1, keepc hb2 hHeld.2.2.2.2.2.2.2.2.2.1, keepc hb2 hHeld.2.2.2.2.2.2.2.2.2.2.1, keepc hb2 hHeld.2.2.2.2.2.2.2.2.2.2.2.1, below_t hHeld.2.2.2.2.2.2.2.2.2.2.2.2 hb2⟩
        clear hK K hHeld
        have hHeld := hHeldN
        clear hHeldN
        refine takeD (i := 21) (v := ?_) 92 rfl rfl (by kernel_rfl) (by kernel_rfl) (by kernel_rfl) (fun _ _ _ h => h) (by assumption) (Or.inl ⟨by rfl, ?_⟩) ?_
        rotate_left
        · intro w hSw
          (try dsimp only at hSw)
          go_simp
          try with_reducible rfl
        simp only [List.setIfInBounds_toArray, List.set_cons_zero, List.set_cons_succ]
        refine takeD (i := 22) (v := ?_) 93 rfl rfl (by kernel_rfl) (by kernel_rfl) (by kernel_rfl) (fun _ _ _ h => h) (by assumption) (Or.inl ⟨by rfl, ?_⟩) ?_
        rotate_left
        · intro w hSw
          (try dsimp only at hSw)
          go_simp
          try with_reducible rfl
        simp only [List.setIfInBounds_toArray, List.set_cons_zero, List.set_cons_succ]
        refine takeD (i := 23) (v := ?_) 94 rfl rfl (by kernel_rfl) (by kernel_rfl) (by kernel_rfl) (fun _ _ _ h => h) (by assumption) (Or.inl ⟨by rfl, ?_⟩) ?_
        rotate_left
        · intro w hSw
          (try dsimp only at hSw)
          go_simp
          try with_reducible rfl
        simp only [List.setIfInBounds_toArray, List.set_cons_zero, List.set_cons_succ]
        refine takeD (i := 24) (v := ?_) 95 rfl rfl (by kernel_rfl) (by kernel_rfl) (by kernel_rfl) (fun _ _ _ h => h) (by assumption) (Or.inl ⟨by rfl, ?_⟩) ?_
        rotate_left
        · intro w hSw
          (try dsimp only at hSw)
          go_simp
          try with_reducible rfl
        simp only [List.setIfInBounds_toArray, List.set_cons_zero, List.set_cons_succ]
        refine takeD (i := 26) (v := ?_) 97 rfl rfl (by kernel_rfl) (by kernel_rfl) (by kernel_rfl) (fun _ _ _ h => h) (by assumption) (Or.inl ⟨by rfl, ?_⟩) ?_
        rotate_left
        · intro w hSw
          (try dsimp only at hSw)
          go_simp
          try with_reducible rfl
        simp only [List.setIfInBounds_toArray, List.set_cons_zero, List.set_cons_succ]
        refine takeD (i := 27) (v := ?_) 98 rfl rfl (by kernel_rfl) (by kernel_rfl) (by kernel_rfl) (fun _ _ _ h => h) (by assumption) (Or.inl ⟨by rfl, ?_⟩) ?_
        rotate_left
        · intro w hSw
          (try dsimp only at hSw)
          go_simp
          try with_reducible rfl
        simp only [List.setIfInBounds_toArray, List.set_cons_zero, List.set_cons_succ]
        refine takeD (i := 28) (v := ?_) 99 rfl rfl (by kernel_rfl) (by kernel_rfl) (by kernel_rfl) (fun _ _ _ h => h) (by assumption) (Or.inl ⟨by rfl, ?_⟩) ?_
        rotate_left
        · intro w hSw
          (try dsimp only at hSw)
          go_simp
          try with_reducible rfl
        simp only [List.setIfInBounds_toArray, List.set_cons_zero, List.set_cons_succ]
        refine wpAnyH_ready (rs := [25]) (by kernel_rfl) (by simp) ?_
        refine AllReadyH.cons (by simp only [List.getElem?_toArray, List.getElem?_cons_succ, List.getElem?_cons_zero]; rfl) (fun K hK => ?_) AllReadyH.nil
        go_simp
        (with_reducible refine (HDE.out _).mono ?_)
        rintro e w2 ⟨rfl, hb2⟩
        (try go_wp2_with fail)
        refine hK.out _ _ ?_ (fun hHeldN => ?_)
        · exact ⟨keepc hb2 hHeld.1, keepc hb2 hHeld.2.1, keepc hb2 hHeld.2.2.1, keepc hb2 hHeld.2.2.2.1, keepc hb2 hHeld.2.2.2.2.1, keepc hb2 hHeld.2.2.2.2.2.1, keepc hb2 hHeld.2.2.2.2.2.2.1, keepc hb2 hHeld.2.2.2.2.2.2.2.1, keepc hb2 hHeld.2.2.2.2.2.2.2.2.1, keepc hb2 hHeld.2.2.2.2.2.2.2.2.2.1, keepc hb2 hHeld.2.2.2.2.2.2.2.2.2.2.1, keepc hb2 hHeld.2.2.2.2.2.2.2.2.2.2.2.1, below_t hHeld.2.2.2.2.2.2.2.2.2.2.2.2 hb2⟩
        clear hK K hHeld
        have hHeld := hHeldN
        clear hHeldN
        refine takeD (i := 29) (v := ?_) 100 rfl rfl (by kernel_rfl) (by kernel_rfl) (by kernel_rfl) (fun _ _ _ h => h) (by assumption) (Or.inl ⟨by rfl, ?_⟩) ?_
        rotate_left
        · intro w hSw
          (try dsimp only at hSw)
          go_simp
          try with_reducible rfl
        simp only [List.setIfInBounds_toArray, List.set_cons_zero, List.set_cons_succ]
        refine takeD (i := 30) (v := undef) 101 rfl rfl (by kernel_rfl) (by kernel_rfl) (by kernel_rfl) (fun _ _ _ h => h) (by assumption) (Or.inr ⟨by rfl, rfl⟩) ?_
        simp only [List.setIfInBounds_toArray, List.set_cons_zero, List.set_cons_succ]
        refine takeD (i := 31) (v := undef) 102 rfl rfl (by kernel_rfl) (by kernel_rfl) (by kernel_rfl) (fun _ _ _ h => h) (by assumption) (Or.inr ⟨by rfl, rfl⟩) ?_
        simp only [List.setIfInBounds_toArray, List.set_cons_zero, List.set_cons_succ]
        refine takeD (i := 32) (v := undef) 103 rfl rfl (by kernel_rfl) (by kernel_rfl) (by kernel_rfl) (fun _ _ _ h => h) (by assumption) (Or.inr ⟨by rfl, rfl⟩) ?_
        simp only [List.setIfInBounds_toArray, List.set_cons_zero, List.set_cons_succ]
        refine takeD (i := 33) (v := ?_) 104 rfl rfl (by kernel_rfl) (by kernel_rfl) (by kernel_rfl) (fun _ _ _ h => h) (by assumption) (Or.inl ⟨by rfl, ?_⟩) ?_
        rotate_left
        · intro w hSw
          (try dsimp only at hSw)
          go_simp
          try with_reducible rfl
        simp only [List.setIfInBounds_toArray, List.set_cons_zero, List.set_cons_succ]
        refine takeD (i := 34) (v := ?_) 105 rfl rfl (by kernel_rfl) (by kernel_rfl) (by kernel_rfl) (fun _ _ _ h => h) (by assumption) (Or.inl ⟨by rfl, ?_⟩) ?_
        rotate_left
        · intro w hSw
          (try dsimp only at hSw)
          go_simp
          try with_reducible rfl
        simp only [List.setIfInBounds_toArray, List.set_cons_zero, List.set_cons_succ]
        refine takeD (i := 35) (v := ?_) 106 rfl rfl (by kernel_rfl) (by kernel_rfl) (by kernel_rfl) (fun _ _ _ h => h) (by assumption) (Or.inl ⟨by rfl, ?_⟩) ?_
        rotate_left
        · intro w hSw
          (try dsimp only at hSw)
          go_simp
          try with_reducible rfl
        simp only [List.setIfInBounds_toArray, List.set_cons_zero, List.set_cons_succ]
        refine takeD (i := 36) (v := ?_) 4 rfl rfl (by kernel_rfl) (by kernel_rfl) (by kernel_rfl) (fun _ _ _ h => h) (by assumption) (Or.inl ⟨by rfl, ?_⟩) ?_
        rotate_left
        · intro w hSw
          (try dsimp only at hSw)
          go_simp
          try with_reducible rfl
        simp only [List.setIfInBounds_toArray, List.set_cons_zero, List.set_cons_succ]
        refine wpAnyH_done (by kernel_rfl) ?_ _
        go_wp2
        go_ret
        exact ⟨rfl, hHeld.2.2.2.2.2.2.2.2.2.2.2.2⟩
    · have e1 : (d == 1) = false := by simpa using h1
      cases p
      · refine wp_region_held_drew (S := (fun w' => w'.cell? ⟨w.heap.size, 0, none⟩ = some (.bool false) ∧ w'.cell? ⟨w.heap.size, 1, none⟩ = some (.bool n) ∧ w'.cell? ⟨w.heap.size, 2, none⟩ = some (.int .i64 d) ∧ w'.cell? ⟨w.heap.size, 3, none⟩ = some (.bool m) ∧ w'.cell? ⟨b1, 0, none⟩ = some (.bool false) ∧ w'.cell? ⟨b1, 1, none⟩ = some (.bool n) ∧ w'.cell? ⟨b1, 2, none⟩ = some (.int .i64 d) ∧ w'.cell? ⟨b1, 3, none⟩ = some (.bool m) ∧ w'.cell? ⟨b2, 0, none⟩ = some (Value.bool P') ∧ w'.cell? ⟨b2, 1, none⟩ = some (Value.bool N') ∧ w'.cell? ⟨b2, 2, none⟩ = some (Value.int .i64 D') ∧ w'.cell? ⟨b2, 3, none⟩ = some (Value.bool M') ∧ Below w.heap.size w w')) (by kernel_rfl) ?_ (fun hHeld => ?_)
        · exact ⟨HX.out.1, HX.out.2.1, HX.out.2.2.1, HX.out.2.2.2.1, HX.out.2.2.2.2.1, HX.out.2.2.2.2.2.1, HX.out.2.2.2.2.2.2.1, HX.out.2.2.2.2.2.2.2.1, HX.out.2.2.2.2.2.2.2.2.1, HX.out.2.2.2.2.2.2.2.2.2.1, HX.out.2.2.2.2.2.2.2.2.2.2.1, HX.out.2.2.2.2.2.2.2.2.2.2.2.1, HX.out.2.2.2.2.2.2.2.2.2.2.2.2.drew⟩
        refine takeD (i := 0) (v := ?_) 71 rfl rfl (by kernel_rfl) (by kernel_rfl) (by kernel_rfl) (fun _ _ _ h => h) (by assumption) (Or.inl ⟨by rfl, ?_⟩) ?_
        rotate_left
        · intro w hSw
          (try dsimp only at hSw)
          go_simp
          try with_reducible rfl
        simp only [List.setIfInBounds_toArray, List.set_cons_zero, List.set_cons_succ]
        refine takeD (i := 1) (v := ?_) 72 rfl rfl (by kernel_rfl) (by kernel_rfl) (by kernel_rfl) (fun _ _ _ h => h) (by assumption) (Or.inl ⟨by rfl, ?_⟩) ?_
        rotate_left
        · intro w hSw
          (try dsimp only at hSw)
          go_simp
          try with_reducible rfl
        simp only [List.setIfInBounds_toArray, List.set_cons_zero, List.set_cons_succ]
        refine wpAnyH_ready (rs := [2]) (by kernel_rfl) (by simp) ?_
        refine AllReadyH.cons (by simp only [List.getElem?_toArray, List.getElem?_cons_succ, List.getElem?_cons_zero]; rfl) (fun K hK => ?_) AllReadyH.nil
        go_simp
        (with_reducible refine (HRO.out _).mono ?_)
        rintro e w2 ⟨rfl, hb2⟩
        (try go_wp2_with fail)
        refine hK.out _ _ ?_ (fun hHeldN => ?_)
        · exact ⟨keepc hb2 hHeld.1, keepc hb2 hHeld.2.1, keepc hb2 hHeld.2.2.1, keepc hb2 hHeld.2.2.2.1, keepc hb2 hHeld.2.2.2.2.1, keepc hb2 hHeld.2.2.2.2.2.1, keepc hb2 hHeld.2.2.2.2.2.2.1, keepc hb2 hHeld.2.2.2.2.2.2.2.1, keepc hb2 hHeld.2.2.2.2.2.2.2.2.1, keepc hb2 hHeld.2.2.2.2.2.2.2.2.2.1, keepc hb2 hHeld.2.2.2.2.2.2.2.2.2.2.1, keepc hb2 hHeld.2.2.2.2.2.2.2.2.2.2.2.1, below_t hHeld.2.2.2.2.2.2.2.2.2.2.2.2 hb2⟩
        clear hK K hHeld
        have hHeld := hHeldN
        clear hHeldN
        refine takeD (i := 3) (v := ?_) 74 rfl rfl (by kernel_rfl) (by kernel_rfl) (by kernel_rfl) (fun _ _ _ h => h) (by assumption) (Or.inl ⟨by rfl, ?_⟩) ?_
        rotate_left
        · intro w hSw
          (try dsimp only at hSw)
          go_simp
          try with_reducible rfl
        simp only [List.setIfInBounds_toArray, List.set_cons_zero, List.set_cons_succ]
        refine takeD (i := 4) (v := ?_) 75 rfl rfl (by kernel_rfl) (by kernel_rfl) (by kernel_rfl) (fun _ _ _ h => h) (by assumption) (Or.inl ⟨by rfl, ?_⟩) ?_
        rotate_left
        · intro w hSw
          (try dsimp only at hSw)
          go_simp
          try with_reducible rfl
        simp only [List.setIfInBounds_toArray, List.set_cons_zero, List.set_cons_succ]
        refine takeD (i := 5) (v := ?_) 76 rfl rfl (by kernel_rfl) (by kernel_rfl) (by kernel_rfl) (fun _ _ _ h => h) (by assumption) (Or.inl ⟨by rfl, ?_⟩) ?_
        rotate_left
        · intro w hSw
          (try dsimp only at hSw)
          go_simp
          try with_reducible rfl
        simp only [List.setIfInBounds_toArray, List.set_cons_zero, List.set_cons_succ]
        refine takeD (i := 7) (v := ?_) 78 rfl rfl (by kernel_rfl) (by kernel_rfl) (by kernel_rfl) (fun _ _ _ h => h) (by assumption) (Or.inl ⟨by rfl, ?_⟩) ?_
        rotate_left
        · intro w hSw
          (try dsimp only at hSw)
          go_simp
          try with_reducible rfl
        simp only [List.setIfInBounds_toArray, List.set_cons_zero, List.set_cons_succ]
        refine takeD (i := 8) (v := ?_) 79 rfl rfl (by kernel_rfl) (by kernel_rfl) (by kernel_rfl) (fun _ _ _ h => h) (by assumption) (Or.inl ⟨by rfl, ?_⟩) ?_
        rotate_left
        · intro w hSw
          (try dsimp only at hSw)
          go_simp
          try with_reducible rfl
        simp only [List.setIfInBounds_toArray, List.set_cons_zero, List.set_cons_succ]
        refine wpAnyH_ready (rs := [6]) (by kernel_rfl) (by simp) ?_
        refine AllReadyH.cons (by simp only [List.getElem?_toArray, List.getElem?_cons_succ, List.getElem?_cons_zero]; rfl) (fun K hK => ?_) AllReadyH.nil
        go_simp
        (with_reducible refine (HSK.out _).mono ?_)
        rintro e w2 ⟨rfl, hb2⟩
        (try go_wp2_with fail)
        refine hK.out _ _ ?_ (fun hHeldN => ?_)
        · exact ⟨keepc hb2 hHeld.1, keepc hb2 hHeld.2.1, keepc hb2 hHeld.2.2.1, keepc hb2 hHeld.2.2.2.1, keepc hb2 hHeld.2.2.2.2.1, keepc hb2 hHeld.2.2.2.2.2.1, keepc hb2 hHeld.2.2.2.2.2.2.1, keepc hb2 hHeld.2.2.2.2.2.2.2.1, keepc hb2 hHeld.2.2.2.2.2.2.2.2.1, keepc hb2 hHeld.2.2.2.2.2.2.2.2.2.1, keepc hb2 hHeld.2.2.2.2.2.2.2.2.2.2.1, keepc hb2 hHeld.2.2.2.2.2.2.2.2.2.2.2.1, below_t hHeld.2.2.2.2.2.2.2.2.2.2.2.2 hb2⟩
        clear hK K hHeld
        have hHeld := hHeldN
        clear hHeldN
        refine takeD (i := 9) (v := ?_) 80 rfl rfl (by kernel_rfl) (by kernel_rfl) (by kernel_rfl) (fun _ _ _ h => h) (by assumption) (Or.inl ⟨by rfl, ?_⟩) ?_
        rotate_left
        · intro w hSw
          (try dsimp only at hSw)
          go_simp
          try with_reducible rfl
        simp only [List.setIfInBounds_toArray, List.set_cons_zero, List.set_cons_succ]
        refine takeD (i := 10) (v := undef) 81 rfl rfl (by kernel_rfl) (by kernel_rfl) (by kernel_rfl) (fun _ _ _ h => h) (by assumption) (Or.inr ⟨by rfl, rfl⟩) ?_
        simp only [List.setIfInBounds_toArray, List.set_cons_zero, List.set_cons_succ]
        refine takeD (i := 11) (v := undef) 82 rfl rfl (by kernel_rfl) (by kernel_rfl) (by kernel_rfl) (fun _ _ _ h => h) (by assumption) (Or.inr ⟨by rfl, rfl⟩) ?_
        simp only [List.setIfInBounds_toArray, List.set_cons_zero, List.set_cons_succ]
        refine takeD (i := 12) (v := ?_) 83 rfl rfl (by kernel_rfl) (by kernel_rfl) (by kernel_rfl) (fun _ _ _ h => h) (by assumption) (Or.inl ⟨by rfl, ?_⟩) ?_
        rotate_left
        · intro w hSw
          (try dsimp only at hSw)
          go_simp
          try with_reducible rfl
        simp only [List.setIfInBounds_toArray, List.set_cons_zero, List.set_cons_succ]
        refine takeD (i := 13) (v := ?_) 84 rfl rfl (by kernel_rfl) (by kernel_rfl) (by kernel_rfl) (fun _ _ _ h => h) (by assumption) (Or.inl ⟨by rfl, ?_⟩) ?_
        rotate_left
        · intro w hSw
          (try dsimp only at hSw)
          go_simp
          try with_reducible rfl
        simp only [List.setIfInBounds_toArray, List.set_cons_zero, List.set_cons_succ]
        refine takeD (i := 14) (v := ?_) 85 rfl rfl (by kernel_rfl) (by kernel_rfl) (by kernel_rfl) (fun _ _ _ h => h) (by assumption) (Or.inl ⟨by rfl, ?_⟩) ?_
        rotate_left
        · intro w hSw
          (try dsimp only at hSw)
          go_simp
          try with_reducible rfl
        simp only [List.setIfInBounds_toArray, List.set_cons_zero, List.set_cons_succ]
        refine takeD (i := 15) (v := ?_) 86 rfl rfl (by kernel_rfl) (by kernel_rfl) (by kernel_rfl) (fun _ _ _ h => h) (by assumption) (Or.inl ⟨by rfl, ?_⟩) ?_
        rotate_left
        · intro w hSw
          (try dsimp only at hSw)
          go_simp
          try with_reducible rfl
        simp only [List.setIfInBounds_toArray, List.set_cons_zero, List.set_cons_succ]
        refine takeD (i := 16) (v := ?_) 87 rfl rfl (by kernel_rfl) (by kernel_rfl) (by kernel_rfl) (fun _ _ _ h => h) (by assumption) (Or.inl ⟨by rfl, ?_⟩) ?_
        rotate_left
        · intro w hSw
          (try dsimp only at hSw)
          go_simp
          try with_reducible rfl
        simp only [List.setIfInBounds_toArray, List.set_cons_zero, List.set_cons_succ]
        refine takeD (i := 18) (v := ?_) 89 rfl rfl (by kernel_rfl) (by kernel_rfl) (by kernel_rfl) (fun _ _ _ h => h) (by assumption) (Or.inl ⟨by rfl, ?_⟩) ?_
        rotate_left
        · intro w hSw
          (try dsimp only at hSw)
          go_simp
          try with_reducible rfl
        simp only [List.setIfInBounds_toArray, List.set_cons_zero, List.set_cons_succ]
        refine takeD (i := 19) (v := ?_) 90 rfl rfl (by kernel_rfl) (by kernel_rfl) (by kernel_rfl) (fun _ _ _ h => h) (by assumption) (Or.inl ⟨by rfl, ?_⟩) ?_
        rotate_left
        · intro w hSw
          (try dsimp only at hSw)
          go_simp
          try with_reducible rfl
        simp only [List.setIfInBounds_toArray, List.set_cons_zero, List.set_cons_succ]
        refine takeD (i := 20) (v := ?_) 91 rfl rfl (by kernel_rfl) (by kernel_rfl) (by kernel_rfl) (fun _ _ _ h => h) (by assumption) (Or.inl ⟨by rfl, ?_⟩) ?_
        rotate_left
        · intro w hSw
          (try dsimp only at hSw)
          go_simp
          try with_reducible rfl
        simp only [List.setIfInBounds_toArray, List.set_cons_zero, List.set_cons_succ]
        refine wpAnyH_ready (rs := [17]) (by kernel_rfl) (by simp) ?_
        refine AllReadyH.cons (by simp only [List.getElem?_toArray, List.getElem?_cons_succ, List.getElem?_cons_zero]; rfl) (fun K hK => ?_) AllReadyH.nil
        go_simp
        (with_reducible refine (HHI.out _).mono ?_)
        rintro e w2 ⟨rfl, hb2⟩
        (try go_wp2_with fail)
        refine hK.out _ _ ?_ (fun hHeldN => ?_)
        · exact ⟨keepc hb2 hHeld.1, keepc hb2 hHeld.2.1, keepc hb2 hHeld.2.2.1, keepc hb2 hHeld.2.2.2.1, keepc hb2 hHeld.2.2.2.2.1, keepc hb2 hHeld.2.2.2.2.2.1, keepc hb2 hHeld.2.2.2.2.2.2.1, keepc hb2 hHeld.2.2.2.2.2.2.2.1, keepc hb2 hHeld.2.2.2.2.2.2.2.2.1, keepc hb2 hHeld.2.2.2.2.2.2.2.2.2.1, keepc hb2 hHeld.2.2.2.2.2.2.2.2.2.2.1, keepc hb2 hHeld.2.2.2.2.2.2.2.2.2.2.2.1, below_t hHeld.2.2.2.2.2.2.2.2.2.2.2.2 hb2⟩
        clear hK K hHeld
        have hHeld := hHeldN
        clear hHeldN
        refine takeD (i := 21) (v := ?_) 92 rfl rfl (by kernel_rfl) (by kernel_rfl) (by kernel_rfl) (fun _ _ _ h => h) (by assumption) (Or.inl ⟨by rfl, ?_⟩) ?_
        rotate_left
        · intro w hSw
          (try dsimp only at hSw)
          go_simp
          try with_reducible rfl
        simp only [List.setIfInBounds_toArray, List.set_cons_zero, List.set_cons_succ]
        refine takeD (i := 22) (v := ?_) 93 rfl rfl (by kernel_rfl) (by kernel_rfl) (by kernel_rfl) (fun _ _ _ h => h) (by assumption) (Or.inl ⟨by rfl, ?_⟩) ?_
        rotate_left
        · intro w hSw
          (try dsimp only at hSw)
          go_simp
          try with_reducible rfl
        simp only [List.setIfInBounds_toArray, List.set_cons_zero, List.set_cons_succ]
        refine takeD (i := 23) (v := ?_) 94 rfl rfl (by kernel_rfl) (by kernel_rfl) (by kernel_rfl) (fun _ _ _ h => h) (by assumption) (Or.inl ⟨by rfl, ?_⟩) ?_
        rotate_left
        · intro w hSw
          (try dsimp only at hSw)
          go_simp
          try with_reducible rfl
        simp only [List.setIfInBounds_toArray, List.set_cons_zero, List.set_cons_succ]
        refine takeD (i := 24) (v := ?_) 95 rfl rfl (by kernel_rfl) (by kernel_rfl) (by kernel_rfl) (fun _ _ _ h => h) (by assumption) (Or.inl ⟨by rfl, ?_⟩) ?_
        rotate_left
        · intro w hSw
          (try dsimp only at hSw)
          go_simp
          try with_reducible rfl
        simp only [List.setIfInBounds_toArray, List.set_cons_zero, List.set_cons_succ]
        refine takeD (i := 26) (v := ?_) 97 rfl rfl (by kernel_rfl) (by kernel_rfl) (by kernel_rfl) (fun _ _ _ h => h) (by assumption) (Or.inl ⟨by rfl, ?_⟩) ?_
        rotate_left
        · intro w hSw
          (try dsimp only at hSw)
          go_simp
          try with_reducible rfl
        simp only [List.setIfInBounds_toArray, List.set_cons_zero, List.set_cons_succ]
        refine takeD (i := 27) (v := ?_) 98 rfl rfl (by kernel_rfl) (by kernel_rfl) (by kernel_rfl) (fun _ _ _ h => h) (by assumption) (Or.inl ⟨by rfl, ?_⟩) ?_
        rotate_left
        · intro w hSw
          (try dsimp only at hSw)
          go_simp
          try with_reducible rfl
        simp only [List.setIfInBounds_toArray, List.set_cons_zero, List.set_cons_succ]
        refine takeD (i := 28) (v := ?_) 99 rfl rfl (by kernel_rfl) (by kernel_rfl) (by kernel_rfl) (fun _ _ _ h => h) (by assumption) (Or.inl ⟨by rfl, ?_⟩) ?_
        rotate_left
        · intro w hSw
          (try dsimp only at hSw)
          go_simp
          try with_reducible rfl
        simp only [List.setIfInBounds_toArray, List.set_cons_zero, List.set_cons_succ]
        refine wpAnyH_ready (rs := [25]) (by kernel_rfl) (by simp) ?_
        refine AllReadyH.cons (by simp only [List.getElem?_toArray, List.getElem?_cons_succ, List.getElem?_cons_zero]; rfl) (fun K hK => ?_) AllReadyH.nil
        go_simp
        (with_reducible refine (HDE.out _).mono ?_)
        rintro e w2 ⟨rfl, hb2⟩
        (try go_wp2_with fail)
        refine hK.out _ _ ?_ (fun hHeldN => ?_)
        · exact ⟨keepc hb2 hHeld.1, keepc hb2 hHeld.2.1, keepc hb2 hHeld.2.2.1, keepc hb2 hHeld.2.2.2.1, keepc hb2 hHeld.2.2.2.2.1, keepc hb2 hHeld.2.2.2.2.2.1, keepc hb2 hHeld.2.2.2.2.2.2.1, keepc hb2 hHeld.2.2.2.2.2.2.2.1, keepc hb2 hHeld.2.2.2.2.2.2.2.2.1, keepc hb2 hHeld.2.2.2.2.2.2.2.2.2.1, keepc hb2 hHeld.2.2.2.2.2.2.2.2.2.2.1, keepc hb2 hHeld.2.2.2.2.2.2.2.2.2.2.2.1, below_t hHeld.2.2.2.2.2.2.2.2.2.2.2.2 hb2⟩
        clear hK K hHeld
        have hHeld := hHeldN
        clear hHeldN
        refine takeD (i := 29) (v := ?_) 100 rfl rfl (by kernel_rfl) (by kernel_rfl) (by kernel_rfl) (fun _ _ _ h => h) (by assumption) (Or.inl ⟨by rfl, ?_⟩) ?_
        rotate_left
        · intro w hSw
          (try dsimp only at hSw)
          go_simp
          try with_reducible rfl
        simp only [List.setIfInBounds_toArray, List.set_cons_zero, List.set_cons_succ]
        refine takeD (i := 30) (v := ?_) 101 rfl rfl (by kernel_rfl) (by kernel_rfl) (by kernel_rfl) (fun _ _ _ h => h) (by assumption) (Or.inl ⟨by rfl, ?_⟩) ?_
        rotate_left
        · intro w hSw
          (try dsimp only at hSw)
          go_simp
          try with_reducible rfl
        simp only [List.setIfInBounds_toArray, List.set_cons_zero, List.set_cons_succ]
        refine takeD (i := 31) (v := ?_) 102 rfl rfl (by kernel_rfl) (by kernel_rfl) (by kernel_rfl) (fun _ _ _ h => h) (by assumption) (Or.inl ⟨by rfl, ?_⟩) ?_
        rotate_left
        · intro w hSw
          (try dsimp only at hSw)
          go_simp
          try with_reducible rfl
        simp only [List.setIfInBounds_toArray, List.set_cons_zero, List.set_cons_succ]
        refine takeD (i := 32) (v := ?_) 103 rfl rfl (by kernel_rfl) (by kernel_rfl) (by kernel_rfl) (fun _ _ _ h => h) (by assumption) (Or.inl ⟨by rfl, ?_⟩) ?_
        rotate_left
        · intro w hSw
          (try dsimp only at hSw)
          go_simp
          try with_reducible rfl
        simp only [List.setIfInBounds_toArray, List.set_cons_zero, List.set_cons_succ]
        refine takeD (i := 33) (v := ?_) 104 rfl rfl (by kernel_rfl) (by kernel_rfl) (by kernel_rfl) (fun _ _ _ h => h) (by assumption) (Or.inl ⟨by rfl, ?_⟩) ?_
        rotate_left
        · intro w hSw
          (try dsimp only at hSw)
          go_simp
          try with_reducible rfl
        simp only [List.setIfInBounds_toArray, List.set_cons_zero, List.set_cons_succ]
        refine takeD (i := 34) (v := ?_) 105 rfl rfl (by kernel_rfl) (by kernel_rfl) (by kernel_rfl) (fun _ _ _ h => h) (by assumption) (Or.inl ⟨by rfl, ?_⟩) ?_
        rotate_left
        · intro w hSw
          (try dsimp only at hSw)
          go_simp
          try with_reducible rfl
        simp only [List.setIfInBounds_toArray, List.set_cons_zero, List.set_cons_succ]
        refine takeD (i := 35) (v := ?_) 106 rfl rfl (by kernel_rfl) (by kernel_rfl) (by kernel_rfl) (fun _ _ _ h => h) (by assumption) (Or.inl ⟨by rfl, ?_⟩) ?_
        rotate_left
        · intro w hSw
          (try dsimp only at hSw)
          go_simp
          try with_reducible rfl
        simp only [List.setIfInBounds_toArray, List.set_cons_zero, List.set_cons_succ]
        refine takeD (i := 36) (v := ?_) 4 rfl rfl (by kernel_rfl) (by kernel_rfl) (by kernel_rfl) (fun _ _ _ h => h) (by assumption) (Or.inl ⟨by rfl, ?_⟩) ?_
        rotate_left
        · intro w hSw
          (try dsimp only at hSw)
          go_simp
          try with_reducible rfl
        simp only [List.setIfInBounds_toArray, List.set_cons_zero, List.set_cons_succ]
        refine wpAnyH_done (by kernel_rfl) ?_ _
        go_wp2
        go_ret
        exact ⟨rfl, hHeld.2.2.2.2.2.2.2.2.2.2.2.2⟩
      · refine wp_region_held_drew (S := (fun w' => w'.cell? ⟨w.heap.size, 0, none⟩ = some (.bool true) ∧ w'.cell? ⟨w.heap.size, 1, none⟩ = some (.bool n) ∧ w'.cell? ⟨w.heap.size, 2, none⟩ = some (.int .i64 d) ∧ w'.cell? ⟨w.heap.size, 3, none⟩ = some (.bool m) ∧ w'.cell? ⟨b1, 0, none⟩ = some (.bool true) ∧ w'.cell? ⟨b1, 1, none⟩ = some (.bool n) ∧ w'.cell? ⟨b1, 2, none⟩ = some (.int .i64 d) ∧ w'.cell? ⟨b1, 3, none⟩ = some (.bool m) ∧ w'.cell? ⟨b2, 0, none⟩ = some (Value.bool P') ∧ w'.cell? ⟨b2, 1, none⟩ = some (Value.bool N') ∧ w'.cell? ⟨b2, 2, none⟩ = some (Value.int .i64 D') ∧ w'.cell? ⟨b2, 3, none⟩ = some (Value.bool M') ∧ Below w.heap.size w w')) (by kernel_rfl) ?_ (fun hHeld => ?_)
        · exact ⟨HX.out.1, HX.out.2.1, HX.out.2.2.1, HX.out.2.2.2.1, HX.out.2.2.2.2.1, HX.out.2.2.2.2.2.1, HX.out.2.2.2.2.2.2.1, HX.out.2.2.2.2.2.2.2.1, HX.out.2.2.2.2.2.2.2.2.1, HX.out.2.2.2.2.2.2.2.2.2.1, HX.out.2.2.2.2.2.2.2.2.2.2.1, HX.out.2.2.2.2.2.2.2.2.2.2.2.1, HX.out.2.2.2.2.2.2.2.2.2.2.2.2.drew⟩
        refine takeD (i := 0) (v := ?_) 71 rfl rfl (by kernel_rfl) (by kernel_rfl) (by kernel_rfl) (fun _ _ _ h => h) (by assumption) (Or.inl ⟨by rfl, ?_⟩) ?_
        rotate_left
        · intro w hSw
          (try dsimp only at hSw)
          go_simp
          try with_reducible rfl
        simp only [List.setIfInBounds_toArray, List.set_cons_zero, List.set_cons_succ]
        refine takeD (i := 1) (v := ?_) 72 rfl rfl (by kernel_rfl) (by kernel_rfl) (by kernel_rfl) (fun _ _ _ h => h) (by assumption) (Or.inl ⟨by rfl, ?_⟩) ?_
        rotate_left
        · intro w hSw
          (try dsimp only at hSw)
          go_simp
          try with_reducible rfl
        simp only [List.setIfInBounds_toArray, List.set_cons_zero, List.set_cons_succ]
        refine wpAnyH_ready (rs := [2]) (by kernel_rfl) (by simp) ?_
        refine AllReadyH.cons (by simp only [List.getElem?_toArray, List.getElem?_cons_succ, List.getElem?_cons_zero]; rfl) (fun K hK => ?_) AllReadyH.nil
        go_simp
        (with_reducible refine (HRO.out _).mono ?_)
        rintro e w2 ⟨rfl, hb2⟩
        (try go_wp2_with fail)
        refine hK.out _ _ ?_ (fun hHeldN => ?_)
        · exact ⟨keepc hb2 hHeld.1, keepc hb2 hHeld.2.1, keepc hb2 hHeld.2.2.1, keepc hb2 hHeld.2.2.2.1, keepc hb2 hHeld.2.2.2.2.1, keepc hb2 hHeld.2.2.2.2.2.1, keepc hb2 hHeld.2.2.2.2.2.2.1, keepc hb2 hHeld.2.2.2.2.2.2.2.1, keepc hb2 hHeld.2.2.2.2.2.2.2.2.1, keepc hb2 hHeld.2.2.2.2.2.2.2.2.2.1, keepc hb2 hHeld.2.2.2.2.2.2.2.2.2.2.1, keepc hb2 hHeld.2.2.2.2.2.2.2.2.2.2.2.1, below_t hHeld.2.2.2.2.2.2.2.2.2.2.2.2 hb2⟩
        clear hK K hHeld
        have hHeld := hHeldN
        clear hHeldN
        refine takeD (i := 3) (v := ?_) 74 rfl rfl (by kernel_rfl) (by kernel_rfl) (by kernel_rfl) (fun _ _ _ h => h) (by assumption) (Or.inl ⟨by rfl, ?_⟩) ?_
        rotate_left
        · intro w hSw
          (try dsimp only at hSw)
          go_simp
          try with_reducible rfl
        simp only [List.setIfInBounds_toArray, List.set_cons_zero, List.set_cons_succ]
        refine takeD (i := 4) (v := ?_) 75 rfl rfl (by kernel_rfl) (by kernel_rfl) (by kernel_rfl) (fun _ _ _ h => h) (by assumption) (Or.inl ⟨by rfl, ?_⟩) ?_
        rotate_left
        · intro w hSw
          (try dsimp only at hSw)
          go_simp
          try with_reducible rfl
        simp only [List.setIfInBounds_toArray, List.set_cons_zero, List.set_cons_succ]
        refine takeD (i := 5) (v := ?_) 76 rfl rfl (by kernel_rfl) (by kernel_rfl) (by kernel_rfl) (fun _ _ _ h => h) (by assumption) (Or.inl ⟨by rfl, ?_⟩) ?_
        rotate_left
        · intro w hSw
          (try dsimp only at hSw)
          go_simp
          try with_reducible rfl
        simp only [List.setIfInBounds_toArray, List.set_cons_zero, List.set_cons_succ]
        refine takeD (i := 7) (v := ?_) 78 rfl rfl (by kernel_rfl) (by kernel_rfl) (by kernel_rfl) (fun _ _ _ h => h) (by assumption) (Or.inl ⟨by rfl, ?_⟩) ?_
        rotate_left
        · intro w hSw
          (try dsimp only at hSw)
          go_simp
          try with_reducible rfl
        simp only [List.setIfInBounds_toArray, List.set_cons_zero, List.set_cons_succ]
        refine takeD (i := 8) (v := ?_) 79 rfl rfl (by kernel_rfl) (by kernel_rfl) (by kernel_rfl) (fun _ _ _ h => h) (by assumption) (Or.inl ⟨by rfl, ?_⟩) ?_
        rotate_left
        · intro w hSw
          (try dsimp only at hSw)
          go_simp
          try with_reducible rfl
        simp only [List.setIfInBounds_toArray, List.set_cons_zero, List.set_cons_succ]
        refine wpAnyH_ready (rs := [6]) (by kernel_rfl) (by simp) ?_
        refine AllReadyH.cons (by simp only [List.getElem?_toArray, List.getElem?_cons_succ, List.getElem?_cons_zero]; rfl) (fun K hK => ?_) AllReadyH.nil
        go_simp
        (with_reducible refine (HSK.out _).mono ?_)
        rintro e w2 ⟨rfl, hb2⟩
        (try go_wp2_with fail)
        refine hK.out _ _ ?_ (fun hHeldN => ?_)
        · exact ⟨keepc hb2 hHeld.1, keepc hb2 hHeld.2.1, keepc hb2 hHeld.2.2.1, keepc hb2 hHeld.2.2.2.1, keepc hb2 hHeld.2.2.2.2.1, keepc hb2 hHeld.2.2.2.2.2.1, keepc hb2 hHeld.2.2.2.2.2.2.1, keepc hb2 hHeld.2.2.2.2.2.2.2.1, keepc hb2 hHeld.2.2.2.2.2.2.2.2.1, keepc hb2 hHeld.2.2.2.2.2.2.2.2.2.1, keepc hb2 hHeld.2.2.2.2.2.2.2.2.2.2.1, keepc hb2 hHeld.2.2.2.2.2.2.2.2.2.2.2.1, below_t hHeld.2.2.2.2.2.2.2.2.2.2.2.2 hb2⟩
        clear hK K hHeld
        have hHeld := hHeldN
        clear hHeldN
        refine takeD (i := 9) (v := ?_) 80 rfl rfl (by kernel_rfl) (by kernel_rfl) (by kernel_rfl) (fun _ _ _ h => h) (by assumption) (Or.inl ⟨by rfl, ?_⟩) ?_
        rotate_left
        · intro w hSw
          (try dsimp only at hSw)
          go_simp
          try with_reducible rfl
        simp only [List.setIfInBounds_toArray, List.set_cons_zero, List.set_cons_succ]
        refine takeD (i := 10) (v := ?_) 81 rfl rfl (by kernel_rfl) (by kernel_rfl) (by kernel_rfl) (fun _ _ _ h => h) (by assumption) (Or.inl ⟨by rfl, ?_⟩) ?_
        rotate_left
        · intro w hSw
          (try dsimp only at hSw)
          go_simp
          try with_reducible rfl
        simp only [List.setIfInBounds_toArray, List.set_cons_zero, List.set_cons_succ]
        refine takeD (i := 11) (v := ?_) 82 rfl rfl (by kernel_rfl) (by kernel_rfl) (by kernel_rfl) (fun _ _ _ h => h) (by assumption) (Or.inl ⟨by rfl, ?_⟩) ?_
        rotate_left
        · intro w hSw
          (try dsimp only at hSw)
          go_simp
          try with_reducible rfl
        simp only [List.setIfInBounds_toArray, List.set_cons_zero, List.set_cons_succ]
        refine takeD (i := 12) (v := ?_) 83 rfl rfl (by kernel_rfl) (by kernel_rfl) (by kernel_rfl) (fun _ _ _ h => h) (by assumption) (Or.inl ⟨by rfl, ?_⟩) ?_
        rotate_left
        · intro w hSw
          (try dsimp only at hSw)
          go_simp
          try with_reducible rfl
        simp only [List.setIfInBounds_toArray, List.set_cons_zero, List.set_cons_succ]
        refine takeD (i := 13) (v := ?_) 84 rfl rfl (by kernel_rfl) (by kernel_rfl) (by kernel_rfl) (fun _ _ _ h => h) (by assumption) (Or.inl ⟨by rfl, ?_⟩) ?_
        rotate_left
        · intro w hSw
          (try dsimp only at hSw)
          go_simp
          try with_reducible rfl
        simp only [List.setIfInBounds_toArray, List.set_cons_zero, List.set_cons_succ]
        refine takeD (i := 14) (v := ?_) 85 rfl rfl (by kernel_rfl) (by kernel_rfl) (by kernel_rfl) (fun _ _ _ h => h) (by assumption) (Or.inl ⟨by rfl, ?_⟩) ?_
        rotate_left
        · intro w hSw
          (try dsimp only at hSw)
          go_simp
          try with_reducible rfl
        simp only [List.setIfInBounds_toArray, List.set_cons_zero, List.set_cons_succ]
        refine takeD (i := 15) (v := ?_) 86 rfl rfl (by kernel_rfl) (by kernel_rfl) (by kernel_rfl) (fun _ _ _ h => h) (by assumption) (Or.inl ⟨by rfl, ?_⟩) ?_
        rotate_left
        · intro w hSw
          (try dsimp only at hSw)
          go_simp
          try with_reducible rfl
        simp only [List.setIfInBounds_toArray, List.set_cons_zero, List.set_cons_succ]
        refine takeD (i := 16) (v := ?_) 87 rfl rfl (by kernel_rfl) (by kernel_rfl) (by kernel_rfl) (fun _ _ _ h => h) (by assumption) (Or.inl ⟨by rfl, ?_⟩) ?_
        rotate_left
        · intro w hSw
          (try dsimp only at hSw)
          go_simp
          try with_reducible rfl
        simp only [List.setIfInBounds_toArray, List.set_cons_zero, List.set_cons_succ]
        refine takeD (i := 18) (v := ?_) 89 rfl rfl (by kernel_rfl) (by kernel_rfl) (by kernel_rfl) (fun _ _ _ h => h) (by assumption) (Or.inl ⟨by rfl, ?_⟩) ?_
        rotate_left
        · intro w hSw
          (try dsimp only at hSw)
          go_simp
          try with_reducible rfl
        simp only [List.setIfInBounds_toArray, List.set_cons_zero, List.set_cons_succ]
        refine takeD (i := 19) (v := ?_) 90 rfl rfl (by kernel_rfl) (by kernel_rfl) (by kernel_rfl) (fun _ _ _ h => h) (by assumption) (Or.inl ⟨by rfl, ?_⟩) ?_
        rotate_left
        · intro w hSw
          (try dsimp only at hSw)
          go_simp
          try with_reducible rfl
        simp only [List.setIfInBounds_toArray, List.set_cons_zero, List.set_cons_succ]
        refine takeD (i := 20) (v := ?_) 91 rfl rfl (by kernel_rfl) (by kernel_rfl) (by kernel_rfl) (fun _ _ _ h => h) (by assumption) (Or.inl ⟨by rfl, ?_⟩) ?_
        rotate_left
        · intro w hSw
          (try dsimp only at hSw)
          go_simp
          try with_reducible rfl
        simp only [List.setIfInBounds_toArray, List.set_cons_zero, List.set_cons_succ]
        refine wpAnyH_ready (rs := [17]) (by kernel_rfl) (by simp) ?_
        refine AllReadyH.cons (by simp only [List.getElem?_toArray, List.getElem?_cons_succ, List.getElem?_cons_zero]; rfl) (fun K hK => ?_) AllReadyH.nil
        go_simp
        (with_reducible refine (HHI.out _).mono ?_)
        rintro e w2 ⟨rfl, hb2⟩
        (try go_wp2_with fail)
        refine hK.out _ _ ?_ (fun hHeldN => ?_)
        · exact ⟨keepc hb2 hHeld.1, keepc hb2 hHeld.2.1, keepc hb2 hHeld.2.2.1, keepc hb2 hHeld.2.2.2.1, keepc hb2 hHeld.2.2.2.2.1, keepc hb2 hHeld.2.2.2.2.2.1, keepc hb2 hHeld.2.2.2.2.2.2.1, keepc hb2 hHeld.2.2.2.2.2.2.2.1, keepc hb2 hHeld.2.2.2.2.2.2.2.2.1, keepc hb2 hHeld.2.2.2.2.2.2.2.2.2.1, keepc hb2 hHeld.2.2.2.2.2.2.2.2.2.2.1, keepc hb2 hHeld.2.2.2.2.2.2.2.2.2.2.2.1, below_t hHeld.2.2.2.2.2.2.2.2.2.2.2.2 hb2⟩
        clear hK K hHeld
        have hHeld := hHeldN
        clear hHeldN
        refine takeD (i := 21) (v := ?_) 92 rfl rfl (by kernel_rfl) (by kernel_rfl) (by kernel_rfl) (fun _ _ _ h => h) (by assumption) (Or.inl ⟨by rfl, ?_⟩) ?_
        rotate_left
        · intro w hSw
          (try dsimp only at hSw)
          go_simp
          try with_reducible rfl
        simp only [List.setIfInBounds_toArray, List.set_cons_zero, List.set_cons_succ]
        refine takeD (i := 22) (v := ?_) 93 rfl rfl (by kernel_rfl) (by kernel_rfl) (by kernel_rfl) (fun _ _ _ h => h) (by assumption) (Or.inl ⟨by rfl, ?_⟩) ?_
        rotate_left
        · intro w hSw
          (try dsimp only at hSw)
          go_simp
          try with_reducible rfl
        simp only [List.setIfInBounds_toArray, List.set_cons_zero, List.set_cons_succ]
        refine takeD (i := 23) (v := ?_) 94 rfl rfl (by kernel_rfl) (by kernel_rfl) (by kernel_rfl) (fun _ _ _ h => h) (by assumption) (Or.inl ⟨by rfl, ?_⟩) ?_
        rotate_left
        · intro w hSw
          (try dsimp only at hSw)
          go_simp
          try with_reducible rfl
        simp only [List.setIfInBounds_toArray, List.set_cons_zero, List.set_cons_succ]
        refine takeD (i := 24) (v := ?_) 95 rfl rfl (by kernel_rfl) (by kernel_rfl) (by kernel_rfl) (fun _ _ _ h => h) (by assumption) (Or.inl ⟨by rfl, ?_⟩) ?_
        rotate_left
        · intro w hSw
          (try dsimp only at hSw)
          go_simp
          try with_reducible rfl
        simp only [List.setIfInBounds_toArray, List.set_cons_zero, List.set_cons_succ]
        refine takeD (i := 26) (v := ?_) 97 rfl rfl (by kernel_rfl) (by kernel_rfl) (by kernel_rfl) (fun _ _ _ h => h) (by assumption) (Or.inl ⟨by rfl, ?_⟩) ?_
        rotate_left
        · intro w hSw
          (try dsimp only at hSw)
          go_simp
          try with_reducible rfl
        simp only [List.setIfInBounds_toArray, List.set_cons_zero, List.set_cons_succ]
        refine takeD (i := 27) (v := ?_) 98 rfl rfl (by kernel_rfl) (by kernel_rfl) (by kernel_rfl) (fun _ _ _ h => h) (by assumption) (Or.inl ⟨by rfl, ?_⟩) ?_
        rotate_left
        · intro w hSw
          (try dsimp only at hSw)
          go_simp
          try with_reducible rfl
        simp only [List.setIfInBounds_toArray, List.set_cons_zero, List.set_cons_succ]
        refine takeD (i := 28) (v := ?_) 99 rfl rfl (by kernel_rfl) (by kernel_rfl) (by kernel_rfl) (fun _ _ _ h => h) (by assumption) (Or.inl ⟨by rfl, ?_⟩) ?_
        rotate_left
        · intro w hSw
          (try dsimp only at hSw)
          go_simp
          try with_reducible rfl
        simp only [List.setIfInBounds_toArray, List.set_cons_zero, List.set_cons_succ]
        refine wpAnyH_ready (rs := [25]) (by kernel_rfl) (by simp) ?_
        refine AllReadyH.cons (by simp only [List.getElem?_toArray, List.getElem?_cons_succ, List.getElem?_cons_zero]; rfl) (fun K hK => ?_) AllReadyH.nil
        go_simp
        (with_reducible refine (HDE.out _).mono ?_)
        rintro e w2 ⟨rfl, hb2⟩
        (try go_wp2_with fail)
        refine hK.out _ _ ?_ (fun hHeldN => ?_)
        · exact ⟨keepc hb2 hHeld.1, keepc hb2 hHeld.2.1, keepc hb2 hHeld.2.2.1, keepc hb2 hHeld.2.2.2.1, keepc hb2 hHeld.2.2.2.2.1, keepc hb2 hHeld.2.2.2.2.2.1, keepc hb2 hHeld.2.2.2.2.2.2.1, keepc hb2 hHeld.2.2.2.2.2.2.2.1, keepc hb2 hHeld.2.2.2.2.2.2.2.2.1, keepc hb2 hHeld.2.2.2.2.2.2.2.2.2.1, keepc hb2 hHeld.2.2.2.2.2.2.2.2.2.2.1, keepc hb2 hHeld.2.2.2.2.2.2.2.2.2.2.2.1, below_t hHeld.2.2.2.2.2.2.2.2.2.2.2.2 hb2⟩
        clear hK K hHeld
        have hHeld := hHeldN
        clear hHeldN
        refine takeD (i := 29) (v := ?_) 100 rfl rfl (by kernel_rfl) (by kernel_rfl) (by kernel_rfl) (fun _ _ _ h => h) (by assumption) (Or.inl ⟨by rfl, ?_⟩) ?_
        rotate_left
        · intro w hSw
          (try dsimp only at hSw)
          go_simp
          try with_reducible rfl
        simp only [List.setIfInBounds_toArray, List.set_cons_zero, List.set_cons_succ]
        refine takeD (i := 30) (v := ?_) 101 rfl rfl (by kernel_rfl) (by kernel_rfl) (by kernel_rfl) (fun _ _ _ h => h) (by assumption) (Or.inl ⟨by rfl, ?_⟩) ?_
        rotate_left
        · intro w hSw
          (try dsimp only at hSw)
          go_simp
          try with_reducible rfl
        simp only [List.setIfInBounds_toArray, List.set_cons_zero, List.set_cons_succ]
        refine takeD (i := 31) (v := ?_) 102 rfl rfl (by kernel_rfl) (by kernel_rfl) (by kernel_rfl) (fun _ _ _ h => h) (by assumption) (Or.inl ⟨by rfl, ?_⟩) ?_
        rotate_left
        · intro w hSw
          (try dsimp only at hSw)
          go_simp
          try with_reducible rfl
        simp only [List.setIfInBounds_toArray, List.set_cons_zero, List.set_cons_succ]
        refine takeD (i := 32) (v := ?_) 103 rfl rfl (by kernel_rfl) (by kernel_rfl) (by kernel_rfl) (fun _ _ _ h => h) (by assumption) (Or.inl ⟨by rfl, ?_⟩) ?_
        rotate_left
        · intro w hSw
          (try dsimp only at hSw)
          go_simp
          try with_reducible rfl
        simp only [List.setIfInBounds_toArray, List.set_cons_zero, List.set_cons_succ]
        refine takeD (i := 33) (v := ?_) 104 rfl rfl (by kernel_rfl) (by kernel_rfl) (by kernel_rfl) (fun _ _ _ h => h) (by assumption) (Or.inl ⟨by rfl, ?_⟩) ?_
        rotate_left
        · intro w hSw
          (try dsimp only at hSw)
          go_simp
          try with_reducible rfl
        simp only [List.setIfInBounds_toArray, List.set_cons_zero, List.set_cons_succ]
        refine takeD (i := 34) (v := ?_) 105 rfl rfl (by kernel_rfl) (by kernel_rfl) (by kernel_rfl) (fun _ _ _ h => h) (by assumption) (Or.inl ⟨by rfl, ?_⟩) ?_
        rotate_left
        · intro w hSw
          (try dsimp only at hSw)
          go_simp
          try with_reducible rfl
        simp only [List.setIfInBounds_toArray, List.set_cons_zero, List.set_cons_succ]
        refine takeD (i := 35) (v := ?_) 106 rfl rfl (by kernel_rfl) (by kernel_rfl) (by kernel_rfl) (fun _ _ _ h => h) (by assumption) (Or.inl ⟨by rfl, ?_⟩) ?_
        rotate_left
        · intro w hSw
          (try dsimp only at hSw)
          go_simp
          try with_reducible rfl
        simp only [List.setIfInBounds_toArray, List.set_cons_zero, List.set_cons_succ]
        refine takeD (i := 36) (v := ?_) 4 rfl rfl (by kernel_rfl) (by kernel_rfl) (by kernel_rfl) (fun _ _ _ h => h) (by assumption) (Or.inl ⟨by rfl, ?_⟩) ?_
        rotate_left
        · intro w hSw
          (try dsimp only at hSw)
          go_simp
          try with_reducible rfl
        simp only [List.setIfInBounds_toArray, List.set_cons_zero, List.set_cons_succ]
        refine wpAnyH_done (by kernel_rfl) ?_ _
        go_wp2
        go_ret
        exact ⟨rfl, hHeld.2.2.2.2.2.2.2.2.2.2.2.2⟩

set_option maxRecDepth 100000 in
set_option maxHeartbeats 4000000 in
theorem attrFields_no (p n m : Bool) (d : Int) (h : d < 0 ∨ 3 < d) (b : Nat) (hb : b < 256) (w : World) : Calls Try.prog 9 #[fieldV p n d m, .int .u8 b] w fun e w' => e = .returned (.bool true) ∧ Below w.heap.size w w' := by
  have HBI := hid (bits_no p n m d h)
  have HRB := hid (rbits_no p n m d h)
  have HBY := hid (byte_no p n m d h)
  have HOB := hid (of_any b hb)
  have HRO := hid (rof_any b hb)
  have HSK := hid (skipped_any p n m d)
  have HHI := hid (hidden_any p n m d)
  have HDE := hid (detectable_any p n m d)
  have HH := hid h
  clear h
  go_enter Try.func9, Try.ntmps9
  go_wp2_with fail
  with_reducible refine (awake5_true _).mono ?_
  rintro e w1 ⟨rfl, hb1⟩
  have K1 := hid (show w1.cell? ⟨w.heap.size, 0, none⟩ = some (.bool p) ∧ w1.cell? ⟨w.heap.size, 1, none⟩ = some (.bool n) ∧ w1.cell? ⟨w.heap.size, 2, none⟩ = some (.int .i64 d) ∧ w1.cell? ⟨w.heap.size, 3, none⟩ = some (.bool m) ∧ Below w.heap.size w w1 from ⟨keepc hb1 (by simp [go_sem]), keepc hb1 (by simp [go_sem]), keepc hb1 (by simp [go_sem]), keepc hb1 (by simp [go_sem]), ((Below.refl _ _).alloc (Nat.le_refl _) _).trans (hb1.mono (by simp))⟩)
  clear hb1
  obtain ⟨c0, c1, c2, c3, hbb⟩ := K1.out
  clear hbb
  go_upto_region 4 with fail
  clear c0 c1 c2 c3
  have KB : Below w1.heap.size w1 (w1.alloc (.cells #[.bool p, .bool n, .int .i64 d, .bool m] 69)) := (Below.refl _ _).alloc (Nat.le_refl _) _
  have HX := hid (show (w1.alloc (.cells #[.bool p, .bool n, .int .i64 d, .bool m] 69)).cell? ⟨w.heap.size, 0, none⟩ = some (.bool p) ∧ (w1.alloc (.cells #[.bool p, .bool n, .int .i64 d, .bool m] 69)).cell? ⟨w.heap.size, 1, none⟩ = some (.bool n) ∧ (w1.alloc (.cells #[.bool p, .bool n, .int .i64 d, .bool m] 69)).cell? ⟨w.heap.size, 2, none⟩ = some (.int .i64 d) ∧ (w1.alloc (.cells #[.bool p, .bool n, .int .i64 d, .bool m] 69)).cell? ⟨w.heap.size, 3, none⟩ = some (.bool m) ∧ (w1.alloc (.cells #[.bool p, .bool n, .int .i64 d, .bool m] 69)).cell? ⟨w1.heap.size, 0, none⟩ = some (.bool p) ∧ (w1.alloc (.cells #[.bool p, .bool n, .int .i64 d, .bool m] 69)).cell? ⟨w1.heap.size, 1, none⟩ = some (.bool n) ∧ (w1.alloc (.cells #[.bool p, .bool n, .int .i64 d, .bool m] 69)).cell? ⟨w1.heap.size, 2, none⟩ = some (.int .i64 d) ∧ (w1.alloc (.cells #[.bool p, .bool n, .int .i64 d, .bool m] 69)).cell? ⟨w1.heap.size, 3, none⟩ = some (.bool m) ∧ Below w.heap.size w (w1.alloc (.cells #[.bool p, .bool n, .int .i64 d, .bool m] 69)) from ⟨keepc KB K1.out.1, keepc KB K1.out.2.1, keepc KB K1.out.2.2.1, keepc KB K1.out.2.2.2.1, by simp [go_sem], by simp [go_sem], by simp [go_sem], by simp [go_sem], below_t K1.out.2.2.2.2 KB⟩)
  clear KB K1
  generalize w1.alloc (.cells #[.bool p, .bool n, .int .i64 d, .bool m] 69) = wa at HX ⊢
  obtain ⟨b1, hb1⟩ : ∃ b1, b1 = w1.heap.size := ⟨_, rfl⟩
  rw [← hb1] at HX ⊢
  clear hb1
  obtain ⟨c0, c1, c2, c3, c4, c5, c6, c7, hbb⟩ := HX.out
  clear hbb
  go_wp2_with fail
  with_reducible refine (HBI.out _).mono ?_
  rintro e w2 ⟨rfl, hb⟩
  have HX2 := hid (show w2.cell? ⟨w.heap.size, 0, none⟩ = some (.bool p) ∧ w2.cell? ⟨w.heap.size, 1, none⟩ = some (.bool n) ∧ w2.cell? ⟨w.heap.size, 2, none⟩ = some (.int .i64 d) ∧ w2.cell? ⟨w.heap.size, 3, none⟩ = some (.bool m) ∧ w2.cell? ⟨b1, 0, none⟩ = some (.bool p) ∧ w2.cell? ⟨b1, 1, none⟩ = some (.bool n) ∧ w2.cell? ⟨b1, 2, none⟩ = some (.int .i64 d) ∧ w2.cell? ⟨b1, 3, none⟩ = some (.bool m) ∧ Below w.heap.size w w2 from ⟨keepc hb HX.out.1, keepc hb HX.out.2.1, keepc hb HX.out.2.2.1, keepc hb HX.out.2.2.2.1, keepc hb HX.out.2.2.2.2.1, keepc hb HX.out.2.2.2.2.2.1, keepc hb HX.out.2.2.2.2.2.2.1, keepc hb HX.out.2.2.2.2.2.2.2.1, below_t HX.out.2.2.2.2.2.2.2.2 hb⟩)
  clear hb c0 c1 c2 c3 c4 c5 c6 c7 HX
  obtain ⟨c0, c1, c2, c3, c4, c5, c6, c7, hbb⟩ := HX2.out
  clear hbb
  go_wp2_with fail
  with_reducible refine (HRB.out _).mono ?_
  rintro e w3 ⟨rfl, hb⟩
  have HX3 := hid (show w3.cell? ⟨w.heap.size, 0, none⟩ = some (.bool p) ∧ w3.cell? ⟨w.heap.size, 1, none⟩ = some (.bool n) ∧ w3.cell? ⟨w.heap.size, 2, none⟩ = some (.int .i64 d) ∧ w3.cell? ⟨w.heap.size, 3, none⟩ = some (.bool m) ∧ w3.cell? ⟨b1, 0, none⟩ = some (.bool p) ∧ w3.cell? ⟨b1, 1, none⟩ = some (.bool n) ∧ w3.cell? ⟨b1, 2, none⟩ = some (.int .i64 d) ∧ w3.cell? ⟨b1, 3, none⟩ = some (.bool m) ∧ Below w.heap.size w w3 from ⟨keepc hb HX2.out.1, keepc hb HX2.out.2.1, keepc hb HX2.out.2.2.1, keepc hb HX2.out.2.2.2.1, keepc hb HX2.out.2.2.2.2.1, keepc hb HX2.out.2.2.2.2.2.1, keepc hb HX2.out.2.2.2.2.2.2.1, keepc hb HX2.out.2.2.2.2.2.2.2.1, below_t HX2.out.2.2.2.2.2.2.2.2 hb⟩)
  clear hb c0 c1 c2 c3 c4 c5 c6 c7 HX2
  obtain ⟨c0, c1, c2, c3, c4, c5, c6, c7, hbb⟩ := HX3.out
  clear hbb
  go_wp2_with fail
  with_reducible refine (HBY.out _).mono ?_
  rintro e w4 ⟨rfl, hb⟩
  have HX4 := hid (show w4.cell? ⟨w.heap.size, 0, none⟩ = some (.bool p) ∧ w4.cell? ⟨w.heap.size, 1, none⟩ = some (.bool n) ∧ w4.cell? ⟨w.heap.size, 2, none⟩ = some (.int .i64 d) ∧ w4.cell? ⟨w.heap.size, 3, none⟩ = some (.bool m) ∧ w4.cell? ⟨b1, 0, none⟩ = some (.bool p) ∧ w4.cell? ⟨b1, 1, none⟩ = some (.bool n) ∧ w4.cell? ⟨b1, 2, none⟩ = some (.int .i64 d) ∧ w4.cell? ⟨b1, 3, none⟩ = some (.bool m) ∧ Below w.heap.size w w4 from ⟨keepc hb HX3.out.1, keepc hb HX3.out.2.1, keepc hb HX3.out.2.2.1, keepc hb HX3.out.2.2.2.1, keepc hb HX3.out.2.2.2.2.1, keepc hb HX3.out.2.2.2.2.2.1, keepc hb HX3.out.2.2.2.2.2.2.1, keepc hb HX3.out.2.2.2.2.2.2.2.1, below_t HX3.out.2.2.2.2.2.2.2.2 hb⟩)
  clear hb c0 c1 c2 c3 c4 c5 c6 c7 HX3
  go_upto_region 7 with fail
  go_cut [68] (fun t wx => t = .bool false ∧ wx.cell? ⟨w.heap.size, 0, none⟩ = some (.bool p) ∧ wx.cell? ⟨w.heap.size, 1, none⟩ = some (.bool n) ∧ wx.cell? ⟨w.heap.size, 2, none⟩ = some (.int .i64 d) ∧ wx.cell? ⟨w.heap.size, 3, none⟩ = some (.bool m) ∧ wx.cell? ⟨b1, 0, none⟩ = some (.bool p) ∧ wx.cell? ⟨b1, 1, none⟩ = some (.bool n) ∧ wx.cell? ⟨b1, 2, none⟩ = some (.int .i64 d) ∧ wx.cell? ⟨b1, 3, none⟩ = some (.bool m) ∧ Below w.heap.size w wx)
  case first =>
    refine wp_region_held_drew (S := (fun w' => w'.cell? ⟨w.heap.size, 0, none⟩ = some (.bool p) ∧ w'.cell? ⟨w.heap.size, 1, none⟩ = some (.bool n) ∧ w'.cell? ⟨w.heap.size, 2, none⟩ = some (.int .i64 d) ∧ w'.cell? ⟨w.heap.size, 3, none⟩ = some (.bool m) ∧ w'.cell? ⟨b1, 0, none⟩ = some (.bool p) ∧ w'.cell? ⟨b1, 1, none⟩ = some (.bool n) ∧ w'.cell? ⟨b1, 2, none⟩ = some (.int .i64 d) ∧ w'.cell? ⟨b1, 3, none⟩ = some (.bool m) ∧ Below w.heap.size w w')) (by kernel_rfl) ?_ (fun hHeld => ?_)
    · exact ⟨HX4.out.1, HX4.out.2.1, HX4.out.2.2.1, HX4.out.2.2.2.1, HX4.out.2.2.2.2.1, HX4.out.2.2.2.2.2.1, HX4.out.2.2.2.2.2.2.1, HX4.out.2.2.2.2.2.2.2.1, HX4.out.2.2.2.2.2.2.2.2.drew⟩
    refine takeD (i := 0) (v := ?_) 31 rfl rfl (by kernel_rfl) (by kernel_rfl) (by kernel_rfl) (fun _ _ _ h => h) (by assumption) (Or.inl ⟨by rfl, ?_⟩) ?_
    rotate_left
    · intro w hSw
      (try dsimp only at hSw)
      go_simp
      try with_reducible rfl
    simp only [List.setIfInBounds_toArray, List.set_cons_zero, List.set_cons_succ]
    refine takeD (i := 1) (v := ?_) 32 rfl rfl (by kernel_rfl) (by kernel_rfl) (by kernel_rfl) (fun _ _ _ h => h) (by assumption) (Or.inl ⟨by rfl, ?_⟩) ?_
    rotate_left
    · intro w hSw
      (try dsimp only at hSw)
      go_simp
      try with_reducible rfl
    simp only [List.setIfInBounds_toArray, List.set_cons_zero, List.set_cons_succ]
    refine takeD (i := 2) (v := ?_) 33 rfl rfl (by kernel_rfl) (by kernel_rfl) (by kernel_rfl) (fun _ _ _ h => h) (by assumption) (Or.inl ⟨by rfl, ?_⟩) ?_
    rotate_left
    · intro w hSw
      (try dsimp only at hSw)
      go_simp
      try with_reducible rfl
    simp only [List.setIfInBounds_toArray, List.set_cons_zero, List.set_cons_succ]
    refine takeD (i := 3) (v := ?_) 34 rfl rfl (by kernel_rfl) (by kernel_rfl) (by kernel_rfl) (fun _ _ _ h => h) (by assumption) (Or.inl ⟨by rfl, ?_⟩) ?_
    rotate_left
    · intro w hSw
      (try dsimp only at hSw)
      go_simp
      try with_reducible rfl
    simp only [List.setIfInBounds_toArray, List.set_cons_zero, List.set_cons_succ]
    refine takeD (i := 4) (v := ?_) 35 rfl rfl (by kernel_rfl) (by kernel_rfl) (by kernel_rfl) (fun _ _ _ h => h) (by assumption) (Or.inl ⟨by rfl, ?_⟩) ?_
    rotate_left
    · intro w hSw
      (try dsimp only at hSw)
      go_simp
      try with_reducible rfl
    simp only [List.setIfInBounds_toArray, List.set_cons_zero, List.set_cons_succ]
    refine takeD (i := 5) (v := ?_) 36 rfl rfl (by kernel_rfl) (by kernel_rfl) (by kernel_rfl) (fun _ _ _ h => h) (by assumption) (Or.inl ⟨by rfl, ?_⟩) ?_
    rotate_left
    · intro w hSw
      (try dsimp only at hSw)
      go_simp
      try with_reducible rfl
    simp only [List.setIfInBounds_toArray, List.set_cons_zero, List.set_cons_succ]
    refine takeD (i := 6) (v := ?_) 37 rfl rfl (by kernel_rfl) (by kernel_rfl) (by kernel_rfl) (fun _ _ _ h => h) (by assumption) (Or.inl ⟨by rfl, ?_⟩) ?_
    rotate_left
    · intro w hSw
      (try dsimp only at hSw)
      go_simp
      try with_reducible rfl
    simp only [List.setIfInBounds_toArray, List.set_cons_zero, List.set_cons_succ]
    refine takeD (i := 7) (v := ?_) 38 rfl rfl (by kernel_rfl) (by kernel_rfl) (by kernel_rfl) (fun _ _ _ h => h) (by assumption) (Or.inl ⟨by rfl, ?_⟩) ?_
    rotate_left
    · intro w hSw
      (try dsimp only at hSw)
      go_simp
      try with_reducible rfl
    simp only [List.setIfInBounds_toArray, List.set_cons_zero, List.set_cons_succ]
    refine takeD (i := 8) (v := ?_) 39 rfl rfl (by kernel_rfl) (by kernel_rfl) (by kernel_rfl) (fun _ _ _ h => h) (by assumption) (Or.inl ⟨by rfl, ?_⟩) ?_
    rotate_left
    · intro w hSw
      (try dsimp only at hSw)
      go_simp
      try with_reducible rfl
    simp only [List.setIfInBounds_toArray, List.set_cons_zero, List.set_cons_succ]
    refine takeD (i := 9) (v := ?_) 40 rfl rfl (by kernel_rfl) (by kernel_rfl) (by kernel_rfl) (fun _ _ _ h => h) (by assumption) (Or.inl ⟨by rfl, ?_⟩) ?_
    rotate_left
    · intro w hSw
      (try dsimp only at hSw)
      go_simp
      try with_reducible rfl
    simp only [List.setIfInBounds_toArray, List.set_cons_zero, List.set_cons_succ]
    refine takeD (i := 10) (v := ?_) 41 rfl rfl (by kernel_rfl) (by kernel_rfl) (by kernel_rfl) (fun _ _ _ h => h) (by assumption) (Or.inl ⟨by rfl, ?_⟩) ?_
    rotate_left
    · intro w hSw
      (try dsimp only at hSw)
      go_simp
      try with_reducible rfl
    simp only [List.setIfInBounds_toArray, List.set_cons_zero, List.set_cons_succ]
    refine takeD (i := 11) (v := ?_) 42 rfl rfl (by kernel_rfl) (by kernel_rfl) (by kernel_rfl) (fun _ _ _ h => h) (by assumption) (Or.inl ⟨by rfl, ?_⟩) ?_
    rotate_left
    · intro w hSw
      (try dsimp only at hSw)
      go_simp
      try with_reducible rfl
    simp only [List.setIfInBounds_toArray, List.set_cons_zero, List.set_cons_succ]
    refine takeD (i := 12) (v := ?_) 43 rfl rfl (by kernel_rfl) (by kernel_rfl) (by kernel_rfl) (fun _ _ _ h => h) (by assumption) (Or.inl ⟨by rfl, ?_⟩) ?_
    rotate_left
    · intro w hSw
      (try dsimp only at hSw)
      go_simp
      try with_reducible rfl
    simp only [List.setIfInBounds_toArray, List.set_cons_zero, List.set_cons_succ]
    refine takeD (i := 13) (v := ?_) 44 rfl rfl (by kernel_rfl) (by kernel_rfl) (by kernel_rfl) (fun _ _ _ h => h) (by assumption) (Or.inl ⟨by rfl, ?_⟩) ?_
    rotate_left
    · intro w hSw
      (try dsimp only at hSw)
      go_simp
      try with_reducible rfl
    simp only [List.setIfInBounds_toArray, List.set_cons_zero, List.set_cons_succ]
    refine takeD (i := 14) (v := ?_) 45 rfl rfl (by kernel_rfl) (by kernel_rfl) (by kernel_rfl) (fun _ _ _ h => h) (by assumption) (Or.inl ⟨by rfl, ?_⟩) ?_
    rotate_left
    · intro w hSw
      (try dsimp only at hSw)
      go_simp
      try with_reducible rfl
    simp only [List.setIfInBounds_toArray, List.set_cons_zero, List.set_cons_succ]
    refine takeD (i := 15) (v := ?_) 46 rfl rfl (by kernel_rfl) (by kernel_rfl) (by kernel_rfl) (fun _ _ _ h => h) (by assumption) (Or.inl ⟨by rfl, ?_⟩) ?_
    rotate_left
    · intro w hSw
      (try dsimp only at hSw)
      go_simp
      try with_reducible rfl
    simp only [List.setIfInBounds_toArray, List.set_cons_zero, List.set_cons_succ]
    refine takeD (i := 16) (v := ?_) 47 rfl rfl (by kernel_rfl) (by kernel_rfl) (by kernel_rfl) (fun _ _ _ h => h) (by assumption) (Or.inl ⟨by rfl, ?_⟩) ?_
    rotate_left
    · intro w hSw
      (try dsimp only at hSw)
      go_simp
      try with_reducible rfl
    simp only [List.setIfInBounds_toArray, List.set_cons_zero, List.set_cons_succ]
    refine takeD (i := 17) (v := undef) 48 rfl rfl (by kernel_rfl) (by kernel_rfl) (by kernel_rfl) (fun _ _ _ h => h) (by assumption) (Or.inr ⟨by rfl, rfl⟩) ?_
    simp only [List.setIfInBounds_toArray, List.set_cons_zero, List.set_cons_succ]
    refine takeD (i := 18) (v := undef) 49 rfl rfl (by kernel_rfl) (by kernel_rfl) (by kernel_rfl) (fun _ _ _ h => h) (by assumption) (Or.inr ⟨by rfl, rfl⟩) ?_
    simp only [List.setIfInBounds_toArray, List.set_cons_zero, List.set_cons_succ]
    refine takeD (i := 19) (v := undef) 50 rfl rfl (by kernel_rfl) (by kernel_rfl) (by kernel_rfl) (fun _ _ _ h => h) (by assumption) (Or.inr ⟨by rfl, rfl⟩) ?_
    simp only [List.setIfInBounds_toArray, List.set_cons_zero, List.set_cons_succ]
    refine wpAnyH_ready (rs := [20]) (by kernel_rfl) (by simp) ?_
    refine AllReadyH.cons (by simp only [List.getElem?_toArray, List.getElem?_cons_succ, List.getElem?_cons_zero]; rfl) (fun K hK => ?_) AllReadyH.nil
    go_simp
    refine hK.out _ _ hHeld (fun _ => ?_)
    clear hK K
    refine takeD (i := 21) (v := undef) 52 rfl rfl (by kernel_rfl) (by kernel_rfl) (by kernel_rfl) (fun _ _ _ h => h) (by assumption) (Or.inr ⟨by rfl, rfl⟩) ?_
    simp only [List.setIfInBounds_toArray, List.set_cons_zero, List.set_cons_succ]
    refine takeD (i := 22) (v := undef) 53 rfl rfl (by kernel_rfl) (by kernel_rfl) (by kernel_rfl) (fun _ _ _ h => h) (by assumption) (Or.inr ⟨by rfl, rfl⟩) ?_
    simp only [List.setIfInBounds_toArray, List.set_cons_zero, List.set_cons_succ]
    refine takeD (i := 23) (v := undef) 54 rfl rfl (by kernel_rfl) (by kernel_rfl) (by kernel_rfl) (fun _ _ _ h => h) (by assumption) (Or.inr ⟨by rfl, rfl⟩) ?_
    simp only [List.setIfInBounds_toArray, List.set_cons_zero, List.set_cons_succ]
    refine takeD (i := 25) (v := undef) 56 rfl rfl (by kernel_rfl) (by kernel_rfl) (by kernel_rfl) (fun _ _ _ h => h) (by assumption) (Or.inr ⟨by rfl, rfl⟩) ?_
    simp only [List.setIfInBounds_toArray, List.set_cons_zero, List.set_cons_succ]
    refine wpAnyH_ready (rs := [24]) (by kernel_rfl) (by simp) ?_
    refine AllReadyH.cons (by simp only [List.getElem?_toArray, List.getElem?_cons_succ, List.getElem?_cons_zero]; rfl) (fun K hK => ?_) AllReadyH.nil
    go_simp
    refine hK.out _ _ hHeld (fun _ => ?_)
    clear hK K
    refine takeD (i := 26) (v := undef) 57 rfl rfl (by kernel_rfl) (by kernel_rfl) (by kernel_rfl) (fun _ _ _ h => h) (by assumption) (Or.inr ⟨by rfl, rfl⟩) ?_
    simp only [List.setIfInBounds_toArray, List.set_cons_zero, List.set_cons_succ]
    refine takeD (i := 27) (v := undef) 58 rfl rfl (by kernel_rfl) (by kernel_rfl) (by kernel_rfl) (fun _ _ _ h => h) (by assumption) (Or.inr ⟨by rfl, rfl⟩) ?_
    simp only [List.setIfInBounds_toArray, List.set_cons_zero, List.set_cons_succ]
    refine takeD (i := 28) (v := ?_) 59 rfl rfl (by kernel_rfl) (by kernel_rfl) (by kernel_rfl) (fun _ _ _ h => h) (by assumption) (Or.inl ⟨by rfl, ?_⟩) ?_
    rotate_left
    · intro w hSw
      (try dsimp only at hSw)
      go_simp
      try with_reducible rfl
    simp only [List.setIfInBounds_toArray, List.set_cons_zero, List.set_cons_succ]
    refine takeD (i := 29) (v := ?_) 60 rfl rfl (by kernel_rfl) (by kernel_rfl) (by kernel_rfl) (fun _ _ _ h => h) (by assumption) (Or.inl ⟨by rfl, ?_⟩) ?_
    rotate_left
    · intro w hSw
      (try dsimp only at hSw)
      go_simp
      try with_reducible rfl
    simp only [List.setIfInBounds_toArray, List.set_cons_zero, List.set_cons_succ]
    refine takeD (i := 30) (v := ?_) 61 rfl rfl (by kernel_rfl) (by kernel_rfl) (by kernel_rfl) (fun _ _ _ h => h) (by assumption) (Or.inl ⟨by rfl, ?_⟩) ?_
    rotate_left
    · intro w hSw
      (try dsimp only at hSw)
      go_simp
      try with_reducible rfl
    simp only [List.setIfInBounds_toArray, List.set_cons_zero, List.set_cons_succ]
    refine takeD (i := 31) (v := ?_) 62 rfl rfl (by kernel_rfl) (by kernel_rfl) (by kernel_rfl) (fun _ _ _ h => h) (by assumption) (Or.inl ⟨by rfl, ?_⟩) ?_
    rotate_left
    · intro w hSw
      (try dsimp only at hSw)
      go_simp
      try with_reducible rfl
    simp only [List.setIfInBounds_toArray, List.set_cons_zero, List.set_cons_succ]
    refine takeD (i := 32) (v := ?_) 63 rfl rfl (by kernel_rfl) (by kernel_rfl) (by kernel_rfl) (fun _ _ _ h => h) (by assumption) (Or.inl ⟨by rfl, ?_⟩) ?_
    rotate_left
    · intro w hSw
      (try dsimp only at hSw)
      go_simp
      try with_reducible rfl
    simp only [List.setIfInBounds_toArray, List.set_cons_zero, List.set_cons_succ]
    refine takeD (i := 33) (v := ?_) 64 rfl rfl (by kernel_rfl) (by kernel_rfl) (by kernel_rfl) (fun _ _ _ h => h) (by assumption) (Or.inl ⟨by rfl, ?_⟩) ?_
    rotate_left
    · intro w hSw
      (try dsimp only at hSw)
      go_simp
      try with_reducible rfl
    simp only [List.setIfInBounds_toArray, List.set_cons_zero, List.set_cons_succ]
    refine takeD (i := 34) (v := ?_) 65 rfl rfl (by kernel_rfl) (by kernel_rfl) (by kernel_rfl) (fun _ _ _ h => h) (by assumption) (Or.inl ⟨by rfl, ?_⟩) ?_
    rotate_left
    · intro w hSw
      (try dsimp only at hSw)
      go_simp
      try with_reducible rfl
    simp only [List.setIfInBounds_toArray, List.set_cons_zero, List.set_cons_succ]
    refine takeD (i := 35) (v := ?_) 66 rfl rfl (by kernel_rfl) (by kernel_rfl) (by kernel_rfl) (fun _ _ _ h => h) (by assumption) (Or.inl ⟨by rfl, ?_⟩) ?_
    rotate_left
    · intro w hSw
      (try dsimp only at hSw)
      go_simp
      try with_reducible rfl
    simp only [List.setIfInBounds_toArray, List.set_cons_zero, List.set_cons_succ]
    refine takeD (i := 36) (v := ?_) 67 rfl rfl (by kernel_rfl) (by kernel_rfl) (by kernel_rfl) (fun _ _ _ h => h) (by assumption) (Or.inl ⟨by rfl, ?_⟩) ?_
    rotate_left
    · intro w hSw
      (try dsimp only at hSw)
      go_simp
      try with_reducible rfl
    simp only [List.setIfInBounds_toArray, List.set_cons_zero, List.set_cons_succ]
    refine takeD (i := 37) (v := ?_) 68 rfl rfl (by kernel_rfl) (by kernel_rfl) (by kernel_rfl) (fun _ _ _ h => h) (by assumption) (Or.inl ⟨by rfl, ?_⟩) ?_
    rotate_left
    · intro w hSw
      (try dsimp only at hSw)
      go_simp
      try with_reducible rfl
    simp only [List.setIfInBounds_toArray, List.set_cons_zero, List.set_cons_succ]
    refine wpAnyH_done (by kernel_rfl) ?_ _
    go_wp2_with fail
    go_meet
    exact ⟨rfl, hHeld⟩
  case rest =>
    clear HX4
    obtain ⟨rfl, hX⟩ := hcut
    have HY := hid hX
    clear hX
    go_wp2_with fail
    with_reducible refine (HOB.out _).mono ?_
    rintro e w5 ⟨rfl, hb⟩
    have HZ := hid (show w5.cell? ⟨w.heap.size, 0, none⟩ = some (.bool p) ∧ w5.cell? ⟨w.heap.size, 1, none⟩ = some (.bool n) ∧ w5.cell? ⟨w.heap.size, 2, none⟩ = some (.int .i64 d) ∧ w5.cell? ⟨w.heap.size, 3, none⟩ = some (.bool m) ∧ w5.cell? ⟨b1, 0, none⟩ = some (.bool p) ∧ w5.cell? ⟨b1, 1, none⟩ = some (.bool n) ∧ w5.cell? ⟨b1, 2, none⟩ = some (.int .i64 d) ∧ w5.cell? ⟨b1, 3, none⟩ = some (.bool m) ∧ Below w.heap.size w w5 from ⟨keepc hb HY.out.1, keepc hb HY.out.2.1, keepc hb HY.out.2.2.1, keepc hb HY.out.2.2.2.1, keepc hb HY.out.2.2.2.2.1, keepc hb HY.out.2.2.2.2.2.1, keepc hb HY.out.2.2.2.2.2.2.1, keepc hb HY.out.2.2.2.2.2.2.2.1, below_t HY.out.2.2.2.2.2.2.2.2 hb⟩)
    clear hb HY
    go_upto_region 10 with fail
    have KB : Below w5.heap.size w5 (w5.alloc (.cells #[.bool (ofP b), .bool (ofN b), .int .i64 (ofD b), .bool (ofM b)] 69)) := (Below.refl _ _).alloc (Nat.le_refl _) _
    have HX := hid (show (w5.alloc (.cells #[.bool (ofP b), .bool (ofN b), .int .i64 (ofD b), .bool (ofM b)] 69)).cell? ⟨w.heap.size, 0, none⟩ = some (.bool p) ∧ (w5.alloc (.cells #[.bool (ofP b), .bool (ofN b), .int .i64 (ofD b), .bool (ofM b)] 69)).cell? ⟨w.heap.size, 1, none⟩ = some (.bool n) ∧ (w5.alloc (.cells #[.bool (ofP b), .bool (ofN b), .int .i64 (ofD b), .bool (ofM b)] 69)).cell? ⟨w.heap.size, 2, none⟩ = some (.int .i64 d) ∧ (w5.alloc (.cells #[.bool (ofP b), .bool (ofN b), .int .i64 (ofD b), .bool (ofM b)] 69)).cell? ⟨w.heap.size, 3, none⟩ = some (.bool m) ∧ (w5.alloc (.cells #[.bool (ofP b), .bool (ofN b), .int .i64 (ofD b), .bool (ofM b)] 69)).cell? ⟨b1, 0, none⟩ = some (.bool p) ∧ (w5.alloc (.cells #[.bool (ofP b), .bool (ofN b), .int .i64 (ofD b), .bool (ofM b)] 69)).cell? ⟨b1, 1, none⟩ = some (.bool n) ∧ (w5.alloc (.cells #[.bool (ofP b), .bool (ofN b), .int .i64 (ofD b), .bool (ofM b)] 69)).cell? ⟨b1, 2, none⟩ = some (.int .i64 d) ∧ (w5.alloc (.cells #[.bool (ofP b), .bool (ofN b), .int .i64 (ofD b), .bool (ofM b)] 69)).cell? ⟨b1, 3, none⟩ = some (.bool m) ∧ (w5.alloc (.cells #[.bool (ofP b), .bool (ofN b), .int .i64 (ofD b), .bool (ofM b)] 69)).cell? ⟨w5.heap.size, 0, none⟩ = some (.bool (ofP b)) ∧ (w5.alloc (.cells #[.bool (ofP b), .bool (ofN b), .int .i64 (ofD b), .bool (ofM b)] 69)).cell? ⟨w5.heap.size, 1, none⟩ = some (.bool (ofN b)) ∧ (w5.alloc (.cells #[.bool (ofP b), .bool (ofN b), .int .i64 (ofD b), .bool (ofM b)] 69)).cell? ⟨w5.heap.size, 2, none⟩ = some (.int .i64 (ofD b)) ∧ (w5.alloc (.cells #[.bool (ofP b), .bool (ofN b), .int .i64 (ofD b), .bool (ofM b)] 69)).cell? ⟨w5.heap.size, 3, none⟩ = some (.bool (ofM b)) ∧ Below w.heap.size w (w5.alloc (.cells #[.bool (ofP b), .bool (ofN b), .int .i64 (ofD b), .bool (ofM b)] 69)) from ⟨keepc KB HZ.out.1, keepc KB HZ.out.2.1, keepc KB HZ.out.2.2.1, keepc KB HZ.out.2.2.2.1, keepc KB HZ.out.2.2.2.2.1, keepc KB HZ.out.2.2.2.2.2.1, keepc KB HZ.out.2.2.2.2.2.2.1, keepc KB HZ.out.2.2.2.2.2.2.2.1, by simp [go_sem], by simp [go_sem], by simp [go_sem], by simp [go_sem], below_t HZ.out.2.2.2.2.2.2.2.2 KB⟩)
    clear KB HZ
    generalize w5.alloc (.cells #[.bool (ofP b), .bool (ofN b), .int .i64 (ofD b), .bool (ofM b)] 69) = wb at HX ⊢
    obtain ⟨b2, hb2⟩ : ∃ b2, b2 = w5.heap.size := ⟨_, rfl⟩
    rw [← hb2] at HX ⊢
    clear hb2
    generalize ofP b = P' at HX HRO ⊢
    generalize ofN b = N' at HX HRO ⊢
    generalize ofD b = D' at HX HRO ⊢
    generalize ofM b = M' at HX HRO ⊢
    have h1 : ¬ d = 1 := by have := HH.out; omega
    have e1 : (d == 1) = false := by simpa using h1
    cases p
    · refine wp_region_held_drew (S := (fun w' => w'.cell? ⟨w.heap.size, 0, none⟩ = some (.bool false) ∧ w'.cell? ⟨w.heap.size, 1, none⟩ = some (.bool n) ∧ w'.cell? ⟨w.heap.size, 2, none⟩ = some (.int .i64 d) ∧ w'.cell? ⟨w.heap.size, 3, none⟩ = some (.bool m) ∧ w'.cell? ⟨b1, 0, none⟩ = some (.bool false) ∧ w'.cell? ⟨b1, 1, none⟩ = some (.bool n) ∧ w'.cell? ⟨b1, 2, none⟩ = some (.int .i64 d) ∧ w'.cell? ⟨b1, 3, none⟩ = some (.bool m) ∧ w'.cell? ⟨b2, 0, none⟩ = some (Value.bool P') ∧ w'.cell? ⟨b2, 1, none⟩ = some (Value.bool N') ∧ w'.cell? ⟨b2, 2, none⟩ = some (Value.int .i64 D') ∧ w'.cell? ⟨b2, 3, none⟩ = some (Value.bool M') ∧ Below w.heap.size w w')) (by kernel_rfl) ?_ (fun hHeld => ?_)
      · exact ⟨HX.out.1, HX.out.2.1, HX.out.2.2.1, HX.out.2.2.2.1, HX.out.2.2.2.2.1, HX.out.2.2.2.2.2.1, HX.out.2.2.2.2.2.2.1, HX.out.2.2.2.2.2.2.2.1, HX.out.2.2.2.2.2.2.2.2.1, HX.out.2.2.2.2.2.2.2.2.2.1, HX.out.2.2.2.2.2.2.2.2.2.2.1, HX.out.2.2.2.2.2.2.2.2.2.2.2.1, HX.out.2.2.2.2.2.2.2.2.2.2.2.2.drew⟩
      refine takeD (i := 0) (v := ?_) 71 rfl rfl (by kernel_rfl) (by kernel_rfl) (by kernel_rfl) (fun _ _ _ h => h) (by assumption) (Or.inl ⟨by rfl, ?_⟩) ?_
      rotate_left
      · intro w hSw
        (try dsimp only at hSw)
        go_simp
        try with_reducible rfl
      simp only [List.setIfInBounds_toArray, List.set_cons_zero, List.set_cons_succ]
      refine takeD (i := 1) (v := ?_) 72 rfl rfl (by kernel_rfl) (by kernel_rfl) (by kernel_rfl) (fun _ _ _ h => h) (by assumption) (Or.inl ⟨by rfl, ?_⟩) ?_
      rotate_left
      · intro w hSw
        (try dsimp only at hSw)
        go_simp
        try with_reducible rfl
      simp only [List.setIfInBounds_toArray, List.set_cons_zero, List.set_cons_succ]
      refine wpAnyH_ready (rs := [2]) (by kernel_rfl) (by simp) ?_
      refine AllReadyH.cons (by simp only [List.getElem?_toArray, List.getElem?_cons_succ, List.getElem?_cons_zero]; rfl) (fun K hK => ?_) AllReadyH.nil
      go_simp
      (with_reducible refine (HRO.out _).mono ?_)
      rintro e w2 ⟨rfl, hb2⟩
      (try go_wp2_with fail)
      refine hK.out _ _ ?_ (fun hHeldN => ?_)
      · exact ⟨keepc hb2 hHeld.1, keepc hb2 hHeld.2.1, keepc hb2 hHeld.2.2.1, keepc hb2 hHeld.2.2.2.1, keepc hb2 hHeld.2.2.2.2.1, keepc hb2 hHeld.2.2.2.2.2.1, keepc hb2 hHeld.2.2.2.2.2.2.1, keepc hb2 hHeld.2.2.2.2.2.2.2.1, keepc hb2 hHeld.2.2.2.2.2.2.2.2.1, keepc hb2 hHeld.2.2.2.2.2.2.2.2.2.1, keepc hb2 hHeld.2.2.2.2.2.2.2.2.2.2.1, keepc hb2 hHeld.2.2.2.2.2.2.2.2.2.2.2.1, below_t hHeld.2.2.2.2.2.2.2.2.2.2.2.2 hb2⟩
      clear hK K hHeld
      have hHeld := hHeldN
      clear hHeldN
      refine takeD (i := 3) (v := ?_) 74 rfl rfl (by kernel_rfl) (by kernel_rfl) (by kernel_rfl) (fun _ _ _ h => h) (by assumption) (Or.inl ⟨by rfl, ?_⟩) ?_
      rotate_left
      · intro w hSw
        (try dsimp only at hSw)
        go_simp
        try with_reducible rfl
      simp only [List.setIfInBounds_toArray, List.set_cons_zero, List.set_cons_succ]
      refine takeD (i := 4) (v := ?_) 75 rfl rfl (by kernel_rfl) (by kernel_rfl) (by kernel_rfl) (fun _ _ _ h => h) (by assumption) (Or.inl ⟨by rfl, ?_⟩) ?_
      rotate_left
      · intro w hSw
        (try dsimp only at hSw)
        go_simp
        try with_reducible rfl
      simp only [List.setIfInBounds_toArray, List.set_cons_zero, List.set_cons_succ]
      refine takeD (i := 5) (v := ?_) 76 rfl rfl (by kernel_rfl) (by kernel_rfl) (by kernel_rfl) (fun _ _ _ h => h) (by assumption) (Or.inl ⟨by rfl, ?_⟩) ?_
      rotate_left
      · intro w hSw
        (try dsimp only at hSw)
        go_simp
        try with_reducible rfl
      simp only [List.setIfInBounds_toArray, List.set_cons_zero, List.set_cons_succ]
      refine takeD (i := 7) (v := ?_) 78 rfl rfl (by kernel_rfl) (by kernel_rfl) (by kernel_rfl) (fun _ _ _ h => h) (by assumption) (Or.inl ⟨by rfl, ?_⟩) ?_
      rotate_left
      · intro w hSw
        (try dsimp only at hSw)
        go_simp
        try with_reducible rfl
      simp only [List.setIfInBounds_toArray, List.set_cons_zero, List.set_cons_succ]
      refine takeD (i := 8) (v := ?_) 79 rfl rfl (by kernel_rfl) (by kernel_rfl) (by kernel_rfl) (fun _ _ _ h => h) (by assumption) (Or.inl ⟨by rfl, ?_⟩) ?_
      rotate_left
      · intro w hSw
        (try dsimp only at hSw)
        go_simp
        try with_reducible rfl
      simp only [List.setIfInBounds_toArray, List.set_cons_zero, List.set_cons_succ]
      refine wpAnyH_ready (rs := [6]) (by kernel_rfl) (by simp) ?_
      refine AllReadyH.cons (by simp only [List.getElem?_toArray, List.getElem?_cons_succ, List.getElem?_cons_zero]; rfl) (fun K hK => ?_) AllReadyH.nil
      go_simp
      (with_reducible refine (HSK.out _).mono ?_)
      rintro e w2 ⟨rfl, hb2⟩
      (try go_wp2_with fail)
      refine hK.out _ _ ?_ (fun hHeldN => ?_)
      · exact ⟨keepc hb2 hHeld.1, keepc hb2 hHeld.2.1, keepc hb2 hHeld.2.2.1, keepc hb2 hHeld.2.2.2.1, keepc hb2 hHeld.2.2.2.2.1, keepc hb2 hHeld.2.2.2.2.2.1, keepc hb2 hHeld.2.2.2.2.2.2.1, keepc hb2 hHeld.2.2.2.2.2.2.2.1, keepc hb2 hHeld.2.2.2.2.2.2.2.2.1, keepc hb2 hHeld.2.2.2.2.2.2.2.2.2.1, keepc hb2 hHeld.2.2.2.2.2.2.2.2.2.2.1, keepc hb2 hHeld.2.2.2.2.2.2.2.2.2.2.2.1, below_t hHeld.2.2.2.2.2.2.2.2.2.2.2.2 hb2⟩
      clear hK K hHeld
      have hHeld := hHeldN
      clear hHeldN
      refine takeD (i := 9) (v := ?_) 80 rfl rfl (by kernel_rfl) (by kernel_rfl) (by kernel_rfl) (fun _ _ _ h => h) (by assumption) (Or.inl ⟨by rfl, ?_⟩) ?_
      rotate_left
      · intro w hSw
        (try dsimp only at hSw)
        go_simp
        try with_reducible rfl
      simp only [List.setIfInBounds_toArray, List.set_cons_zero, List.set_cons_succ]
      refine takeD (i := 10) (v := undef) 81 rfl rfl (by kernel_rfl) (by kernel_rfl) (by kernel_rfl) (fun _ _ _ h => h) (by assumption) (Or.inr ⟨by rfl, rfl⟩) ?_
      simp only [List.setIfInBounds_toArray, List.set_cons_zero, List.set_cons_succ]
      refine takeD (i := 11) (v := undef) 82 rfl rfl (by kernel_rfl) (by kernel_rfl) (by kernel_rfl) (fun _ _ _ h => h) (by assumption) (Or.inr ⟨by rfl, rfl⟩) ?_
      simp only [List.setIfInBounds_toArray, List.set_cons_zero, List.set_cons_succ]
      refine takeD (i := 12) (v := ?_) 83 rfl rfl (by kernel_rfl) (by kernel_rfl) (by kernel_rfl) (fun _ _ _ h => h) (by assumption) (Or.inl ⟨by rfl, ?_⟩) ?_
      rotate_left
      · intro w hSw
        (try dsimp only at hSw)
        go_simp
        try with_reducible rfl
      simp only [List.setIfInBounds_toArray, List.set_cons_zero, List.set_cons_succ]
      refine takeD (i := 13) (v := ?_) 84 rfl rfl (by kernel_rfl) (by kernel_rfl) (by kernel_rfl) (fun _ _ _ h => h) (by assumption) (Or.inl ⟨by rfl, ?_⟩) ?_
      rotate_left
      · intro w hSw
        (try dsimp only at hSw)
        go_simp
        try with_reducible rfl
      simp only [List.setIfInBounds_toArray, List.set_cons_zero, List.set_cons_succ]
      refine takeD (i := 14) (v := ?_) 85 rfl rfl (by kernel_rfl) (by kernel_rfl) (by kernel_rfl) (fun _ _ _ h => h) (by assumption) (Or.inl ⟨by rfl, ?_⟩) ?_
      rotate_left
      · intro w hSw
        (try dsimp only at hSw)
        go_simp
        try with_reducible rfl
      simp only [List.setIfInBounds_toArray, List.set_cons_zero, List.set_cons_succ]
      refine takeD (i := 15) (v := ?_) 86 rfl rfl (by kernel_rfl) (by kernel_rfl) (by kernel_rfl) (fun _ _ _ h => h) (by assumption) (Or.inl ⟨by rfl, ?_⟩) ?_
      rotate_left
      · intro w hSw
        (try dsimp only at hSw)
        go_simp
        try with_reducible rfl
      simp only [List.setIfInBounds_toArray, List.set_cons_zero, List.set_cons_succ]
      refine takeD (i := 16) (v := ?_) 87 rfl rfl (by kernel_rfl) (by kernel_rfl) (by kernel_rfl) (fun _ _ _ h => h) (by assumption) (Or.inl ⟨by rfl, ?_⟩) ?_
      rotate_left
      · intro w hSw
        (try dsimp only at hSw)
        go_simp
        try with_reducible rfl
      simp only [List.setIfInBounds_toArray, List.set_cons_zero, List.set_cons_succ]
      refine takeD (i := 18) (v := ?_) 89 rfl rfl (by kernel_rfl) (by kernel_rfl) (by kernel_rfl) (fun _ _ _ h => h) (by assumption) (Or.inl ⟨by rfl, ?_⟩) ?_
      rotate_left
      · intro w hSw
        (try dsimp only at hSw)
        go_simp
        try with_reducible rfl
      simp only [List.setIfInBounds_toArray, List.set_cons_zero, List.set_cons_succ]
      refine takeD (i := 19) (v := ?_) 90 rfl rfl (by kernel_rfl) (by kernel_rfl) (by kernel_rfl) (fun _ _ _ h => h) (by assumption) (Or.inl ⟨by rfl, ?_⟩) ?_
      rotate_left
      · intro w hSw
        (try dsimp only at hSw)
        go_simp
        try with_reducible rfl
      simp only [List.setIfInBounds_toArray, List.set_cons_zero, List.set_cons_succ]
      refine takeD (i := 20) (v := ?_) 91 rfl rfl (by kernel_rfl) (by kernel_rfl) (by kernel_rfl) (fun _ _ _ h => h) (by assumption) (Or.inl ⟨by rfl, ?_⟩) ?_
      rotate_left
      · intro w hSw
        (try dsimp only at hSw)
        go_simp
        try with_reducible rfl
      simp only [List.setIfInBounds_toArray, List.set_cons_zero, List.set_cons_succ]
      refine wpAnyH_ready (rs := [17]) (by kernel_rfl) (by simp) ?_
      refine AllReadyH.cons (by simp only [List.getElem?_toArray, List.getElem?_cons_succ, List.getElem?_cons_zero]; rfl) (fun K hK => ?_) AllReadyH.nil
      go_simp
      (with_reducible refine (HHI.out _).mono ?_)
      rintro e w2 ⟨rfl, hb2⟩
      (try go_wp2_with fail)
      refine hK.out _ _ ?_ (fun hHeldN => ?_)
      · exact ⟨keepc hb2 hHeld.1, keepc hb2 hHeld.2.1, keepc hb2 hHeld.2.2.1, keepc hb2 hHeld.2.2.2.1, keepc hb2 hHeld.2.2.2.2.1, keepc hb2 hHeld.2.2.2.2.2.1, keepc hb2 hHeld.2.2.2.2.2.2.1, keepc hb2 hHeld.2.2.2.2.2.2.2.1, keepc hb2 hHeld.2.2.2.2.2.2.2.2.1, keepc hb2 hHeld.2.2.2.2.2.2.2.2.2.1, keepc hb2 hHeld.2.2.2.2.2.2.2.2.2.2.1, keepc hb2 hHeld.2.2.2.2.2.2.2.2.2.2.2.1, below_t hHeld.2.2.2.2.2.2.2.2.2.2.2.2 hb2⟩
      clear hK K hHeld
      have hHeld := hHeldN
      clear hHeldN
      refine takeD (i := 21) (v := ?_) 92 rfl rfl (by kernel_rfl) (by kernel_rfl) (by kernel_rfl) (fun _ _ _ h => h) (by assumption) (Or.inl ⟨by rfl, ?_⟩) ?_
      rotate_left
      · intro w hSw
        (try dsimp only at hSw)
        go_simp
        try with_reducible rfl
      simp only [List.setIfInBounds_toArray, List.set_cons_zero, List.set_cons_succ]
      refine takeD (i := 22) (v := ?_) 93 rfl rfl (by kernel_rfl) (by kernel_rfl) (by kernel_rfl) (fun _ _ _ h => h) (by assumption) (Or.inl ⟨by rfl, ?_⟩) ?_
      rotate_left
      · intro w hSw
        (try dsimp only at hSw)
        go_simp
        try with_reducible rfl
      simp only [List.setIfInBounds_toArray, List.set_cons_zero, List.set_cons_succ]
      refine takeD (i := 23) (v := ?_) 94 rfl rfl (by kernel_rfl) (by kernel_rfl) (by kernel_rfl) (fun _ _ _ h => h) (by assumption) (Or.inl ⟨by rfl, ?_⟩) ?_
      rotate_left
      · intro w hSw
        (try dsimp only at hSw)
        go_simp
        try with_reducible rfl
      simp only [List.setIfInBounds_toArray, List.set_cons_zero, List.set_cons_succ]
      refine takeD (i := 24) (v := ?_) 95 rfl rfl (by kernel_rfl) (by kernel_rfl) (by kernel_rfl) (fun _ _ _ h => h) (by assumption) (Or.inl ⟨by rfl, ?_⟩) ?_
      rotate_left
      · intro w hSw
        (try dsimp only at hSw)
        go_simp
        try with_reducible rfl
      simp only [List.setIfInBounds_toArray, List.set_cons_zero, List.set_cons_succ]
      refine takeD (i := 26) (v := ?_) 97 rfl rfl (by kernel_rfl) (by kernel_rfl) (by kernel_rfl) (fun _ _ _ h => h) (by assumption) (Or.inl ⟨by rfl, ?_⟩) ?_
      rotate_left
      · intro w hSw
        (try dsimp only at hSw)
        go_simp
        try with_reducible rfl
      simp only [List.setIfInBounds_toArray, List.set_cons_zero, List.set_cons_succ]
      refine takeD (i := 27) (v := ?_) 98 rfl rfl (by kernel_rfl) (by kernel_rfl) (by kernel_rfl) (fun _ _ _ h => h) (by assumption) (Or.inl ⟨by rfl, ?_⟩) ?_
      rotate_left
      · intro w hSw
        (try dsimp only at hSw)
        go_simp
        try with_reducible rfl
      simp only [List.setIfInBounds_toArray, List.set_cons_zero, List.set_cons_succ]
      refine takeD (i := 28) (v := ?_) 99 rfl rfl (by kernel_rfl) (by kernel_rfl) (by kernel_rfl) (fun _ _ _ h => h) (by assumption) (Or.inl ⟨by rfl, ?_⟩) ?_
      rotate_left
      · intro w hSw
        (try dsimp only at hSw)
        go_simp
        try with_reducible rfl
      simp only [List.setIfInBounds_toArray, List.set_cons_zero, List.set_cons_succ]
      refine wpAnyH_ready (rs := [25]) (by kernel_rfl) (by simp) ?_
      refine AllReadyH.cons (by simp only [List.getElem?_toArray, List.getElem?_cons_succ, List.getElem?_cons_zero]; rfl) (fun K hK => ?_) AllReadyH.nil
      go_simp
      (with_reducible refine (HDE.out _).mono ?_)
      rintro e w2 ⟨rfl, hb2⟩
      (try go_wp2_with fail)
      refine hK.out _ _ ?_ (fun hHeldN => ?_)
      · exact ⟨keepc hb2 hHeld.1, keepc hb2 hHeld.2.1, keepc hb2 hHeld.2.2.1, keepc hb2 hHeld.2.2.2.1, keepc hb2 hHeld.2.2.2.2.1, keepc hb2 hHeld.2.2.2.2.2.1, keepc hb2 hHeld.2.2.2.2.2.2.1, keepc hb2 hHeld.2.2.2.2.2.2.2.1, keepc hb2 hHeld.2.2.2.2.2.2.2.2.1, keepc hb2 hHeld.2.2.2.2.2.2.2.2.2.1, keepc hb2 hHeld.2.2.2.2.2.2.2.2.2.2.1, keepc hb2 hHeld.2.2.2.2.2.2.2.2.2.2.2.1, below_t hHeld.2.2.2.2.2.2.2.2.2.2.2.2 hb2⟩
      clear hK K hHeld
      have hHeld := hHeldN
      clear hHeldN
      refine takeD (i := 29) (v := ?_) 100 rfl rfl (by kernel_rfl) (by kernel_rfl) (by kernel_rfl) (fun _ _ _ h => h) (by assumption) (Or.inl ⟨by rfl, ?_⟩) ?_
      rotate_left
      · intro w hSw
        (try dsimp only at hSw)
        go_simp
        try with_reducible rfl
      simp only [List.setIfInBounds_toArray, List.set_cons_zero, List.set_cons_succ]
      refine takeD (i := 30) (v := ?_) 101 rfl rfl (by kernel_rfl) (by kernel_rfl) (by kernel_rfl) (fun _ _ _ h => h) (by assumption) (Or.inl ⟨by rfl, ?_⟩) ?_
      rotate_left
      · intro w hSw
        (try dsimp only at hSw)
        go_simp
        try with_reducible rfl
      simp only [List.setIfInBounds_toArray, List.set_cons_zero, List.set_cons_succ]
      refine takeD (i := 31) (v := ?_) 102 rfl rfl (by kernel_rfl) (by kernel_rfl) (by kernel_rfl) (fun _ _ _ h => h) (by assumption) (Or.inl ⟨by rfl, ?_⟩) ?_
      rotate_left
      · intro w hSw
        (try dsimp only at hSw)
        go_simp
        try with_reducible rfl
      simp only [List.setIfInBounds_toArray, List.set_cons_zero, List.set_cons_succ]
      refine takeD (i := 32) (v := ?_) 103 rfl rfl (by kernel_rfl) (by kernel_rfl) (by kernel_rfl) (fun _ _ _ h => h) (by assumption) (Or.inl ⟨by rfl, ?_⟩) ?_
      rotate_left
      · intro w hSw
        (try dsimp only at hSw)
        go_simp
        try with_reducible rfl
      simp only [List.setIfInBounds_toArray, List.set_cons_zero, List.set_cons_succ]
      refine takeD (i := 33) (v := ?_) 104 rfl rfl (by kernel_rfl) (by kernel_rfl) (by kernel_rfl) (fun _ _ _ h => h) (by assumption) (Or.inl ⟨by rfl, ?_⟩) ?_
      rotate_left
      · intro w hSw
        (try dsimp only at hSw)
        go_simp
        try with_reducible rfl
      simp only [List.setIfInBounds_toArray, List.set_cons_zero, List.set_cons_succ]
      refine takeD (i := 34) (v := ?_) 105 rfl rfl (by kernel_rfl) (by kernel_rfl) (by kernel_rfl) (fun _ _ _ h => h) (by assumption) (Or.inl ⟨by rfl, ?_⟩) ?_
      rotate_left
      · intro w hSw
        (try dsimp only at hSw)
        go_simp
        try with_reducible rfl
      simp only [List.setIfInBounds_toArray, List.set_cons_zero, List.set_cons_succ]
      refine takeD (i := 35) (v := ?_) 106 rfl rfl (by kernel_rfl) (by kernel_rfl) (by kernel_rfl) (fun _ _ _ h => h) (by assumption) (Or.inl ⟨by rfl, ?_⟩) ?_
      rotate_left
      · intro w hSw
        (try dsimp only at hSw)
        go_simp
        try with_reducible rfl
      simp only [List.setIfInBounds_toArray, List.set_cons_zero, List.set_cons_succ]
      refine takeD (i := 36) (v := ?_) 4 rfl rfl (by kernel_rfl) (by kernel_rfl) (by kernel_rfl) (fun _ _ _ h => h) (by assumption) (Or.inl ⟨by rfl, ?_⟩) ?_
      rotate_left
      · intro w hSw
        (try dsimp only at hSw)
        go_simp
        try with_reducible rfl
      simp only [List.setIfInBounds_toArray, List.set_cons_zero, List.set_cons_succ]
      refine wpAnyH_done (by kernel_rfl) ?_ _
      go_wp2
      go_ret
      exact ⟨rfl, hHeld.2.2.2.2.2.2.2.2.2.2.2.2⟩
    · refine wp_region_held_drew (S := (fun w' => w'.cell? ⟨w.heap.size, 0, none⟩ = some (.bool true) ∧ w'.cell? ⟨w.heap.size, 1, none⟩ = some (.bool n) ∧ w'.cell? ⟨w.heap.size, 2, none⟩ = some (.int .i64 d) ∧ w'.cell? ⟨w.heap.size, 3, none⟩ = some (.bool m) ∧ w'.cell? ⟨b1, 0, none⟩ = some (.bool true) ∧ w'.cell? ⟨b1, 1, none⟩ = some (.bool n) ∧ w'.cell? ⟨b1, 2, none⟩ = some (.int .i64 d) ∧ w'.cell? ⟨b1, 3, none⟩ = some (.bool m) ∧ w'.cell? ⟨b2, 0, none⟩ = some (Value.bool P') ∧ w'.cell? ⟨b2, 1, none⟩ = some (Value.bool N') ∧ w'.cell? ⟨b2, 2, none⟩ = some (Value.int .i64 D') ∧ w'.cell? ⟨b2, 3, none⟩ = some (Value.bool M') ∧ Below w.heap.size w w')) (by kernel_rfl) ?_ (fun hHeld => ?_)
      · exact ⟨HX.out.1, HX.out.2.1, HX.out.2.2.1, HX.out.2.2.2.1, HX.out.2.2.2.2.1, HX.out.2.2.2.2.2.1, HX.out.2.2.2.2.2.2.1, HX.out.2.2.2.2.2.2.2.1, HX.out.2.2.2.2.2.2.2.2.1, HX.out.2.2.2.2.2.2.2.2.2.1, HX.out.2.2.2.2.2.2.2.2.2.2.1, HX.out.2.2.2.2.2.2.2.2.2.2.2.1, HX.out.2.2.2.2.2.2.2.2.2.2.2.2.drew⟩
      refine takeD (i := 0) (v := ?_) 71 rfl rfl (by kernel_rfl) (by kernel_rfl) (by kernel_rfl) (fun _ _ _ h => h) (by assumption) (Or.inl ⟨by rfl, ?_⟩) ?_
      rotate_left
      · intro w hSw
        (try dsimp only at hSw)
        go_simp
        try with_reducible rfl
      simp only [List.setIfInBounds_toArray, List.set_cons_zero, List.set_cons_succ]
      refine takeD (i := 1) (v := ?_) 72 rfl rfl (by kernel_rfl) (by kernel_rfl) (by kernel_rfl) (fun _ _ _ h => h) (by assumption) (Or.inl ⟨by rfl, ?_⟩) ?_
      rotate_left
      · intro w hSw
        (try dsimp only at hSw)
        go_simp
        try with_reducible rfl
      simp only [List.setIfInBounds_toArray, List.set_cons_zero, List.set_cons_succ]
      refine wpAnyH_ready (rs := [2]) (by kernel_rfl) (by simp) ?_
      refine AllReadyH.cons (by simp only [List.getElem?_toArray, List.getElem?_cons_succ, List.getElem?_cons_zero]; rfl) (fun K hK => ?_) AllReadyH.nil
      go_simp
      (with_reducible refine (HRO.out _).mono ?_)
      rintro e w2 ⟨rfl, hb2⟩
      (try go_wp2_with fail)
      refine hK.out _ _ ?_ (fun hHeldN => ?_)
      · exact ⟨keepc hb2 hHeld.1, keepc hb2 hHeld.2.1, keepc hb2 hHeld.2.2.1, keepc hb2 hHeld.2.2.2.1, keepc hb2 hHeld.2.2.2.2.1, keepc hb2 hHeld.2.2.2.2.2.1, keepc hb2 hHeld.2.2.2.2.2.2.1, keepc hb2 hHeld.2.2.2.2.2.2.2.1, keepc hb2 hHeld.2.2.2.2.2.2.2.2.1, keepc hb2 hHeld.2.2.2.2.2.2.2.2.2.1, keepc hb2 hHeld.2.2.2.2.2.2.2.2.2.2.1, keepc hb2 hHeld.2.2.2.2.2.2.2.2.2.2.2.1, below_t hHeld.2.2.2.2.2.2.2.2.2.2.2.2 hb2⟩
      clear hK K hHeld
      have hHeld := hHeldN
      clear hHeldN
      refine takeD (i := 3) (v := ?_) 74 rfl rfl (by kernel_rfl) (by kernel_rfl) (by kernel_rfl) (fun _ _ _ h => h) (by assumption) (Or.inl ⟨by rfl, ?_⟩) ?_
      rotate_left
      · intro w hSw
        (try dsimp only at hSw)
        go_simp
        try with_reducible rfl
      simp only [List.setIfInBounds_toArray, List.set_cons_zero, List.set_cons_succ]
      refine takeD (i := 4) (v := ?_) 75 rfl rfl (by kernel_rfl) (by kernel_rfl) (by kernel_rfl) (fun _ _ _ h => h) (by assumption) (Or.inl ⟨by rfl, ?_⟩) ?_
      rotate_left
      · intro w hSw
        (try dsimp only at hSw)
        go_simp
        try with_reducible rfl
      simp only [List.setIfInBounds_toArray, List.set_cons_zero, List.set_cons_succ]
      refine takeD (i := 5) (v := ?_) 76 rfl rfl (by kernel_rfl) (by kernel_rfl) (by kernel_rfl) (fun _ _ _ h => h) (by assumption) (Or.inl ⟨by rfl, ?_⟩) ?_
      rotate_left
      · intro w hSw
        (try dsimp only at hSw)
        go_simp
        try with_reducible rfl
      simp only [List.setIfInBounds_toArray, List.set_cons_zero, List.set_cons_succ]
      refine takeD (i := 7) (v := ?_) 78 rfl rfl (by kernel_rfl) (by kernel_rfl) (by kernel_rfl) (fun _ _ _ h => h) (by assumption) (Or.inl ⟨by rfl, ?_⟩) ?_
      rotate_left
      · intro w hSw
        (try dsimp only at hSw)
        go_simp
        try with_reducible rfl
      simp only [List.setIfInBounds_toArray, List.set_cons_zero, List.set_cons_succ]
      refine takeD (i := 8) (v := ?_) 79 rfl rfl (by kernel_rfl) (by kernel_rfl) (by kernel_rfl) (fun _ _ _ h => h) (by assumption) (Or.inl ⟨by rfl, ?_⟩) ?_
      rotate_left
      · intro w hSw
        (try dsimp only at hSw)
        go_simp
        try with_reducible rfl
      simp only [List.setIfInBounds_toArray, List.set_cons_zero, List.set_cons_succ]
      refine wpAnyH_ready (rs := [6]) (by kernel_rfl) (by simp) ?_
      refine AllReadyH.cons (by simp only [List.getElem?_toArray, List.getElem?_cons_succ, List.getElem?_cons_zero]; rfl) (fun K hK => ?_) AllReadyH.nil
      go_simp
      (with_reducible refine (HSK.out _).mono ?_)
      rintro e w2 ⟨rfl, hb2⟩
      (try go_wp2_with fail)
      refine hK.out _ _ ?_ (fun hHeldN => ?_)
      · exact ⟨keepc hb2 hHeld.1, keepc hb2 hHeld.2.1, keepc hb2 hHeld.2.2.1, keepc hb2 hHeld.2.2.2.1, keepc hb2 hHeld.2.2.2.2.1, keepc hb2 hHeld.2.2.2.2.2.1, keepc hb2 hHeld.2.2.2.2.2.2.1, keepc hb2 hHeld.2.2.2.2.2.2.2.1, keepc hb2 hHeld.2.2.2.2.2.2.2.2.1, keepc hb2 hHeld.2.2.2.2.2.2.2.2.2.1, keepc hb2 hHeld.2.2.2.2.2.2.2.2.2.2.1, keepc hb2 hHeld.2.2.2.2.2.2.2.2.2.2.2.1, below_t hHeld.2.2.2.2.2.2.2.2.2.2.2.2 hb2⟩
      clear hK K hHeld
      have hHeld := hHeldN
      clear hHeldN
      refine takeD (i := 9) (v := ?_) 80 rfl rfl (by kernel_rfl) (by kernel_rfl) (by kernel_rfl) (fun _ _ _ h => h) (by assumption) (Or.inl ⟨by rfl, ?_⟩) ?_
      rotate_left
      · intro w hSw
        (try dsimp only at hSw)
        go_simp
        try with_reducible rfl
      simp only [List.setIfInBounds_toArray, List.set_cons_zero, List.set_cons_succ]
      refine takeD (i := 10) (v := ?_) 81 rfl rfl (by kernel_rfl) (by kernel_rfl) (by kernel_rfl) (fun _ _ _ h => h) (by assumption) (Or.inl ⟨by rfl, ?_⟩) ?_
      rotate_left
      · intro w hSw
        (try dsimp only at hSw)
        go_simp
        try with_reducible rfl
      simp only [List.setIfInBounds_toArray, List.set_cons_zero, List.set_cons_succ]
      refine takeD (i := 11) (v := ?_) 82 rfl rfl (by kernel_rfl) (by kernel_rfl) (by kernel_rfl) (fun _ _ _ h => h) (by assumption) (Or.inl ⟨by rfl, ?_⟩) ?_
      rotate_left
      · intro w hSw
        (try dsimp only at hSw)
        go_simp
        try with_reducible rfl
      simp only [List.setIfInBounds_toArray, List.set_cons_zero, List.set_cons_succ]
      refine takeD (i := 12) (v := ?_) 83 rfl rfl (by kernel_rfl) (by kernel_rfl) (by kernel_rfl) (fun _ _ _ h => h) (by assumption) (Or.inl ⟨by rfl, ?_⟩) ?_
      rotate_left
      · intro w hSw
        (try dsimp only at hSw)
        go_simp
        try with_reducible rfl
      simp only [List.setIfInBounds_toArray, List.set_cons_zero, List.set_cons_succ]
      refine takeD (i := 13) (v := ?_) 84 rfl rfl (by kernel_rfl) (by kernel_rfl) (by kernel_rfl) (fun _ _ _ h => h) (by assumption) (Or.inl ⟨by rfl, ?_⟩) ?_
      rotate_left
      · intro w hSw
        (try dsimp only at hSw)
        go_simp
        try with_reducible rfl
      simp only [List.setIfInBounds_toArray, List.set_cons_zero, List.set_cons_succ]
      refine takeD (i := 14) (v := ?_) 85 rfl rfl (by kernel_rfl) (by kernel_rfl) (by kernel_rfl) (fun _ _ _ h => h) (by assumption) (Or.inl ⟨by rfl, ?_⟩) ?_
      rotate_left
      · intro w hSw
        (try dsimp only at hSw)
        go_simp
        try with_reducible rfl
      simp only [List.setIfInBounds_toArray, List.set_cons_zero, List.set_cons_succ]
      refine takeD (i := 15) (v := ?_) 86 rfl rfl (by kernel_rfl) (by kernel_rfl) (by kernel_rfl) (fun _ _ _ h => h) (by assumption) (Or.inl ⟨by rfl, ?_⟩) ?_
      rotate_left
      · intro w hSw
        (try dsimp only at hSw)
        go_simp
        try with_reducible rfl
      simp only [List.setIfInBounds_toArray, List.set_cons_zero, List.set_cons_succ]
      refine takeD (i := 16) (v := ?_) 87 rfl rfl (by kernel_rfl) (by kernel_rfl) (by kernel_rfl) (fun _ _ _ h => h) (by assumption) (Or.inl ⟨by rfl, ?_⟩) ?_
      rotate_left
      · intro w hSw
        (try dsimp only at hSw)
        go_simp
        try with_reducible rfl
      simp only [List.setIfInBounds_toArray, List.set_cons_zero, List.set_cons_succ]
      refine takeD (i := 18) (v := ?_) 89 rfl rfl (by kernel_rfl) (by kernel_rfl) (by kernel_rfl) (fun _ _ _ h => h) (by assumption) (Or.inl ⟨by rfl, ?_⟩) ?_
      rotate_left
      · intro w hSw
        (try dsimp only at hSw)
        go_simp
        try with_reducible rfl
      simp only [List.setIfInBounds_toArray, List.set_cons_zero, List.set_cons_succ]
      refine takeD (i := 19) (v := ?_) 90 rfl rfl (by kernel_rfl) (by kernel_rfl) (by kernel_rfl) (fun _ _ _ h => h) (by assumption) (Or.inl ⟨by rfl, ?_⟩) ?_
      rotate_left
      · intro w hSw
        (try dsimp only at hSw)
        go_simp
        try with_reducible rfl
      simp only [List.setIfInBounds_toArray, List.set_cons_zero, List.set_cons_succ]
      refine takeD (i := 20) (v := ?_) 91 rfl rfl (by kernel_rfl) (by kernel_rfl) (by kernel_rfl) (fun _ _ _ h => h) (by assumption) (Or.inl ⟨by rfl, ?_⟩) ?_
      rotate_left
      · intro w hSw
        (try dsimp only at hSw)
        go_simp
        try with_reducible rfl
      simp only [List.setIfInBounds_toArray, List.set_cons_zero, List.set_cons_succ]
      refine wpAnyH_ready (rs := [17]) (by kernel_rfl) (by simp) ?_
      refine AllReadyH.cons (by simp only [List.getElem?_toArray, List.getElem?_cons_succ, List.getElem?_cons_zero]; rfl) (fun K hK => ?_) AllReadyH.nil
      go_simp
      (with_reducible refine (HHI.out _).mono ?_)
      rintro e w2 ⟨rfl, hb2⟩
      (try go_wp2_with fail)
      refine hK.out _ _ ?_ (fun hHeldN => ?_)
      · exact ⟨keepc hb2 hHeld.1, keepc hb2 hHeld.2.1, keepc hb2 hHeld.2.2.1, keepc hb2 hHeld.2.2.2.1, keepc hb2 hHeld.2.2.2.2.1, keepc hb2 hHeld.2.2.2.2.2.1, keepc hb2 hHeld.2.2.2.2.2.2.1, keepc hb2 hHeld.2.2.2.2.2.2.2.1, keepc hb2 hHeld.2.2.2.2.2.2.2.2.1, keepc hb2 hHeld.2.2.2.2.2.2.2.2.2.1, keepc hb2 hHeld.2.2.2.2.2.2.2.2.2.2.1, keepc hb2 hHeld.2.2.2.2.2.2.2.2.2.2.2.1, below_t hHeld.2.2.2.2.2.2.2.2.2.2.2.2 hb2⟩
      clear hK K hHeld
      have hHeld := hHeldN
      clear hHeldN
      refine takeD (i := 21) (v := ?_) 92 rfl rfl (by kernel_rfl) (by kernel_rfl) (by kernel_rfl) (fun _ _ _ h => h) (by assumption) (Or.inl ⟨by rfl, ?_⟩) ?_
      rotate_left
      · intro w hSw
        (try dsimp only at hSw)
        go_simp
        try with_reducible rfl
      simp only [List.setIfInBounds_toArray, List.set_cons_zero, List.set_cons_succ]
      refine takeD (i := 22) (v := ?_) 93 rfl rfl (by kernel_rfl) (by kernel_rfl) (by kernel_rfl) (fun _ _ _ h => h) (by assumption) (Or.inl ⟨by rfl, ?_⟩) ?_
      rotate_left
      · intro w hSw
        (try dsimp only at hSw)
        go_simp
        try with_reducible rfl
      simp only [List.setIfInBounds_toArray, List.set_cons_zero, List.set_cons_succ]
      refine takeD (i := 23) (v := ?_) 94 rfl rfl (by kernel_rfl) (by kernel_rfl) (by kernel_rfl) (fun _ _ _ h => h) (by assumption) (Or.inl ⟨by rfl, ?_⟩) ?_
      rotate_left
      · intro w hSw
        (try dsimp only at hSw)
        go_simp
        try with_reducible rfl
      simp only [List.setIfInBounds_toArray, List.set_cons_zero, List.set_cons_succ]
      refine takeD (i := 24) (v := ?_) 95 rfl rfl (by kernel_rfl) (by kernel_rfl) (by kernel_rfl) (fun _ _ _ h => h) (by assumption) (Or.inl ⟨by rfl, ?_⟩) ?_
      rotate_left
      · intro w hSw
        (try dsimp only at hSw)
        go_simp
        try with_reducible rfl
      simp only [List.setIfInBounds_toArray, List.set_cons_zero, List.set_cons_succ]
      refine takeD (i := 26) (v := ?_) 97 rfl rfl (by kernel_rfl) (by kernel_rfl) (by kernel_rfl) (fun _ _ _ h => h) (by assumption) (Or.inl ⟨by rfl, ?_⟩) ?_
      rotate_left
      · intro w hSw
        (try dsimp only at hSw)
        go_simp
        try with_reducible rfl
      simp only [List.setIfInBounds_toArray, List.set_cons_zero, List.set_cons_succ]
      refine takeD (i := 27) (v := ?_) 98 rfl rfl (by kernel_rfl) (by kernel_rfl) (by kernel_rfl) (fun _ _ _ h => h) (by assumption) (Or.inl ⟨by rfl, ?_⟩) ?_
      rotate_left
      · intro w hSw
        (try dsimp only at hSw)
        go_simp
        try with_reducible rfl
      simp only [List.setIfInBounds_toArray, List.set_cons_zero, List.set_cons_succ]
      refine takeD (i := 28) (v := ?_) 99 rfl rfl (by kernel_rfl) (by kernel_rfl) (by kernel_rfl) (fun _ _ _ h => h) (by assumption) (Or.inl ⟨by rfl, ?_⟩) ?_
      rotate_left
      · intro w hSw
        (try dsimp only at hSw)
        go_simp
        try with_reducible rfl
      simp only [List.setIfInBounds_toArray, List.set_cons_zero, List.set_cons_succ]
      refine wpAnyH_ready (rs := [25]) (by kernel_rfl) (by simp) ?_
      refine AllReadyH.cons (by simp only [List.getElem?_toArray, List.getElem?_cons_succ, List.getElem?_cons_zero]; rfl) (fun K hK => ?_) AllReadyH.nil
      go_simp
      (with_reducible refine (HDE.out _).mono ?_)
      rintro e w2 ⟨rfl, hb2⟩
      (try go_wp2_with fail)
      refine hK.out _ _ ?_ (fun hHeldN => ?_)
      · exact ⟨keepc hb2 hHeld.1, keepc hb2 hHeld.2.1, keepc hb2 hHeld.2.2.1, keepc hb2 hHeld.2.2.2.1, keepc hb2 hHeld.2.2.2.2.1, keepc hb2 hHeld.2.2.2.2.2.1, keepc hb2 hHeld.2.2.2.2.2.2.1, keepc hb2 hHeld.2.2.2.2.2.2.2.1, keepc hb2 hHeld.2.2.2.2.2.2.2.2.1, keepc hb2 hHeld.2.2.2.2.2.2.2.2.2.1, keepc hb2 hHeld.2.2.2.2.2.2.2.2.2.2.1, keepc hb2 hHeld.2.2.2.2.2.2.2.2.2.2.2.1, below_t hHeld.2.2.2.2.2.2.2.2.2.2.2.2 hb2⟩
      clear hK K hHeld
      have hHeld := hHeldN
      clear hHeldN
      refine takeD (i := 29) (v := ?_) 100 rfl rfl (by kernel_rfl) (by kernel_rfl) (by kernel_rfl) (fun _ _ _ h => h) (by assumption) (Or.inl ⟨by rfl, ?_⟩) ?_
      rotate_left
      · intro w hSw
        (try dsimp only at hSw)
        go_simp
        try with_reducible rfl
      simp only [List.setIfInBounds_toArray, List.set_cons_zero, List.set_cons_succ]
      refine takeD (i := 30) (v := ?_) 101 rfl rfl (by kernel_rfl) (by kernel_rfl) (by kernel_rfl) (fun _ _ _ h => h) (by assumption) (Or.inl ⟨by rfl, ?_⟩) ?_
      rotate_left
      · intro w hSw
        (try dsimp only at hSw)
        go_simp
        try with_reducible rfl
      simp only [List.setIfInBounds_toArray, List.set_cons_zero, List.set_cons_succ]
      refine takeD (i := 31) (v := ?_) 102 rfl rfl (by kernel_rfl) (by kernel_rfl) (by kernel_rfl) (fun _ _ _ h => h) (by assumption) (Or.inl ⟨by rfl, ?_⟩) ?_
      rotate_left
      · intro w hSw
        (try dsimp only at hSw)
        go_simp
        try with_reducible rfl
      simp only [List.setIfInBounds_toArray, List.set_cons_zero, List.set_cons_succ]
      refine takeD (i := 32) (v := ?_) 103 rfl rfl (by kernel_rfl) (by kernel_rfl) (by kernel_rfl) (fun _ _ _ h => h) (by assumption) (Or.inl ⟨by rfl, ?_⟩) ?_
      rotate_left
      · intro w hSw
        (try dsimp only at hSw)
        go_simp
        try with_reducible rfl
      simp only [List.setIfInBounds_toArray, List.set_cons_zero, List.set_cons_succ]
      refine takeD (i := 33) (v := ?_) 104 rfl rfl (by kernel_rfl) (by kernel_rfl) (by kernel_rfl) (fun _ _ _ h => h) (by assumption) (Or.inl ⟨by rfl, ?_⟩) ?_
      rotate_left
      · intro w hSw
        (try dsimp only at hSw)
        go_simp
        try with_reducible rfl
      simp only [List.setIfInBounds_toArray, List.set_cons_zero, List.set_cons_succ]
      refine takeD (i := 34) (v := ?_) 105 rfl rfl (by kernel_rfl) (by kernel_rfl) (by kernel_rfl) (fun _ _ _ h => h) (by assumption) (Or.inl ⟨by rfl, ?_⟩) ?_
      rotate_left
      · intro w hSw
        (try dsimp only at hSw)
        go_simp
        try with_reducible rfl
      simp only [List.setIfInBounds_toArray, List.set_cons_zero, List.set_cons_succ]
      refine takeD (i := 35) (v := ?_) 106 rfl rfl (by kernel_rfl) (by kernel_rfl) (by kernel_rfl) (fun _ _ _ h => h) (by assumption) (Or.inl ⟨by rfl, ?_⟩) ?_
      rotate_left
      · intro w hSw
        (try dsimp only at hSw)
        go_simp
        try with_reducible rfl
      simp only [List.setIfInBounds_toArray, List.set_cons_zero, List.set_cons_succ]
      refine takeD (i := 36) (v := ?_) 4 rfl rfl (by kernel_rfl) (by kernel_rfl) (by kernel_rfl) (fun _ _ _ h => h) (by assumption) (Or.inl ⟨by rfl, ?_⟩) ?_
      rotate_left
      · intro w hSw
        (try dsimp only at hSw)
        go_simp
        try with_reducible rfl
      simp only [List.setIfInBounds_toArray, List.set_cons_zero, List.set_cons_succ]
      refine wpAnyH_done (by kernel_rfl) ?_ _
      go_wp2
      go_ret
      exact ⟨rfl, hHeld.2.2.2.2.2.2.2.2.2.2.2.2⟩

theorem attrFields_true (p n m : Bool) (d : Int) (b : Nat) (hb : b < 256) (w : World) : Calls Try.prog 9 #[fieldV p n d m, .int .u8 b] w fun e w' => e = .returned (.bool true) ∧ Below w.heap.size w w' := by
  by_cases h : d < 0 ∨ 3 < d
  · exact attrFields_no p n m d h b hb w
  · exact attrFields_ok p n m d (by omega) (by omega) b hb w
end Go.Proofs.Ytpnfdmfmdacjmaa
