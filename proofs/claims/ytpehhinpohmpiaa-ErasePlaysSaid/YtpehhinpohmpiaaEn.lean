/-
  The reference's Row.
-/
import Derived.Test.YtpehhinpohmpiaaEm
namespace Go.Proofs.Ytpehhinpohmpiaa
open Go.RowKit Go.Lib Go.Deep

theorem div_next {x C : Int} (hC : 0 < C) : (x % C = C - 1 → ¬ (x + 1) / C = x / C) ∧ (¬ x % C = C - 1 → (x + 1) / C = x / C) := by
  have h1 := Int.emod_add_mul_ediv x C
  have h2 := Int.emod_nonneg x (show C ≠ 0 by omega)
  have h3 := Int.emod_lt_of_pos x hC
  refine ⟨fun h => ?_, fun h => ?_⟩
  · have := (Int.ediv_emod_unique hC (a := x + 1) (q := x / C + 1) (r := 0)).2 ⟨by rw [Int.mul_add, Int.mul_one]; omega, by omega, hC⟩
    rw [this.1]
    omega
  · exact ((Int.ediv_emod_unique hC (a := x + 1) (q := x / C) (r := x % C + 1)).2 ⟨by omega, by omega, by omega⟩).1
section
variable {b g : Nat} {s : Spc}
set_option maxRecDepth 100000 in
set_option maxHeartbeats 8000000 in
theorem rrow_any (n : Int) (hn : I64 n) (w : World) (h : RfM w b g s) : Calls Try.prog 23 #[.pointer (some ⟨b, 0, none⟩), .int .i64 n] w (ListD 3 1 (intsV ((rowS s n).map Int.ofNat)) (rowS s n).length w) := by
  obtain ⟨i0, hi, hz0, hz1, hz2⟩ := info_parts infoI
  have HP := hid (fun W h => rpos_any (b := b) (g := g) (s := s) n hn W h)
  have HH := hid h
  have haN := h.ok.wr_lt n
  have hN := h.ok.pos
  have hpos := ok_pos h.ok.sz
  have hlen := h.ok.len
  obtain ⟨N, hNe⟩ : ∃ N : Nat, s.L.length = N := ⟨_, rfl⟩
  obtain ⟨a, ha⟩ : ∃ a, s.wr n = a := ⟨_, rfl⟩
  obtain ⟨C, hCe⟩ : ∃ C, s.c = C := ⟨_, rfl⟩
  have HX := hid (fun W (hb : Below w.heap.size w W) => (show W.cell? ⟨b, 4, none⟩ = some (.slice (some ⟨g, 0, none⟩) N N) ∧ W.cell? ⟨b, 3, none⟩ = some (.int .i64 C) ∧ ∀ i, i < N → W.cell? ⟨g, i * 6 + 1, none⟩ = some (.bool (s.P i)) from ⟨by rw [← hNe]; exact (h.below hb).h4, by rw [← hCe]; exact (h.below hb).h3, fun i hi => ((h.below hb).row.six i (by rw [hNe]; exact hi) _ rfl).2.1⟩))
  have hC : 0 < C ∧ C ≤ 132 := by rw [← hCe]; exact ⟨by have := h.ok.sz.c1; omega, h.ok.sz.c2⟩
  have hr := row_is s n
  have hrF : rowS s n = rowF s.P N C ((a : Int) / C) N a := by unfold rowS rowL; rw [hNe, ha, hCe]
  rw [ha] at HP haN
  rw [hNe] at haN hN
  rw [hrF]
  generalize s.P = P at HX ⊢
  obtain ⟨rz, hrz⟩ : ∃ rz, (a : Int) / C = rz := ⟨_, rfl⟩
  rw [hrz]
  have HST := hid (rowF_stop P N C rz N a (by omega))
  have HGE := hid (fun k (hk : k < (rowF P N C rz N a).length) => rowF_get P N C rz N a k hk)
  have hKN := rowF_len P N C rz N a
  generalize rowF P N C rz N a = pl at HST HGE hKN ⊢
  obtain ⟨K, hK⟩ : ∃ K, pl.length = K := ⟨_, rfl⟩
  rw [hK] at HST HGE hKN ⊢
  have HPK := hid hK
  have HRZ := hid hrz
  have HIN := hid (fun x : Nat => (show inB P N C rz x = (decide (x < N) && (decide ((x : Int) / C = rz) && !P x)) from rfl))
  clear h hn ha hNe hCe hr hrF hK hpos hlen hrz
  go_enter Try.func23, Try.ntmps23
  go_wp2_with fail
  with_reducible refine (HP.out _ HH.out).mono ?_
  rintro e w1 ⟨rfl, hb1⟩
  have HB1 := hid hb1
  clear hb1
  go_wp2_with fail
  go_loopw [1, 5] (fun i o W => ∃ k x : Nat, Hid (x = a + k) ∧ k ≤ K ∧ i = .int .i64 x ∧ Hid ((x : Int) / C = rz) ∧ Hid (W.ownsRow 0 3 1 o k (intsV ((pl.take k).map Int.ofNat))) ∧ Hid (∀ q ∈ blkV o, w1.heap.size ≤ q) ∧ Hid (Below w1.heap.size w1 W)) (fun i _ _ => N + 1 - (intOf i).toNat)
  case atStart => exact ⟨0, a, rfl, by omega, rfl, HRZ.out, World.ownsRow_nil _ _ _ _, fun q hq => (by cases hq), Below.refl _ _⟩
  case round =>
    obtain ⟨k, x, HXK, hk, rfl, HZ, HR, HBk, HB⟩ := hrel
    obtain ⟨y, cc, rfl⟩ := row_any HR.out
    have HXR := hid (HX.out _ (below_t HB1.out HB.out))
    have c4 := HXR.out.1
    have c3 := HXR.out.2.1
    have hl4 := World.block_lt_of_cell? wr _ c4
    have hxk : x ≤ a + k := Nat.le_of_eq HXK.out
    by_cases hxN : x < N
    · have hxi : (x : Int) < N := by omega
      have cx := HXR.out.2.2 x hxN
      have hlg := World.block_lt_of_cell? wr _ cx
      cases hP : P x
      · rw [hP] at cx
        have hin : inB P N C rz x = true := by
          rw [HIN.out, decide_eq_true hxN, decide_eq_true HZ.out, hP]
          rfl
        have hkK : k < K := by
          by_cases e : k < K
          · exact e
          · have : k = K := by omega
            have q := HST.out
            rw [← this, ← HXK.out, hin] at q
            cases q
        have HTK := hid (take_one pl k x (by rw [HXK.out]; exact (HGE.out k hkK).1))
        have hw1 : IntKind.i64.wrap ((x : Int) + 1) = (x : Int) + 1 := wrapI (i64_small (by omega) (by omega))
        have hwC : IntKind.i64.wrap (C - 1) = C - 1 := wrapI (i64_small (by omega) (by omega))
        have htm : (x : Int).tmod C = (x : Int) % C := Int.tmod_eq_emod_of_nonneg (by omega)
        have hC0 : ¬ C = 0 := by omega
        go_wp2_with (first | (at_builtin; refine wpList_append_blk _ rfl _ _ 37 rfl 3 i0 _ 1 8 Try.underlying37 hi hz0 hz1 hz2 rfl (by decide) _ _ _ rfl (HR.out.alloc _) ⟨wr.heap.size, 0, none⟩ 1 1 [.int .i64 x] rfl rfl (one_new _ _ _ _ (by simp)) (by simp [Value.oneCell']) (by unfold maxLen; omega) (by omega) ?_; intro v' W1 hown' hgrow _ hb'; obtain ⟨g', cap', rfl⟩ := row_any hown'; have H1 := hid hown'; have H2 := hid (show Below w1.heap.size w1 W1 from (HB.out.al (Nat.le_refl _) _).grown hgrow (by have := HB.out.size; simp; omega) (fun q e => HBk.out q (mem_blkV.2 e))); have H3 := hid hb'; clear hown' hgrow hb') | fail)
        have HXW := hid (HX.out _ (below_t HB1.out H2.out)).2.1
        have c3 := HXW.out
        have HDN := hid (div_next (x := (x : Int)) hC.1)
        clear cx hlg c4 hl4
        by_cases hlast : (x : Int) % C = C - 1
        · have htl : (x : Int).tmod C = C - 1 := by rw [htm, hlast]
          refine wp_region_held_drew (S := fun V => V.cell? ⟨b, 3, none⟩ = some (.int .i64 C) ∧ Below W1.heap.size W1 V) (by kernel_rfl) ?_ (fun hHeld => ?_)
          · have hdr : Below W1.heap.size W1 W1.drew := (Below.refl _ _).drew
            exact ⟨keepc hdr c3, hdr⟩
          refine takeD (i := 0) (v := ?_) 33 rfl rfl (by kernel_rfl) (by kernel_rfl) (by kernel_rfl) (fun _ _ _ h => h) (by assumption) (Or.inl ⟨by rfl, ?_⟩) ?_
          rotate_left
          · intro w hSw
            (try dsimp only at hSw)
            go_simp
            try with_reducible rfl
          simp only [List.setIfInBounds_toArray, List.set_cons_zero, List.set_cons_succ]
          refine takeD (i := 1) (v := ?_) 34 rfl rfl (by kernel_rfl) (by kernel_rfl) (by kernel_rfl) (fun _ _ _ h => h) (by assumption) (Or.inl ⟨by rfl, ?_⟩) ?_
          rotate_left
          · intro w hSw
            (try dsimp only at hSw)
            go_simp
            try with_reducible rfl
          simp only [List.setIfInBounds_toArray, List.set_cons_zero, List.set_cons_succ]
          refine takeD (i := 2) (v := ?_) 35 rfl rfl (by kernel_rfl) (by kernel_rfl) (by kernel_rfl) (fun _ _ _ h => h) (by assumption) (Or.inl ⟨by rfl, ?_⟩) ?_
          rotate_left
          · intro w hSw
            (try dsimp only at hSw)
            go_simp
            try with_reducible rfl
          simp only [List.setIfInBounds_toArray, List.set_cons_zero, List.set_cons_succ]
          refine takeD (i := 3) (v := ?_) 36 rfl rfl (by kernel_rfl) (by kernel_rfl) (by kernel_rfl) (fun _ _ _ h => h) (by assumption) (Or.inl ⟨by rfl, ?_⟩) ?_
          rotate_left
          · intro w hSw
            (try dsimp only at hSw)
            go_simp
            try with_reducible rfl
          simp only [List.setIfInBounds_toArray, List.set_cons_zero, List.set_cons_succ]
          refine takeD (i := 4) (v := ?_) 37 rfl rfl (by kernel_rfl) (by kernel_rfl) (by kernel_rfl) (fun _ _ _ h => h) (by assumption) (Or.inl ⟨by rfl, ?_⟩) ?_
          rotate_left
          · intro w hSw
            (try dsimp only at hSw)
            go_simp
            try with_reducible rfl
          simp only [List.setIfInBounds_toArray, List.set_cons_zero, List.set_cons_succ]
          refine takeD (i := 5) (v := ?_) 38 rfl rfl (by kernel_rfl) (by kernel_rfl) (by kernel_rfl) (fun _ _ _ h => h) (by assumption) (Or.inl ⟨by rfl, ?_⟩) ?_
          rotate_left
          · intro w hSw
            (try dsimp only at hSw)
            go_simp
            try with_reducible rfl
          simp only [List.setIfInBounds_toArray, List.set_cons_zero, List.set_cons_succ]
          refine takeD (i := 6) (v := ?_) 39 rfl rfl (by kernel_rfl) (by kernel_rfl) (by kernel_rfl) (fun _ _ _ h => h) (by assumption) (Or.inl ⟨by rfl, ?_⟩) ?_
          rotate_left
          · intro w hSw
            (try dsimp only at hSw)
            go_simp
            try with_reducible rfl
          simp only [List.setIfInBounds_toArray, List.set_cons_zero, List.set_cons_succ]
          refine takeD (i := 7) (v := ?_) 40 rfl rfl (by kernel_rfl) (by kernel_rfl) (by kernel_rfl) (fun _ _ _ h => h) (by assumption) (Or.inl ⟨by rfl, ?_⟩) ?_
          rotate_left
          · intro w hSw
            (try dsimp only at hSw)
            go_simp
            try with_reducible rfl
          simp only [List.setIfInBounds_toArray, List.set_cons_zero, List.set_cons_succ]
          refine takeD (i := 8) (v := ?_) 41 rfl rfl (by kernel_rfl) (by kernel_rfl) (by kernel_rfl) (fun _ _ _ h => h) (by assumption) (Or.inl ⟨by rfl, ?_⟩) ?_
          rotate_left
          · intro w hSw
            (try dsimp only at hSw)
            go_simp
            try with_reducible rfl
          simp only [List.setIfInBounds_toArray, List.set_cons_zero, List.set_cons_succ]
          refine takeD (i := 9) (v := ?_) 42 rfl rfl (by kernel_rfl) (by kernel_rfl) (by kernel_rfl) (fun _ _ _ h => h) (by assumption) (Or.inl ⟨by rfl, ?_⟩) ?_
          rotate_left
          · intro w hSw
            (try dsimp only at hSw)
            go_simp
            try with_reducible rfl
          simp only [List.setIfInBounds_toArray, List.set_cons_zero, List.set_cons_succ]
          refine takeD (i := 10) (v := ?_) 43 rfl rfl (by kernel_rfl) (by kernel_rfl) (by kernel_rfl) (fun _ _ _ h => h) (by assumption) (Or.inl ⟨by rfl, ?_⟩) ?_
          rotate_left
          · intro w hSw
            (try dsimp only at hSw)
            go_simp
            try with_reducible rfl
          simp only [List.setIfInBounds_toArray, List.set_cons_zero, List.set_cons_succ]
          refine takeD (i := 11) (v := ?_) 44 rfl rfl (by kernel_rfl) (by kernel_rfl) (by kernel_rfl) (fun _ _ _ h => h) (by assumption) (Or.inl ⟨by rfl, ?_⟩) ?_
          rotate_left
          · intro w hSw
            (try dsimp only at hSw)
            go_simp
            try with_reducible rfl
          simp only [List.setIfInBounds_toArray, List.set_cons_zero, List.set_cons_succ]
          refine takeD (i := 12) (v := ?_) 45 rfl rfl (by kernel_rfl) (by kernel_rfl) (by kernel_rfl) (fun _ _ _ h => h) (by assumption) (Or.inl ⟨by rfl, ?_⟩) ?_
          rotate_left
          · intro w hSw
            (try dsimp only at hSw)
            go_simp
            try with_reducible rfl
          simp only [List.setIfInBounds_toArray, List.set_cons_zero, List.set_cons_succ]
          refine takeD (i := 13) (v := ?_) 46 rfl rfl (by kernel_rfl) (by kernel_rfl) (by kernel_rfl) (fun _ _ _ h => h) (by assumption) (Or.inl ⟨by rfl, ?_⟩) ?_
          rotate_left
          · intro w hSw
            (try dsimp only at hSw)
            go_simp
            try with_reducible rfl
          simp only [List.setIfInBounds_toArray, List.set_cons_zero, List.set_cons_succ]
          refine wpAnyH_done (by kernel_rfl) ?_ _
          have HE := hid hHeld
          clear hHeld
          have HEB := hid HE.out.2
          have HE2 := hid (H2.out.trans (HE.out.2.mono H2.out.size))
          clear HE
          go_wp2
          go_ret
          have e : k + 1 = K := by
            by_cases e : k + 1 < K
            · have q := (HGE.out (k + 1) e).2
              rw [← Nat.add_assoc, ← HXK.out, HIN.out, decide_eq_false (show ¬ ((x + 1 : Nat) : Int) / C = rz from fun q => HDN.out.1 hlast (by rw [HZ.out, ← q]; push_cast; rfl))] at q
              simp at q
            · omega
          refine ⟨_, rfl, ?_, fun q hq => ?_, below_t HB1.out HE2.out⟩
          · have h1 := own_below H1.out HEB.out
            have e2 : pl = pl.take k ++ [x] := by rw [← HTK.out, List.take_of_length_le (by rw [HPK.out]; omega)]
            rw [e2, List.map_append]
            unfold intsV at h1 ⊢
            rw [List.map_append, ← e]
            exact h1
          · have := HB1.out.size
            rcases H3.out q hq with h | h
            · have := HBk.out q h
              omega
            · have := HB.out.size
              simp at h
              omega
        · have hne : ¬ (x : Int).tmod C = C - 1 := by rw [htm]; exact hlast
          refine wp_region_held_drew (S := fun V => V.cell? ⟨b, 3, none⟩ = some (.int .i64 C) ∧ Below W1.heap.size W1 V) (by kernel_rfl) ?_ (fun hHeld => ?_)
          · have hdr : Below W1.heap.size W1 W1.drew := (Below.refl _ _).drew
            exact ⟨keepc hdr c3, hdr⟩
          refine takeD (i := 0) (v := ?_) 33 rfl rfl (by kernel_rfl) (by kernel_rfl) (by kernel_rfl) (fun _ _ _ h => h) (by assumption) (Or.inl ⟨by rfl, ?_⟩) ?_
          rotate_left
          · intro w hSw
            (try dsimp only at hSw)
            go_simp
            try with_reducible rfl
          simp only [List.setIfInBounds_toArray, List.set_cons_zero, List.set_cons_succ]
          refine takeD (i := 1) (v := ?_) 34 rfl rfl (by kernel_rfl) (by kernel_rfl) (by kernel_rfl) (fun _ _ _ h => h) (by assumption) (Or.inl ⟨by rfl, ?_⟩) ?_
          rotate_left
          · intro w hSw
            (try dsimp only at hSw)
            go_simp
            try with_reducible rfl
          simp only [List.setIfInBounds_toArray, List.set_cons_zero, List.set_cons_succ]
          refine takeD (i := 2) (v := ?_) 35 rfl rfl (by kernel_rfl) (by kernel_rfl) (by kernel_rfl) (fun _ _ _ h => h) (by assumption) (Or.inl ⟨by rfl, ?_⟩) ?_
          rotate_left
          · intro w hSw
            (try dsimp only at hSw)
            go_simp
            try with_reducible rfl
          simp only [List.setIfInBounds_toArray, List.set_cons_zero, List.set_cons_succ]
          refine takeD (i := 3) (v := ?_) 36 rfl rfl (by kernel_rfl) (by kernel_rfl) (by kernel_rfl) (fun _ _ _ h => h) (by assumption) (Or.inl ⟨by rfl, ?_⟩) ?_
          rotate_left
          · intro w hSw
            (try dsimp only at hSw)
            go_simp
            try with_reducible rfl
          simp only [List.setIfInBounds_toArray, List.set_cons_zero, List.set_cons_succ]
          refine takeD (i := 4) (v := ?_) 37 rfl rfl (by kernel_rfl) (by kernel_rfl) (by kernel_rfl) (fun _ _ _ h => h) (by assumption) (Or.inl ⟨by rfl, ?_⟩) ?_
          rotate_left
          · intro w hSw
            (try dsimp only at hSw)
            go_simp
            try with_reducible rfl
          simp only [List.setIfInBounds_toArray, List.set_cons_zero, List.set_cons_succ]
          refine takeD (i := 5) (v := ?_) 38 rfl rfl (by kernel_rfl) (by kernel_rfl) (by kernel_rfl) (fun _ _ _ h => h) (by assumption) (Or.inl ⟨by rfl, ?_⟩) ?_
          rotate_left
          · intro w hSw
            (try dsimp only at hSw)
            go_simp
            try with_reducible rfl
          simp only [List.setIfInBounds_toArray, List.set_cons_zero, List.set_cons_succ]
          refine takeD (i := 6) (v := ?_) 39 rfl rfl (by kernel_rfl) (by kernel_rfl) (by kernel_rfl) (fun _ _ _ h => h) (by assumption) (Or.inl ⟨by rfl, ?_⟩) ?_
          rotate_left
          · intro w hSw
            (try dsimp only at hSw)
            go_simp
            try with_reducible rfl
          simp only [List.setIfInBounds_toArray, List.set_cons_zero, List.set_cons_succ]
          refine takeD (i := 7) (v := ?_) 40 rfl rfl (by kernel_rfl) (by kernel_rfl) (by kernel_rfl) (fun _ _ _ h => h) (by assumption) (Or.inl ⟨by rfl, ?_⟩) ?_
          rotate_left
          · intro w hSw
            (try dsimp only at hSw)
            go_simp
            try with_reducible rfl
          simp only [List.setIfInBounds_toArray, List.set_cons_zero, List.set_cons_succ]
          refine takeD (i := 8) (v := ?_) 41 rfl rfl (by kernel_rfl) (by kernel_rfl) (by kernel_rfl) (fun _ _ _ h => h) (by assumption) (Or.inl ⟨by rfl, ?_⟩) ?_
          rotate_left
          · intro w hSw
            (try dsimp only at hSw)
            go_simp
            try with_reducible rfl
          simp only [List.setIfInBounds_toArray, List.set_cons_zero, List.set_cons_succ]
          refine takeD (i := 9) (v := ?_) 42 rfl rfl (by kernel_rfl) (by kernel_rfl) (by kernel_rfl) (fun _ _ _ h => h) (by assumption) (Or.inl ⟨by rfl, ?_⟩) ?_
          rotate_left
          · intro w hSw
            (try dsimp only at hSw)
            go_simp
            try with_reducible rfl
          simp only [List.setIfInBounds_toArray, List.set_cons_zero, List.set_cons_succ]
          refine takeD (i := 10) (v := ?_) 43 rfl rfl (by kernel_rfl) (by kernel_rfl) (by kernel_rfl) (fun _ _ _ h => h) (by assumption) (Or.inl ⟨by rfl, ?_⟩) ?_
          rotate_left
          · intro w hSw
            (try dsimp only at hSw)
            go_simp
            try with_reducible rfl
          simp only [List.setIfInBounds_toArray, List.set_cons_zero, List.set_cons_succ]
          refine takeD (i := 11) (v := ?_) 44 rfl rfl (by kernel_rfl) (by kernel_rfl) (by kernel_rfl) (fun _ _ _ h => h) (by assumption) (Or.inl ⟨by rfl, ?_⟩) ?_
          rotate_left
          · intro w hSw
            (try dsimp only at hSw)
            go_simp
            try with_reducible rfl
          simp only [List.setIfInBounds_toArray, List.set_cons_zero, List.set_cons_succ]
          refine takeD (i := 12) (v := ?_) 45 rfl rfl (by kernel_rfl) (by kernel_rfl) (by kernel_rfl) (fun _ _ _ h => h) (by assumption) (Or.inl ⟨by rfl, ?_⟩) ?_
          rotate_left
          · intro w hSw
            (try dsimp only at hSw)
            go_simp
            try with_reducible rfl
          simp only [List.setIfInBounds_toArray, List.set_cons_zero, List.set_cons_succ]
          refine takeD (i := 13) (v := ?_) 46 rfl rfl (by kernel_rfl) (by kernel_rfl) (by kernel_rfl) (fun _ _ _ h => h) (by assumption) (Or.inl ⟨by rfl, ?_⟩) ?_
          rotate_left
          · intro w hSw
            (try dsimp only at hSw)
            go_simp
            try with_reducible rfl
          simp only [List.setIfInBounds_toArray, List.set_cons_zero, List.set_cons_succ]
          refine wpAnyH_done (by kernel_rfl) ?_ _
          have HE := hid hHeld
          clear hHeld
          have HEB := hid HE.out.2
          have HE2 := hid (H2.out.trans (HE.out.2.mono H2.out.size))
          clear HE
          go_wp2
          go_roundw
          case rel =>
            refine ⟨k + 1, x + 1, ?_, ?_, by go_num, ?_, ?_, fun q hq => ?_, HE2.out⟩
            · show x + 1 = a + (k + 1)
              have := HXK.out
              omega
            · omega
            · show ((x + 1 : Nat) : Int) / C = rz
              rw [← HZ.out, ← HDN.out.2 hlast]
              push_cast
              rfl
            · have h1 := own_below H1.out HEB.out
              rw [HTK.out, List.map_append]
              unfold intsV at h1 ⊢
              rw [List.map_append]
              exact h1
            · rcases H3.out q hq with h | h
              · exact HBk.out q h
              · have := HB.out.size
                simp at h
                omega
          case measure => simp [intOf]; omega
      · rw [hP] at cx
        have e : k = K := by
          by_cases e : k < K
          · have q := (HGE.out k e).2
            rw [← HXK.out, HIN.out, hP] at q
            simp at q
          · omega
        go_wp2
        go_ret
        subst e
        refine ⟨_, rfl, ?_, fun q hq => Nat.le_trans HB1.out.size (HBk.out q hq), below_t HB1.out HB.out⟩
        have h1 := HR.out
        rw [List.take_of_length_le (by rw [HPK.out]; exact Nat.le_refl _)] at h1
        exact h1
    · have hxi : ¬ (x : Int) < N := by omega
      have e : k = K := by
        by_cases e : k < K
        · have q := (HGE.out k e).2
          rw [← HXK.out, HIN.out, decide_eq_false hxN] at q
          simp at q
        · omega
      go_wp2
      go_ret
      subst e
      refine ⟨_, rfl, ?_, fun q hq => Nat.le_trans HB1.out.size (HBk.out q hq), below_t HB1.out HB.out⟩
      have h1 := HR.out
      rw [List.take_of_length_le (by rw [HPK.out]; exact Nat.le_refl _)] at h1
      exact h1
end
end Go.Proofs.Ytpehhinpohmpiaa
