/-
  The reference's: where fields start; a field; whether one may write there.
  FieldStarts: the reference's Start, Field, Open; the law's own walk.
  The reference's Places.
  The reference's Firsts.
-/
import Derived.Test.YtlhaefgchmakfaaFh
namespace Go.Proofs.Ytlhaefgchmakfaa
open Go.RowKit Go.Lib Go.Deep

theorem attP_last (P : Nat → Bool) : ∀ k, (attP P k = [] ∧ lastP P k = -1) ∨ ∃ a : Nat, 0 < (attP P k).length ∧ (attP P k)[(attP P k).length - 1]? = some a ∧ lastP P k = a
  | 0 => .inl ⟨rfl, rfl⟩
  | k + 1 => by
    rw [attP_succ]
    unfold lastP
    by_cases h : P k = true
    · rw [if_pos h, if_pos h]
      exact .inr ⟨k, by simp, by simp, rfl⟩
    · rw [if_neg h, if_neg h, List.append_nil]
      exact attP_last P k
theorem made1_at (N i : Nat) (hi : i < N) : (madeCells #[Value.int .i64 0] N)[i]? = some (.int .i64 0) := by
  unfold madeCells
  rw [Array.getElem?_map, Array.getElem?_eq_getElem (by simpa using hi)]
  simp only [Array.getElem_range, Option.map_some, List.size_toArray, List.length_cons, List.length_nil]
  rw [Nat.mod_one]
  rfl
/-- A list of ints that is being filled. -/
structure OutI (W : World) (h N q : Nat) (f : Nat → Int) : Prop where
  at_ : ∀ i, i < N → ∃ x, W.cell? ⟨h, i, none⟩ = some (.int .i64 x) ∧ (i < q → x = f i)
  fr : ∀ i, W.frozen? ⟨h, i, none⟩ = false
  lt : h < W.heap.size
theorem OutI.below {A C : World} {h N q : Nat} {f : Nat → Int} (H : OutI A h N q f) (hb : Below A.heap.size A C) : OutI C h N q f :=
  ⟨fun i hi => by obtain ⟨x, h1, h2⟩ := H.at_ i hi; exact ⟨x, keepc hb h1, h2⟩, fun i => (hb.frozen (p := ⟨h, i, none⟩) H.lt).trans (H.fr i), Nat.lt_of_lt_of_le H.lt hb.size⟩
theorem OutI.set {A : World} {h N q : Nat} {f : Nat → Int} (H : OutI A h N q f) (hq : q < N) : OutI (A.setCell ⟨h, q, none⟩ (.int .i64 (f q))) h N (q + 1) f :=
  ⟨fun i hi => by
    obtain ⟨x, h1, h2⟩ := H.at_ i hi
    by_cases e : i = q
    · subst e
      exact ⟨f i, sc_same h1, fun _ => rfl⟩
    · exact ⟨x, (sc_other (fun p => e p.symm)).trans h1, fun p => h2 (by omega)⟩, fun i => by simp [H.fr i], by simpa using H.lt⟩
theorem made_out (w : World) (N : Nat) (t : TypeId) (f : Nat → Int) : OutI (w.alloc (.cells (madeCells #[Value.int .i64 0] N) t)) w.heap.size N 0 f := by
  have hb := World.alloc_heap_new w (.cells (madeCells #[Value.int .i64 0] N) t)
  exact ⟨fun i hi => ⟨0, (cell_of_heap hb).trans (made1_at N i hi), fun p => absurd p (Nat.not_lt_zero _)⟩, fun i => frozen_of_heap hb, by simp⟩
theorem run_make_ints (w : World) (N : Nat) (hN : N ≤ 10000) : (Instr.makeSlice 28 (.int .i64 (N : Int)) (.int .i64 (N : Int))).run Try.prog w = .ok (.slice (some ⟨w.heap.size, 0, none⟩) N N) (w.alloc (.cells (madeCells #[Value.int .i64 0] N) 3)) := by
  obtain ⟨i, hi, hz, hs, hb⟩ := info_parts infoI
  have := run_make (P := Try.prog) w 28 3 i (.int .i64 0) Try.underlying28 hi hz .i64 .i64 (N : Int) (N : Int) (by omega) (Int.le_refl _) (by rw [hb]; omega) (by omega)
  rw [hs] at this
  simpa [Value.cells] using this
def StD (P : Nat → Bool) (N : Nat) (w : World) (e : Ending) (w' : World) : Prop := ∃ h, e = .returned (.slice (some ⟨h, 0, none⟩) N N) ∧ w.heap.size ≤ h ∧ OutI w' h N N (stF P N) ∧ Below w.heap.size w w'
section
variable {b g : Nat} {s : Spc}
set_option maxRecDepth 100000 in
set_option maxHeartbeats 4000000 in
theorem rstarts_any (w : World) (h : RfM w b g s) : Calls Try.prog 44 #[.pointer (some ⟨b, 0, none⟩)] w (StD s.P s.L.length w) := by
  have hN := h.ok.pos
  have hA : s.A.length ≤ 3564 := Nat.le_trans (attP_len _ _) hN.2
  have HRA := hid (rattrs_any b g s w h)
  have HLA := hid (attP_last s.P s.L.length)
  have HH := hid h
  obtain ⟨N, hNe⟩ : ∃ N : Nat, s.L.length = N := ⟨_, rfl⟩
  obtain ⟨NA, hNA⟩ : ∃ NA : Nat, s.A.length = NA := ⟨_, rfl⟩
  have HNE := hid hNe
  have HAE := hid (show s.iA NA = intsV (s.A.map Int.ofNat) ∧ (s.A.map Int.ofNat).length = NA ∧ s.A = attP s.P N by
    refine ⟨by unfold Spc.iA; rw [← hNA, List.take_length], by rw [List.length_map]; exact hNA, by rw [← hNe]; rfl⟩)
  have h4 := h.h4
  rw [hNA] at HRA hA
  rw [hNe] at hN HLA h4 ⊢
  have hmk := fun W => run_make_ints W N (by omega)
  have H4 := hid h4
  have HNA := hid hNA
  clear h hNe hNA h4
  go_enter Try.func44, Try.ntmps44
  go_wp2_with fail
  with_reducible refine HRA.out.mono ?_
  rintro e w1 ⟨v1, rfl, ho1, hk1, hb1⟩
  rw [HAE.out.1] at ho1
  have hoc := ints_cells (xs := s.A.map Int.ofNat) (by rw [HAE.out.2.1]; exact ho1)
  rw [HAE.out.2.1] at hoc
  have HB1 := hid hb1
  have c4 := keepc hb1 H4.out
  have hl4 := World.block_lt_of_cell? w1 _ c4
  clear ho1 hk1 hb1
  obtain ⟨W0, hW0⟩ : ∃ W0, w1.alloc (.cells (madeCells #[Value.int .i64 0] N) 3) = W0 := ⟨_, rfl⟩
  have HW0 := hid hW0
  have HO0 := hid (show OutI W0 w1.heap.size N 0 (stF s.P N) by rw [← hW0]; exact made_out w1 N _ _)
  have HB0 := hid (show Below w.heap.size w W0 from below_t HB1.out (by rw [← hW0]; exact bal (Below.refl _ _) _))
  have c40 : W0.cell? ⟨b, 4, none⟩ = some (.slice (some ⟨g, 0, none⟩) N N) := by rw [← hW0]; exact keepc (bal (Below.refl _ _) _) c4
  have hl40 := World.block_lt_of_cell? W0 _ c40
  clear hW0
  rcases hoc with ⟨x, c, rfl, hx⟩ | ⟨gg, c, rfl, hc⟩
  · have hNA0 : NA = 0 := by rw [← HAE.out.2.1, hx]; rfl
    have HLP := hid (show lastP s.P N = -1 by
      rcases HLA.out with ⟨_, h2⟩ | ⟨a, h1, _, _⟩
      · exact h2
      · rw [← HAE.out.2.2] at h1
        have := HNA.out
        omega)
    clear hx HLA
    subst hNA0
    go_wp2_with fail
    simp only [HW0.out]
    go_loopw [30, 5] (fun i l W => ∃ q : Nat, q ≤ N ∧ i = .int .i64 q ∧ (∃ lz : Int, l = .int .i64 lz ∧ Hid (lz = if 0 ≤ lastP s.P q then lastP s.P q else lastP s.P N)) ∧ Hid (Below w.heap.size w W) ∧ Hid (OutI W w1.heap.size N q (stF s.P N))) (fun i _ _ => N - (intOf i).toNat)
    case atStart => exact ⟨0, by omega, rfl, ⟨_, rfl, by rw [if_neg (by show ¬ (0 : Int) ≤ -1; omega), HLP.out]; exact rfl⟩, HB0.out, HO0.out⟩
    case round =>
      clear HB0 HO0
      obtain ⟨q, hq, rfl, ⟨lz, rfl, HLZ⟩, HB, HO⟩ := hrel
      by_cases hqN : q < N
      · have hqi : (q : Int) < N := by omega
        obtain ⟨c, hc⟩ : ∃ c, s.cel q = c := ⟨_, rfl⟩
        obtain ⟨a0, a1, a2, a3, a4, a5⟩ := (HH.out.below HB.out).row.six q (by rw [HNE.out]; exact hqN) c hc
        have hlg' := World.block_lt_of_cell? wr _ a0
        have HC := hid (show s.P q = c.at_ by unfold Spc.P; rw [hc])
        clear hc
        obtain ⟨x0, x1, x2, x3, x4, x5⟩ := c
        dsimp only at HC a0 a1 a2 a3 a4 a5
        obtain ⟨xo, ho, -⟩ := HO.out.at_ q hqN
        have fo := HO.out.fr q
        have hlo := HO.out.lt
        have hLQ : lastP s.P (q + 1) = if s.P q then (q : Int) else lastP s.P q := rfl
        have hst : stF s.P N q = if 0 ≤ lastP s.P (q + 1) then lastP s.P (q + 1) else lastP s.P N := rfl
        rw [HC.out] at hLQ
        cases x1
        · rw [if_neg (by simp)] at hLQ
          have HE := hid (show stF s.P N q = (if 0 ≤ lastP s.P q then lastP s.P q else lastP s.P N) by rw [hst, hLQ])
          have HL2 := hid hLQ
          rw [← HLZ.out] at HE
          clear hLQ hst
          have HO3 := hid (HO.out.set hqN)
          rw [HE.out] at HO3
          go_wp2
          go_roundw
          case rel => exact ⟨q + 1, by omega, by go_num, ⟨_, rfl, by rw [HL2.out]; exact HLZ.out⟩, bal (HB.out.sc _ _ _ HB1.out.size) _, HO3.out.below (bal (Below.refl _ _) _)⟩
          case measure => simp [intOf]; omega
        · rw [if_pos rfl] at hLQ
          have HE := hid (show stF s.P N q = (q : Int) by rw [hst, hLQ, if_pos (by omega)])
          have HL2 := hid hLQ
          clear hLQ hst
          have HO3 := hid (HO.out.set hqN)
          rw [HE.out] at HO3
          go_wp2
          go_roundw
          case rel => exact ⟨q + 1, by omega, by go_num, ⟨_, rfl, by rw [HL2.out, if_pos (by omega)]; exact rfl⟩, bal (HB.out.sc _ _ _ HB1.out.size) _, HO3.out.below (bal (Below.refl _ _) _)⟩
          case measure => simp [intOf]; omega
      · obtain rfl : q = N := by omega
        go_wp2
        exact bodyPost_ret (v := .slice (some ⟨w1.heap.size, 0, none⟩) q q) (by simp [results, Try.results44, go_sem]) rfl ⟨w1.heap.size, rfl, HB1.out.size, HO.out, HB.out⟩
  · by_cases hNA0 : NA = 0
    · have HLP := hid (show lastP s.P N = -1 by
        rcases HLA.out with ⟨_, h2⟩ | ⟨a, h1, _, _⟩
        · exact h2
        · rw [← HAE.out.2.2] at h1
          have := HNA.out
          omega)
      clear HLA hc
      subst hNA0
      go_wp2_with fail
      simp only [HW0.out]
      go_loopw [30, 5] (fun i l W => ∃ q : Nat, q ≤ N ∧ i = .int .i64 q ∧ (∃ lz : Int, l = .int .i64 lz ∧ Hid (lz = if 0 ≤ lastP s.P q then lastP s.P q else lastP s.P N)) ∧ Hid (Below w.heap.size w W) ∧ Hid (OutI W w1.heap.size N q (stF s.P N))) (fun i _ _ => N - (intOf i).toNat)
      case atStart => exact ⟨0, by omega, rfl, ⟨_, rfl, by rw [if_neg (by show ¬ (0 : Int) ≤ -1; omega), HLP.out]; exact rfl⟩, HB0.out, HO0.out⟩
      case round =>
        clear HB0 HO0
        obtain ⟨q, hq, rfl, ⟨lz, rfl, HLZ⟩, HB, HO⟩ := hrel
        by_cases hqN : q < N
        · have hqi : (q : Int) < N := by omega
          obtain ⟨c, hc⟩ : ∃ c, s.cel q = c := ⟨_, rfl⟩
          obtain ⟨a0, a1, a2, a3, a4, a5⟩ := (HH.out.below HB.out).row.six q (by rw [HNE.out]; exact hqN) c hc
          have hlg' := World.block_lt_of_cell? wr _ a0
          have HC := hid (show s.P q = c.at_ by unfold Spc.P; rw [hc])
          clear hc
          obtain ⟨x0, x1, x2, x3, x4, x5⟩ := c
          dsimp only at HC a0 a1 a2 a3 a4 a5
          obtain ⟨xo, ho, -⟩ := HO.out.at_ q hqN
          have fo := HO.out.fr q
          have hlo := HO.out.lt
          have hLQ : lastP s.P (q + 1) = if s.P q then (q : Int) else lastP s.P q := rfl
          have hst : stF s.P N q = if 0 ≤ lastP s.P (q + 1) then lastP s.P (q + 1) else lastP s.P N := rfl
          rw [HC.out] at hLQ
          cases x1
          · rw [if_neg (by simp)] at hLQ
            have HE := hid (show stF s.P N q = (if 0 ≤ lastP s.P q then lastP s.P q else lastP s.P N) by rw [hst, hLQ])
            have HL2 := hid hLQ
            rw [← HLZ.out] at HE
            clear hLQ hst
            have HO3 := hid (HO.out.set hqN)
            rw [HE.out] at HO3
            go_wp2
            go_roundw
            case rel => exact ⟨q + 1, by omega, by go_num, ⟨_, rfl, by rw [HL2.out]; exact HLZ.out⟩, bal (HB.out.sc _ _ _ HB1.out.size) _, HO3.out.below (bal (Below.refl _ _) _)⟩
            case measure => simp [intOf]; omega
          · rw [if_pos rfl] at hLQ
            have HE := hid (show stF s.P N q = (q : Int) by rw [hst, hLQ, if_pos (by omega)])
            have HL2 := hid hLQ
            clear hLQ hst
            have HO3 := hid (HO.out.set hqN)
            rw [HE.out] at HO3
            go_wp2
            go_roundw
            case rel => exact ⟨q + 1, by omega, by go_num, ⟨_, rfl, by rw [HL2.out, if_pos (by omega)]; exact rfl⟩, bal (HB.out.sc _ _ _ HB1.out.size) _, HO3.out.below (bal (Below.refl _ _) _)⟩
            case measure => simp [intOf]; omega
        · obtain rfl : q = N := by omega
          go_wp2
          exact bodyPost_ret (v := .slice (some ⟨w1.heap.size, 0, none⟩) q q) (by simp [results, Try.results44, go_sem]) rfl ⟨w1.heap.size, rfl, HB1.out.size, HO.out, HB.out⟩
    · obtain ⟨a, hla, hca⟩ : ∃ a : Nat, lastP s.P N = a ∧ w1.cell? ⟨gg, NA - 1, none⟩ = some (.int .i64 a) := by
        rcases HLA.out with ⟨h1, _⟩ | ⟨a, h1, h2, h3⟩
        · rw [← HAE.out.2.2] at h1
          have := HNA.out
          rw [h1] at this
          exact absurd this.symm hNA0
        · refine ⟨a, h3, ?_⟩
          have q := hc (NA - 1) (by omega)
          rw [Nat.zero_add] at q
          refine q.trans ?_
          rw [← HAE.out.2.2, HNA.out] at h2
          rw [List.getD, List.getElem?_map, h2]
          rfl
      have HLP := hid hla
      have hlg := World.block_lt_of_cell? w1 _ hca
      have hw1 : IntKind.i64.wrap ((NA : Int) - 1) = ((NA - 1 : Nat) : Int) := by rw [show (NA : Int) - 1 = ((NA - 1 : Nat) : Int) by omega]; exact wrapI (i64_small (by omega) (by omega))
      have hnp : (0 : Int) < NA := by omega
      have hnn : ((NA - 1 : Nat) : Int) < NA := by omega
      obtain ⟨n1, hn1⟩ : ∃ n1, NA - 1 = n1 := ⟨_, rfl⟩
      rw [hn1] at hca hw1 hnn
      clear HLA hc hla hn1
      go_wp2_with fail
      try simp only [HW0.out]
      go_loopw [30, 5] (fun i l W => ∃ q : Nat, q ≤ N ∧ i = .int .i64 q ∧ (∃ lz : Int, l = .int .i64 lz ∧ Hid (lz = if 0 ≤ lastP s.P q then lastP s.P q else lastP s.P N)) ∧ Hid (Below w.heap.size w W) ∧ Hid (OutI W w1.heap.size N q (stF s.P N))) (fun i _ _ => N - (intOf i).toNat)
      case atStart => exact ⟨0, by omega, rfl, ⟨_, rfl, by rw [if_neg (by show ¬ (0 : Int) ≤ -1; omega), HLP.out]; exact rfl⟩, HB0.out, HO0.out⟩
      case round =>
        clear HB0 HO0
        obtain ⟨q, hq, rfl, ⟨lz, rfl, HLZ⟩, HB, HO⟩ := hrel
        by_cases hqN : q < N
        · have hqi : (q : Int) < N := by omega
          obtain ⟨c, hc⟩ : ∃ c, s.cel q = c := ⟨_, rfl⟩
          obtain ⟨a0, a1, a2, a3, a4, a5⟩ := (HH.out.below HB.out).row.six q (by rw [HNE.out]; exact hqN) c hc
          have hlg' := World.block_lt_of_cell? wr _ a0
          have HC := hid (show s.P q = c.at_ by unfold Spc.P; rw [hc])
          clear hc
          obtain ⟨x0, x1, x2, x3, x4, x5⟩ := c
          dsimp only at HC a0 a1 a2 a3 a4 a5
          obtain ⟨xo, ho, -⟩ := HO.out.at_ q hqN
          have fo := HO.out.fr q
          have hlo := HO.out.lt
          have hLQ : lastP s.P (q + 1) = if s.P q then (q : Int) else lastP s.P q := rfl
          have hst : stF s.P N q = if 0 ≤ lastP s.P (q + 1) then lastP s.P (q + 1) else lastP s.P N := rfl
          rw [HC.out] at hLQ
          cases x1
          · rw [if_neg (by simp)] at hLQ
            have HE := hid (show stF s.P N q = (if 0 ≤ lastP s.P q then lastP s.P q else lastP s.P N) by rw [hst, hLQ])
            have HL2 := hid hLQ
            rw [← HLZ.out] at HE
            clear hLQ hst
            have HO3 := hid (HO.out.set hqN)
            rw [HE.out] at HO3
            go_wp2
            go_roundw
            case rel => exact ⟨q + 1, by omega, by go_num, ⟨_, rfl, by rw [HL2.out]; exact HLZ.out⟩, bal (HB.out.sc _ _ _ HB1.out.size) _, HO3.out.below (bal (Below.refl _ _) _)⟩
            case measure => simp [intOf]; omega
          · rw [if_pos rfl] at hLQ
            have HE := hid (show stF s.P N q = (q : Int) by rw [hst, hLQ, if_pos (by omega)])
            have HL2 := hid hLQ
            clear hLQ hst
            have HO3 := hid (HO.out.set hqN)
            rw [HE.out] at HO3
            go_wp2
            go_roundw
            case rel => exact ⟨q + 1, by omega, by go_num, ⟨_, rfl, by rw [HL2.out, if_pos (by omega)]; exact rfl⟩, bal (HB.out.sc _ _ _ HB1.out.size) _, HO3.out.below (bal (Below.refl _ _) _)⟩
            case measure => simp [intOf]; omega
        · obtain rfl : q = N := by omega
          go_wp2
          exact bodyPost_ret (v := .slice (some ⟨w1.heap.size, 0, none⟩) q q) (by simp [results, Try.results44, go_sem]) rfl ⟨w1.heap.size, rfl, HB1.out.size, HO.out, HB.out⟩
end
end Go.Proofs.Ytlhaefgchmakfaa
namespace Go.Proofs.Ytlhaefgchmakfaa
open Go.RowKit Go.Lib Go.Deep

theorem rattf0 (p n m : Bool) (d : Int) (w : World) : (Instr.field 43 (.agg #[.bool p, .bool n, .int .i64 d, .bool m]) 0).run Try.prog w = .ok (.bool p) w := by kernel_rfl
section
variable {b g : Nat} {s : Spc}
set_option maxRecDepth 100000 in
set_option maxHeartbeats 8000000 in
theorem rfield_any (a : Nat) (ha : a < s.L.length) (w : World) (h : RfM w b g s) : Calls Try.prog 14 #[.pointer (some ⟨b, 0, none⟩), .int .i64 a] w fun e w' => e = .returned (s.cel a).fv ∧ Below w.heap.size w w' := by
  have hN := h.ok.pos
  have h4 := h.h4
  have hlt := h.lt.1
  have hgt := h.lt.2
  have HOF := hid (fun W => rof_cel (s.cel a) (h.ok.cel a) W)
  obtain ⟨a0, a1, a2, a3, a4, a5⟩ := h.row.six a ha _ rfl
  have e0 : s.L.getD a cel0 = s.cel a := rfl
  rw [e0] at a0 a1 a2 a3 a4 a5
  have hai : (a : Int) < s.L.length := by omega
  obtain ⟨fp, fn, fd, fm, hf⟩ : ∃ p n d m, (s.cel a).fv = .agg #[.bool p, .bool n, .int .i64 d, .bool m] := ⟨_, _, _, _, rfl⟩
  rw [hf] at HOF ⊢
  generalize s.cel a = c at HOF a0 a1 a2 a3 a4 a5
  generalize s.L.length = N at h4 hai hN
  clear h ha hf e0
  go_enter Try.func14, Try.ntmps14
  go_wp2_with fail
  with_reducible refine (HOF.out _).mono ?_
  rintro e w1 ⟨rfl, hb1⟩
  obtain ⟨⟨c0, c1, c2, c3⟩, ⟨f0, f1, f2, f3⟩, hs⟩ := box4 hb1
  have HB1 := hid (blw hb1)
  clear hb1 HOF
  go_wp2
  exact bodyPost_ret (v := .agg #[.bool fp, .bool fn, .int .i64 fd, .bool fm]) (by simp [results, Try.results14, go_sem, c0, c1, c2, c3]) rfl ⟨rfl, ((((HB1.out.sc _ _ _ (Nat.le_refl _)).sc _ _ _ (Nat.le_refl _)).sc _ _ _ (Nat.le_refl _)).sc _ _ _ (Nat.le_refl _))⟩
end
end Go.Proofs.Ytlhaefgchmakfaa
namespace Go.Proofs.Ytlhaefgchmakfaa
open Go.RowKit Go.Lib Go.Deep

theorem modN {x N : Nat} (h : x < 2 * N) : x % N = if x < N then x else x - N := by
  by_cases e : x < N
  · rw [if_pos e, Nat.mod_eq_of_lt e]
  · rw [if_neg e, Nat.mod_eq_sub_mod (by omega), Nat.mod_eq_of_lt (by omega)]
/-- The field of a place that lies so far behind an attribute. -/
theorem stF_pl {P : Nat → Bool} {N a k : Nat} (ha : a < N) (hp : P a = true) (hk : k + 1 < N) (h : ∀ j, j ≤ k → P ((a + 1 + j) % N) = false) : stF P N ((a + 1 + k) % N) = (a : Int) := by
  have hb : ∀ j, j ≤ k → bk N ((a + 1 + k) % N) j = (a + 1 + (k - j)) % N := fun j hj => by
    rw [modN (by omega), modN (by omega)]
    unfold bk
    split <;> split <;> split <;> omega
  have hl : bk N ((a + 1 + k) % N) (k + 1) = a := by
    rw [modN (by omega)]
    unfold bk
    split <;> split <;> omega
  have := stF_found (P := P) (N := N) (p := (a + 1 + k) % N) (q := k + 1) hk (fun j hj => by rw [hb j (by omega)]; exact h _ (by omega)) (by rw [hl]; exact hp)
  rw [this, hl]
theorem stF_self {P : Nat → Bool} {N p : Nat} (hN : 0 < N) (h : P p = true) : stF P N p = (p : Int) := by
  have e : bk N p 0 = p := by unfold bk; rw [if_pos (Nat.zero_le _)]; omega
  have := stF_found (P := P) (N := N) (p := p) (q := 0) hN (fun j hj => absurd hj (Nat.not_lt_zero _)) (by rw [e]; exact h)
  rw [this, e]
section
variable {b g : Nat} {s : Spc}
set_option maxRecDepth 100000 in
set_option maxHeartbeats 8000000 in
theorem rplaces_any (n : Int) (hn : I64 n) (w : World) (h : RfM w b g s) : Calls Try.prog 16 #[.pointer (some ⟨b, 0, none⟩), .int .i64 n] w (ListD 3 1 (intsV ((plL s.P s.L.length (s.wr n)).map Int.ofNat)) (plL s.P s.L.length (s.wr n)).length w) := by
  obtain ⟨i0, hi, hz0, hz1, hz2⟩ := info_parts infoI
  have HP := hid (fun W h => rpos_any (b := b) (g := g) (s := s) n hn W h)
  have HS := hid (fun W h => rstarts_any (b := b) (g := g) (s := s) W h)
  have HH := hid h
  have haN := h.ok.wr_lt n
  have hN := h.ok.pos
  obtain ⟨N, hNe⟩ : ∃ N : Nat, s.L.length = N := ⟨_, rfl⟩
  obtain ⟨a, ha⟩ : ∃ a, s.wr n = a := ⟨_, rfl⟩
  have HX := hid (fun W (hb : Below w.heap.size w W) => (show W.cell? ⟨b, 4, none⟩ = some (.slice (some ⟨g, 0, none⟩) N N) ∧ W.cell? ⟨g, a * 6 + 1, none⟩ = some (.bool (s.P a)) from ⟨by rw [← hNe]; exact (h.below hb).h4, ((h.below hb).row.six a (by rw [← ha]; exact haN) _ rfl).2.1⟩))
  rw [ha] at HP haN ⊢
  rw [hNe] at HS haN hN ⊢
  generalize s.P = P at HS HX ⊢
  have hai : (a : Int) < N := by omega
  clear h hn ha hNe
  obtain ⟨pa, hpa⟩ : ∃ pa, P a = pa := ⟨_, rfl⟩
  cases pa
  · have HE := hid (show plL P N a = [] by unfold plL; rw [hpa]; rfl)
    rw [hpa] at HX
    go_enter Try.func16, Try.ntmps16
    go_wp2_with fail
    with_reducible refine (HP.out _ HH.out).mono ?_
    rintro e w1 ⟨rfl, hb1⟩
    obtain ⟨x4, xa⟩ := HX.out _ hb1
    have hl4 := World.block_lt_of_cell? w1 _ x4
    have hlg := World.block_lt_of_cell? w1 _ xa
    have HB1 := hid hb1
    clear hb1
    go_wp2
    go_ret
    exact ⟨_, rfl, by rw [HE.out]; exact World.ownsRow_nil _ _ _ _, fun q hq => (by cases hq), HB1.out⟩
  · obtain ⟨pl, hpl⟩ : ∃ pl, plF P N a (N - 1) 0 = pl := ⟨_, rfl⟩
    have HE := hid (show plL P N a = pl by unfold plL; rw [hpa, if_pos rfl, hpl])
    obtain ⟨K, hK⟩ : ∃ K, pl.length = K := ⟨_, rfl⟩
    have hKN : K ≤ N - 1 := by rw [← hK, ← hpl]; exact plF_len P N a (N - 1) 0
    have HPL := hid hpl
    have HPK := hid hK
    have HPA := hid hpa
    rw [hpa] at HX
    rw [HE.out, hK]
    clear hpl hK hpa
    go_enter Try.func16, Try.ntmps16
    go_wp2_with fail
    with_reducible refine (HP.out _ HH.out).mono ?_
    rintro e w1 ⟨rfl, hb1⟩
    obtain ⟨x4, xa⟩ := HX.out _ hb1
    have hl4 := World.block_lt_of_cell? w1 _ x4
    have hlg := World.block_lt_of_cell? w1 _ xa
    have HB1 := hid hb1
    clear hb1
    go_wp2_with fail
    with_reducible refine (HS.out _ (HH.out.below HB1.out)).mono ?_
    rintro e w2 ⟨hh, rfl, hg, ho, hb2⟩
    have HO := hid ho
    have HB2 := hid (below_t HB1.out hb2)
    have H4 := hid (HX.out _ HB2.out).1
    clear hg ho hb2 x4 xa hl4 hlg
    go_wp2_with fail
    go_loopw [6, 7] (fun o i W => ∃ k : Nat, k ≤ K ∧ i = .int .i64 ((k : Int) + 1) ∧ Hid (W.ownsRow 0 3 1 o k (intsV ((pl.take k).map Int.ofNat))) ∧ Hid (∀ q ∈ blkV o, w2.heap.size ≤ q) ∧ Hid (Below w2.heap.size w2 W)) (fun _ i _ => N - (intOf i).toNat)
    case atStart => exact ⟨0, by omega, rfl, World.ownsRow_nil _ _ _ _, fun q hq => (by cases hq), Below.refl _ _⟩
    case round =>
      obtain ⟨k, hk, rfl, HR, HBk, HB⟩ := hrel
      obtain ⟨y, cc, rfl⟩ := row_any HR.out
      have c4 := keepc HB.out H4.out
      have hl4 := World.block_lt_of_cell? wr _ c4
      by_cases hkN : k + 1 < N
      · have hki : (k : Int) + 1 < N := by omega
        have hwa : IntKind.i64.wrap ((a : Int) + ((k : Int) + 1)) = (a : Int) + ((k : Int) + 1) := wrapI (i64_small (by omega) (by omega))
        obtain ⟨n, hn⟩ : ∃ n, (a + 1 + k) % N = n := ⟨_, rfl⟩
        have hnN : n < N := by rw [← hn]; exact Nat.mod_lt _ (by omega)
        have hni : (n : Int) < N := by omega
        have HMD := hid (fun W => (show Calls Try.prog 45 #[.int .i64 ((a : Int) + ((k : Int) + 1)), .int .i64 N] W fun e w' => e = .returned (.int .i64 n) ∧ W = w' from by
          have q := mod_any ((a : Int) + ((k : Int) + 1)) N (i64_small (by omega) (by omega)) (by omega) (by omega) W
          rwa [show ((a : Int) + ((k : Int) + 1)) % (N : Int) = (n : Int) by rw [← hn, show (a : Int) + ((k : Int) + 1) = ((a + 1 + k : Nat) : Int) by push_cast; omega, ← Int.natCast_emod]] at q))
        obtain ⟨xo, ho, hxe⟩ := (HO.out.below HB.out).at_ n hnN
        have HXO := hid (hxe hnN)
        have hlo := World.block_lt_of_cell? wr _ ho
        have HNE := hid hn
        clear hxe hn
        have hall : ∀ j, j < k → P ((a + 1 + j) % N) = false := fun j hj => by
          have := (plF_get P N a (N - 1) 0 j (by rw [HPL.out, HPK.out]; omega)).2
          rwa [Nat.zero_add] at this
        by_cases hkK : k < K
        · have q := plF_get P N a (N - 1) 0 k (by rw [HPL.out, HPK.out]; exact hkK)
          rw [Nat.zero_add, HNE.out] at q
          have hst := stF_pl haN HPA.out hkN (fun j hj => by
            by_cases e : j = k
            · rw [e, HNE.out]; exact q.2
            · exact hall j (by omega))
          rw [HNE.out] at hst
          rw [hst] at HXO
          obtain rfl := HXO.out
          have HTK := hid (take_one pl k n (by rw [← HPL.out]; exact q.1))
          clear q hst hall
          go_wp2_with fail
          try simp only [hwa]
          with_reducible refine (HMD.out _).mono ?_
          rintro e w' ⟨rfl, rfl⟩
          go_wp2_with (first | (at_builtin; refine wpList_append_blk _ rfl _ _ 28 rfl 3 i0 _ 1 8 Try.underlying28 hi hz0 hz1 hz2 rfl (by decide) _ _ _ rfl (HR.out.alloc _) ⟨wr.heap.size, 0, none⟩ 1 1 [.int .i64 n] rfl rfl (one_new _ _ _ _ (by simp)) (by simp [Value.oneCell']) (by unfold maxLen; omega) (by omega) ?_; intro v' W1 hown' hgrow _ hb'; obtain ⟨g', cap', rfl⟩ := row_any hown'; have H1 := hid hown'; have H2 := hid hgrow; have H3 := hid hb'; clear hown' hgrow hb') | fail)
          go_roundw
          case rel =>
            refine ⟨k + 1, by omega, by go_num, ?_, fun q hq => ?_, ?_⟩
            · have h1 := H1.out
              rw [HTK.out, List.map_append]
              unfold intsV at h1 ⊢
              rw [List.map_append]
              exact h1
            · rcases H3.out q hq with h | h
              · exact HBk.out q h
              · have := HB.out.size
                simp at h
                omega
            · exact (HB.out.al (Nat.le_refl _) _).grown H2.out (by have := HB.out.size; simp; omega) (fun q e => HBk.out q (mem_blkV.2 e))
          case measure => simp [intOf]; omega
        · obtain rfl : k = K := by omega
          have hpn : P n = true := by
            have := plF_stop P N a (N - 1) 0 (by rw [HPL.out, HPK.out]; omega)
            rwa [HPL.out, HPK.out, Nat.zero_add, HNE.out] at this
          have hna : ¬ ((n : Int) = (a : Int)) := by
            have := HNE.out
            rw [modN (by omega)] at this
            split at this <;> omega
          rw [stF_self (by omega) hpn] at HXO
          obtain rfl := HXO.out
          clear hall hpn
          go_wp2_with fail
          try simp only [hwa]
          with_reducible refine (HMD.out _).mono ?_
          rintro e w' ⟨rfl, rfl⟩
          go_wp2
          go_ret
          exact ⟨_, rfl, by have := HR.out; rwa [← HPK.out, List.take_length, HPK.out] at this, fun q hq => Nat.le_trans HB2.out.size (HBk.out q hq), below_t HB2.out HB.out⟩
      · have hki : ¬ (k : Int) + 1 < N := by omega
        obtain rfl : k = K := by omega
        go_wp2
        go_ret
        exact ⟨_, rfl, by have := HR.out; rwa [← HPK.out, List.take_length, HPK.out] at this, fun q hq => Nat.le_trans HB2.out.size (HBk.out q hq), below_t HB2.out HB.out⟩
end
end Go.Proofs.Ytlhaefgchmakfaa
namespace Go.Proofs.Ytlhaefgchmakfaa
open Go.RowKit Go.Lib Go.Deep

/-- Has the field of that attribute a first place, unprotected? -/
def goodA (s : Spc) (a : Nat) : Bool := !(s.cel a).prot && !s.P ((a + 1) % s.L.length)
/-- The first places, of some attributes. -/
def flS (s : Spc) (l : List Nat) : List Nat := (l.filter (goodA s)).map (fun a => (a + 1) % s.L.length)
def firL (s : Spc) : List Nat := flS s s.A
theorem flS_add (s : Spc) (l : List Nat) (a : Nat) : flS s (l ++ [a]) = flS s l ++ (if goodA s a then [(a + 1) % s.L.length] else []) := by
  unfold flS
  rw [List.filter_append, List.map_append]
  congr 1
  cases h : goodA s a <;> simp [h]
theorem flS_len (s : Spc) (l : List Nat) : (flS s l).length ≤ l.length := by
  unfold flS
  rw [List.length_map]
  exact List.length_filter_le _ _
theorem attP_mem {P : Nat → Bool} {N a : Nat} (h : a ∈ attP P N) : a < N ∧ P a = true := by
  unfold attP at h
  simpa using h
theorem big_len {s : Spc} (h : s.OK) : 1920 ≤ s.L.length := by
  have h1 := h.len
  have h2 : (1920 : Int) ≤ s.r * s.c := by
    unfold Spc.r Spc.c rowsZ colsZ
    have := h.m1
    have := h.m2
    cases s.alt
    · simp
    · have : s.mo = 2 ∨ s.mo = 3 ∨ s.mo = 4 ∨ s.mo = 5 := by omega
      rcases this with e | e | e | e <;> rw [e] <;> decide
  omega
section
variable {b g : Nat} {s : Spc}
end
end Go.Proofs.Ytlhaefgchmakfaa
