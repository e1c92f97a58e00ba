/-
  The reference's Firsts.
-/
import Derived.Test.YtdaainifnbbhiaaZu
namespace Go.Proofs.Ytdaainifnbbhiaa
open Go.RowKit Go.Lib Go.Deep

/-- Has the field of that attribute a first place, unprotected? -/
def goodA (s : Spc) (a : Nat) : Bool := !(s.cel a).prot && !s.P ((a + 1) % s.L.length)
/-- The first places, of some attributes. -/
def flS (s : Spc) (l : List Nat) : List Nat := (l.filter (goodA s)).map (fun a => (a + 1) % s.L.length)
def firL (s : Spc) : List Nat := flS s s.A
theorem flS_add (s : Spc) (l : List Nat) (a : Nat) : flS s (l ++ [a]) = flS s l ++ (if goodA s a then [(a + 1) % s.L.length] else []) := by
  unfold flS
  rw [List.filter_append, List.map_append]
  congr 1
  cases h : goodA s a <;> simp [h]
theorem flS_len (s : Spc) (l : List Nat) : (flS s l).length ≤ l.length := by
  unfold flS
  rw [List.length_map]
  exact List.length_filter_le _ _
theorem attP_mem {P : Nat → Bool} {N a : Nat} (h : a ∈ attP P N) : a < N ∧ P a = true := by
  unfold attP at h
  simpa using h
theorem big_len {s : Spc} (h : s.OK) : 1920 ≤ s.L.length := by
  have h1 := h.len
  have h2 : (1920 : Int) ≤ s.r * s.c := by
    unfold Spc.r Spc.c rowsZ colsZ
    have := h.m1
    have := h.m2
    cases s.alt
    · simp
    · have : s.mo = 2 ∨ s.mo = 3 ∨ s.mo = 4 ∨ s.mo = 5 := by omega
      rcases this with e | e | e | e <;> rw [e] <;> decide
  omega
section
variable {b g : Nat} {s : Spc}
set_option maxRecDepth 100000 in
set_option maxHeartbeats 8000000 in
theorem rfirsts_any (w : World) (h : RfM w b g s) : Calls Try.prog 86 #[.pointer (some ⟨b, 0, none⟩)] w (ListD 3 1 (intsV ((firL s).map Int.ofNat)) (firL s).length w) := by
  obtain ⟨i0, hi, hz0, hz1, hz2⟩ := info_parts infoI
  have hN := h.ok.pos
  have HRA := hid (rattrs_any b g s w h)
  have HH := hid h
  have HPL := hid (fun (a : Nat) (ha : a < s.L.length) W h => (show Calls Try.prog 50 #[.pointer (some ⟨b, 0, none⟩), .int .i64 a] W (ListD 3 1 (intsV ((plL s.P s.L.length a).map Int.ofNat)) (plL s.P s.L.length a).length W) from by
    have q := rplaces_any (b := b) (g := g) (s := s) (a : Int) (i64_small (by omega) (by omega)) W h
    rwa [wr_nat ha] at q))
  have HRF := hid (fun (a : Nat) (ha : a < s.L.length) W h => rfield_any (b := b) (g := g) (s := s) a ha W h)
  obtain ⟨NA, hNA⟩ : ∃ NA : Nat, s.A.length = NA := ⟨_, rfl⟩
  have HAE := hid (show s.iA NA = intsV (s.A.map Int.ofNat) ∧ (s.A.map Int.ofNat).length = NA ∧ s.A.length = NA by
    exact ⟨by unfold Spc.iA; rw [← hNA, List.take_length], by rw [List.length_map]; exact hNA, hNA⟩)
  have hNA1 : NA ≤ 3564 := by rw [← hNA]; exact Nat.le_trans (attP_len _ _) hN.2
  have HMEM := hid (fun a (h : a ∈ s.A) => attP_mem (P := s.P) (N := s.L.length) h)
  have hf0 := rattf0
  rw [hNA] at HRA
  clear h hNA
  go_enter Try.func86, Try.ntmps86
  go_wp2_with fail
  with_reducible refine HRA.out.mono ?_
  rintro e w1 ⟨v1, rfl, ho1, hk1, hb1⟩
  rw [HAE.out.1] at ho1
  have hoc := ints_cells (xs := s.A.map Int.ofNat) (by rw [HAE.out.2.1]; exact ho1)
  rw [HAE.out.2.1] at hoc
  obtain ⟨y1, c1, rfl⟩ := row_any ho1
  have HOC := hid (show ∀ W, Below w1.heap.size w1 W → ∀ k, k < NA → ∃ gg, y1 = some ⟨gg, 0, none⟩ ∧ W.cell? ⟨gg, k, none⟩ = some (.int .i64 (s.A.getD k 0 : Nat)) from fun W hW k hk => by
    rcases hoc with ⟨x, c, e, hx⟩ | ⟨gg, c, e, hc⟩
    · have : NA = 0 := by rw [← HAE.out.2.1, hx]; rfl
      omega
    · injection e with e1
      refine ⟨gg, e1, ?_⟩
      have q := hc k hk
      rw [Nat.zero_add] at q
      refine (keepc hW q).trans ?_
      rw [List.getD_eq_getElem?_getD, List.getElem?_map, List.getD_eq_getElem?_getD, List.getElem?_eq_getElem (by rw [HAE.out.2.2]; exact hk)]
      rfl)
  have HB1 := hid hb1
  clear ho1 hk1 hb1 hoc
  go_wp2_with fail
  go_loopw [3, 10] (fun o i W => ∃ k : Nat, k ≤ NA ∧ i = .int .i64 k ∧ Hid (W.ownsRow 0 3 1 o (flS s (s.A.take k)).length (intsV ((flS s (s.A.take k)).map Int.ofNat))) ∧ Hid (∀ q ∈ blkV o, w1.heap.size ≤ q) ∧ Hid (Below w1.heap.size w1 W)) (fun _ i _ => NA - (intOf i).toNat)
  case atStart => exact ⟨0, by omega, rfl, World.ownsRow_nil _ _ _ _, fun q hq => (by cases hq), Below.refl _ _⟩
  case round =>
    obtain ⟨k, hk, rfl, HR, HBk, HB⟩ := hrel
    obtain ⟨y, cc, rfl⟩ := row_any HR.out
    by_cases hkN : k < NA
    · have hki : (k : Int) < NA := by omega
      obtain ⟨gg, rfl, hc⟩ := HOC.out _ HB.out k hkN
      have hlc := World.block_lt_of_cell? wr _ hc
      have hget : s.A[k]? = some (s.A.getD k 0) := by rw [List.getD_eq_getElem?_getD, List.getElem?_eq_getElem (by rw [HAE.out.2.2]; exact hkN)]; rfl
      have hmem := HMEM.out _ (List.mem_of_getElem? hget)
      have hfl : flS s (s.A.take (k + 1)) = flS s (s.A.take k) ++ (if goodA s (s.A.getD k 0) then [(s.A.getD k 0 + 1) % s.L.length] else []) := by rw [take_one s.A k _ hget, flS_add]
      have hfk : (flS s (s.A.take k)).length ≤ 4000 := Nat.le_trans (flS_len _ _) (by rw [List.length_take]; omega)
      generalize s.A.getD k 0 = a at hc hmem hfl
      generalize flS s (s.A.take k) = fk at HR HBk hfl hfk
      clear hget
      obtain ⟨haN, hPa⟩ := hmem
      have HPL1 := hid (fun W h => HPL.out a haN W h)
      have HRF1 := hid (fun W h => HRF.out a haN W h)
      obtain ⟨fp, fn, fd, fm, hfp, hf⟩ : ∃ p n' d m, p = (s.cel a).prot ∧ (s.cel a).fv = .agg #[.bool p, .bool n', .int .i64 d, .bool m] := ⟨_, _, _, _, rfl, rfl⟩
      rw [hf] at HRF1
      have hgd : goodA s a = (!fp && !s.P ((a + 1) % s.L.length)) := by unfold goodA; rw [hfp]
      obtain ⟨n, hn⟩ : ∃ n, (a + 1) % s.L.length = n := ⟨_, rfl⟩
      rw [hn] at hfl hgd
      have HPN := hid (show (plL s.P s.L.length a).length ≤ 3564 ∧ (0 < (plL s.P s.L.length a).length ↔ s.P n = false) ∧ (0 < (plL s.P s.L.length a).length → (plL s.P s.L.length a)[0]? = some n) by
        have hpl : plL s.P s.L.length a = plF s.P s.L.length a (s.L.length - 1) 0 := by unfold plL; rw [if_pos hPa]
        rw [hpl]
        have hlen := plF_len s.P s.L.length a (s.L.length - 1) 0
        have hN2 : 1 < s.L.length := by
          have := big_len HH.out.ok
          omega
        refine ⟨by omega, ⟨fun hp => ?_, fun hp => ?_⟩, fun hp => ?_⟩
        · have := (plF_get s.P s.L.length a (s.L.length - 1) 0 0 hp).2
          rwa [Nat.zero_add, Nat.add_zero, hn] at this
        · apply Nat.pos_of_ne_zero
          intro h0
          have := plF_stop s.P s.L.length a (s.L.length - 1) 0 (by omega)
          rw [h0, Nat.zero_add, Nat.add_zero, hn, hp] at this
          cases this
        · have := (plF_get s.P s.L.length a (s.L.length - 1) 0 0 hp).1
          rwa [Nat.zero_add, Nat.add_zero, hn] at this)
      generalize plL s.P s.L.length a = pl at HPL1 HPN
      generalize s.P n = pn at hgd HPN
      clear hfp hf hPa haN hn
      cases pn
      · have hL : 0 < pl.length := HPN.out.2.1.2 rfl
        have hLi : (0 : Int) < (pl.length : Nat) := by omega
        cases fp
        · have HFL := hid (show flS s (s.A.take (k + 1)) = fk ++ [n] by rw [hfl, hgd]; rfl)
          clear hfl hgd
          go_wp2_with fail
          with_reducible refine (HPL1.out _ (HH.out.below (below_t HB1.out HB.out))).mono ?_
          rintro e w6 ⟨v6, rfl, ho6, hk6, hb6⟩
          have hc6 := ints_cells (xs := pl.map Int.ofNat) (by rw [List.length_map]; exact ho6)
          rw [List.length_map] at hc6
          rcases hc6 with ⟨x6, d6, -, e6⟩ | ⟨g6, c6, rfl, hc6⟩
          · have : pl.length = 0 := by rw [← List.length_map (f := Int.ofNat), e6]; rfl
            omega
          have HC6 := hid (show w6.cell? ⟨g6, 0, none⟩ = some (.int .i64 (n : Nat)) from by
            have q := hc6 0 hL
            rw [Nat.zero_add] at q
            rw [q, List.getD_eq_getElem?_getD, List.getElem?_map, HPN.out.2.2 hL]
            rfl)
          have HR6 := hid (own_below HR.out hb6)
          have HB6 := hid (below_t HB.out hb6)
          have hz6 : wr.heap.size ≤ w6.heap.size := hb6.size
          clear ho6 hk6 hb6 hc6
          go_wp2_with fail
          with_reducible refine (HRF1.out _ (HH.out.below (below_t HB1.out HB6.out))).mono ?_
          rintro e w7 ⟨rfl, hb7⟩
          have HR7 := hid (own_below HR6.out hb7)
          have HB7 := hid (below_t HB6.out hb7)
          have c7 := keepc hb7 HC6.out
          have hl7 := World.block_lt_of_cell? w7 _ c7
          clear hb7
          go_wp2_with (first | (at_builtin; refine wpList_append_blk _ rfl _ _ 56 rfl 3 i0 _ 1 8 Try.underlying56 hi hz0 hz1 hz2 rfl (by decide) _ _ _ rfl (HR7.out.alloc _) ⟨w7.heap.size, 0, none⟩ 1 1 [.int .i64 n] rfl rfl (one_new _ _ _ _ (by simp)) (by simp [Value.oneCell']) (by unfold maxLen; omega) (by omega) ?_; intro v' W1 hown' hgrow _ hb'; obtain ⟨g', cap', rfl⟩ := row_any hown'; have H1 := hid hown'; have H2 := hid hgrow; have H3 := hid hb'; clear hown' hgrow hb') | fail)
          go_roundw
          case rel =>
            refine ⟨k + 1, by omega, by go_num, ?_, fun q hq => ?_, ?_⟩
            · have h1 := H1.out
              rw [HFL.out, List.map_append, List.length_append]
              unfold intsV at h1 ⊢
              rw [List.map_append]
              exact h1
            · rcases H3.out q hq with h | h
              · exact HBk.out q h
              · have := HB7.out.size
                simp at h
                omega
            · exact (HB7.out.al (Nat.le_refl _) _).grown H2.out (by have := HB7.out.size; simp; omega) (fun q e => HBk.out q (mem_blkV.2 e))
          case measure => simp [intOf]; omega
        · have HFL := hid (show flS s (s.A.take (k + 1)) = fk by rw [hfl, hgd]; simp)
          clear hfl hgd
          go_wp2_with fail
          with_reducible refine (HPL1.out _ (HH.out.below (below_t HB1.out HB.out))).mono ?_
          rintro e w6 ⟨v6, rfl, ho6, hk6, hb6⟩
          obtain ⟨y6, c6, rfl⟩ := row_any ho6
          have HB6 := hid hb6
          clear ho6 hk6 hb6
          go_wp2_with fail
          with_reducible refine (HRF1.out _ (HH.out.below (below_t HB1.out (below_t HB.out HB6.out)))).mono ?_
          rintro e w7 ⟨rfl, hb7⟩
          have HB7 := hid (below_t HB6.out hb7)
          clear hb7
          go_wp2
          go_roundw
          case rel => exact ⟨k + 1, by omega, by go_num, by rw [HFL.out]; exact own_below HR.out HB7.out, HBk.out, below_t HB.out HB7.out⟩
          case measure => simp [intOf]; omega
      · have hL : pl.length = 0 := by
          apply Nat.eq_zero_of_not_pos
          intro h0
          have := HPN.out.2.1.1 h0
          cases this
        have HFL := hid (show flS s (s.A.take (k + 1)) = fk by rw [hfl, hgd]; simp)
        clear hfl hgd
        rw [hL] at HPL1
        go_wp2_with fail
        with_reducible refine (HPL1.out _ (HH.out.below (below_t HB1.out HB.out))).mono ?_
        rintro e w6 ⟨v6, rfl, ho6, hk6, hb6⟩
        obtain ⟨y6, c6, rfl⟩ := row_any ho6
        have HB6 := hid hb6
        clear ho6 hk6 hb6
        go_wp2
        go_roundw
        case rel => exact ⟨k + 1, by omega, by go_num, by rw [HFL.out]; exact own_below HR.out HB6.out, HBk.out, below_t HB.out HB6.out⟩
        case measure => simp [intOf]; omega
    · obtain rfl : k = NA := by omega
      go_wp2
      go_ret
      refine ⟨_, rfl, ?_, fun q hq => Nat.le_trans HB1.out.size (HBk.out q hq), below_t HB1.out HB.out⟩
      have e : flS s (s.A.take k) = firL s := by
        unfold firL
        congr 1
        exact List.take_of_length_le (by rw [HAE.out.2.2]; exact Nat.le_refl _)
      rw [← e]
      exact HR.out
end
end Go.Proofs.Ytdaainifnbbhiaa
