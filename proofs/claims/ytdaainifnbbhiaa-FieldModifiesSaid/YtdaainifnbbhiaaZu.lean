/-
  The reference's Places.
-/
import Derived.Test.YtdaainifnbbhiaaZt
namespace Go.Proofs.Ytdaainifnbbhiaa
open Go.RowKit Go.Lib Go.Deep

theorem modN {x N : Nat} (h : x < 2 * N) : x % N = if x < N then x else x - N := by
  by_cases e : x < N
  · rw [if_pos e, Nat.mod_eq_of_lt e]
  · rw [if_neg e, Nat.mod_eq_sub_mod (by omega), Nat.mod_eq_of_lt (by omega)]
/-- The field of a place that lies so far behind an attribute. -/
theorem stF_pl {P : Nat → Bool} {N a k : Nat} (ha : a < N) (hp : P a = true) (hk : k + 1 < N) (h : ∀ j, j ≤ k → P ((a + 1 + j) % N) = false) : stF P N ((a + 1 + k) % N) = (a : Int) := by
  have hb : ∀ j, j ≤ k → bk N ((a + 1 + k) % N) j = (a + 1 + (k - j)) % N := fun j hj => by
    rw [modN (by omega), modN (by omega)]
    unfold bk
    split <;> split <;> split <;> omega
  have hl : bk N ((a + 1 + k) % N) (k + 1) = a := by
    rw [modN (by omega)]
    unfold bk
    split <;> split <;> omega
  have := stF_found (P := P) (N := N) (p := (a + 1 + k) % N) (q := k + 1) hk (fun j hj => by rw [hb j (by omega)]; exact h _ (by omega)) (by rw [hl]; exact hp)
  rw [this, hl]
theorem stF_self {P : Nat → Bool} {N p : Nat} (hN : 0 < N) (h : P p = true) : stF P N p = (p : Int) := by
  have e : bk N p 0 = p := by unfold bk; rw [if_pos (Nat.zero_le _)]; omega
  have := stF_found (P := P) (N := N) (p := p) (q := 0) hN (fun j hj => absurd hj (Nat.not_lt_zero _)) (by rw [e]; exact h)
  rw [this, e]
section
variable {b g : Nat} {s : Spc}
set_option maxRecDepth 100000 in
set_option maxHeartbeats 8000000 in
theorem rplaces_any (n : Int) (hn : I64 n) (w : World) (h : RfM w b g s) : Calls Try.prog 50 #[.pointer (some ⟨b, 0, none⟩), .int .i64 n] w (ListD 3 1 (intsV ((plL s.P s.L.length (s.wr n)).map Int.ofNat)) (plL s.P s.L.length (s.wr n)).length w) := by
  obtain ⟨i0, hi, hz0, hz1, hz2⟩ := info_parts infoI
  have HP := hid (fun W h => rpos_any (b := b) (g := g) (s := s) n hn W h)
  have HS := hid (fun W h => rstarts_any (b := b) (g := g) (s := s) W h)
  have HH := hid h
  have haN := h.ok.wr_lt n
  have hN := h.ok.pos
  obtain ⟨N, hNe⟩ : ∃ N : Nat, s.L.length = N := ⟨_, rfl⟩
  obtain ⟨a, ha⟩ : ∃ a, s.wr n = a := ⟨_, rfl⟩
  have HX := hid (fun W (hb : Below w.heap.size w W) => (show W.cell? ⟨b, 4, none⟩ = some (.slice (some ⟨g, 0, none⟩) N N) ∧ W.cell? ⟨g, a * 6 + 1, none⟩ = some (.bool (s.P a)) from ⟨by rw [← hNe]; exact (h.below hb).h4, ((h.below hb).row.six a (by rw [← ha]; exact haN) _ rfl).2.1⟩))
  rw [ha] at HP haN ⊢
  rw [hNe] at HS haN hN ⊢
  generalize s.P = P at HS HX ⊢
  have hai : (a : Int) < N := by omega
  clear h hn ha hNe
  obtain ⟨pa, hpa⟩ : ∃ pa, P a = pa := ⟨_, rfl⟩
  cases pa
  · have HE := hid (show plL P N a = [] by unfold plL; rw [hpa]; rfl)
    rw [hpa] at HX
    go_enter Try.func50, Try.ntmps50
    go_wp2_with fail
    with_reducible refine (HP.out _ HH.out).mono ?_
    rintro e w1 ⟨rfl, hb1⟩
    obtain ⟨x4, xa⟩ := HX.out _ hb1
    have hl4 := World.block_lt_of_cell? w1 _ x4
    have hlg := World.block_lt_of_cell? w1 _ xa
    have HB1 := hid hb1
    clear hb1
    go_wp2
    go_ret
    exact ⟨_, rfl, by rw [HE.out]; exact World.ownsRow_nil _ _ _ _, fun q hq => (by cases hq), HB1.out⟩
  · obtain ⟨pl, hpl⟩ : ∃ pl, plF P N a (N - 1) 0 = pl := ⟨_, rfl⟩
    have HE := hid (show plL P N a = pl by unfold plL; rw [hpa, if_pos rfl, hpl])
    obtain ⟨K, hK⟩ : ∃ K, pl.length = K := ⟨_, rfl⟩
    have hKN : K ≤ N - 1 := by rw [← hK, ← hpl]; exact plF_len P N a (N - 1) 0
    have HPL := hid hpl
    have HPK := hid hK
    have HPA := hid hpa
    rw [hpa] at HX
    rw [HE.out, hK]
    clear hpl hK hpa
    go_enter Try.func50, Try.ntmps50
    go_wp2_with fail
    with_reducible refine (HP.out _ HH.out).mono ?_
    rintro e w1 ⟨rfl, hb1⟩
    obtain ⟨x4, xa⟩ := HX.out _ hb1
    have hl4 := World.block_lt_of_cell? w1 _ x4
    have hlg := World.block_lt_of_cell? w1 _ xa
    have HB1 := hid hb1
    clear hb1
    go_wp2_with fail
    with_reducible refine (HS.out _ (HH.out.below HB1.out)).mono ?_
    rintro e w2 ⟨hh, rfl, hg, ho, hb2⟩
    have HO := hid ho
    have HB2 := hid (below_t HB1.out hb2)
    have H4 := hid (HX.out _ HB2.out).1
    clear hg ho hb2 x4 xa hl4 hlg
    go_wp2_with fail
    go_loopw [6, 7] (fun o i W => ∃ k : Nat, k ≤ K ∧ i = .int .i64 ((k : Int) + 1) ∧ Hid (W.ownsRow 0 3 1 o k (intsV ((pl.take k).map Int.ofNat))) ∧ Hid (∀ q ∈ blkV o, w2.heap.size ≤ q) ∧ Hid (Below w2.heap.size w2 W)) (fun _ i _ => N - (intOf i).toNat)
    case atStart => exact ⟨0, by omega, rfl, World.ownsRow_nil _ _ _ _, fun q hq => (by cases hq), Below.refl _ _⟩
    case round =>
      obtain ⟨k, hk, rfl, HR, HBk, HB⟩ := hrel
      obtain ⟨y, cc, rfl⟩ := row_any HR.out
      have c4 := keepc HB.out H4.out
      have hl4 := World.block_lt_of_cell? wr _ c4
      by_cases hkN : k + 1 < N
      · have hki : (k : Int) + 1 < N := by omega
        have hwa : IntKind.i64.wrap ((a : Int) + ((k : Int) + 1)) = (a : Int) + ((k : Int) + 1) := wrapI (i64_small (by omega) (by omega))
        obtain ⟨n, hn⟩ : ∃ n, (a + 1 + k) % N = n := ⟨_, rfl⟩
        have hnN : n < N := by rw [← hn]; exact Nat.mod_lt _ (by omega)
        have hni : (n : Int) < N := by omega
        have HMD := hid (fun W => (show Calls Try.prog 84 #[.int .i64 ((a : Int) + ((k : Int) + 1)), .int .i64 N] W fun e w' => e = .returned (.int .i64 n) ∧ W = w' from by
          have q := mod_any ((a : Int) + ((k : Int) + 1)) N (i64_small (by omega) (by omega)) (by omega) (by omega) W
          rwa [show ((a : Int) + ((k : Int) + 1)) % (N : Int) = (n : Int) by rw [← hn, show (a : Int) + ((k : Int) + 1) = ((a + 1 + k : Nat) : Int) by push_cast; omega, ← Int.natCast_emod]] at q))
        obtain ⟨xo, ho, hxe⟩ := (HO.out.below HB.out).at_ n hnN
        have HXO := hid (hxe hnN)
        have hlo := World.block_lt_of_cell? wr _ ho
        have HNE := hid hn
        clear hxe hn
        have hall : ∀ j, j < k → P ((a + 1 + j) % N) = false := fun j hj => by
          have := (plF_get P N a (N - 1) 0 j (by rw [HPL.out, HPK.out]; omega)).2
          rwa [Nat.zero_add] at this
        by_cases hkK : k < K
        · have q := plF_get P N a (N - 1) 0 k (by rw [HPL.out, HPK.out]; exact hkK)
          rw [Nat.zero_add, HNE.out] at q
          have hst := stF_pl haN HPA.out hkN (fun j hj => by
            by_cases e : j = k
            · rw [e, HNE.out]; exact q.2
            · exact hall j (by omega))
          rw [HNE.out] at hst
          rw [hst] at HXO
          obtain rfl := HXO.out
          have HTK := hid (take_one pl k n (by rw [← HPL.out]; exact q.1))
          clear q hst hall
          go_wp2_with fail
          try simp only [hwa]
          with_reducible refine (HMD.out _).mono ?_
          rintro e w' ⟨rfl, rfl⟩
          go_wp2_with (first | (at_builtin; refine wpList_append_blk _ rfl _ _ 56 rfl 3 i0 _ 1 8 Try.underlying56 hi hz0 hz1 hz2 rfl (by decide) _ _ _ rfl (HR.out.alloc _) ⟨wr.heap.size, 0, none⟩ 1 1 [.int .i64 n] rfl rfl (one_new _ _ _ _ (by simp)) (by simp [Value.oneCell']) (by unfold maxLen; omega) (by omega) ?_; intro v' W1 hown' hgrow _ hb'; obtain ⟨g', cap', rfl⟩ := row_any hown'; have H1 := hid hown'; have H2 := hid hgrow; have H3 := hid hb'; clear hown' hgrow hb') | fail)
          go_roundw
          case rel =>
            refine ⟨k + 1, by omega, by go_num, ?_, fun q hq => ?_, ?_⟩
            · have h1 := H1.out
              rw [HTK.out, List.map_append]
              unfold intsV at h1 ⊢
              rw [List.map_append]
              exact h1
            · rcases H3.out q hq with h | h
              · exact HBk.out q h
              · have := HB.out.size
                simp at h
                omega
            · exact (HB.out.al (Nat.le_refl _) _).grown H2.out (by have := HB.out.size; simp; omega) (fun q e => HBk.out q (mem_blkV.2 e))
          case measure => simp [intOf]; omega
        · obtain rfl : k = K := by omega
          have hpn : P n = true := by
            have := plF_stop P N a (N - 1) 0 (by rw [HPL.out, HPK.out]; omega)
            rwa [HPL.out, HPK.out, Nat.zero_add, HNE.out] at this
          have hna : ¬ ((n : Int) = (a : Int)) := by
            have := HNE.out
            rw [modN (by omega)] at this
            split at this <;> omega
          rw [stF_self (by omega) hpn] at HXO
          obtain rfl := HXO.out
          clear hall hpn
          go_wp2_with fail
          try simp only [hwa]
          with_reducible refine (HMD.out _).mono ?_
          rintro e w' ⟨rfl, rfl⟩
          go_wp2
          go_ret
          exact ⟨_, rfl, by have := HR.out; rwa [← HPK.out, List.take_length, HPK.out] at this, fun q hq => Nat.le_trans HB2.out.size (HBk.out q hq), below_t HB2.out HB.out⟩
      · have hki : ¬ (k : Int) + 1 < N := by omega
        obtain rfl : k = K := by omega
        go_wp2
        go_ret
        exact ⟨_, rfl, by have := HR.out; rwa [← HPK.out, List.take_length, HPK.out] at this, fun q hq => Nat.le_trans HB2.out.size (HBk.out q hq), below_t HB2.out HB.out⟩
end
end Go.Proofs.Ytdaainifnbbhiaa
