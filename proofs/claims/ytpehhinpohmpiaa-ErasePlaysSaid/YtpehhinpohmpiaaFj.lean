/-
  The reference's Next: the nearest first place.
  FieldNexts: what is sought is the nearest; on and back again; the law's own walk.
-/
import Derived.Test.YtpehhinpohmpiaaFi
namespace Go.Proofs.Ytpehhinpohmpiaa
open Go.RowKit Go.Lib Go.Deep

/-- How far a place lies behind (ahead of) another one. -/
def dst0 (N p : Nat) (back : Bool) (f : Nat) : Nat := ((if back then (p : Int) - f else (f : Int) - p) % (N : Int)).toNat
def dst (N p : Nat) (back : Bool) (f : Nat) : Nat := if dst0 N p back f = 0 then N else dst0 N p back f
def BestR (N p : Nat) (back : Bool) (l : List Nat) (r : Int) : Prop := (l = [] ∧ r = -1) ∨ ∃ f ∈ l, r = (f : Int) ∧ ∀ f' ∈ l, dst N p back f ≤ dst N p back f'
def BestK (N p : Nat) (back : Bool) (l : List Nat) (be fa : Int) : Prop := (l = [] ∧ be = -1) ∨ ∃ f ∈ l, be = (f : Int) ∧ fa = (dst N p back f : Int) ∧ ∀ f' ∈ l, dst N p back f ≤ dst N p back f'
theorem BestK.new {N p : Nat} {back : Bool} {l : List Nat} {be fa : Int} (h : BestK N p back l be fa) (f : Nat) (hn : be < 0 ∨ (dst N p back f : Int) < fa) : BestK N p back (l ++ [f]) f (dst N p back f) := by
  refine .inr ⟨f, by simp, rfl, rfl, fun f' hf' => ?_⟩
  rcases List.mem_append.1 hf' with q | q
  · rcases h with ⟨h1, _⟩ | ⟨f0, h1, h2, h3, h4⟩
    · rw [h1] at q; cases q
    · have := h4 f' q
      rcases hn with hn | hn
      · omega
      · omega
  · simp at q
    rw [q]
    exact Nat.le_refl _
theorem BestK.old {N p : Nat} {back : Bool} {l : List Nat} {be fa : Int} (h : BestK N p back l be fa) (f : Nat) (hn : ¬ be < 0) (hm : ¬ (dst N p back f : Int) < fa) : BestK N p back (l ++ [f]) be fa := by
  rcases h with ⟨_, h2⟩ | ⟨f0, h1, h2, h3, h4⟩
  · omega
  · refine .inr ⟨f0, by simp [h1], h2, h3, fun f' hf' => ?_⟩
    rcases List.mem_append.1 hf' with q | q
    · exact h4 f' q
    · simp at q
      rw [q]
      omega
theorem BestK.done {N p : Nat} {back : Bool} {l : List Nat} {be fa : Int} (h : BestK N p back l be fa) : BestR N p back l be := by
  rcases h with h | ⟨f0, h1, h2, _, h4⟩
  · exact .inl h
  · exact .inr ⟨f0, h1, h2, h4⟩
theorem firL_mem {s : Spc} {f : Nat} (hN : 0 < s.L.length) (h : f ∈ firL s) : f < s.L.length := by
  unfold firL flS at h
  obtain ⟨a, _, rfl⟩ := List.mem_map.1 h
  exact Nat.mod_lt _ hN
section
variable {b g : Nat} {s : Spc}
set_option maxRecDepth 100000 in
set_option maxHeartbeats 8000000 in
theorem rnext_on (n : Int) (hn : I64 n) (w : World) (h : RfM w b g s) : Calls Try.prog 119 #[.pointer (some ⟨b, 0, none⟩), .int .i64 n, .bool false] w fun e w' => (∃ r, e = .returned (.int .i64 r) ∧ BestR s.L.length (s.wr n) false (firL s) r) ∧ Below w.heap.size w w' := by
  have hN := h.ok.pos
  have hw := h.ok.wr_lt n
  have HFI := hid (rfirsts_any w h)
  have HP := hid (fun W h => rpos_any (b := b) (g := g) (s := s) n hn W h)
  have HH := hid h
  have HMEM := hid (fun f (hf : f ∈ firL s) => firL_mem hN.1 hf)
  have H4w := hid h.h4
  have hLl : (firL s).length ≤ 4000 := by
    have h1 := flS_len s s.A
    have h2 := attP_len s.P s.L.length
    have : s.A.length ≤ s.L.length := h2
    show (flS s s.A).length ≤ 4000
    omega
  obtain ⟨l, hl⟩ : ∃ l, firL s = l := ⟨_, rfl⟩
  have HLE := hid hl
  rw [hl] at HFI HMEM hLl
  obtain ⟨K, hK⟩ : ∃ K, l.length = K := ⟨_, rfl⟩
  have HLK := hid hK
  rw [hK] at HFI hLl
  generalize s.wr n = p at HP hw ⊢
  generalize s.L.length = N at H4w HMEM hw hN ⊢
  clear h hn hl hK
  go_enter Try.func119, Try.ntmps119
  go_wp2_with fail
  with_reducible refine HFI.out.mono ?_
  rintro e w1 ⟨v1, rfl, ho1, hk1, hb1⟩
  have hoc := ints_cells (xs := l.map Int.ofNat) (by rw [List.length_map, HLK.out]; exact ho1)
  rw [List.length_map, HLK.out] at hoc
  obtain ⟨y1, c1, rfl⟩ := row_any ho1
  have HOC := hid (show ∀ W, Below w1.heap.size w1 W → ∀ k, k < K → ∃ gg, y1 = some ⟨gg, 0, none⟩ ∧ W.cell? ⟨gg, k, none⟩ = some (.int .i64 (l.getD k 0 : Nat)) from fun W hW k hk => by
    rcases hoc with ⟨x, c, e, hx⟩ | ⟨gg, c, e, hc⟩
    · have : l.length = 0 := by rw [← List.length_map (f := Int.ofNat), hx]; rfl
      have := HLK.out
      omega
    · injection e with e1
      refine ⟨gg, e1, ?_⟩
      have q := hc k hk
      rw [Nat.zero_add] at q
      refine (keepc hW q).trans ?_
      rw [List.getD_eq_getElem?_getD, List.getElem?_map, List.getD_eq_getElem?_getD, List.getElem?_eq_getElem (by rw [HLK.out]; exact hk)]
      rfl)
  have HB1 := hid hb1
  have H4 := hid (keepc hb1 H4w.out)
  clear ho1 hk1 hb1 hoc
  go_wp2_with fail
  go_loopw [7, 8, 15] (fun o u i W => ∃ (be fa : Int) (k : Nat), o = .int .i64 be ∧ u = .int .i64 fa ∧ k ≤ K ∧ i = .int .i64 k ∧ Hid (BestK N p false (l.take k) be fa) ∧ Hid (Below w1.heap.size w1 W)) (fun _ _ i _ => K - (intOf i).toNat)
  case atStart => exact ⟨-1, 0, 0, rfl, rfl, by omega, rfl, .inl ⟨rfl, rfl⟩, Below.refl _ _⟩
  case round =>
    obtain ⟨be, fa, k, rfl, rfl, hk, rfl, HK, HB⟩ := hrel
    by_cases hkN : k < K
    · have hki : (k : Int) < K := by omega
      obtain ⟨gg, rfl, hc⟩ := HOC.out _ HB.out k hkN
      have hlc := World.block_lt_of_cell? wr _ hc
      have hget : l[k]? = some (l.getD k 0) := by rw [List.getD_eq_getElem?_getD, List.getElem?_eq_getElem (by rw [HLK.out]; exact hkN)]; rfl
      have hfN := HMEM.out _ (List.mem_of_getElem? hget)
      have HTK := hid (take_one l k _ hget)
      generalize l.getD k 0 = f at hc hfN HTK
      clear hget
      obtain ⟨z1, hz1⟩ : ∃ z1 : Nat, dst0 N p false f = z1 := ⟨_, rfl⟩
      have HM1 := hid (fun W => (show Calls Try.prog 88 #[.int .i64 (IntKind.i64.wrap ((f : Int) - p)), .int .i64 N] W fun e w' => e = .returned (.int .i64 z1) ∧ W = w' from by
        have q := mod_any ((f : Int) - p) N (i64_small (by omega) (by omega)) (by omega) (by omega) W
        rw [wrapI (i64_small (by omega) (by omega))]
        have e1 : ((f : Int) - p) % (N : Int) = (z1 : Int) := by
          have h0 := Int.emod_nonneg ((f : Int) - p) (show (N : Int) ≠ 0 by omega)
          have : dst0 N p false f = (((f : Int) - p) % (N : Int)).toNat := rfl
          omega
        rwa [e1] at q))
      have HZ1 := hid hz1
      have c4 := keepc HB.out H4.out
      clear hz1
      go_wp2_with fail
      refine wp_region_held_drew (S := fun V => V.cell? ⟨b, 4, none⟩ = some (.slice (some ⟨g, 0, none⟩) N N) ∧ Below wr.heap.size wr V) (by kernel_rfl) ?_ (fun hHeld => ?_)
      · have hdr : Below wr.heap.size wr wr.drew := (Below.refl _ _).drew
        exact ⟨keepc hdr c4, hdr⟩
      refine takeD (i := 0) (v := ?_) 19 rfl rfl (by kernel_rfl) (by kernel_rfl) (by kernel_rfl) (fun _ _ _ h => h) (by assumption) (Or.inl ⟨by rfl, ?_⟩) ?_
      rotate_left
      · intro w hSw
        (try dsimp only at hSw)
        go_simp
        try with_reducible rfl
      simp only [List.setIfInBounds_toArray, List.set_cons_zero, List.set_cons_succ]
      refine takeD (i := 1) (v := ?_) 20 rfl rfl (by kernel_rfl) (by kernel_rfl) (by kernel_rfl) (fun _ _ _ h => h) (by assumption) (Or.inl ⟨by rfl, ?_⟩) ?_
      rotate_left
      · intro w hSw
        (try dsimp only at hSw)
        go_simp
        try with_reducible rfl
      simp only [List.setIfInBounds_toArray, List.set_cons_zero, List.set_cons_succ]
      refine takeD (i := 2) (v := ?_) 21 rfl rfl (by kernel_rfl) (by kernel_rfl) (by kernel_rfl) (fun _ _ _ h => h) (by assumption) (Or.inl ⟨by rfl, ?_⟩) ?_
      rotate_left
      · intro w hSw
        (try dsimp only at hSw)
        go_simp
        try with_reducible rfl
      simp only [List.setIfInBounds_toArray, List.set_cons_zero, List.set_cons_succ]
      refine takeD (i := 5) (v := ?_) 24 rfl rfl (by kernel_rfl) (by kernel_rfl) (by kernel_rfl) (fun _ _ _ h => h) (by assumption) (Or.inl ⟨by rfl, ?_⟩) ?_
      rotate_left
      · intro w hSw
        (try dsimp only at hSw)
        go_simp
        try with_reducible rfl
      simp only [List.setIfInBounds_toArray, List.set_cons_zero, List.set_cons_succ]
      refine takeD (i := 6) (v := ?_) 25 rfl rfl (by kernel_rfl) (by kernel_rfl) (by kernel_rfl) (fun _ _ _ h => h) (by assumption) (Or.inl ⟨by rfl, ?_⟩) ?_
      rotate_left
      · intro w hSw
        (try dsimp only at hSw)
        go_simp
        try with_reducible rfl
      simp only [List.setIfInBounds_toArray, List.set_cons_zero, List.set_cons_succ]
      refine takeD (i := 7) (v := ?_) 26 rfl rfl (by kernel_rfl) (by kernel_rfl) (by kernel_rfl) (fun _ _ _ h => h) (by assumption) (Or.inl ⟨by rfl, ?_⟩) ?_
      rotate_left
      · intro w hSw
        (try dsimp only at hSw)
        go_simp
        try with_reducible rfl
      simp only [List.setIfInBounds_toArray, List.set_cons_zero, List.set_cons_succ]
      refine takeD (i := 8) (v := ?_) 27 rfl rfl (by kernel_rfl) (by kernel_rfl) (by kernel_rfl) (fun _ _ _ h => h) (by assumption) (Or.inl ⟨by rfl, ?_⟩) ?_
      rotate_left
      · intro w hSw
        (try dsimp only at hSw)
        go_simp
        try with_reducible rfl
      simp only [List.setIfInBounds_toArray, List.set_cons_zero, List.set_cons_succ]
      refine takeD (i := 9) (v := ?_) 28 rfl rfl (by kernel_rfl) (by kernel_rfl) (by kernel_rfl) (fun _ _ _ h => h) (by assumption) (Or.inl ⟨by rfl, ?_⟩) ?_
      rotate_left
      · intro w hSw
        (try dsimp only at hSw)
        go_simp
        try with_reducible rfl
      simp only [List.setIfInBounds_toArray, List.set_cons_zero, List.set_cons_succ]
      refine wpAnyH_ready (rs := [3]) (by kernel_rfl) (by simp) ?_
      refine AllReadyH.cons (by simp only [List.getElem?_toArray, List.getElem?_cons_succ, List.getElem?_cons_zero]; rfl) (fun K hK => ?_) AllReadyH.nil
      go_simp
      go_at_call 19; (with_reducible refine (HP.out _ (HH.out.below (below_t HB1.out (below_t HB.out hHeld.2)))).mono ?_); rintro e w5a ⟨rfl, hb5a⟩
      refine hK.out _ _ ?_ (fun hHeldN => ?_)
      · exact ⟨keepc hb5a hHeld.1, below_t hHeld.2 hb5a⟩
      clear hK K hHeld
      have hHeld := hHeldN
      clear hHeldN
      (try simp only [Act.put, List.setIfInBounds_toArray, List.set_cons_zero, List.set_cons_succ])
      refine takeD (i := 4) (v := ?_) 23 rfl rfl (by kernel_rfl) (by kernel_rfl) (by kernel_rfl) (fun _ _ _ h => h) (by assumption) (Or.inl ⟨by rfl, ?_⟩) ?_
      rotate_left
      · intro w hSw
        (try dsimp only at hSw)
        go_simp
        try with_reducible rfl
      simp only [List.setIfInBounds_toArray, List.set_cons_zero, List.set_cons_succ]
      refine wpAnyH_ready (rs := [10]) (by kernel_rfl) (by simp) ?_
      refine AllReadyH.cons (by simp only [List.getElem?_toArray, List.getElem?_cons_succ, List.getElem?_cons_zero]; rfl) (fun K hK => ?_) AllReadyH.nil
      go_simp
      go_at_call 88; (with_reducible refine (HM1.out _).mono ?_); rintro e w6a ⟨rfl, rfl⟩
      refine hK.out _ _ ?_ (fun hHeldN => ?_)
      · exact hHeld
      clear hK K hHeld
      have hHeld := hHeldN
      clear hHeldN
      (try simp only [Act.put, List.setIfInBounds_toArray, List.set_cons_zero, List.set_cons_succ])
      refine takeD (i := 11) (v := ?_) 11 rfl rfl (by kernel_rfl) (by kernel_rfl) (by kernel_rfl) (fun _ _ _ h => h) (by assumption) (Or.inl ⟨by rfl, ?_⟩) ?_
      rotate_left
      · intro w hSw
        (try dsimp only at hSw)
        go_simp
        try with_reducible rfl
      simp only [List.setIfInBounds_toArray, List.set_cons_zero, List.set_cons_succ]
      refine wpAnyH_done (by kernel_rfl) ?_ _
      have HEa := hid hHeld
      clear hHeld
      have HBX := hid (below_t HB.out HEa.out.2)
      have HZZ := HZ1
      clear HEa HB
      generalize z1 = zz at HZZ
      have cx := keepc HBX.out H4.out
      have hlx := World.block_lt_of_cell? _ _ cx
      by_cases hzz : zz = 0
      · have HDE := hid (show dst N p false f = N by unfold dst; rw [HZZ.out, if_pos hzz])
        subst hzz
        by_cases hbe : be < 0
        · have HK2 := hid (show BestK N p false (l.take (k + 1)) f (N : Nat) by
            have q := HK.out.new f (.inl hbe)
            rw [HTK.out]
            rwa [HDE.out] at q)
          go_wp2
          go_roundw
          case rel => exact ⟨_, _, k + 1, rfl, rfl, by omega, by go_num, HK2.out, HBX.out⟩
          case measure => simp [intOf]; omega
        · by_cases hfa : ((N : Nat) : Int) < fa
          · have HK2 := hid (show BestK N p false (l.take (k + 1)) f (N : Nat) by
              have q := HK.out.new f (.inr (by rw [HDE.out]; exact hfa))
              rw [HTK.out]
              rwa [HDE.out] at q)
            go_wp2
            go_roundw
            case rel => exact ⟨_, _, k + 1, rfl, rfl, by omega, by go_num, HK2.out, HBX.out⟩
            case measure => simp [intOf]; omega
          · have HK2 := hid (show BestK N p false (l.take (k + 1)) be fa by
              have q := HK.out.old f hbe (by rw [HDE.out]; exact hfa)
              rw [HTK.out]
              exact q)
            go_wp2
            go_roundw
            case rel => exact ⟨_, _, k + 1, rfl, rfl, by omega, by go_num, HK2.out, HBX.out⟩
            case measure => simp [intOf]; omega
      · have HDE := hid (show dst N p false f = zz by unfold dst; rw [HZZ.out, if_neg hzz])
        have hzi : ¬ (zz : Int) = 0 := by omega
        by_cases hbe : be < 0
        · have HK2 := hid (show BestK N p false (l.take (k + 1)) f (zz : Nat) by
            have q := HK.out.new f (.inl hbe)
            rw [HTK.out]
            rwa [HDE.out] at q)
          go_wp2
          go_roundw
          case rel => exact ⟨_, _, k + 1, rfl, rfl, by omega, by go_num, HK2.out, HBX.out⟩
          case measure => simp [intOf]; omega
        · by_cases hfa : ((zz : Nat) : Int) < fa
          · have HK2 := hid (show BestK N p false (l.take (k + 1)) f (zz : Nat) by
              have q := HK.out.new f (.inr (by rw [HDE.out]; exact hfa))
              rw [HTK.out]
              rwa [HDE.out] at q)
            go_wp2
            go_roundw
            case rel => exact ⟨_, _, k + 1, rfl, rfl, by omega, by go_num, HK2.out, HBX.out⟩
            case measure => simp [intOf]; omega
          · have HK2 := hid (show BestK N p false (l.take (k + 1)) be fa by
              have q := HK.out.old f hbe (by rw [HDE.out]; exact hfa)
              rw [HTK.out]
              exact q)
            go_wp2
            go_roundw
            case rel => exact ⟨_, _, k + 1, rfl, rfl, by omega, by go_num, HK2.out, HBX.out⟩
            case measure => simp [intOf]; omega
    · obtain rfl : k = K := by omega
      have HD := hid (show BestR N p false l be by
        have q := HK.out
        rw [← HLK.out, List.take_length] at q
        exact q.done)
      go_wp2
      go_ret
      exact ⟨⟨_, rfl, by rw [HLE.out]; exact HD.out⟩, below_t HB1.out HB.out⟩
set_option maxRecDepth 100000 in
set_option maxHeartbeats 8000000 in
theorem rnext_back (n : Int) (hn : I64 n) (w : World) (h : RfM w b g s) : Calls Try.prog 119 #[.pointer (some ⟨b, 0, none⟩), .int .i64 n, .bool true] w fun e w' => (∃ r, e = .returned (.int .i64 r) ∧ BestR s.L.length (s.wr n) true (firL s) r) ∧ Below w.heap.size w w' := by
  have hN := h.ok.pos
  have hw := h.ok.wr_lt n
  have HFI := hid (rfirsts_any w h)
  have HP := hid (fun W h => rpos_any (b := b) (g := g) (s := s) n hn W h)
  have HH := hid h
  have HMEM := hid (fun f (hf : f ∈ firL s) => firL_mem hN.1 hf)
  have H4w := hid h.h4
  have hLl : (firL s).length ≤ 4000 := by
    have h1 := flS_len s s.A
    have h2 := attP_len s.P s.L.length
    have : s.A.length ≤ s.L.length := h2
    show (flS s s.A).length ≤ 4000
    omega
  obtain ⟨l, hl⟩ : ∃ l, firL s = l := ⟨_, rfl⟩
  have HLE := hid hl
  rw [hl] at HFI HMEM hLl
  obtain ⟨K, hK⟩ : ∃ K, l.length = K := ⟨_, rfl⟩
  have HLK := hid hK
  rw [hK] at HFI hLl
  generalize s.wr n = p at HP hw ⊢
  generalize s.L.length = N at H4w HMEM hw hN ⊢
  clear h hn hl hK
  go_enter Try.func119, Try.ntmps119
  go_wp2_with fail
  with_reducible refine HFI.out.mono ?_
  rintro e w1 ⟨v1, rfl, ho1, hk1, hb1⟩
  have hoc := ints_cells (xs := l.map Int.ofNat) (by rw [List.length_map, HLK.out]; exact ho1)
  rw [List.length_map, HLK.out] at hoc
  obtain ⟨y1, c1, rfl⟩ := row_any ho1
  have HOC := hid (show ∀ W, Below w1.heap.size w1 W → ∀ k, k < K → ∃ gg, y1 = some ⟨gg, 0, none⟩ ∧ W.cell? ⟨gg, k, none⟩ = some (.int .i64 (l.getD k 0 : Nat)) from fun W hW k hk => by
    rcases hoc with ⟨x, c, e, hx⟩ | ⟨gg, c, e, hc⟩
    · have : l.length = 0 := by rw [← List.length_map (f := Int.ofNat), hx]; rfl
      have := HLK.out
      omega
    · injection e with e1
      refine ⟨gg, e1, ?_⟩
      have q := hc k hk
      rw [Nat.zero_add] at q
      refine (keepc hW q).trans ?_
      rw [List.getD_eq_getElem?_getD, List.getElem?_map, List.getD_eq_getElem?_getD, List.getElem?_eq_getElem (by rw [HLK.out]; exact hk)]
      rfl)
  have HB1 := hid hb1
  have H4 := hid (keepc hb1 H4w.out)
  clear ho1 hk1 hb1 hoc
  go_wp2_with fail
  go_loopw [7, 8, 15] (fun o u i W => ∃ (be fa : Int) (k : Nat), o = .int .i64 be ∧ u = .int .i64 fa ∧ k ≤ K ∧ i = .int .i64 k ∧ Hid (BestK N p true (l.take k) be fa) ∧ Hid (Below w1.heap.size w1 W)) (fun _ _ i _ => K - (intOf i).toNat)
  case atStart => exact ⟨-1, 0, 0, rfl, rfl, by omega, rfl, .inl ⟨rfl, rfl⟩, Below.refl _ _⟩
  case round =>
    obtain ⟨be, fa, k, rfl, rfl, hk, rfl, HK, HB⟩ := hrel
    by_cases hkN : k < K
    · have hki : (k : Int) < K := by omega
      obtain ⟨gg, rfl, hc⟩ := HOC.out _ HB.out k hkN
      have hlc := World.block_lt_of_cell? wr _ hc
      have hget : l[k]? = some (l.getD k 0) := by rw [List.getD_eq_getElem?_getD, List.getElem?_eq_getElem (by rw [HLK.out]; exact hkN)]; rfl
      have hfN := HMEM.out _ (List.mem_of_getElem? hget)
      have HTK := hid (take_one l k _ hget)
      generalize l.getD k 0 = f at hc hfN HTK
      clear hget
      obtain ⟨z1, hz1⟩ : ∃ z1 : Nat, dst0 N p false f = z1 := ⟨_, rfl⟩
      have HM1 := hid (fun W => (show Calls Try.prog 88 #[.int .i64 (IntKind.i64.wrap ((f : Int) - p)), .int .i64 N] W fun e w' => e = .returned (.int .i64 z1) ∧ W = w' from by
        have q := mod_any ((f : Int) - p) N (i64_small (by omega) (by omega)) (by omega) (by omega) W
        rw [wrapI (i64_small (by omega) (by omega))]
        have e1 : ((f : Int) - p) % (N : Int) = (z1 : Int) := by
          have h0 := Int.emod_nonneg ((f : Int) - p) (show (N : Int) ≠ 0 by omega)
          have : dst0 N p false f = (((f : Int) - p) % (N : Int)).toNat := rfl
          omega
        rwa [e1] at q))
      have HZ1 := hid hz1
      have c4 := keepc HB.out H4.out
      clear hz1
      go_wp2_with fail
      obtain ⟨z2, hz2⟩ : ∃ z2 : Nat, dst0 N p true f = z2 := ⟨_, rfl⟩
      have HM2 := hid (fun W => (show Calls Try.prog 88 #[.int .i64 (IntKind.i64.wrap ((p : Int) - f)), .int .i64 N] W fun e w' => e = .returned (.int .i64 z2) ∧ W = w' from by
        have q := mod_any ((p : Int) - f) N (i64_small (by omega) (by omega)) (by omega) (by omega) W
        rw [wrapI (i64_small (by omega) (by omega))]
        have e1 : ((p : Int) - f) % (N : Int) = (z2 : Int) := by
          have h0 := Int.emod_nonneg ((p : Int) - f) (show (N : Int) ≠ 0 by omega)
          have : dst0 N p true f = (((p : Int) - f) % (N : Int)).toNat := rfl
          omega
        rwa [e1] at q))
      have HZ2 := hid hz2
      clear hz2
      refine wp_region_held_drew (S := fun V => V.cell? ⟨b, 4, none⟩ = some (.slice (some ⟨g, 0, none⟩) N N) ∧ Below wr.heap.size wr V) (by kernel_rfl) ?_ (fun hHeld => ?_)
      · have hdr : Below wr.heap.size wr wr.drew := (Below.refl _ _).drew
        exact ⟨keepc hdr c4, hdr⟩
      refine takeD (i := 0) (v := ?_) 19 rfl rfl (by kernel_rfl) (by kernel_rfl) (by kernel_rfl) (fun _ _ _ h => h) (by assumption) (Or.inl ⟨by rfl, ?_⟩) ?_
      rotate_left
      · intro w hSw
        (try dsimp only at hSw)
        go_simp
        try with_reducible rfl
      simp only [List.setIfInBounds_toArray, List.set_cons_zero, List.set_cons_succ]
      refine takeD (i := 1) (v := ?_) 20 rfl rfl (by kernel_rfl) (by kernel_rfl) (by kernel_rfl) (fun _ _ _ h => h) (by assumption) (Or.inl ⟨by rfl, ?_⟩) ?_
      rotate_left
      · intro w hSw
        (try dsimp only at hSw)
        go_simp
        try with_reducible rfl
      simp only [List.setIfInBounds_toArray, List.set_cons_zero, List.set_cons_succ]
      refine takeD (i := 2) (v := ?_) 21 rfl rfl (by kernel_rfl) (by kernel_rfl) (by kernel_rfl) (fun _ _ _ h => h) (by assumption) (Or.inl ⟨by rfl, ?_⟩) ?_
      rotate_left
      · intro w hSw
        (try dsimp only at hSw)
        go_simp
        try with_reducible rfl
      simp only [List.setIfInBounds_toArray, List.set_cons_zero, List.set_cons_succ]
      refine takeD (i := 5) (v := ?_) 24 rfl rfl (by kernel_rfl) (by kernel_rfl) (by kernel_rfl) (fun _ _ _ h => h) (by assumption) (Or.inl ⟨by rfl, ?_⟩) ?_
      rotate_left
      · intro w hSw
        (try dsimp only at hSw)
        go_simp
        try with_reducible rfl
      simp only [List.setIfInBounds_toArray, List.set_cons_zero, List.set_cons_succ]
      refine takeD (i := 6) (v := ?_) 25 rfl rfl (by kernel_rfl) (by kernel_rfl) (by kernel_rfl) (fun _ _ _ h => h) (by assumption) (Or.inl ⟨by rfl, ?_⟩) ?_
      rotate_left
      · intro w hSw
        (try dsimp only at hSw)
        go_simp
        try with_reducible rfl
      simp only [List.setIfInBounds_toArray, List.set_cons_zero, List.set_cons_succ]
      refine takeD (i := 7) (v := ?_) 26 rfl rfl (by kernel_rfl) (by kernel_rfl) (by kernel_rfl) (fun _ _ _ h => h) (by assumption) (Or.inl ⟨by rfl, ?_⟩) ?_
      rotate_left
      · intro w hSw
        (try dsimp only at hSw)
        go_simp
        try with_reducible rfl
      simp only [List.setIfInBounds_toArray, List.set_cons_zero, List.set_cons_succ]
      refine takeD (i := 8) (v := ?_) 27 rfl rfl (by kernel_rfl) (by kernel_rfl) (by kernel_rfl) (fun _ _ _ h => h) (by assumption) (Or.inl ⟨by rfl, ?_⟩) ?_
      rotate_left
      · intro w hSw
        (try dsimp only at hSw)
        go_simp
        try with_reducible rfl
      simp only [List.setIfInBounds_toArray, List.set_cons_zero, List.set_cons_succ]
      refine takeD (i := 9) (v := ?_) 28 rfl rfl (by kernel_rfl) (by kernel_rfl) (by kernel_rfl) (fun _ _ _ h => h) (by assumption) (Or.inl ⟨by rfl, ?_⟩) ?_
      rotate_left
      · intro w hSw
        (try dsimp only at hSw)
        go_simp
        try with_reducible rfl
      simp only [List.setIfInBounds_toArray, List.set_cons_zero, List.set_cons_succ]
      refine wpAnyH_ready (rs := [3]) (by kernel_rfl) (by simp) ?_
      refine AllReadyH.cons (by simp only [List.getElem?_toArray, List.getElem?_cons_succ, List.getElem?_cons_zero]; rfl) (fun K hK => ?_) AllReadyH.nil
      go_simp
      go_at_call 19; (with_reducible refine (HP.out _ (HH.out.below (below_t HB1.out (below_t HB.out hHeld.2)))).mono ?_); rintro e w5a ⟨rfl, hb5a⟩
      refine hK.out _ _ ?_ (fun hHeldN => ?_)
      · exact ⟨keepc hb5a hHeld.1, below_t hHeld.2 hb5a⟩
      clear hK K hHeld
      have hHeld := hHeldN
      clear hHeldN
      (try simp only [Act.put, List.setIfInBounds_toArray, List.set_cons_zero, List.set_cons_succ])
      refine takeD (i := 4) (v := ?_) 23 rfl rfl (by kernel_rfl) (by kernel_rfl) (by kernel_rfl) (fun _ _ _ h => h) (by assumption) (Or.inl ⟨by rfl, ?_⟩) ?_
      rotate_left
      · intro w hSw
        (try dsimp only at hSw)
        go_simp
        try with_reducible rfl
      simp only [List.setIfInBounds_toArray, List.set_cons_zero, List.set_cons_succ]
      refine wpAnyH_ready (rs := [10]) (by kernel_rfl) (by simp) ?_
      refine AllReadyH.cons (by simp only [List.getElem?_toArray, List.getElem?_cons_succ, List.getElem?_cons_zero]; rfl) (fun K hK => ?_) AllReadyH.nil
      go_simp
      go_at_call 88; (with_reducible refine (HM1.out _).mono ?_); rintro e w6a ⟨rfl, rfl⟩
      refine hK.out _ _ ?_ (fun hHeldN => ?_)
      · exact hHeld
      clear hK K hHeld
      have hHeld := hHeldN
      clear hHeldN
      (try simp only [Act.put, List.setIfInBounds_toArray, List.set_cons_zero, List.set_cons_succ])
      refine takeD (i := 11) (v := ?_) 11 rfl rfl (by kernel_rfl) (by kernel_rfl) (by kernel_rfl) (fun _ _ _ h => h) (by assumption) (Or.inl ⟨by rfl, ?_⟩) ?_
      rotate_left
      · intro w hSw
        (try dsimp only at hSw)
        go_simp
        try with_reducible rfl
      simp only [List.setIfInBounds_toArray, List.set_cons_zero, List.set_cons_succ]
      refine wpAnyH_done (by kernel_rfl) ?_ _
      have HEa := hid hHeld
      clear hHeld
      have HBY := hid (below_t HB.out HEa.out.2)
      have c4b := HEa.out.1
      have hl4b := World.block_lt_of_cell? _ _ c4b
      clear HEa HB
      go_wp2_with fail
      generalize w5a = w5 at HBY c4b hl4b ⊢
      refine wp_region_held_drew (S := fun V => V.cell? ⟨b, 4, none⟩ = some (.slice (some ⟨g, 0, none⟩) N N) ∧ Below w5.heap.size w5 V) (by kernel_rfl) ?_ (fun hHeld => ?_)
      · have hdr : Below w5.heap.size w5 w5.drew := (Below.refl _ _).drew
        exact ⟨keepc hdr c4b, hdr⟩
      refine takeD (i := 0) (v := ?_) 31 rfl rfl (by kernel_rfl) (by kernel_rfl) (by kernel_rfl) (fun _ _ _ h => h) (by assumption) (Or.inl ⟨by rfl, ?_⟩) ?_
      rotate_left
      · intro w hSw
        (try dsimp only at hSw)
        go_simp
        try with_reducible rfl
      simp only [List.setIfInBounds_toArray, List.set_cons_zero, List.set_cons_succ]
      refine takeD (i := 1) (v := ?_) 32 rfl rfl (by kernel_rfl) (by kernel_rfl) (by kernel_rfl) (fun _ _ _ h => h) (by assumption) (Or.inl ⟨by rfl, ?_⟩) ?_
      rotate_left
      · intro w hSw
        (try dsimp only at hSw)
        go_simp
        try with_reducible rfl
      simp only [List.setIfInBounds_toArray, List.set_cons_zero, List.set_cons_succ]
      refine takeD (i := 3) (v := ?_) 34 rfl rfl (by kernel_rfl) (by kernel_rfl) (by kernel_rfl) (fun _ _ _ h => h) (by assumption) (Or.inl ⟨by rfl, ?_⟩) ?_
      rotate_left
      · intro w hSw
        (try dsimp only at hSw)
        go_simp
        try with_reducible rfl
      simp only [List.setIfInBounds_toArray, List.set_cons_zero, List.set_cons_succ]
      refine takeD (i := 5) (v := ?_) 36 rfl rfl (by kernel_rfl) (by kernel_rfl) (by kernel_rfl) (fun _ _ _ h => h) (by assumption) (Or.inl ⟨by rfl, ?_⟩) ?_
      rotate_left
      · intro w hSw
        (try dsimp only at hSw)
        go_simp
        try with_reducible rfl
      simp only [List.setIfInBounds_toArray, List.set_cons_zero, List.set_cons_succ]
      refine takeD (i := 6) (v := ?_) 37 rfl rfl (by kernel_rfl) (by kernel_rfl) (by kernel_rfl) (fun _ _ _ h => h) (by assumption) (Or.inl ⟨by rfl, ?_⟩) ?_
      rotate_left
      · intro w hSw
        (try dsimp only at hSw)
        go_simp
        try with_reducible rfl
      simp only [List.setIfInBounds_toArray, List.set_cons_zero, List.set_cons_succ]
      refine takeD (i := 7) (v := ?_) 38 rfl rfl (by kernel_rfl) (by kernel_rfl) (by kernel_rfl) (fun _ _ _ h => h) (by assumption) (Or.inl ⟨by rfl, ?_⟩) ?_
      rotate_left
      · intro w hSw
        (try dsimp only at hSw)
        go_simp
        try with_reducible rfl
      simp only [List.setIfInBounds_toArray, List.set_cons_zero, List.set_cons_succ]
      refine takeD (i := 8) (v := ?_) 39 rfl rfl (by kernel_rfl) (by kernel_rfl) (by kernel_rfl) (fun _ _ _ h => h) (by assumption) (Or.inl ⟨by rfl, ?_⟩) ?_
      rotate_left
      · intro w hSw
        (try dsimp only at hSw)
        go_simp
        try with_reducible rfl
      simp only [List.setIfInBounds_toArray, List.set_cons_zero, List.set_cons_succ]
      refine takeD (i := 9) (v := ?_) 40 rfl rfl (by kernel_rfl) (by kernel_rfl) (by kernel_rfl) (fun _ _ _ h => h) (by assumption) (Or.inl ⟨by rfl, ?_⟩) ?_
      rotate_left
      · intro w hSw
        (try dsimp only at hSw)
        go_simp
        try with_reducible rfl
      simp only [List.setIfInBounds_toArray, List.set_cons_zero, List.set_cons_succ]
      refine wpAnyH_ready (rs := [2]) (by kernel_rfl) (by simp) ?_
      refine AllReadyH.cons (by simp only [List.getElem?_toArray, List.getElem?_cons_succ, List.getElem?_cons_zero]; rfl) (fun K hK => ?_) AllReadyH.nil
      go_simp
      go_at_call 19; (with_reducible refine (HP.out _ (HH.out.below (below_t HB1.out (below_t HBY.out hHeld.2)))).mono ?_); rintro e w5b ⟨rfl, hb5b⟩
      refine hK.out _ _ ?_ (fun hHeldN => ?_)
      · exact ⟨keepc hb5b hHeld.1, below_t hHeld.2 hb5b⟩
      clear hK K hHeld
      have hHeld := hHeldN
      clear hHeldN
      (try simp only [Act.put, List.setIfInBounds_toArray, List.set_cons_zero, List.set_cons_succ])
      refine takeD (i := 4) (v := ?_) 35 rfl rfl (by kernel_rfl) (by kernel_rfl) (by kernel_rfl) (fun _ _ _ h => h) (by assumption) (Or.inl ⟨by rfl, ?_⟩) ?_
      rotate_left
      · intro w hSw
        (try dsimp only at hSw)
        go_simp
        try with_reducible rfl
      simp only [List.setIfInBounds_toArray, List.set_cons_zero, List.set_cons_succ]
      refine wpAnyH_ready (rs := [10]) (by kernel_rfl) (by simp) ?_
      refine AllReadyH.cons (by simp only [List.getElem?_toArray, List.getElem?_cons_succ, List.getElem?_cons_zero]; rfl) (fun K hK => ?_) AllReadyH.nil
      go_simp
      go_at_call 88; (with_reducible refine (HM2.out _).mono ?_); rintro e w6b ⟨rfl, rfl⟩
      refine hK.out _ _ ?_ (fun hHeldN => ?_)
      · exact hHeld
      clear hK K hHeld
      have hHeld := hHeldN
      clear hHeldN
      (try simp only [Act.put, List.setIfInBounds_toArray, List.set_cons_zero, List.set_cons_succ])
      refine takeD (i := 11) (v := ?_) 11 rfl rfl (by kernel_rfl) (by kernel_rfl) (by kernel_rfl) (fun _ _ _ h => h) (by assumption) (Or.inl ⟨by rfl, ?_⟩) ?_
      rotate_left
      · intro w hSw
        (try dsimp only at hSw)
        go_simp
        try with_reducible rfl
      simp only [List.setIfInBounds_toArray, List.set_cons_zero, List.set_cons_succ]
      refine wpAnyH_done (by kernel_rfl) ?_ _
      have HEb := hid hHeld
      clear hHeld
      have HBX := hid (below_t HBY.out HEb.out.2)
      have HZZ := HZ2
      clear HEb HBY
      generalize z2 = zz at HZZ
      have cx := keepc HBX.out H4.out
      have hlx := World.block_lt_of_cell? _ _ cx
      by_cases hzz : zz = 0
      · have HDE := hid (show dst N p true f = N by unfold dst; rw [HZZ.out, if_pos hzz])
        subst hzz
        by_cases hbe : be < 0
        · have HK2 := hid (show BestK N p true (l.take (k + 1)) f (N : Nat) by
            have q := HK.out.new f (.inl hbe)
            rw [HTK.out]
            rwa [HDE.out] at q)
          go_wp2
          go_roundw
          case rel => exact ⟨_, _, k + 1, rfl, rfl, by omega, by go_num, HK2.out, HBX.out⟩
          case measure => simp [intOf]; omega
        · by_cases hfa : ((N : Nat) : Int) < fa
          · have HK2 := hid (show BestK N p true (l.take (k + 1)) f (N : Nat) by
              have q := HK.out.new f (.inr (by rw [HDE.out]; exact hfa))
              rw [HTK.out]
              rwa [HDE.out] at q)
            go_wp2
            go_roundw
            case rel => exact ⟨_, _, k + 1, rfl, rfl, by omega, by go_num, HK2.out, HBX.out⟩
            case measure => simp [intOf]; omega
          · have HK2 := hid (show BestK N p true (l.take (k + 1)) be fa by
              have q := HK.out.old f hbe (by rw [HDE.out]; exact hfa)
              rw [HTK.out]
              exact q)
            go_wp2
            go_roundw
            case rel => exact ⟨_, _, k + 1, rfl, rfl, by omega, by go_num, HK2.out, HBX.out⟩
            case measure => simp [intOf]; omega
      · have HDE := hid (show dst N p true f = zz by unfold dst; rw [HZZ.out, if_neg hzz])
        have hzi : ¬ (zz : Int) = 0 := by omega
        by_cases hbe : be < 0
        · have HK2 := hid (show BestK N p true (l.take (k + 1)) f (zz : Nat) by
            have q := HK.out.new f (.inl hbe)
            rw [HTK.out]
            rwa [HDE.out] at q)
          go_wp2
          go_roundw
          case rel => exact ⟨_, _, k + 1, rfl, rfl, by omega, by go_num, HK2.out, HBX.out⟩
          case measure => simp [intOf]; omega
        · by_cases hfa : ((zz : Nat) : Int) < fa
          · have HK2 := hid (show BestK N p true (l.take (k + 1)) f (zz : Nat) by
              have q := HK.out.new f (.inr (by rw [HDE.out]; exact hfa))
              rw [HTK.out]
              rwa [HDE.out] at q)
            go_wp2
            go_roundw
            case rel => exact ⟨_, _, k + 1, rfl, rfl, by omega, by go_num, HK2.out, HBX.out⟩
            case measure => simp [intOf]; omega
          · have HK2 := hid (show BestK N p true (l.take (k + 1)) be fa by
              have q := HK.out.old f hbe (by rw [HDE.out]; exact hfa)
              rw [HTK.out]
              exact q)
            go_wp2
            go_roundw
            case rel => exact ⟨_, _, k + 1, rfl, rfl, by omega, by go_num, HK2.out, HBX.out⟩
            case measure => simp [intOf]; omega
    · obtain rfl : k = K := by omega
      have HD := hid (show BestR N p true l be by
        have q := HK.out
        rw [← HLK.out, List.take_length] at q
        exact q.done)
      go_wp2
      go_ret
      exact ⟨⟨_, rfl, by rw [HLE.out]; exact HD.out⟩, below_t HB1.out HB.out⟩
end
end Go.Proofs.Ytpehhinpohmpiaa
namespace Go.Proofs.Ytpehhinpohmpiaa
open Go.RowKit Go.Lib Go.Deep

theorem sub_mod_eq (n m d N : Int) (h : n % N = m % N) : (n - d) % N = (m - d) % N := by
  rw [Int.sub_emod, h, ← Int.sub_emod]
theorem add_mod_eq (n m d N : Int) (h : n % N = m % N) : (n + d) % N = (m + d) % N := by
  rw [Int.add_emod, h, ← Int.add_emod]
theorem firstB_congr {s : Spc} {n m : Int} (h : n % (s.L.length : Int) = m % (s.L.length : Int)) : firstB s n = firstB s m := by
  unfold firstB Spc.atC Spc.wr
  rw [h, sub_mod_eq n m 1 _ h]
theorem wr_congr {s : Spc} {n m : Int} (h : n % (s.L.length : Int) = m % (s.L.length : Int)) : s.wr n = s.wr m := by
  unfold Spc.wr
  rw [h]
theorem wr_mod {s : Spc} (h : s.OK) (n : Int) : ((s.wr n : Nat) : Int) % (s.L.length : Int) = n % (s.L.length : Int) := by
  rw [h.wr_eq, Int.emod_emod]
theorem dst_on {N p f : Nat} (hp : p < N) (hf : f < N) : dst N p false f = if p < f then f - p else f + N - p := by
  unfold dst dst0
  simp only [Bool.false_eq_true, if_false]
  by_cases h : p < f
  · rw [if_pos h, Int.emod_eq_of_lt (by omega) (by omega), if_neg (by omega)]
    omega
  · rw [if_neg h]
    by_cases e : p = f
    · subst e
      rw [Int.sub_self, Int.zero_emod]
      show (if (0 : Nat) = 0 then N else 0) = _
      rw [if_pos rfl]
      omega
    · rw [← Int.add_emod_right, Int.emod_eq_of_lt (by omega) (by omega), if_neg (by omega)]
      omega
theorem dst_back {N p f : Nat} (hp : p < N) (hf : f < N) : dst N p true f = if f < p then p - f else p + N - f := by
  unfold dst dst0
  simp only [if_true]
  by_cases h : f < p
  · rw [if_pos h, Int.emod_eq_of_lt (by omega) (by omega), if_neg (by omega)]
    omega
  · rw [if_neg h]
    by_cases e : p = f
    · subst e
      rw [Int.sub_self, Int.zero_emod]
      show (if (0 : Nat) = 0 then N else 0) = _
      rw [if_pos rfl]
      omega
    · rw [← Int.add_emod_right, Int.emod_eq_of_lt (by omega) (by omega), if_neg (by omega)]
      omega
def stB (back : Bool) : Int := if back then -1 else 1
/-- A place is as far as it lies. -/
theorem dst_to {N p f : Nat} (back : Bool) (hp : p < N) (hf : f < N) : 1 ≤ dst N p back f ∧ dst N p back f ≤ N ∧ ((p : Int) + stB back * (dst N p back f : Int)) % (N : Int) = (f : Int) % (N : Int) := by
  cases back
  · rw [dst_on hp hf, show stB false = 1 from rfl]
    split
    · refine ⟨by omega, by omega, ?_⟩
      congr 1
      omega
    · refine ⟨by omega, by omega, ?_⟩
      rw [show (p : Int) + 1 * ((f + N - p : Nat) : Int) = (f : Int) + N by omega, Int.add_emod_right]
  · rw [dst_back hp hf, show stB true = -1 from rfl]
    split
    · refine ⟨by omega, by omega, ?_⟩
      congr 1
      omega
    · refine ⟨by omega, by omega, ?_⟩
      rw [show (p : Int) + -1 * ((p + N - f : Nat) : Int) = (f : Int) - N by omega, ← Int.add_emod_right]
      congr 1
      omega
theorem mod_inj {N a b : Nat} (ha : a < N) (hb : b < N) (h : (a : Int) % (N : Int) = (b : Int) % (N : Int)) : a = b := by
  rw [Int.emod_eq_of_lt (by omega) (by omega), Int.emod_eq_of_lt (by omega) (by omega)] at h
  omega
theorem dst_inj {N p f f' : Nat} (back : Bool) (hp : p < N) (hf : f < N) (hf' : f' < N) (h : dst N p back f = dst N p back f') : f = f' := by
  have h1 := (dst_to back hp hf).2.2
  have h2 := (dst_to back hp hf').2.2
  rw [h] at h1
  exact mod_inj hf hf' (h1.symm.trans h2)
theorem dst_of {N p x k : Nat} (back : Bool) (hp : p < N) (hx : x < N) (hk : k < N) (h : ((p : Int) + stB back * ((k : Int) + 1)) % (N : Int) = (x : Int) % (N : Int)) : dst N p back x = k + 1 := by
  rw [Int.emod_eq_of_lt (a := (x : Int)) (by omega) (by omega)] at h
  cases back
  · rw [dst_on hp hx]
    rw [show stB false = 1 from rfl] at h
    by_cases e : p + (k + 1) < N
    · rw [Int.emod_eq_of_lt (by omega) (by omega)] at h
      rw [if_pos (by omega)]
      omega
    · rw [show (p : Int) + 1 * ((k : Int) + 1) = ((p : Int) + (k + 1) - N) + N by omega, Int.add_emod_right, Int.emod_eq_of_lt (by omega) (by omega)] at h
      rw [if_neg (by omega)]
      omega
  · rw [dst_back hp hx]
    rw [show stB true = -1 from rfl] at h
    by_cases e : k + 1 ≤ p
    · rw [Int.emod_eq_of_lt (by omega) (by omega)] at h
      rw [if_pos (by omega)]
      omega
    · rw [← Int.add_emod_right, Int.emod_eq_of_lt (by omega) (by omega)] at h
      rw [if_neg (by omega)]
      omega
/-- A first place is one that is told. -/
theorem firL_iff {s : Spc} (h : s.OK) {f : Nat} (hf : f < s.L.length) : f ∈ firL s ↔ firstB s (f : Int) = true := by
  have hN := big_len h
  have hwf : s.wr (f : Int) = f := wr_nat hf
  have hwp : s.wr ((f : Int) - 1) = bk s.L.length f 1 := wr_bk (q := 1) hf (by omega)
  have e : firstB s (f : Int) = ((s.cel (bk s.L.length f 1)).at_ && !(s.cel (bk s.L.length f 1)).prot && !(s.cel f).at_) := by
    unfold firstB Spc.atC
    rw [hwf, hwp]
  rw [e]
  have hba : bk s.L.length f 1 < s.L.length := by unfold bk; split <;> omega
  have hb1 : (bk s.L.length f 1 + 1) % s.L.length = f := by
    rw [modN (by omega)]
    unfold bk
    split <;> split <;> omega
  constructor
  · intro hm
    unfold firL flS at hm
    obtain ⟨a, ha, rfl⟩ := List.mem_map.1 hm
    obtain ⟨ha1, ha2⟩ := List.mem_filter.1 ha
    have ham := attP_mem (P := s.P) (N := s.L.length) ha1
    have hab : bk s.L.length ((a + 1) % s.L.length) 1 = a := by
      rw [modN (by omega)]
      unfold bk
      split <;> split <;> omega
    rw [hab]
    unfold goodA at ha2
    have h2 : s.P a = true := ham.2
    unfold Spc.P at ha2 h2
    rw [h2]
    simpa using ha2
  · intro hm
    unfold firL flS
    refine List.mem_map.2 ⟨bk s.L.length f 1, List.mem_filter.2 ⟨?_, ?_⟩, hb1⟩
    · show _ ∈ attP s.P s.L.length
      unfold attP
      have : s.P (bk s.L.length f 1) = true := by
        unfold Spc.P
        simp at hm
        exact hm.1.1
      simp [hba, this]
    · unfold goodA
      rw [hb1]
      unfold Spc.P
      simp at hm
      simp [hm.1.2, hm.2]
theorem seek_best {s : Spc} (h : s.OK) (back : Bool) {p : Nat} (hp : p < s.L.length) {r : Int} (hr : SeekR s p (stB back) r) : BestR s.L.length p back (firL s) r := by
  have hN := h.pos
  have key : ∀ f, f ∈ firL s → f < s.L.length ∧ firstB s ((p : Int) + stB back * (dst s.L.length p back f : Int)) = true := fun f hf => by
    have hfN := firL_mem hN.1 hf
    refine ⟨hfN, ?_⟩
    rw [firstB_congr (dst_to back hp hfN).2.2]
    exact (firL_iff h hfN).1 hf
  rcases hr with ⟨k, h1, h2, h3, h4⟩ | ⟨h1, h2⟩
  · right
    have hx := h.wr_lt ((p : Int) + stB back * ((k : Int) + 1))
    have hm := (wr_mod h ((p : Int) + stB back * ((k : Int) + 1))).symm
    have hd := dst_of back hp hx h1 hm
    refine ⟨_, (firL_iff h hx).2 (by rw [← firstB_congr hm]; exact h2), h4, fun f' hf' => ?_⟩
    obtain ⟨hf1, hf2⟩ := key f' hf'
    have hd1 := (dst_to back hp hf1).1
    rw [hd]
    apply Nat.le_of_not_lt
    intro hlt
    have := h3 (dst s.L.length p back f' - 1) (by omega)
    rw [show (((dst s.L.length p back f' - 1 : Nat) : Int) + 1) = (dst s.L.length p back f' : Int) by omega, hf2] at this
    cases this
  · left
    refine ⟨List.eq_nil_iff_forall_not_mem.2 fun f hf => ?_, h2⟩
    obtain ⟨hf1, hf2⟩ := key f hf
    have hd := dst_to back hp hf1
    have := h1 (dst s.L.length p back f - 1) (by omega)
    rw [show (((dst s.L.length p back f - 1 : Nat) : Int) + 1) = (dst s.L.length p back f : Int) by omega, hf2] at this
    cases this
theorem best_one {N p : Nat} {back : Bool} {l : List Nat} {r r' : Int} (hp : p < N) (hl : ∀ f ∈ l, f < N) (h : BestR N p back l r) (h' : BestR N p back l r') : r = r' := by
  rcases h with ⟨h1, h2⟩ | ⟨f, h1, h2, h3⟩
  · rcases h' with ⟨_, k2⟩ | ⟨f', k1, _, _⟩
    · rw [h2, k2]
    · rw [h1] at k1; cases k1
  · rcases h' with ⟨k1, _⟩ | ⟨f', k1, k2, k3⟩
    · rw [k1] at h1; cases h1
    · rw [h2, k2, dst_inj back hp (hl f h1) (hl f' k1) (Nat.le_antisymm (h3 f' k1) (k3 f h1))]
theorem SeekR.bd {s : Spc} {p : Nat} {st r : Int} (h : SeekR s p st r) : r = -1 ∨ ∃ k : Nat, r = (s.wr ((p : Int) + st * ((k : Int) + 1)) : Int) ∧ firstB s ((p : Int) + st * ((k : Int) + 1)) = true := by
  rcases h with ⟨k, _, h2, _, h4⟩ | ⟨_, h2⟩
  · exact .inr ⟨k, h4, h2⟩
  · exact .inl h2
/-- Back, and on again. -/
theorem seek_round {s : Spc} (h : s.OK) {a : Nat} (ha : a < s.L.length) (hf : firstB s (a : Int) = true) {r c : Int} (hr : SeekR s a (-1) r) (hc : SeekR s (s.wr r) 1 c) : c = (a : Int) := by
  have hN := h.pos
  have hself : ((a : Int) + -1 * (((s.L.length - 1 : Nat) : Int) + 1)) % (s.L.length : Int) = (a : Int) % (s.L.length : Int) := by
    rw [← Int.add_emod_right]
    congr 1
    omega
  rcases hr with ⟨k, h1, h2, h3, h4⟩ | ⟨h1, _⟩
  · have hb : (s.wr r : Int) % (s.L.length : Int) = ((a : Int) + -1 * ((k : Int) + 1)) % (s.L.length : Int) := by
      rw [wr_mod h, h4, wr_mod h]
    have hat : ∀ j : Nat, firstB s ((s.wr r : Int) + 1 * ((j : Int) + 1)) = firstB s ((a : Int) + -1 * ((k : Int) + 1) + 1 * ((j : Int) + 1)) := fun j => firstB_congr (add_mod_eq _ _ _ _ hb)
    have hk : firstB s ((s.wr r : Int) + 1 * ((k : Int) + 1)) = true := by
      rw [hat k, show (a : Int) + -1 * ((k : Int) + 1) + 1 * ((k : Int) + 1) = (a : Int) by omega]
      exact hf
    rcases hc with ⟨k2, c1, c2, c3, c4⟩ | ⟨c1, _⟩
    · have hle : ¬ k < k2 := fun q => by
        have := c3 k q
        rw [hk] at this
        cases this
      have hge : ¬ k2 < k := fun q => by
        rw [hat k2] at c2
        have := h3 (k - k2 - 1) (by omega)
        rw [show (a : Int) + -1 * (((k - k2 - 1 : Nat) : Int) + 1) = (a : Int) + -1 * ((k : Int) + 1) + 1 * ((k2 : Int) + 1) by omega, c2] at this
        cases this
      obtain rfl : k2 = k := by omega
      rw [c4, wr_congr (s := s) (add_mod_eq _ _ (1 * ((k2 : Int) + 1)) _ hb), show (a : Int) + -1 * ((k2 : Int) + 1) + 1 * ((k2 : Int) + 1) = (a : Int) by omega, wr_nat ha]
    · have := c1 k h1
      rw [hk] at this
      cases this
  · have := h1 (s.L.length - 1) (by omega)
    rw [firstB_congr hself, hf] at this
    cases this
theorem seek_first {s : Spc} (h : s.OK) {p : Nat} {st r : Int} (hr : SeekR s p st r) (h0 : 0 ≤ r) : ∃ a : Nat, a < s.L.length ∧ r = (a : Int) ∧ firstB s (a : Int) = true := by
  rcases hr.bd with q | ⟨k, h1, h2⟩
  · omega
  · exact ⟨_, h.wr_lt _, h1, by rw [firstB_congr (wr_mod h _)]; exact h2⟩
theorem seek_i64 {s : Spc} (h : s.OK) {p : Nat} {st r : Int} (hr : SeekR s p st r) : I64 r := by
  rcases hr.bd with q | ⟨k, h1, _⟩
  · rw [q]; exact ⟨by decide, by decide⟩
  · have := h.wr_lt ((p : Int) + st * ((k : Int) + 1))
    have := h.pos
    exact i64_small (by omega) (by omega)
/-- Numbers that lie below B. -/
structure NumsIn (B : Nat) (w : World) (v : Value) (xs : List Int) : Prop where
  i64 : ∀ i, i < xs.length → I64 (xs.getD i 0)
  len : xs.length ≤ 9223372036854775807
  sl : ∃ x c, v = .slice x xs.length c
  at_ : ∀ x c, v = .slice x xs.length c → ∀ i, i < xs.length → ∃ g o, x = some ⟨g, o, none⟩ ∧ g < B ∧ w.cell? ⟨g, o + i, none⟩ = some (.int .i64 (xs.getD i 0))
theorem NumsIn.below {B : Nat} {A C : World} {v : Value} {xs : List Int} (h : NumsIn B A v xs) (hb : Below B A C) : NumsIn B C v xs :=
  ⟨h.i64, h.len, h.sl, fun x c e i hi => by
    obtain ⟨g, o, e1, e2, e3⟩ := h.at_ x c e i hi
    exact ⟨g, o, e1, e2, (hb.cell (p := ⟨g, o + i, none⟩) e2).trans e3⟩⟩
end Go.Proofs.Ytpehhinpohmpiaa
