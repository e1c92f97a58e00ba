/-
  A field's places, told; its length.
  A field's length; the document's example.
  Of no space, there is nothing.
-/
import Derived.Test.YtlhaefgchmakfaaFg
namespace Go.Proofs.Ytlhaefgchmakfaa
open Go.RowKit Go.Lib Go.Deep

/-- The places behind a, from the i-th on, up to an attribute. -/
def plF (P : Nat → Bool) (N a : Nat) : Nat → Nat → List Nat
  | 0, _ => []
  | f + 1, i => if P ((a + 1 + i) % N) then [] else ((a + 1 + i) % N) :: plF P N a f (i + 1)
theorem plF_len (P : Nat → Bool) (N a : Nat) : ∀ f i, (plF P N a f i).length ≤ f
  | 0, _ => Nat.le_refl _
  | f + 1, i => by
    unfold plF
    split
    · simp
    · have := plF_len P N a f (i + 1)
      simp
      omega
theorem plF_get (P : Nat → Bool) (N a : Nat) : ∀ f i k, k < (plF P N a f i).length → (plF P N a f i)[k]? = some ((a + 1 + (i + k)) % N) ∧ P ((a + 1 + (i + k)) % N) = false
  | 0, _, k, h => absurd h (Nat.not_lt_zero _)
  | f + 1, i, k, h => by
    unfold plF at h ⊢
    by_cases e : P ((a + 1 + i) % N) = true
    · rw [if_pos e] at h
      exact absurd h (Nat.not_lt_zero _)
    · rw [if_neg e] at h ⊢
      cases k with
      | zero => exact ⟨rfl, by simpa using e⟩
      | succ k =>
        have := plF_get P N a f (i + 1) k (by simpa using h)
        rw [show i + 1 + k = i + (k + 1) by omega] at this
        simpa using this
theorem plF_stop (P : Nat → Bool) (N a : Nat) : ∀ f i, (plF P N a f i).length < f → P ((a + 1 + (i + (plF P N a f i).length)) % N) = true
  | 0, _, h => absurd h (Nat.not_lt_zero _)
  | f + 1, i, h => by
    unfold plF at h ⊢
    by_cases e : P ((a + 1 + i) % N) = true
    · rw [if_pos e]
      simpa using e
    · rw [if_neg e] at h ⊢
      have := plF_stop P N a f (i + 1) (by simpa using h)
      rw [List.length_cons, show i + ((plF P N a f (i + 1)).length + 1) = i + 1 + (plF P N a f (i + 1)).length by omega]
      exact this
/-- The places of the field whose attribute stands at a. -/
def plL (P : Nat → Bool) (N a : Nat) : List Nat := if P a then plF P N a (N - 1) 0 else []
/-- What the iterator must find. -/
def RPl (bx by_ b N : Nat) (n : Int) (P : Nat → Bool) (V : World) : Prop := V.cell? ⟨bx, 0, none⟩ = some (.pointer (some ⟨b, 0, none⟩)) ∧ V.cell? ⟨by_, 0, none⟩ = some (.int .i64 n) ∧ SpP b N P V
theorem sz_any {b N : Nat} {P : Nat → Bool} {w : World} (h : SpP b N P w) (w' : World) (hb : Below w.heap.size w w') : SpP b N P w' := by
  obtain ⟨g, s, hs, hl, hp⟩ := h
  exact ⟨g, s, hs.below hb, hl, hp⟩
/-- What calls on a space of N cells with such attributes answer. -/
structure SpC (b N : Nat) (P : Nat → Bool) (R C : Int) (W : World) : Prop where
  size : ∀ V, Below W.heap.size W V → Calls Try.prog 54 #[.pointer (some ⟨b, 0, none⟩)] V fun e w' => e = .returned (.agg #[.int .i64 R, .int .i64 C]) ∧ Below V.heap.size V w'
  at_ : ∀ (n : Int), I64 n → ∀ V, Below W.heap.size W V → Calls Try.prog 80 #[.pointer (some ⟨b, 0, none⟩), .int .i64 n] V fun e w' => (∃ x0 x2 x3 x4 x5, e = .returned (.agg #[.int .u8 x0, .bool (P ((n % (N : Int)).toNat)), .int .u8 x2, .int .u8 x3, .int .u8 x4, .int .u8 x5])) ∧ Below V.heap.size V w'
theorem SpP.calls {b N : Nat} {P : Nat → Bool} {W : World} (h : SpP b N P W) : 0 < N ∧ N ≤ 3564 ∧ ∃ R C, Ok R C ∧ R * C = (N : Int) ∧ SpC b N P R C W := by
  obtain ⟨g, s, hs, hl, hp⟩ := h
  have hpos := hs.ok.pos
  rw [hl] at hpos
  refine ⟨hpos.1, hpos.2, s.r, s.c, hs.ok.sz, by rw [← hs.ok.len, hl], fun V hV => size_any V (hs.below hV), fun n hn V hV => (at_any n hn V (hs.below hV)).mono fun e w' q => ⟨?_, q.2⟩⟩
  have hw : s.wr n < N := by rw [← hl]; exact hs.ok.wr_lt n
  have e2 : (s.atC n).at_ = P ((n % (N : Int)).toNat) := by
    have := hp (s.wr n) hw
    unfold Spc.atC
    rw [this]
    unfold Spc.wr
    rw [hl]
  refine ⟨(s.atC n).ch, (s.atC n).fa, (s.atC n).hi, (s.atC n).co, (s.atC n).se, ?_⟩
  rw [q.1, ← e2]
set_option maxRecDepth 100000 in
set_option maxHeartbeats 4000000 in
theorem places_seq (n : Nat) (hn : 4 ≤ n) (bx by_ b N : Nat) (n0 : Int) (hn0 : I64 n0) (P : Nat → Bool) (W : World) : SeqF Fence.wide n Try.prog 101 #[.pointer (some ⟨bx, 0, none⟩), .pointer (some ⟨by_, 0, none⟩)] encI (fun k x _ => (plL P N (n0 % (N : Int)).toNat)[k]? = some x) (plL P N (n0 % (N : Int)).toNat).length (RPl bx by_ b N n0 P) W := fun l I Ix hI hIx hR h0 hY => by
  obtain ⟨hb, hy0, hsp⟩ := hR _ _ _ h0
  have hlt : bx < W.heap.size := World.block_lt_of_cell? W _ hb
  have hlty : by_ < W.heap.size := World.block_lt_of_cell? W _ hy0
  obtain ⟨hN0, hN1, R, C, hok, hrc, hsc⟩ := hsp.calls
  obtain ⟨a, ha⟩ : ∃ a, (n0 % (N : Int)).toNat = a := ⟨_, rfl⟩
  have haN : a < N := by have := Int.emod_lt_of_pos n0 (show (0 : Int) < N by omega); have := Int.emod_nonneg n0 (show (N : Int) ≠ 0 by omega); omega
  have hai : n0 % (N : Int) = (a : Int) := by have := Int.emod_nonneg n0 (show (N : Int) ≠ 0 by omega); omega
  have HWR := hid (fun (m : Int) (hm : I64 m) R C (hok : Ok R C) (hrc : R * C = (N : Int)) V => (show Calls Try.prog 78 #[.agg #[.int .i64 R, .int .i64 C], .int .i64 m] V fun e w' => e = .returned (.int .i64 (m % (N : Int))) ∧ Below V.heap.size V w' from by rw [← hrc]; exact wrap_ok R C m hok hm V))
  have HCL := hid (fun R C (hok : Ok R C) (hrc : R * C = (N : Int)) V => (show Calls Try.prog 55 #[.agg #[.int .i64 R, .int .i64 C]] V fun e w' => e = .returned (.int .i64 (N : Int)) ∧ Below V.heap.size V w' from by rw [← hrc]; exact cells_ok R C hok V))
  rw [ha] at hY ⊢
  obtain ⟨K, hK⟩ : ∃ K, (plL P N a).length = K := ⟨_, rfl⟩
  rw [hK] at hY ⊢
  have HKL := hid hK
  have HY := hid hY
  have HR := hid hR
  have HI := hid hI
  have H0 := hid h0
  have HSC := hid hsc
  have HOK := hid hok
  have HRC := hid hrc
  have HAI := hid hai
  have HC0 := hid (And.intro hb hy0)
  have HNI := hid hn0
  clear hY hR h0 hI hsp hsc hok hrc hai ha hb hy0 hn0 hK
  refine callsIn_of_wp Try.func101 rfl trivial ?_ rfl
  simp only [Try.ntmps101, List.size_toArray, List.length_cons, List.length_nil, Nat.reduceAdd, Nat.reduceSub, Array.replicate_succ, Array.replicate_zero, List.push_toArray, List.append_toArray, List.nil_append, List.cons_append]
  gi_wp2
  refine wpIn_of_wpN ?_
  refine wp_region_held_drew (S := fun V => V.cell? ⟨bx, 0, none⟩ = some (.pointer (some ⟨b, 0, none⟩)) ∧ V.cell? ⟨by_, 0, none⟩ = some (.int .i64 n0) ∧ Below W.heap.size W V) (by kernel_rfl) ?_ (fun hHeld => ?_)
  · have hdr : Below W.heap.size W W.drew := (Below.refl _ _).drew
    exact ⟨keepc hdr HC0.out.1, keepc hdr HC0.out.2, hdr⟩
  refine takeD (i := 0) (v := ?_) 6 rfl rfl (by kernel_rfl) (by kernel_rfl) (by kernel_rfl) (fun _ _ _ h => h) (by assumption) (Or.inl ⟨by rfl, ?_⟩) ?_
  rotate_left
  · intro w hSw
    (try dsimp only at hSw)
    go_simp
    try with_reducible rfl
  simp only [List.setIfInBounds_toArray, List.set_cons_zero, List.set_cons_succ]
  refine takeD (i := 2) (v := ?_) 8 rfl rfl (by kernel_rfl) (by kernel_rfl) (by kernel_rfl) (fun _ _ _ h => h) (by assumption) (Or.inl ⟨by rfl, ?_⟩) ?_
  rotate_left
  · intro w hSw
    (try dsimp only at hSw)
    go_simp
    try with_reducible rfl
  simp only [List.setIfInBounds_toArray, List.set_cons_zero, List.set_cons_succ]
  refine wpAnyH_ready (rs := [1]) (by kernel_rfl) (by simp) ?_
  refine AllReadyH.cons (by simp only [List.getElem?_toArray, List.getElem?_cons_succ, List.getElem?_cons_zero]; rfl) (fun K hK => ?_) AllReadyH.nil
  go_simp
  go_at_call 54; (with_reducible refine (HSC.out.size _ hHeld.2.2).mono ?_); rintro e w1 ⟨rfl, hb1⟩
  refine hK.out _ _ ?_ (fun hHeldN => ?_)
  · exact ⟨keepc hb1 hHeld.1, keepc hb1 hHeld.2.1, below_t hHeld.2.2 hb1⟩
  clear hK K hHeld
  have hHeld := hHeldN
  clear hHeldN
  (try simp only [Act.put, List.setIfInBounds_toArray, List.set_cons_zero, List.set_cons_succ])
  refine wpAnyH_ready (rs := [3]) (by kernel_rfl) (by simp) ?_
  refine AllReadyH.cons (by simp only [List.getElem?_toArray, List.getElem?_cons_succ, List.getElem?_cons_zero]; rfl) (fun K hK => ?_) AllReadyH.nil
  go_simp
  go_at_call 78; (with_reducible refine (HWR.out n0 HNI.out R C HOK.out HRC.out _).mono ?_); rintro e w2 ⟨rfl, hb2⟩; rw [HAI.out]
  refine hK.out _ _ ?_ (fun hHeldN => ?_)
  · exact ⟨keepc hb2 hHeld.1, keepc hb2 hHeld.2.1, below_t hHeld.2.2 hb2⟩
  clear hK K hHeld
  have hHeld := hHeldN
  clear hHeldN
  (try simp only [Act.put, List.setIfInBounds_toArray, List.set_cons_zero, List.set_cons_succ])
  refine takeD (i := 4) (v := ?_) 4 rfl rfl (by kernel_rfl) (by kernel_rfl) (by kernel_rfl) (fun _ _ _ h => h) (by assumption) (Or.inl ⟨by rfl, ?_⟩) ?_
  rotate_left
  · intro w hSw
    (try dsimp only at hSw)
    go_simp
    try with_reducible rfl
  simp only [List.setIfInBounds_toArray, List.set_cons_zero, List.set_cons_succ]
  refine wpAnyH_done (by kernel_rfl) ?_ _
  have HE := hid hHeld
  clear hHeld
  dsimp only [OnlyN]
  have HI0 := hid (show I 0 [] w2 from HI.out _ _ _ _ (Grow.below HE.out.2.2 _) H0.out)
  have hz2 : W.heap.size ≤ w2.heap.size := HE.out.2.2.size
  clear HE HC0 H0 HSC HOK HRC
  gi_wp2
  gi_loopw [4, 5] (fun v i wr => ∃ k z : Nat, k ≤ K ∧ v = .int .i64 z ∧ Hid (z = (a + k) % N) ∧ i = .int .i64 ((k : Int) + 1) ∧ Hid (∃ S, I k S wr) ∧ W.heap.size ≤ wr.heap.size) (fun _ i _ => N - (intOf i).toNat)
  case atStart => exact ⟨0, a, by omega, rfl, by rw [Nat.add_zero, Nat.mod_eq_of_lt haN]; exact rfl, rfl, ⟨_, HI0.out⟩, hz2⟩
  case round =>
    clear HI0 hz2
    obtain ⟨k, z, hk, rfl, HZE, rfl, ⟨S, hi⟩, hsz⟩ := hrel
    have hzN : z < N := by rw [HZE.out]; exact Nat.mod_lt _ hN0
    obtain ⟨cb, cy, hsp⟩ := HR.out _ _ _ hi
    have hltb : bx < wr.heap.size := World.block_lt_of_cell? wr _ cb
    have hlty' : by_ < wr.heap.size := World.block_lt_of_cell? wr _ cy
    obtain ⟨-, -, R, C, hok, hrc, hsc⟩ := hsp.calls
    have HSC := hid hsc
    have HOK := hid hok
    have HRC := hid hrc
    have HI1 := hid hi
    have HCB := hid cb
    have HCY := hid cy
    have hKN : K ≤ N - 1 := by
      rw [← HKL.out]
      unfold plL
      split
      · exact plF_len P N a (N - 1) 0
      · simp
    have hf1 := celf1
    have hw1 : IntKind.i64.wrap ((k : Int) + 1) = (k : Int) + 1 := wrapI (i64_small (by omega) (by omega))
    clear hsp hok hrc hsc hi
    gi_wp2
    refine ⟨trivial, fun _ => (by omega), ?_⟩
    refine (callsIn_wide.2 (HSC.out.size _ (Below.refl _ _))).mono ?_
    rintro e w3 ⟨rfl, hb3⟩
    have HB3 := hid hb3
    clear hb3
    gi_wp2
    refine ⟨trivial, fun _ => (by omega), ?_⟩
    refine (callsIn_wide.2 (HCL.out R C HOK.out HRC.out _)).mono ?_
    rintro e w4 ⟨rfl, hb4⟩
    have HB4 := hid (below_t HB3.out hb4)
    clear hb4 HB3
    by_cases hkN : k + 1 < N
    · have hki : (k : Int) + 1 < N := by omega
      have cb4 := keepc HB4.out HCB.out
      have cy4 := keepc HB4.out HCY.out
      have hl4 : bx < w4.heap.size := World.block_lt_of_cell? w4 _ cb4
      have hl4y : by_ < w4.heap.size := World.block_lt_of_cell? w4 _ cy4
      clear cb cy
      gi_wp2
      refine ⟨trivial, fun _ => (by omega), ?_⟩
      refine (callsIn_wide.2 (HSC.out.at_ n0 HNI.out _ HB4.out)).mono ?_
      rintro e w5 ⟨⟨x0, x2, x3, x4, x5, rfl⟩, hb5⟩
      rw [HAI.out, Int.toNat_natCast]
      have HB5 := hid (below_t HB4.out hb5)
      clear hb5 HB4 cb4 cy4 hl4 hl4y
      obtain ⟨pa, hpa⟩ : ∃ pa, P a = pa := ⟨_, rfl⟩
      rw [hpa]
      cases pa
      · have HI5 := hid (show I K S w5 from by
          have e : k = K := by
            have := HKL.out
            unfold plL at this
            rw [hpa] at this
            simp at this
            omega
          rw [← e]
          exact HI.out _ _ _ _ (Grow.below HB5.out _) HI1.out)
        clear HB5
        gi_wp2
        go_end0
        exact ⟨⟨_, rfl⟩, .inl ⟨S, HI5.out⟩⟩
      · have hpl : (plF P N a (N - 1) 0).length = K := by
          have := HKL.out
          unfold plL at this
          rwa [hpa, if_pos rfl] at this
        have hpL : plL P N a = plF P N a (N - 1) 0 := by unfold plL; rw [hpa, if_pos rfl]
        have cb5 := keepc HB5.out HCB.out
        have hl5 : bx < w5.heap.size := World.block_lt_of_cell? w5 _ cb5
        have HPL := hid hpl
        have HPLL := hid hpL
        clear hpl hpL hpa
        gi_wp2
        refine ⟨trivial, fun _ => (by omega), ?_⟩
        refine (callsIn_wide.2 (HSC.out.size _ HB5.out)).mono ?_
        rintro e w6 ⟨rfl, hb6⟩
        have HB6 := hid (below_t HB5.out hb6)
        clear hb6 HB5 cb5 hl5
        have hw2 : IntKind.i64.wrap ((z : Int) + 1) = (z : Int) + 1 := wrapI (i64_small (by omega) (by omega))
        gi_wp2
        try simp only [hw2]
        refine ⟨trivial, fun _ => (by omega), ?_⟩
        refine (callsIn_wide.2 (HWR.out _ (i64_small (by omega) (by omega)) R C HOK.out HRC.out _)).mono ?_
        rintro e w7 ⟨rfl, hb7⟩
        have HB7 := hid (below_t HB6.out hb7)
        obtain ⟨y, hy1⟩ : ∃ y, (a + 1 + k) % N = y := ⟨_, rfl⟩
        have hyN : y < N := by rw [← hy1]; exact Nat.mod_lt _ hN0
        have hx : ((z : Int) + 1) % (N : Int) = (y : Int) := by
          rw [show ((z : Int) + 1) = ((z + 1 : Nat) : Int) by push_cast; rfl, ← Int.natCast_emod, ← hy1, HZE.out]
          congr 1
          rw [Nat.mod_add_mod]
          congr 1
          omega
        rw [hx]
        have HYE := hid hy1
        clear hb7 HB6 hx hw2 hy1
        have cb7 := keepc HB7.out HCB.out
        have hl7 : bx < w7.heap.size := World.block_lt_of_cell? w7 _ cb7
        gi_wp2
        refine ⟨trivial, fun _ => (by omega), ?_⟩
        refine (callsIn_wide.2 (HSC.out.at_ _ (i64_small (by omega) (by omega)) _ HB7.out)).mono ?_
        rintro e w8 ⟨⟨y0, y2, y3, y4, y5, rfl⟩, hb8⟩
        rw [show ((y : Int) % (N : Int)).toNat = y by rw [Int.emod_eq_of_lt (by omega) (by omega), Int.toNat_natCast]]
        have HB8 := hid (below_t HB7.out hb8)
        clear hb8 HB7 cb7 hl7
        have HI8 := hid (HI.out _ _ _ _ (Grow.below HB8.out _) HI1.out)
        have hz8 : W.heap.size ≤ w8.heap.size := Nat.le_trans hsz HB8.out.size
        obtain ⟨px, hpx⟩ : ∃ px, P y = px := ⟨_, rfl⟩
        rw [hpx]
        cases px
        · have hkK : k < K := by
            apply Nat.lt_of_not_le
            intro h
            have e : K = k := by omega
            have := plF_stop P N a (N - 1) 0 (by rw [HPL.out]; omega)
            rw [HPL.out, e, Nat.zero_add, HYE.out, hpx] at this
            cases this
          have hel : (plL P N a)[k]? = some y := by
            rw [HPLL.out]
            have := (plF_get P N a (N - 1) 0 k (by rw [HPL.out]; exact hkK)).1
            rwa [Nat.zero_add, HYE.out] at this
          obtain ⟨f1, t1, a6, b1, hy, hr⟩ := HY.out k _ S w8 hkK hel HI8.out hz8
          have HRR := hid hr
          clear hr hel hpx
          gi_wp2
          refine ⟨fun _ => (by omega), HRR.out.mono ?_⟩
          rintro e W1 ⟨S', ht, ⟨rfl, hj⟩ | ⟨rfl, hj⟩⟩
          · have HJ := hid (show ∃ S, I (k + 1) S W1 from ⟨S', hj⟩)
            have hsz1 := Nat.le_trans hz8 ht.size
            clear hj ht HB8 HI8
            gi_wp2
            go_roundw
            case rel => exact ⟨k + 1, y, by omega, rfl, by rw [← HYE.out, show a + 1 + k = a + (k + 1) by omega]; exact rfl, by go_num, HJ, hsz1⟩
            case measure => simp [intOf]; omega
          · have HJ := hid hj
            clear hj ht HB8 HI8
            gi_wp2
            refine bodyPost_ret (results_none rfl _ _ _) rfl ?_
            exact ⟨⟨_, rfl⟩, .inr ⟨k, S', hkK, HJ.out⟩⟩
        · have e : k = K := by
            apply Nat.le_antisymm hk
            apply Nat.le_of_not_lt
            intro h
            have := (plF_get P N a (N - 1) 0 k (by rw [HPL.out]; exact h)).2
            rw [Nat.zero_add, HYE.out, hpx] at this
            cases this
          have HI9 := hid (show I K S w8 by rw [← e]; exact HI8.out)
          clear HB8 HI8 hpx
          gi_wp2
          rename_i aK _ _ _ _
          refine ⟨fun _ f => (by cases f), aK _ _ ?_⟩
          gi_wp2
          refine bodyPost_ret (results_none rfl _ _ _) rfl ?_
          exact ⟨⟨_, rfl⟩, .inl ⟨S, HI9.out⟩⟩
    · have hki : ¬ (k : Int) + 1 < N := by omega
      have e : k = K := by omega
      have HI5 := hid (show I K S w4 by rw [← e]; exact HI.out _ _ _ _ (Grow.below HB4.out _) HI1.out)
      clear HB4 cb cy
      gi_wp2
      rename_i aK _
      refine ⟨trivial, aK _ _ ?_⟩
      gi_wp2
      go_end0
      exact ⟨⟨_, rfl⟩, .inl ⟨S, HI5.out⟩⟩
end Go.Proofs.Ytlhaefgchmakfaa
namespace Go.Proofs.Ytlhaefgchmakfaa
open Go.RowKit Go.Lib Go.Deep

set_option maxRecDepth 100000 in
set_option maxHeartbeats 4000000 in
theorem placesIt (o : Option Addr) (n : Int) (w : World) : Calls Try.prog 79 #[.pointer o, .int .i64 n] w fun e w' => ∃ bx by_, e = .returned (.func (.func 101) #[] #[.pointer (some ⟨bx, 0, none⟩), .pointer (some ⟨by_, 0, none⟩)]) ∧ w.heap.size ≤ bx ∧ w.heap.size ≤ by_ ∧ w'.cell? ⟨bx, 0, none⟩ = some (.pointer o) ∧ w'.cell? ⟨by_, 0, none⟩ = some (.int .i64 n) ∧ Below w.heap.size w w' := by
  obtain ⟨w0, hw0⟩ : ∃ w0, w.alloc (.cells #[.pointer o] 24) = w0 := ⟨_, rfl⟩
  have hz : w0.heap.size = w.heap.size + 1 := by rw [← hw0]; simp
  have hb0 : Below w.heap.size w w0 := by rw [← hw0]; exact bal (Below.refl _ _) _
  have hc0 : w0.cell? ⟨w.heap.size, 0, none⟩ = some (.pointer o) := by rw [← hw0]; simp [go_sem]
  have H := hid (And.intro hz (And.intro hb0 (And.intro hc0 hw0)))
  clear hz hb0 hc0 hw0
  go_enter Try.func79, Try.ntmps79
  go_wp2
  go_ret
  simp only [H.out.2.2.2]
  refine ⟨w.heap.size, w0.heap.size, ?_, Nat.le_refl _, by rw [H.out.1]; omega, keepc (bal (Below.refl _ _) _) H.out.2.2.1, by simp [go_sem], below_t H.out.2.1 (bal (Below.refl _ _) _)⟩
  first
    | rfl
    | (rw [H.out.1]; rfl)
section
attribute [local go_sem] Oper.semAt_some
end
/-- The example's space. -/
def actA : ActD := ⟨3, 2, false, 32, cel0, .slice none 0 0, []⟩
def actB : ActD := ⟨3, 5, false, 0, cel0, .slice none 0 0, []⟩
def exS : Spc := runS (clearS (2 + ((0 % 4 : Nat) : Int)) false) [actA, actB] 2
theorem exS_eq : exS = ((clearS 2 false).setC 2 ⟨0, true, 32, 0, 0, 0⟩).setC 5 ⟨0, true, 0, 0, 0, 0⟩ := rfl
theorem exS_len : exS.L.length = 1920 := by rw [exS_eq, setC_len, setC_len]; unfold clearS; rw [List.length_replicate]; rfl
theorem exS_cel (i : Nat) : exS.cel i = if i = 5 then ⟨0, true, 0, 0, 0, 0⟩ else if i = 2 then ⟨0, true, 32, 0, 0, 0⟩ else cel0 := by
  have hl : (clearS 2 false).L.length = 1920 := by unfold clearS; rw [List.length_replicate]; rfl
  rw [exS_eq]
  unfold Spc.setC
  rw [Spc.put1_cel, Spc.put1_cel, clear_cel]
  have e1 : ((clearS 2 false).put1 ((clearS 2 false).wr 2) (fit ⟨0, true, 32, 0, 0, 0⟩)).wr 5 = 5 := by
    unfold Spc.wr
    rw [Spc.put1_len, hl]
    rfl
  have e2 : (clearS 2 false).wr 2 = 2 := by
    unfold Spc.wr
    rw [hl]
    rfl
  rw [e1, e2, Spc.put1_len, hl]
  have f1 : fit ⟨0, true, 0, 0, 0, 0⟩ = ⟨0, true, 0, 0, 0, 0⟩ := by decide +kernel
  have f2 : fit ⟨0, true, 32, 0, 0, 0⟩ = ⟨0, true, 32, 0, 0, 0⟩ := by decide +kernel
  rw [f1, f2]
  by_cases h5 : i = 5
  · rw [if_pos ⟨h5, by omega⟩, if_pos h5]
  · rw [if_neg (fun q => h5 q.1), if_neg h5]
    by_cases h2 : i = 2
    · rw [if_pos ⟨h2, by omega⟩, if_pos h2]
    · rw [if_neg (fun q => h2 q.1), if_neg h2]
theorem exS_P (i : Nat) : exS.P i = (i == 5 || i == 2) := by
  unfold Spc.P
  rw [exS_cel]
  by_cases h5 : i = 5
  · rw [if_pos h5]; simp [h5]
  · rw [if_neg h5]
    by_cases h2 : i = 2
    · rw [if_pos h2]; simp [h2]
    · rw [if_neg h2]; simp [h5, h2, cel0]
theorem exS_P_no {i : Nat} (h5 : i ≠ 5) (h2 : i ≠ 2) : exS.P i = false := by rw [exS_P]; simp [h5, h2]
theorem exS_P_yes {i : Nat} (h : exS.P i = true) : i = 5 ∨ i = 2 := by rw [exS_P] at h; simpa using h
theorem exS_wr {i : Nat} (h : i < 1920) : exS.wr (i : Int) = i := wr_nat (by rw [exS_len]; exact h)
theorem exS_start : stF exS.P exS.L.length (exS.wr 1) = 5 := by
  rw [show (1 : Int) = ((1 : Nat) : Int) from rfl, exS_wr (by decide), exS_len]
  have := stF_found (P := exS.P) (N := 1920) (p := 1) (q := 1916) (by decide) (fun j hj => by
    unfold bk
    split
    · exact exS_P_no (by omega) (by omega)
    · exact exS_P_no (by omega) (by omega)) (by
    rw [show bk 1920 1 1916 = 5 from rfl, exS_P]
    rfl)
  rw [this]
  rfl
theorem exS_plen : (plL exS.P exS.L.length (exS.wr 5)).length = 1916 := by
  rw [show (5 : Int) = ((5 : Nat) : Int) from rfl, exS_wr (by decide), exS_len]
  unfold plL
  rw [if_pos (by rw [exS_P]; rfl)]
  have h1 := plF_len exS.P 1920 5 (1920 - 1) 0
  by_cases h : (plF exS.P 1920 5 (1920 - 1) 0).length < 1920 - 1
  · have := exS_P_yes (plF_stop exS.P 1920 5 (1920 - 1) 0 h)
    omega
  · have := (plF_get exS.P 1920 5 (1920 - 1) 0 1916 (by omega)).2
    rw [exS_P] at this
    cases this
theorem exS_first (n : Nat) (h1 : 1 ≤ n) (h2 : n ≤ 1919) : firstB exS (n : Int) = decide (n = 6) := by
  unfold firstB Spc.atC
  rw [show (n : Int) - 1 = ((n - 1 : Nat) : Int) by omega, exS_wr (by omega), exS_wr (by omega), exS_cel, exS_cel]
  by_cases h6 : n = 6
  · subst h6
    decide +kernel
  · by_cases h3 : n = 3
    · subst h3
      decide +kernel
    · rw [if_neg (show ¬ n - 1 = 5 by omega), if_neg (show ¬ n - 1 = 2 by omega)]
      simp [cel0, h6]
theorem exS_next {r : Int} (h : SeekR exS (exS.wr 0) 1 r) : r = 6 := by
  rw [show exS.wr 0 = 0 from exS_wr (i := 0) (by decide)] at h
  unfold SeekR at h
  rw [exS_len] at h
  have e : ∀ j : Nat, ((0 : Nat) : Int) + 1 * ((j : Int) + 1) = ((j + 1 : Nat) : Int) := fun j => by push_cast; omega
  have h6 := exS_first 6 (by decide) (by decide)
  rcases h with ⟨k, h1, h2, h3, h4⟩ | ⟨h1, _⟩
  · have hk : ¬ 5 < k := fun q => by
      have := h3 5 q
      rw [e 5, h6] at this
      cases this
    rw [e k, exS_first (k + 1) (by omega) (by omega)] at h2
    have hk5 : k + 1 = 6 := by simpa using h2
    rw [h4, e k, hk5]
    exact congrArg _ (exS_wr (i := 6) (by decide))
  · have := h1 5 (by decide)
    rw [e 5, h6] at this
    cases this
end Go.Proofs.Ytlhaefgchmakfaa
namespace Go.Proofs.Ytlhaefgchmakfaa
open Go.RowKit Go.Lib Go.Deep

theorem SeqF.el0 {α : Type} {F : Fence} {n : Nat} {P : Program} {gf : Nat} {lb : Array Value} {encs : α → Array Value} {el el' : Nat → α → World → Prop} {R : World → Prop} {W : World} (h : SeqF F n P gf lb encs el 0 R W) : SeqF F n P gf lb encs el' 0 R W :=
  fun l I Ix a b c d _ => h l I Ix a b c d (fun _ _ _ _ hk => absurd hk (Nat.not_lt_zero _))
theorem vB00 : vB 0 0 = false := by decide
set_option maxRecDepth 100000 in
set_option maxHeartbeats 4000000 in
theorem fieldsIt (o : Option Addr) (w : World) : Calls Try.prog 99 #[.pointer o] w fun e w' => ∃ bx, e = .returned (.func (.func 115) #[] #[.pointer (some ⟨bx, 0, none⟩)]) ∧ w.heap.size ≤ bx ∧ w'.cell? ⟨bx, 0, none⟩ = some (.pointer o) ∧ Below w.heap.size w w' := by
  go_enter Try.func99, Try.ntmps99
  go_wp2
  go_ret
  exact ⟨w.heap.size, rfl, Nat.le_refl _, by simp [go_sem], (Below.refl _ _).al (Nat.le_refl _) _⟩
set_option maxRecDepth 100000 in
set_option maxHeartbeats 4000000 in
theorem modifiedIt (o : Option Addr) (w : World) : Calls Try.prog 76 #[.pointer o] w fun e w' => ∃ bx, e = .returned (.func (.func 98) #[] #[.pointer (some ⟨bx, 0, none⟩)]) ∧ w.heap.size ≤ bx ∧ w'.cell? ⟨bx, 0, none⟩ = some (.pointer o) ∧ Below w.heap.size w w' := by
  go_enter Try.func76, Try.ntmps76
  go_wp2
  go_ret
  exact ⟨w.heap.size, rfl, Nat.le_refl _, by simp [go_sem], (Below.refl _ _).al (Nat.le_refl _) _⟩
/-- What is told of a field. -/
abbrev encFn (x : Nat × Cel) : Array Value := #[.int .i64 x.1, x.2.fv]
def RPn (bx by_ : Nat) (n : Int) (V : World) : Prop := V.cell? ⟨bx, 0, none⟩ = some (.pointer none) ∧ V.cell? ⟨by_, 0, none⟩ = some (.int .i64 n)
set_option maxRecDepth 100000 in
set_option maxHeartbeats 4000000 in
theorem places_nil_seq (n : Nat) (hn : 4 ≤ n) (bx by_ : Nat) (n0 : Int) (W : World) : SeqF Fence.wide n Try.prog 101 #[.pointer (some ⟨bx, 0, none⟩), .pointer (some ⟨by_, 0, none⟩)] encI (fun _ _ _ => False) 0 (RPn bx by_ n0) W := fun l I Ix hI hIx hR h0 hY => by
  obtain ⟨hb, hy0⟩ := hR _ _ _ h0
  have hlt : bx < W.heap.size := World.block_lt_of_cell? W _ hb
  have hlty : by_ < W.heap.size := World.block_lt_of_cell? W _ hy0
  have HSZ := hid (fun V => (show Calls Try.prog 54 #[.pointer none] V fun e w' => e = .returned (.agg #[.int .i64 0, .int .i64 0]) ∧ Below V.heap.size V w' from size_nil V))
  have HWR := hid (fun V => wrap_no 0 0 n0 vB00 V)
  have HCL := hid (fun V => cells_no 0 0 vB00 V)
  have HC0 := hid (And.intro hb hy0)
  have HI := hid hI
  have H0 := hid h0
  clear hY hR h0 hI hb hy0
  refine callsIn_of_wp Try.func101 rfl trivial ?_ rfl
  simp only [Try.ntmps101, List.size_toArray, List.length_cons, List.length_nil, Nat.reduceAdd, Nat.reduceSub, Array.replicate_succ, Array.replicate_zero, List.push_toArray, List.append_toArray, List.nil_append, List.cons_append]
  gi_wp2
  refine wpIn_of_wpN ?_
  refine wp_region_held_drew (S := fun V => V.cell? ⟨bx, 0, none⟩ = some (.pointer none) ∧ V.cell? ⟨by_, 0, none⟩ = some (.int .i64 n0) ∧ Below W.heap.size W V) (by kernel_rfl) ?_ (fun hHeld => ?_)
  · have hdr : Below W.heap.size W W.drew := (Below.refl _ _).drew
    exact ⟨keepc hdr HC0.out.1, keepc hdr HC0.out.2, hdr⟩
  refine takeD (i := 0) (v := ?_) 6 rfl rfl (by kernel_rfl) (by kernel_rfl) (by kernel_rfl) (fun _ _ _ h => h) (by assumption) (Or.inl ⟨by rfl, ?_⟩) ?_
  rotate_left
  · intro w hSw
    (try dsimp only at hSw)
    go_simp
    try with_reducible rfl
  simp only [List.setIfInBounds_toArray, List.set_cons_zero, List.set_cons_succ]
  refine takeD (i := 2) (v := ?_) 8 rfl rfl (by kernel_rfl) (by kernel_rfl) (by kernel_rfl) (fun _ _ _ h => h) (by assumption) (Or.inl ⟨by rfl, ?_⟩) ?_
  rotate_left
  · intro w hSw
    (try dsimp only at hSw)
    go_simp
    try with_reducible rfl
  simp only [List.setIfInBounds_toArray, List.set_cons_zero, List.set_cons_succ]
  refine wpAnyH_ready (rs := [1]) (by kernel_rfl) (by simp) ?_
  refine AllReadyH.cons (by simp only [List.getElem?_toArray, List.getElem?_cons_succ, List.getElem?_cons_zero]; rfl) (fun K hK => ?_) AllReadyH.nil
  go_simp
  go_at_call 54; (with_reducible refine (HSZ.out _).mono ?_); rintro e w1 ⟨rfl, hb1⟩
  refine hK.out _ _ ?_ (fun hHeldN => ?_)
  · exact ⟨keepc hb1 hHeld.1, keepc hb1 hHeld.2.1, below_t hHeld.2.2 hb1⟩
  clear hK K hHeld
  have hHeld := hHeldN
  clear hHeldN
  (try simp only [Act.put, List.setIfInBounds_toArray, List.set_cons_zero, List.set_cons_succ])
  refine wpAnyH_ready (rs := [3]) (by kernel_rfl) (by simp) ?_
  refine AllReadyH.cons (by simp only [List.getElem?_toArray, List.getElem?_cons_succ, List.getElem?_cons_zero]; rfl) (fun K hK => ?_) AllReadyH.nil
  go_simp
  go_at_call 78; (with_reducible refine (HWR.out _).mono ?_); rintro e w2 ⟨rfl, hb2⟩
  refine hK.out _ _ ?_ (fun hHeldN => ?_)
  · exact ⟨keepc hb2 hHeld.1, keepc hb2 hHeld.2.1, below_t hHeld.2.2 hb2⟩
  clear hK K hHeld
  have hHeld := hHeldN
  clear hHeldN
  (try simp only [Act.put, List.setIfInBounds_toArray, List.set_cons_zero, List.set_cons_succ])
  refine takeD (i := 4) (v := ?_) 4 rfl rfl (by kernel_rfl) (by kernel_rfl) (by kernel_rfl) (fun _ _ _ h => h) (by assumption) (Or.inl ⟨by rfl, ?_⟩) ?_
  rotate_left
  · intro w hSw
    (try dsimp only at hSw)
    go_simp
    try with_reducible rfl
  simp only [List.setIfInBounds_toArray, List.set_cons_zero, List.set_cons_succ]
  refine wpAnyH_done (by kernel_rfl) ?_ _
  have HE := hid hHeld
  clear hHeld
  dsimp only [OnlyN]
  gi_wp2
  gi_loopw [4, 5] (fun v i wr => v = .int .i64 0 ∧ i = .int .i64 1 ∧ Hid (Below W.heap.size W wr)) (fun _ _ _ => 0)
  case atStart => exact ⟨rfl, rfl, HE.out.2.2⟩
  case round =>
    clear HE
    obtain ⟨rfl, rfl, HB⟩ := hrel
    have cb := keepc HB.out HC0.out.1
    have hl1 : bx < wr.heap.size := World.block_lt_of_cell? wr _ cb
    gi_wp2
    refine ⟨trivial, fun _ => (by omega), ?_⟩
    refine (callsIn_wide.2 (HSZ.out _)).mono ?_
    rintro e w3 ⟨rfl, hb3⟩
    have HB3 := hid (below_t HB.out hb3)
    clear hb3 HB cb hl1
    gi_wp2
    refine ⟨trivial, fun _ => (by omega), ?_⟩
    refine (callsIn_wide.2 (HCL.out _)).mono ?_
    rintro e w4 ⟨rfl, hb4⟩
    have HI4 := hid (HI.out _ _ _ _ (Grow.below (below_t HB3.out hb4) _) H0.out)
    clear hb4 HB3
    gi_wp2
    rename_i aK
    refine ⟨trivial, aK _ _ ?_⟩
    gi_wp2
    go_end0
    exact ⟨⟨_, rfl⟩, .inl ⟨_, HI4.out⟩⟩
set_option maxRecDepth 100000 in
set_option maxHeartbeats 4000000 in
theorem fields_nil_seq (n : Nat) (hn : 6 ≤ n) (bx : Nat) (W : World) : SeqF Fence.wide n Try.prog 115 #[.pointer (some ⟨bx, 0, none⟩)] encFn (fun _ _ _ => False) 0 (RN bx) W := fun l I Ix hI hIx hR h0 hY => by
  have hb : W.cell? ⟨bx, 0, none⟩ = some (.pointer none) := hR _ _ _ h0
  have hlt : bx < W.heap.size := World.block_lt_of_cell? W _ hb
  have H0 := hid h0
  clear hY hR h0
  refine callsIn_of_wp_marks Try.func115 rfl trivial ?_ rfl
  simp only [Try.ntmps115, List.size_toArray, List.length_cons, List.length_nil, Nat.reduceAdd, Nat.reduceSub, Array.replicate_succ, Array.replicate_zero, List.push_toArray, List.append_toArray, List.nil_append, List.cons_append]
  gi_wp2
  refine ⟨trivial, fun _ => (by omega), ?_⟩
  refine (callsIn_wide.2 (attrsIt_nil _)).mono ?_
  rintro e w1 ⟨bs, rfl, hbs, hcs, hb1⟩
  have hg1 : Grow W.heap.size W w1 := (Grow.alloc W _ _).trans (Grow.below hb1 _)
  have hz1 : W.heap.size ≤ w1.heap.size := hg1.size
  have HI0 := hid (show I 0 [] w1 ∧ RN bs w1 from ⟨hI _ _ _ _ hg1 H0.out, hcs⟩)
  clear hb1 hg1 hcs hbs hb hlt
  gi_wp2
  refine rangeFunc_none (n := n) (w := w1) rfl (by omega) (gf := 97) (lb := #[.pointer (some ⟨bs, 0, none⟩)]) rfl trivial (enters_of Try.func97 (by kernel_rfl) rfl)
    (encs := encI) (fun _ => rfl) (R := RN bs) (fun V => I 0 [] V ∧ RN bs V) (fun A C hg h => ⟨hI _ _ _ _ (hg.mono hz1) h.1, cell_grow hg h.2⟩) (fun V h => h.2) HI0.out (fun V => attrs_nil_seq (n - 1) (by omega) bs V) ?done
  case done =>
    rintro D V hD hi hK
    have HK := hid hK
    have HI := hid hi
    clear hi hK
    gi_wp2
    refine ⟨by simp, .inl ⟨_, _, rfl, run_takeDeferred HK.out, ?_⟩⟩
    exact ⟨_, results_none rfl _ _ _, ⟨_, rfl⟩, .inl ⟨[], hI _ _ _ _ (Grow.put _ (by omega) HK.out rfl) HI.out.1⟩⟩
set_option maxRecDepth 100000 in
set_option maxHeartbeats 4000000 in
theorem modified_nil_seq (n : Nat) (hn : 7 ≤ n) (bx : Nat) (W : World) : SeqF Fence.wide n Try.prog 98 #[.pointer (some ⟨bx, 0, none⟩)] encI (fun _ _ _ => False) 0 (RN bx) W := fun l I Ix hI hIx hR h0 hY => by
  have hb : W.cell? ⟨bx, 0, none⟩ = some (.pointer none) := hR _ _ _ h0
  have hlt : bx < W.heap.size := World.block_lt_of_cell? W _ hb
  have H0 := hid h0
  clear hY hR h0
  refine callsIn_of_wp_marks Try.func98 rfl trivial ?_ rfl
  simp only [Try.ntmps98, List.size_toArray, List.length_cons, List.length_nil, Nat.reduceAdd, Nat.reduceSub, Array.replicate_succ, Array.replicate_zero, List.push_toArray, List.append_toArray, List.nil_append, List.cons_append]
  gi_wp2
  refine ⟨trivial, fun _ => (by omega), ?_⟩
  refine (callsIn_wide.2 (fieldsIt none _)).mono ?_
  rintro e w1 ⟨bs, rfl, hbs, hcs, hb1⟩
  have hg1 : Grow W.heap.size W w1 := (Grow.alloc W _ _).trans (Grow.below hb1 _)
  have hz1 : W.heap.size ≤ w1.heap.size := hg1.size
  have HI0 := hid (show I 0 [] w1 ∧ RN bs w1 from ⟨hI _ _ _ _ hg1 H0.out, hcs⟩)
  clear hb1 hg1 hcs hbs hb hlt
  gi_wp2
  refine rangeFunc_none (n := n) (w := w1) rfl (by omega) (gf := 115) (lb := #[.pointer (some ⟨bs, 0, none⟩)]) rfl trivial (enters_of Try.func115 (by kernel_rfl) rfl)
    (encs := encFn) (fun _ => rfl) (R := RN bs) (fun V => I 0 [] V ∧ RN bs V) (fun A C hg h => ⟨hI _ _ _ _ (hg.mono hz1) h.1, cell_grow hg h.2⟩) (fun V h => h.2) HI0.out (fun V => fields_nil_seq (n - 1) (by omega) bs V) ?done
  case done =>
    rintro D V hD hi hK
    have HK := hid hK
    have HI := hid hi
    clear hi hK
    gi_wp2
    refine ⟨by simp, .inl ⟨_, _, rfl, run_takeDeferred HK.out, ?_⟩⟩
    exact ⟨_, results_none rfl _ _ _, ⟨_, rfl⟩, .inl ⟨[], hI _ _ _ _ (Grow.put _ (by omega) HK.out rfl) HI.out.1⟩⟩
end Go.Proofs.Ytlhaefgchmakfaa
