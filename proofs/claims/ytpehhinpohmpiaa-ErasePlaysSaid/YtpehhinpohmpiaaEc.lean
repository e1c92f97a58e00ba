/-
  The places to the end of the row, told one by one, whatever is put there.
-/
import Derived.Test.YtpehhinpohmpiaaEb
import Derived.Test.YtpehhinpohmpiaaCb
namespace Go.Proofs.Ytpehhinpohmpiaa
open Go.RowKit Go.Lib Go.Deep

/-- In that row, no attribute. -/
def inB (P : Nat → Bool) (N : Nat) (C rz : Int) (p : Nat) : Bool := decide (p < N) && (decide ((p : Int) / C = rz) && !P p)
/-- From a place on. -/
def rowF (P : Nat → Bool) (N : Nat) (C rz : Int) : Nat → Nat → List Nat
  | 0, _ => []
  | f + 1, p => if inB P N C rz p then p :: rowF P N C rz f (p + 1) else []
theorem rowF_len (P : Nat → Bool) (N : Nat) (C rz : Int) : ∀ f p, (rowF P N C rz f p).length ≤ f
  | 0, _ => Nat.le_refl _
  | f + 1, p => by
    unfold rowF
    split
    · have := rowF_len P N C rz f (p + 1)
      simp
      omega
    · simp
theorem rowF_get (P : Nat → Bool) (N : Nat) (C rz : Int) : ∀ f p k, k < (rowF P N C rz f p).length → (rowF P N C rz f p)[k]? = some (p + k) ∧ inB P N C rz (p + k) = true
  | 0, _, _, h => by simp [rowF] at h
  | f + 1, p, k, h => by
    unfold rowF at h ⊢
    split at h
    · rename_i hc
      rw [if_pos hc]
      cases k with
      | zero => exact ⟨rfl, hc⟩
      | succ k =>
        have q := rowF_get P N C rz f (p + 1) k (by simpa using h)
        rw [show p + 1 + k = p + (k + 1) by omega] at q
        exact ⟨by simpa using q.1, q.2⟩
    · simp at h
theorem rowF_stop (P : Nat → Bool) (N : Nat) (C rz : Int) : ∀ f p, N ≤ p + f → inB P N C rz (p + (rowF P N C rz f p).length) = false
  | 0, p, h => by
    unfold rowF inB
    simp only [List.length_nil, Nat.add_zero]
    rw [decide_eq_false (by omega)]
    rfl
  | f + 1, p, h => by
    unfold rowF
    split
    · have := rowF_stop P N C rz f (p + 1) (by omega)
      rw [List.length_cons, show p + ((rowF P N C rz f (p + 1)).length + 1) = p + 1 + (rowF P N C rz f (p + 1)).length by omega]
      exact this
    · rename_i hc
      simpa using hc
/-- The places to the row's end. -/
def rowL (P : Nat → Bool) (N : Nat) (C : Int) (p : Nat) : List Nat := rowF P N C ((p : Int) / C) N p
/-- The space at b, of that size and those attributes; its pointer and a number lie in boxes. -/
def RRo (bx by_ b N : Nat) (R C n : Int) (P : Nat → Bool) (V : World) : Prop := V.cell? ⟨bx, 0, none⟩ = some (.pointer (some ⟨b, 0, none⟩)) ∧ V.cell? ⟨by_, 0, none⟩ = some (.int .i64 n) ∧ ∃ g s, SpM V b g s ∧ s.L.length = N ∧ s.r = R ∧ s.c = C ∧ s.P = P
theorem RRo.below {bx by_ b N : Nat} {R C n : Int} {P : Nat → Bool} {A B : World} (h : RRo bx by_ b N R C n P A) (hb : Below A.heap.size A B) : RRo bx by_ b N R C n P B := by
  obtain ⟨h1, h2, g, s, h3, h4⟩ := h
  exact ⟨keepc hb h1, keepc hb h2, g, s, h3.below hb, h4⟩
section
variable {b g : Nat} {s : Spc}
set_option maxRecDepth 100000 in
set_option maxHeartbeats 4000000 in
theorem inrow_any (p : Nat) (hp : p ≤ 10000) (rz : Int) (w : World) (h : SpM w b g s) : Calls Try.prog 82 #[.pointer (some ⟨b, 0, none⟩), .int .i64 p, .int .i64 rz] w fun e w' => e = .returned (.bool (inB s.P s.L.length s.c rz p)) ∧ Below w.heap.size w w' := by
  have hok := h.ok
  have hlen := hok.len
  have HSZ := hid (fun W h => size_any (b := b) (g := g) (s := s) W h)
  have HCL := hid (fun W => (show Calls Try.prog 94 #[.agg #[.int .i64 s.r, .int .i64 s.c]] W fun e w' => e = .returned (.int .i64 (s.L.length : Nat)) ∧ Below W.heap.size W w' from by rw [hlen]; exact cells_ok s.r s.c hok.sz W))
  have HRW := hid (fun (hpN : p < s.L.length) W => (show Calls Try.prog 80 #[.agg #[.int .i64 s.r, .int .i64 s.c], .int .i64 p] W fun e w' => e = .returned (.int .i64 ((p : Int) / s.c)) ∧ Below W.heap.size W w' from by
    have q := row_ok s.r s.c (p : Int) hok.sz (i64_small (by omega) (by omega)) W
    rwa [← hlen, Int.emod_eq_of_lt (by omega) (by omega)] at q))
  have HAT := hid (fun (hpN : p < s.L.length) W h => (show Calls Try.prog 20 #[.pointer (some ⟨b, 0, none⟩), .int .i64 p] W fun e w' => e = .returned (s.cel p).v ∧ Below W.heap.size W w' from by
    have q1 := at_any (b := b) (g := g) (s := s) (p : Int) (i64_small (by omega) (by omega)) W h
    unfold Spc.atC at q1
    rwa [wr_nat hpN] at q1))
  have HH := hid h
  have hf1 := celf1
  unfold inB
  rw [show s.P p = (s.cel p).at_ from rfl]
  generalize s.cel p = c at HAT ⊢
  generalize s.L.length = N at HCL HRW HAT ⊢
  generalize s.r = R at HSZ HCL HRW
  generalize s.c = C at HSZ HCL HRW ⊢
  clear h hok hlen
  obtain ⟨x0, x1, x2, x3, x4, x5⟩ := c
  dsimp only at HAT ⊢
  by_cases hpN : p < N
  · have hpi : (p : Int) < N := by omega
    rw [decide_eq_true hpN]
    obtain ⟨q, hq⟩ : ∃ q, (p : Int) / C = q := ⟨_, rfl⟩
    rw [hq] at HRW ⊢
    have HRW1 := hid (HRW.out hpN)
    have HAT1 := hid (HAT.out hpN)
    clear hq HRW HAT
    by_cases he : q = rz
    · subst he
      rw [decide_eq_true rfl]
      go_enter Try.func82, Try.ntmps82
      go_wp2_with fail
      with_reducible refine (HSZ.out _ HH.out).mono ?_
      rintro e w1 ⟨rfl, hb1⟩
      obtain ⟨W0, hW0⟩ : ∃ W0, w1.alloc (.cells #[.int .i64 R, .int .i64 C] 107) = W0 := ⟨_, rfl⟩
      have HZ := hid (show ∀ V, Below W0.heap.size W0 V → V.cell? ⟨w1.heap.size, 0, none⟩ = some (.int .i64 R) ∧ V.cell? ⟨w1.heap.size, 1, none⟩ = some (.int .i64 C) ∧ w1.heap.size < V.heap.size from fun V hV => by
        rw [← hW0] at hV
        obtain ⟨c0, c1, _, _, hs⟩ := box2 hV
        exact ⟨c0, c1, hs⟩)
      have HB0 := hid (show Below w.heap.size w W0 by rw [← hW0]; exact bal hb1 _)
      have HW0 := hid hW0
      clear hb1 hW0
      obtain ⟨z0, z1, z2⟩ := HZ.out _ (Below.refl _ _)
      go_wp2_with fail
      simp only [HW0.out]
      with_reducible refine (HCL.out _).mono ?_
      rintro e w2 ⟨rfl, hb2⟩
      have HB2 := hid hb2
      clear hb2 z0 z1 z2
      obtain ⟨z0, z1, z2⟩ := HZ.out _ HB2.out
      go_wp2_with fail
      with_reducible refine (HRW1.out _).mono ?_
      rintro e w3 ⟨rfl, hb3⟩
      have HB3 := hid (below_t HB2.out hb3)
      clear hb3
      go_wp2_with fail
      with_reducible refine (HAT1.out _ ((HH.out.below HB0.out).below HB3.out)).mono ?_
      rintro e w4 ⟨rfl, hb4⟩
      have HB4 := hid (below_t HB3.out hb4)
      clear hb4
      go_wp2
      go_ret
      exact ⟨by simp, below_t HB0.out HB4.out⟩
    · rw [decide_eq_false he]
      go_enter Try.func82, Try.ntmps82
      go_wp2_with fail
      with_reducible refine (HSZ.out _ HH.out).mono ?_
      rintro e w1 ⟨rfl, hb1⟩
      obtain ⟨W0, hW0⟩ : ∃ W0, w1.alloc (.cells #[.int .i64 R, .int .i64 C] 107) = W0 := ⟨_, rfl⟩
      have HZ := hid (show ∀ V, Below W0.heap.size W0 V → V.cell? ⟨w1.heap.size, 0, none⟩ = some (.int .i64 R) ∧ V.cell? ⟨w1.heap.size, 1, none⟩ = some (.int .i64 C) ∧ w1.heap.size < V.heap.size from fun V hV => by
        rw [← hW0] at hV
        obtain ⟨c0, c1, _, _, hs⟩ := box2 hV
        exact ⟨c0, c1, hs⟩)
      have HB0 := hid (show Below w.heap.size w W0 by rw [← hW0]; exact bal hb1 _)
      have HW0 := hid hW0
      clear hb1 hW0
      obtain ⟨z0, z1, z2⟩ := HZ.out _ (Below.refl _ _)
      go_wp2_with fail
      simp only [HW0.out]
      with_reducible refine (HCL.out _).mono ?_
      rintro e w2 ⟨rfl, hb2⟩
      have HB2 := hid hb2
      clear hb2 z0 z1 z2
      obtain ⟨z0, z1, z2⟩ := HZ.out _ HB2.out
      go_wp2_with fail
      with_reducible refine (HRW1.out _).mono ?_
      rintro e w3 ⟨rfl, hb3⟩
      have HB3 := hid (below_t HB2.out hb3)
      clear hb3
      go_wp2
      go_ret
      exact ⟨by simp, below_t HB0.out HB3.out⟩
  · have hpi : ¬ (p : Int) < N := by omega
    rw [decide_eq_false hpN]
    go_enter Try.func82, Try.ntmps82
    go_wp2_with fail
    with_reducible refine (HSZ.out _ HH.out).mono ?_
    rintro e w1 ⟨rfl, hb1⟩
    obtain ⟨W0, hW0⟩ : ∃ W0, w1.alloc (.cells #[.int .i64 R, .int .i64 C] 107) = W0 := ⟨_, rfl⟩
    have HZ := hid (show ∀ V, Below W0.heap.size W0 V → V.cell? ⟨w1.heap.size, 0, none⟩ = some (.int .i64 R) ∧ V.cell? ⟨w1.heap.size, 1, none⟩ = some (.int .i64 C) ∧ w1.heap.size < V.heap.size from fun V hV => by
      rw [← hW0] at hV
      obtain ⟨c0, c1, _, _, hs⟩ := box2 hV
      exact ⟨c0, c1, hs⟩)
    have HB0 := hid (show Below w.heap.size w W0 by rw [← hW0]; exact bal hb1 _)
    have HW0 := hid hW0
    clear hb1 hW0
    obtain ⟨z0, z1, z2⟩ := HZ.out _ (Below.refl _ _)
    go_wp2_with fail
    simp only [HW0.out]
    with_reducible refine (HCL.out _).mono ?_
    rintro e w2 ⟨rfl, hb2⟩
    have HB2 := hid hb2
    clear hb2 z0 z1 z2
    obtain ⟨z0, z1, z2⟩ := HZ.out _ HB2.out
    go_wp2
    go_ret
    exact ⟨by simp, below_t HB0.out HB2.out⟩
end
set_option maxRecDepth 100000 in
set_option maxHeartbeats 4000000 in
theorem row_seq (n : Nat) (hn : 4 ≤ n) (bx by_ b N : Nat) (R C n0 : Int) (hok : Ok R C) (hRC : R * C = (N : Int)) (hn0 : I64 n0) (P : Nat → Bool) (W : World) : SeqF Fence.wide n Try.prog 78 #[.pointer (some ⟨bx, 0, none⟩), .pointer (some ⟨by_, 0, none⟩)] encI (fun k x _ => (rowL P N C (n0 % (N : Int)).toNat)[k]? = some x) (rowL P N C (n0 % (N : Int)).toNat).length (RRo bx by_ b N R C n0 P) W := fun l I Ix hI hIx hR h0 hY => by
  have hp := ok_pos hok
  have hN0 : 0 < N := by omega
  have hN1 : N ≤ 3564 := by omega
  obtain ⟨a, ha⟩ : ∃ a, (n0 % (N : Int)).toNat = a := ⟨_, rfl⟩
  have hai : n0 % (N : Int) = (a : Int) := by have := Int.emod_nonneg n0 (show (N : Int) ≠ 0 by omega); omega
  have haN : a < N := by have := Int.emod_lt_of_pos n0 (show (0 : Int) < N by omega); omega
  rw [ha] at hY ⊢
  obtain ⟨K, hK⟩ : ∃ K, (rowL P N C a).length = K := ⟨_, rfl⟩
  rw [hK] at hY ⊢
  have HKL := hid (show (rowF P N C ((a : Int) / C) N a).length = K from hK)
  have hKN : K ≤ N := by rw [← hK]; exact rowF_len _ _ _ _ _ _
  have HY := hid hY
  have HR := hid hR
  have HI := hid hI
  have H0 := hid h0
  have HRR := hid (hR _ _ _ h0)
  have HSZ := hid (fun V (h : RRo bx by_ b N R C n0 P V) => (show Calls Try.prog 79 #[.pointer (some ⟨b, 0, none⟩)] V fun e w' => e = .returned (.agg #[.int .i64 R, .int .i64 C]) ∧ Below V.heap.size V w' from by
    obtain ⟨-, -, g, s, hs, -, hr, hc, -⟩ := h
    have q := size_any V hs
    rwa [hr, hc] at q))
  have HRW := hid (fun V => (show Calls Try.prog 80 #[.agg #[.int .i64 R, .int .i64 C], .int .i64 n0] V fun e w' => e = .returned (.int .i64 ((a : Int) / C)) ∧ Below V.heap.size V w' from by
    have q := row_ok R C n0 hok hn0 V
    rwa [hRC, hai] at q))
  have HWR := hid (fun V => (show Calls Try.prog 81 #[.agg #[.int .i64 R, .int .i64 C], .int .i64 n0] V fun e w' => e = .returned (.int .i64 (a : Nat)) ∧ Below V.heap.size V w' from by
    have q := wrap_ok R C n0 hok hn0 V
    rwa [hRC, hai] at q))
  have HIN := hid (fun (p : Nat) (hp : p ≤ 10000) V (h : RRo bx by_ b N R C n0 P V) => (show Calls Try.prog 82 #[.pointer (some ⟨b, 0, none⟩), .int .i64 p, .int .i64 ((a : Int) / C)] V fun e w' => e = .returned (.bool (inB P N C ((a : Int) / C) p)) ∧ Below V.heap.size V w' from by
    obtain ⟨-, -, g, s, hs, hl, -, hc, hP⟩ := h
    have q := inrow_any (b := b) (g := g) (s := s) p hp ((a : Int) / C) V hs
    rwa [hP, hl, hc] at q))
  have HST := hid (show inB P N C ((a : Int) / C) (a + K) = false from by rw [← HKL.out]; exact rowF_stop P N C _ N a (by omega))
  have HGE := hid (fun k (hk : k < K) => rowF_get P N C ((a : Int) / C) N a k (by rw [HKL.out]; exact hk))
  have HRL := hid (show rowL P N C a = rowF P N C ((a : Int) / C) N a from rfl)
  generalize (a : Int) / C = rz at HRW HIN HST HGE HKL HRL
  obtain ⟨cx0, cy0, -⟩ := HRR.out
  have lx0 := World.block_lt_of_cell? W _ cx0
  have ly0 := World.block_lt_of_cell? W _ cy0
  clear hY hR hI h0 hK hn0 hok hRC hai ha hp
  refine callsIn_of_wp Try.func78 rfl trivial ?_ rfl
  simp only [Try.ntmps78, List.size_toArray, List.length_cons, List.length_nil, Nat.reduceAdd, Nat.reduceSub, Array.replicate_succ, Array.replicate_zero, List.push_toArray, List.append_toArray, List.nil_append, List.cons_append]
  gi_wp2
  refine wpIn_of_wpN ?_
  refine wp_region_held_drew (S := fun V => V.cell? ⟨bx, 0, none⟩ = some (.pointer (some ⟨b, 0, none⟩)) ∧ V.cell? ⟨by_, 0, none⟩ = some (.int .i64 n0) ∧ Below W.heap.size W V) (by kernel_rfl) ?_ (fun hHeld => ?_)
  · have hdr : Below W.heap.size W W.drew := (Below.refl _ _).drew
    exact ⟨keepc hdr cx0, keepc hdr cy0, hdr⟩
  refine takeD (i := 0) (v := ?_) 6 rfl rfl (by kernel_rfl) (by kernel_rfl) (by kernel_rfl) (fun _ _ _ h => h) (by assumption) (Or.inl ⟨by rfl, ?_⟩) ?_
  rotate_left
  · intro w hSw
    (try dsimp only at hSw)
    go_simp
    try with_reducible rfl
  simp only [List.setIfInBounds_toArray, List.set_cons_zero, List.set_cons_succ]
  refine takeD (i := 2) (v := ?_) 8 rfl rfl (by kernel_rfl) (by kernel_rfl) (by kernel_rfl) (fun _ _ _ h => h) (by assumption) (Or.inl ⟨by rfl, ?_⟩) ?_
  rotate_left
  · intro w hSw
    (try dsimp only at hSw)
    go_simp
    try with_reducible rfl
  simp only [List.setIfInBounds_toArray, List.set_cons_zero, List.set_cons_succ]
  refine wpAnyH_ready (rs := [1]) (by kernel_rfl) (by simp) ?_
  refine AllReadyH.cons (by simp only [List.getElem?_toArray, List.getElem?_cons_succ, List.getElem?_cons_zero]; rfl) (fun K hK => ?_) AllReadyH.nil
  go_simp
  go_at_call 79; (with_reducible refine (HSZ.out _ (HRR.out.below hHeld.2.2)).mono ?_); rintro e w1a ⟨rfl, hb1⟩
  refine hK.out _ _ ?_ (fun hHeldN => ?_)
  · exact ⟨keepc hb1 hHeld.1, keepc hb1 hHeld.2.1, below_t hHeld.2.2 hb1⟩
  clear hK K hHeld
  have hHeld := hHeldN
  clear hHeldN
  (try simp only [Act.put, List.setIfInBounds_toArray, List.set_cons_zero, List.set_cons_succ])
  refine wpAnyH_ready (rs := [3]) (by kernel_rfl) (by simp) ?_
  refine AllReadyH.cons (by simp only [List.getElem?_toArray, List.getElem?_cons_succ, List.getElem?_cons_zero]; rfl) (fun K hK => ?_) AllReadyH.nil
  go_simp
  go_at_call 80; (with_reducible refine (HRW.out _).mono ?_); rintro e w1 ⟨rfl, hb2⟩
  refine hK.out _ _ ?_ (fun hHeldN => ?_)
  · exact ⟨keepc hb2 hHeld.1, keepc hb2 hHeld.2.1, below_t hHeld.2.2 hb2⟩
  clear hK K hHeld
  have hHeld := hHeldN
  clear hHeldN
  (try simp only [Act.put, List.setIfInBounds_toArray, List.set_cons_zero, List.set_cons_succ])
  refine takeD (i := 4) (v := ?_) 4 rfl rfl (by kernel_rfl) (by kernel_rfl) (by kernel_rfl) (fun _ _ _ h => h) (by assumption) (Or.inl ⟨by rfl, ?_⟩) ?_
  rotate_left
  · intro w hSw
    (try dsimp only at hSw)
    go_simp
    try with_reducible rfl
  simp only [List.setIfInBounds_toArray, List.set_cons_zero, List.set_cons_succ]
  refine wpAnyH_done (by kernel_rfl) ?_ _
  have HE := hid hHeld
  clear hHeld
  dsimp only [OnlyN]
  have HR1 := hid (HRR.out.below HE.out.2.2)
  have HI1 := hid (HI.out _ _ _ _ (Grow.below HE.out.2.2 _) H0.out)
  have hz1 : W.heap.size ≤ w1.heap.size := HE.out.2.2.size
  clear HE HRR H0 cx0 cy0 lx0 ly0
  have HRR := HR1
  obtain ⟨cx0, cy0, -⟩ := HRR.out
  have lx0 := World.block_lt_of_cell? w1 _ cx0
  have ly0 := World.block_lt_of_cell? w1 _ cy0
  gi_wp2
  refine wpIn_of_wpN ?_
  refine wp_region_held_drew (S := fun V => V.cell? ⟨bx, 0, none⟩ = some (.pointer (some ⟨b, 0, none⟩)) ∧ V.cell? ⟨by_, 0, none⟩ = some (.int .i64 n0) ∧ Below w1.heap.size w1 V) (by kernel_rfl) ?_ (fun hHeld => ?_)
  · have hdr : Below w1.heap.size w1 w1.drew := (Below.refl _ _).drew
    exact ⟨keepc hdr cx0, keepc hdr cy0, hdr⟩
  refine takeD (i := 0) (v := ?_) 10 rfl rfl (by kernel_rfl) (by kernel_rfl) (by kernel_rfl) (fun _ _ _ h => h) (by assumption) (Or.inl ⟨by rfl, ?_⟩) ?_
  rotate_left
  · intro w hSw
    (try dsimp only at hSw)
    go_simp
    try with_reducible rfl
  simp only [List.setIfInBounds_toArray, List.set_cons_zero, List.set_cons_succ]
  refine takeD (i := 2) (v := ?_) 12 rfl rfl (by kernel_rfl) (by kernel_rfl) (by kernel_rfl) (fun _ _ _ h => h) (by assumption) (Or.inl ⟨by rfl, ?_⟩) ?_
  rotate_left
  · intro w hSw
    (try dsimp only at hSw)
    go_simp
    try with_reducible rfl
  simp only [List.setIfInBounds_toArray, List.set_cons_zero, List.set_cons_succ]
  refine wpAnyH_ready (rs := [1]) (by kernel_rfl) (by simp) ?_
  refine AllReadyH.cons (by simp only [List.getElem?_toArray, List.getElem?_cons_succ, List.getElem?_cons_zero]; rfl) (fun K hK => ?_) AllReadyH.nil
  go_simp
  go_at_call 79; (with_reducible refine (HSZ.out _ (HRR.out.below hHeld.2.2)).mono ?_); rintro e w2a ⟨rfl, hb1⟩
  refine hK.out _ _ ?_ (fun hHeldN => ?_)
  · exact ⟨keepc hb1 hHeld.1, keepc hb1 hHeld.2.1, below_t hHeld.2.2 hb1⟩
  clear hK K hHeld
  have hHeld := hHeldN
  clear hHeldN
  (try simp only [Act.put, List.setIfInBounds_toArray, List.set_cons_zero, List.set_cons_succ])
  refine wpAnyH_ready (rs := [3]) (by kernel_rfl) (by simp) ?_
  refine AllReadyH.cons (by simp only [List.getElem?_toArray, List.getElem?_cons_succ, List.getElem?_cons_zero]; rfl) (fun K hK => ?_) AllReadyH.nil
  go_simp
  go_at_call 81; (with_reducible refine (HWR.out _).mono ?_); rintro e w2 ⟨rfl, hb2⟩
  refine hK.out _ _ ?_ (fun hHeldN => ?_)
  · exact ⟨keepc hb2 hHeld.1, keepc hb2 hHeld.2.1, below_t hHeld.2.2 hb2⟩
  clear hK K hHeld
  have hHeld := hHeldN
  clear hHeldN
  (try simp only [Act.put, List.setIfInBounds_toArray, List.set_cons_zero, List.set_cons_succ])
  refine takeD (i := 4) (v := ?_) 5 rfl rfl (by kernel_rfl) (by kernel_rfl) (by kernel_rfl) (fun _ _ _ h => h) (by assumption) (Or.inl ⟨by rfl, ?_⟩) ?_
  rotate_left
  · intro w hSw
    (try dsimp only at hSw)
    go_simp
    try with_reducible rfl
  simp only [List.setIfInBounds_toArray, List.set_cons_zero, List.set_cons_succ]
  refine wpAnyH_done (by kernel_rfl) ?_ _
  have HE := hid hHeld
  clear hHeld
  dsimp only [OnlyN]
  have HI2 := hid (HI.out _ _ _ _ (Grow.below HE.out.2.2 _) HI1.out)
  have hz2 : W.heap.size ≤ w2.heap.size := Nat.le_trans hz1 HE.out.2.2.size
  clear HE HRR HR1 HI1 cx0 cy0 lx0 ly0
  gi_wp2
  gi_loopw [5] (fun v wr => ∃ k : Nat, k ≤ K ∧ v = .int .i64 ((a : Int) + k) ∧ Hid (∃ S, I k S wr) ∧ W.heap.size ≤ wr.heap.size) (fun v _ => ((a : Int) + N + 1 - intOf v).toNat)
  case atStart => exact ⟨0, by omega, by simp, ⟨_, HI2.out⟩, hz2⟩
  case round =>
    clear HI2 hz2 hz1
    obtain ⟨k, hk, rfl, ⟨S, hi⟩, hsz⟩ := hrel
    have hrr := HR.out _ _ _ hi
    have cb := hrr.1
    have hltb : bx < wr.heap.size := World.block_lt_of_cell? wr _ cb
    have HI1 := hid hi
    have HIN1 := hid (show Calls Try.prog 82 #[.pointer (some ⟨b, 0, none⟩), .int .i64 ((a : Int) + k), .int .i64 rz] wr fun e w' => e = .returned (.bool (inB P N C rz (a + k))) ∧ Below wr.heap.size wr w' from by
      have q := HIN.out (a + k) (by omega) wr hrr
      rwa [show ((a + k : Nat) : Int) = (a : Int) + k by push_cast; rfl] at q)
    have hw1 : IntKind.i64.wrap ((a : Int) + k + 1) = (a : Int) + k + 1 := wrapI (i64_small (by omega) (by omega))
    clear hrr hi
    gi_wp2
    refine ⟨trivial, fun _ => (by omega), ?_⟩
    refine (callsIn_wide.2 HIN1.out).mono ?_
    rintro e w3 ⟨rfl, hb3⟩
    have HI3 := hid (HI.out _ _ _ _ (Grow.below hb3 _) HI1.out)
    have hz3 : W.heap.size ≤ w3.heap.size := Nat.le_trans hsz hb3.size
    clear hb3 HIN1
    by_cases hkK : k < K
    · have hin := (HGE.out k hkK).2
      rw [hin]
      have hel : (rowL P N C a)[k]? = some (a + k) := by rw [HRL.out]; exact (HGE.out k hkK).1
      obtain ⟨f1, t1, a6, b1, hy, hr⟩ := HY.out k _ S w3 hkK hel HI3.out hz3
      rw [show encI (a + k) = #[.int .i64 ((a : Int) + k)] by show #[Value.int .i64 ((a + k : Nat) : Int)] = _; push_cast; rfl] at hy
      have HRR := hid hr
      clear hr hel hin
      gi_wp2
      refine ⟨fun _ => (by omega), HRR.out.mono ?_⟩
      rintro e W1 ⟨S', ht, ⟨rfl, hj⟩ | ⟨rfl, hj⟩⟩
      · have HJ := hid (show ∃ S, I (k + 1) S W1 from ⟨S', hj⟩)
        have hsz1 := Nat.le_trans hz3 ht.size
        clear hj ht HI3
        gi_wp2
        go_roundw
        case rel => exact ⟨k + 1, by omega, by (try push_cast); first | rfl | (congr 1; omega) | simp [Int.add_assoc], HJ, hsz1⟩
        case measure => simp [intOf]; omega
      · have HJ := hid hj
        clear hj ht HI3
        gi_wp2
        go_end0
        exact ⟨⟨_, rfl⟩, .inr ⟨k, S', hkK, HJ.out⟩⟩
    · have e : k = K := by omega
      have hin := HST.out
      rw [← e] at hin
      rw [hin]
      have HI9 := hid (show I K S w3 by rw [← e]; exact HI3.out)
      clear HI3
      gi_wp2
      rename_i aK _ _ _ _
      refine ⟨fun _ f => (by cases f), aK _ _ ?_⟩
      gi_wp2
      go_end0
      exact ⟨⟨_, rfl⟩, .inl ⟨S, HI9.out⟩⟩
set_option maxRecDepth 100000 in
theorem rowIt (o : Option Addr) (n : Int) (w : World) : Calls Try.prog 26 #[.pointer o, .int .i64 n] w fun e w' => ∃ bx by_, e = .returned (.func (.func 78) #[] #[.pointer (some ⟨bx, 0, none⟩), .pointer (some ⟨by_, 0, none⟩)]) ∧ w.heap.size ≤ bx ∧ w.heap.size ≤ by_ ∧ w'.cell? ⟨bx, 0, none⟩ = some (.pointer o) ∧ w'.cell? ⟨by_, 0, none⟩ = some (.int .i64 n) ∧ Below w.heap.size w w' := by
  obtain ⟨w0, hw0⟩ : ∃ w0, w.alloc (.cells #[.pointer o] 25) = w0 := ⟨_, rfl⟩
  have hz : w0.heap.size = w.heap.size + 1 := by rw [← hw0]; simp
  have hb0 : Below w.heap.size w w0 := by rw [← hw0]; exact bal (Below.refl _ _) _
  have hc0 : w0.cell? ⟨w.heap.size, 0, none⟩ = some (.pointer o) := by rw [← hw0]; simp [go_sem]
  have H := hid (And.intro hz (And.intro hb0 (And.intro hc0 hw0)))
  clear hz hb0 hc0 hw0
  go_enter Try.func26, Try.ntmps26
  go_wp2
  go_ret
  simp only [H.out.2.2.2]
  refine ⟨w.heap.size, w0.heap.size, ?_, Nat.le_refl _, by rw [H.out.1]; omega, keepc (bal (Below.refl _ _) _) H.out.2.2.1, by simp [go_sem], below_t H.out.2.1 (bal (Below.refl _ _) _)⟩
  first
    | rfl
    | (rw [H.out.1]; rfl)
end Go.Proofs.Ytpehhinpohmpiaa
