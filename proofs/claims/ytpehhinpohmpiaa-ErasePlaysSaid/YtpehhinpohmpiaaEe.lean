/-
  The places of a span told one by one; those ahead of the first attribute.
-/
import Derived.Test.YtpehhinpohmpiaaEd
namespace Go.Proofs.Ytpehhinpohmpiaa
open Go.RowKit Go.Lib Go.Deep

/-- So many places, round. -/
def spN (N a L : Nat) : List Nat := (List.range L).map (fun i => (a + i) % N)
theorem spN_len (N a L : Nat) : (spN N a L).length = L := by simp [spN]
theorem spN_get {N a L k : Nat} (h : k < L) : (spN N a L)[k]? = some ((a + k) % N) := by simp [spN, h]
/-- A span's boxes. -/
def RSp (bx bp bq : Nat) (R C p q : Int) (V : World) : Prop := V.cell? ⟨bx, 0, none⟩ = some (.int .i64 R) ∧ V.cell? ⟨bx, 1, none⟩ = some (.int .i64 C) ∧ V.cell? ⟨bp, 0, none⟩ = some (.int .i64 p) ∧ V.cell? ⟨bq, 0, none⟩ = some (.int .i64 q)
theorem RSp.grow {bx bp bq m : Nat} {R C p q : Int} {A B : World} (h : RSp bx bp bq R C p q A) (hg : Grow m A B) : RSp bx bp bq R C p q B := ⟨cell_grow hg h.1, cell_grow hg h.2.1, cell_grow hg h.2.2.1, cell_grow hg h.2.2.2⟩
theorem RSp.below {bx bp bq : Nat} {R C p q : Int} {A B : World} (h : RSp bx bp bq R C p q A) (hb : Below A.heap.size A B) : RSp bx bp bq R C p q B := h.grow (Grow.below hb 0)
set_option maxRecDepth 100000 in
theorem spanIt (R C p q : Int) (w : World) : Calls Try.prog 97 #[.agg #[.int .i64 R, .int .i64 C], .int .i64 p, .int .i64 q] w fun e w' => ∃ bx bp bq, e = .returned (.func (.func 139) #[] #[.pointer (some ⟨bx, 0, none⟩), .pointer (some ⟨bp, 0, none⟩), .pointer (some ⟨bq, 0, none⟩)]) ∧ w.heap.size ≤ bx ∧ w.heap.size ≤ bp ∧ w.heap.size ≤ bq ∧ RSp bx bp bq R C p q w' ∧ Below w.heap.size w w' := by
  go_enter Try.func97, Try.ntmps97
  go_wp2
  go_ret
  refine ⟨w.heap.size, w.heap.size + 1, w.heap.size + 2, rfl, by omega, by omega, by omega, ⟨by simp [go_sem], by simp [go_sem], by simp [go_sem], by simp [go_sem]⟩, ?_⟩
  exact (((Below.refl _ w).alloc (Nat.le_refl _) _).alloc (by simp) _).alloc (by simp; omega) _
set_option maxRecDepth 100000 in
set_option maxHeartbeats 4000000 in
theorem span_seq (n : Nat) (hn : 4 ≤ n) (bx bp bq N : Nat) (R C p q : Int) (hok : Ok R C) (hRC : R * C = (N : Int)) (hp : I64 p) (hq : I64 q) (W : World) : SeqF Fence.wide n Try.prog 139 #[.pointer (some ⟨bx, 0, none⟩), .pointer (some ⟨bp, 0, none⟩), .pointer (some ⟨bq, 0, none⟩)] encI (fun k x _ => (spN N (p % (N : Int)).toNat (lenZ R C p q).toNat)[k]? = some x) (lenZ R C p q).toNat (RSp bx bp bq R C p q) W := fun l I Ix hI hIx hR h0 hY => by
  have hpos := ok_pos hok
  have hN0 : 0 < N := by omega
  have hN1 : N ≤ 3564 := by omega
  have hL0 : 0 ≤ lenZ R C p q ∧ lenZ R C p q ≤ 3564 := by
    have := mod_bd (q % (R * C) - p % (R * C)) hpos.1
    unfold lenZ
    split <;> omega
  obtain ⟨L, hL⟩ : ∃ L : Nat, lenZ R C p q = (L : Int) := ⟨(lenZ R C p q).toNat, by omega⟩
  obtain ⟨a, ha⟩ : ∃ a : Nat, p % (N : Int) = (a : Int) := ⟨(p % (N : Int)).toNat, by have := Int.emod_nonneg p (show (N : Int) ≠ 0 by omega); omega⟩
  have haN : a < N := by have := Int.emod_lt_of_pos p (show (0 : Int) < N by omega); omega
  have HWA := hid (fun V => (show Calls Try.prog 81 #[.agg #[.int .i64 R, .int .i64 C], .int .i64 p] V fun e w' => e = .returned (.int .i64 (a : Nat)) ∧ Below V.heap.size V w' from by
    have r := wrap_ok R C p hok hp V
    rwa [hRC, ha] at r))
  have HWK := hid (fun (k : Nat) (hk : k ≤ 10000) V => (show Calls Try.prog 81 #[.agg #[.int .i64 R, .int .i64 C], .int .i64 ((a : Int) + k)] V fun e w' => e = .returned (.int .i64 (((a + k) % N : Nat) : Int)) ∧ Below V.heap.size V w' from by
    have r := wrap_ok R C ((a : Int) + k) hok (i64_small (by omega) (by omega)) V
    rwa [hRC, show ((a : Int) + k) % (N : Int) = (((a + k) % N : Nat) : Int) by push_cast; rfl] at r))
  have HLE := hid (fun V => (show Calls Try.prog 98 #[.agg #[.int .i64 R, .int .i64 C], .int .i64 p, .int .i64 q] V fun e w' => e = .returned (.int .i64 (L : Nat)) ∧ Below V.heap.size V w' from by
    have r := length_ok R C p q hok hp hq V
    rwa [hL] at r))
  rw [ha, hL, Int.toNat_natCast, Int.toNat_natCast] at hY
  rw [hL, Int.toNat_natCast]
  rw [hL] at hL0
  have HY := hid hY
  have HR := hid hR
  have HI := hid hI
  have H0 := hid h0
  obtain ⟨c0, c1, c2, c3⟩ := hR _ _ _ h0
  have l0 := World.block_lt_of_cell? W _ c0
  have l2 := World.block_lt_of_cell? W _ c2
  have l3 := World.block_lt_of_cell? W _ c3
  clear hY hR hI h0 hL ha hp hq hok hRC hpos
  refine callsIn_of_wp Try.func139 rfl trivial ?_ rfl
  simp only [Try.ntmps139, List.size_toArray, List.length_cons, List.length_nil, Nat.reduceAdd, Nat.reduceSub, Array.replicate_succ, Array.replicate_zero, List.push_toArray, List.append_toArray, List.nil_append, List.cons_append]
  gi_wp2
  refine ⟨trivial, fun _ => (by omega), ?_⟩
  refine (callsIn_wide.2 (HWA.out _)).mono ?_
  rintro e w1 ⟨rfl, hb1⟩
  have HI1 := hid (HI.out _ _ _ _ (Grow.below hb1 _) H0.out)
  have hz1 : W.heap.size ≤ w1.heap.size := hb1.size
  clear hb1 c0 c1 c2 c3 l0 l2 l3 H0
  obtain ⟨c0, c1, c2, c3⟩ := HR.out _ _ _ HI1.out
  have l0 := World.block_lt_of_cell? w1 _ c0
  have l2 := World.block_lt_of_cell? w1 _ c2
  have l3 := World.block_lt_of_cell? w1 _ c3
  gi_wp2
  refine ⟨trivial, fun _ => (by omega), ?_⟩
  refine (callsIn_wide.2 (HLE.out _)).mono ?_
  rintro e w2 ⟨rfl, hb2⟩
  have HI2 := hid (HI.out _ _ _ _ (Grow.below hb2 _) HI1.out)
  have hz2 : W.heap.size ≤ w2.heap.size := Nat.le_trans hz1 hb2.size
  clear hb2 c0 c1 c2 c3 l0 l2 l3 HI1
  gi_wp2
  gi_loopw [14] (fun v wr => ∃ k : Nat, k ≤ L ∧ v = .int .i64 k ∧ Hid (∃ S, I k S wr) ∧ W.heap.size ≤ wr.heap.size) (fun v _ => L - (intOf v).toNat)
  case atStart => exact ⟨0, by omega, rfl, ⟨_, HI2.out⟩, hz2⟩
  case round =>
    clear HI2 hz2 hz1
    obtain ⟨k, hk, rfl, ⟨S, hi⟩, hsz⟩ := hrel
    obtain ⟨c0, c1, c2, c3⟩ := HR.out _ _ _ hi
    have l0 := World.block_lt_of_cell? wr _ c0
    have HI1 := hid hi
    clear hi c2 c3
    by_cases hkL : k < L
    · have hki : (k : Int) < L := by omega
      have hw1 : IntKind.i64.wrap ((a : Int) + k) = (a : Int) + k := wrapI (i64_small (by omega) (by omega))
      obtain ⟨y, hye⟩ : ∃ y, (a + k) % N = y := ⟨_, rfl⟩
      have HWKk := hid (HWK.out k (by omega))
      have hgt := spN_get (N := N) (a := a) hkL
      rw [hye] at HWKk hgt
      clear hye
      gi_wp2
      try simp only [hw1]
      refine ⟨trivial, fun _ => (by omega), ?_⟩
      refine (callsIn_wide.2 (HWKk.out _)).mono ?_
      rintro e w3 ⟨rfl, hb3⟩
      have HI3 := hid (HI.out _ _ _ _ (Grow.below hb3 _) HI1.out)
      have hz3 : W.heap.size ≤ w3.heap.size := Nat.le_trans hsz hb3.size
      clear hb3
      obtain ⟨f1, t1, a6, b1, hy, hr⟩ := HY.out k _ S w3 hkL hgt HI3.out hz3
      have HRR := hid hr
      clear hr
      gi_wp2
      refine ⟨fun _ => (by omega), HRR.out.mono ?_⟩
      rintro e W1 ⟨S', ht, ⟨rfl, hj⟩ | ⟨rfl, hj⟩⟩
      · have HJ := hid (show ∃ S, I (k + 1) S W1 from ⟨S', hj⟩)
        have hsz1 := Nat.le_trans hz3 ht.size
        clear hj ht HI3
        gi_wp2
        go_roundw
        case rel => exact ⟨k + 1, by omega, by go_num, HJ, hsz1⟩
        case measure => simp [intOf]; omega
      · have HJ := hid hj
        clear hj ht HI3
        gi_wp2
        refine bodyPost_ret (results_none rfl _ _ _) rfl ?_
        exact ⟨⟨_, rfl⟩, .inr ⟨k, S', hkL, HJ.out⟩⟩
    · obtain rfl : k = L := by omega
      gi_wp2
      go_end0
      exact ⟨⟨_, rfl⟩, .inl ⟨S, HI1.out⟩⟩
theorem tw_at {p : Nat → Bool} : ∀ (l : List Nat) (k x : Nat), l[k]? = some x → k ≤ (l.takeWhile p).length → (p x = true → k < (l.takeWhile p).length ∧ (l.takeWhile p)[k]? = some x) ∧ (p x = false → (l.takeWhile p).length = k)
  | [], k, x, h, _ => by simp at h
  | y :: l, 0, x, h, _ => by
    simp at h
    subst h
    refine ⟨fun hp => ?_, fun hp => ?_⟩
    · rw [List.takeWhile_cons, if_pos hp]
      simp
    · rw [List.takeWhile_cons, hp]
      simp
  | y :: l, k + 1, x, h, hk => by
    rw [List.takeWhile_cons] at hk ⊢
    cases hy : p y
    · rw [hy] at hk
      simp at hk
    · rw [hy] at hk
      have q := tw_at l k x (by simpa using h) (by simpa using hk)
      refine ⟨fun hp => ?_, fun hp => ?_⟩
      · have q1 := q.1 hp
        simpa using q1
      · have q2 := q.2 hp
        simpa using q2
theorem tw_all {p : Nat → Bool} {l : List Nat} (h : l.length ≤ (l.takeWhile p).length) : (l.takeWhile p).length = l.length := Nat.le_antisymm (List.takeWhile_sublist p).length_le h
/-- Ahead of the first attribute. -/
def ahL (P : Nat → Bool) (l : List Nat) : List Nat := l.takeWhile (fun i => !P i)
def RAh (bs bf bt b N : Nat) (R C p q : Int) (P : Nat → Bool) (V : World) : Prop := V.cell? ⟨bs, 0, none⟩ = some (.pointer (some ⟨b, 0, none⟩)) ∧ V.cell? ⟨bf, 0, none⟩ = some (.int .i64 p) ∧ V.cell? ⟨bt, 0, none⟩ = some (.int .i64 q) ∧ ∃ g s, SpM V b g s ∧ s.L.length = N ∧ s.r = R ∧ s.c = C ∧ s.P = P
theorem RAh.below {bs bf bt b N : Nat} {R C p q : Int} {P : Nat → Bool} {A B : World} (h : RAh bs bf bt b N R C p q P A) (hb : Below A.heap.size A B) : RAh bs bf bt b N R C p q P B := by
  obtain ⟨h1, h2, h3, g, s, h4, h5⟩ := h
  exact ⟨keepc hb h1, keepc hb h2, keepc hb h3, g, s, h4.below hb, h5⟩
/-- Between two places of the span: so many have been told. -/
def IAh (I : Nat → List Nat → World → Prop) (K m yb bx bp bq l : Nat) (R C p q : Int) (k : Nat) (S : List Nat) (V : World) : Prop :=
  I k S V ∧ k ≤ K ∧ V.cell? ⟨yb, 0, none⟩ = some (.func (.yield l) #[] #[]) ∧ RSp bx bp bq R C p q V ∧ yb ∉ S ∧ bx ∉ S ∧ bp ∉ S ∧ bq ∉ S ∧ m ≤ yb ∧ m ≤ bx ∧ m ≤ bp ∧ m ≤ bq
theorem IAh.grow {I : Nat → List Nat → World → Prop} {K m yb bx bp bq l k m' : Nat} {R C p q : Int} {S : List Nat} {A B : World} (h : IAh I K m yb bx bp bq l R C p q k S A) (hI : ∀ k S, Abides m (I k S)) (hm : m ≤ m') (hg : Grow m' A B) : IAh I K m yb bx bp bq l R C p q k S B :=
  ⟨hI _ _ _ _ (hg.mono hm) h.1, h.2.1, cell_grow hg h.2.2.1, h.2.2.2.1.grow hg, h.2.2.2.2⟩
def IxAh (I Ix : Nat → List Nat → World → Prop) (K : Nat) (c : Code) (_ : Nat) (_ : List Nat) (V : World) : Prop := c = .ret ∧ ((∃ S, I K S V) ∨ ∃ j S, j < K ∧ Ix (j + 1) S V)
section
attribute [local go_sem] Oper.semAt_some
set_option maxRecDepth 100000 in
set_option maxHeartbeats 8000000 in
theorem ahead_seq (n : Nat) (hn : 6 ≤ n) (bs bf bt b N : Nat) (R C p q : Int) (hok : Ok R C) (hRC : R * C = (N : Int)) (hp : I64 p) (hq : I64 q) (P : Nat → Bool) (W : World) : SeqF Fence.wide n Try.prog 134 #[.pointer (some ⟨bs, 0, none⟩), .pointer (some ⟨bf, 0, none⟩), .pointer (some ⟨bt, 0, none⟩)] encI (fun k x _ => (ahL P (spN N (p % (N : Int)).toNat (lenZ R C p q).toNat))[k]? = some x) (ahL P (spN N (p % (N : Int)).toNat (lenZ R C p q).toNat)).length (RAh bs bf bt b N R C p q P) W := fun l I Ix hI hIx hR h0 hY => by
  have hpos := ok_pos hok
  have hN0 : 0 < N := by omega
  have hSQ := fun bx bp bq V => span_seq (n - 1) (by omega) bx bp bq N R C p q hok hRC hp hq V
  have hML : ∀ k x, (spN N (p % (N : Int)).toNat (lenZ R C p q).toNat)[k]? = some x → x < N := fun k x hx => by
    have hk := (List.getElem?_eq_some_iff.1 hx).1
    rw [spN_len] at hk
    rw [spN_get hk] at hx
    injection hx with hx
    rw [← hx]
    exact Nat.mod_lt _ hN0
  have hSL : (spN N (p % (N : Int)).toNat (lenZ R C p q).toNat).length = (lenZ R C p q).toNat := spN_len _ _ _
  generalize spN N (p % (N : Int)).toNat (lenZ R C p q).toNat = sl at hSQ hML hSL hY ⊢
  generalize (lenZ R C p q).toNat = L at hSQ hSL
  have HTW := hid (fun k x hx hk => tw_at (p := fun i => !P i) sl k x hx hk)
  have HTA := hid (fun (h : L ≤ (ahL P sl).length) => (show (ahL P sl).length = L from by rw [← hSL]; exact tw_all (by rw [hSL]; exact h)))
  obtain ⟨K, hK⟩ : ∃ K, (ahL P sl).length = K := ⟨_, rfl⟩
  have HAE := hid (show sl.takeWhile (fun i => !P i) = ahL P sl from rfl)
  rw [HAE.out] at HTW
  rw [hK] at hY HTW HTA ⊢
  generalize ahL P sl = al at HTW hY HAE
  have HSQ := hid hSQ
  have HML := hid hML
  have HY := hid hY
  have HR := hid hR
  have HI := hid hI
  have H0 := hid h0
  have HRR := hid (hR _ _ _ h0)
  have HSZ := hid (fun V (h : RAh bs bf bt b N R C p q P V) => (show Calls Try.prog 79 #[.pointer (some ⟨b, 0, none⟩)] V fun e w' => e = .returned (.agg #[.int .i64 R, .int .i64 C]) ∧ Below V.heap.size V w' from by
    obtain ⟨-, -, -, g, s, hs, -, hr, hc, -⟩ := h
    have q := size_any V hs
    rwa [hr, hc] at q))
  have HAT := hid (fun (x : Nat) (hx : x < N) V (h : RAh bs bf bt b N R C p q P V) => (show ∃ x0 x2 x3 x4 x5, Calls Try.prog 20 #[.pointer (some ⟨b, 0, none⟩), .int .i64 x] V fun e w' => e = .returned (.agg #[.int .u8 x0, .bool (P x), .int .u8 x2, .int .u8 x3, .int .u8 x4, .int .u8 x5]) ∧ Below V.heap.size V w' from by
    obtain ⟨-, -, -, g, s, hs, hl, -, -, hP⟩ := h
    refine ⟨(s.cel x).ch, (s.cel x).fa, (s.cel x).hi, (s.cel x).co, (s.cel x).se, ?_⟩
    have q1 := at_any (b := b) (g := g) (s := s) (x : Int) (i64_small (by omega) (by omega)) V hs
    unfold Spc.atC at q1
    rw [wr_nat (by rw [hl]; exact hx)] at q1
    rw [← hP]
    exact q1))
  have hlt := World.block_lt_of_cell? W _ HRR.out.1
  clear hY hR h0 hSQ hML hSL hp hq hok hRC hpos hK
  refine callsIn_of_wp_marks Try.func134 rfl trivial ?_ rfl
  simp only [Try.ntmps134, List.size_toArray, List.length_cons, List.length_nil, Nat.reduceAdd, Nat.reduceSub, Array.replicate_succ, Array.replicate_zero, List.push_toArray, List.append_toArray, List.nil_append, List.cons_append]
  gi_wp2
  obtain ⟨w0, hw0⟩ : ∃ w0, W.alloc (.cells #[.func (.yield l) #[] #[]] 106) = w0 := ⟨_, rfl⟩
  have H1 := hid (show w0.cell? ⟨W.heap.size, 0, none⟩ = some (.func (.yield l) #[] #[]) ∧ Below W.heap.size W w0 ∧ w0.heap.size = W.heap.size + 1 from ⟨by rw [← hw0]; simp [go_sem], by rw [← hw0]; exact bal (Below.refl _ _) _, by rw [← hw0]; simp⟩)
  have HRW := hid (HRR.out.below H1.out.2.1)
  simp only [hw0]
  clear hw0
  have cs := HRW.out.1
  have cf := HRW.out.2.1
  have ct := HRW.out.2.2.1
  have ls := World.block_lt_of_cell? w0 _ cs
  have lf := World.block_lt_of_cell? w0 _ cf
  have lt := World.block_lt_of_cell? w0 _ ct
  refine wpIn_of_wpN ?_
  refine wp_region_held_drew (S := fun V => V.cell? ⟨bs, 0, none⟩ = some (.pointer (some ⟨b, 0, none⟩)) ∧ V.cell? ⟨bf, 0, none⟩ = some (.int .i64 p) ∧ V.cell? ⟨bt, 0, none⟩ = some (.int .i64 q) ∧ Below w0.heap.size w0 V) (by kernel_rfl) ?_ (fun hHeld => ?_)
  · have hdr : Below w0.heap.size w0 w0.drew := (Below.refl _ _).drew
    exact ⟨keepc hdr cs, keepc hdr cf, keepc hdr ct, hdr⟩
  refine takeD (i := 0) (v := ?_) 6 rfl rfl (by kernel_rfl) (by kernel_rfl) (by kernel_rfl) (fun _ _ _ h => h) (by assumption) (Or.inl ⟨by rfl, ?_⟩) ?_
  rotate_left
  · intro w hSw
    (try dsimp only at hSw)
    go_simp
    try with_reducible rfl
  simp only [List.setIfInBounds_toArray, List.set_cons_zero, List.set_cons_succ]
  refine takeD (i := 2) (v := ?_) 8 rfl rfl (by kernel_rfl) (by kernel_rfl) (by kernel_rfl) (fun _ _ _ h => h) (by assumption) (Or.inl ⟨by rfl, ?_⟩) ?_
  rotate_left
  · intro w hSw
    (try dsimp only at hSw)
    go_simp
    try with_reducible rfl
  simp only [List.setIfInBounds_toArray, List.set_cons_zero, List.set_cons_succ]
  refine takeD (i := 3) (v := ?_) 9 rfl rfl (by kernel_rfl) (by kernel_rfl) (by kernel_rfl) (fun _ _ _ h => h) (by assumption) (Or.inl ⟨by rfl, ?_⟩) ?_
  rotate_left
  · intro w hSw
    (try dsimp only at hSw)
    go_simp
    try with_reducible rfl
  simp only [List.setIfInBounds_toArray, List.set_cons_zero, List.set_cons_succ]
  refine wpAnyH_ready (rs := [1]) (by kernel_rfl) (by simp) ?_
  refine AllReadyH.cons (by simp only [List.getElem?_toArray, List.getElem?_cons_succ, List.getElem?_cons_zero]; rfl) (fun K hK => ?_) AllReadyH.nil
  go_simp
  go_at_call 79; (with_reducible refine (HSZ.out _ (HRW.out.below hHeld.2.2.2)).mono ?_); rintro e w1 ⟨rfl, hb1⟩
  refine hK.out _ _ ?_ (fun hHeldN => ?_)
  · exact ⟨keepc hb1 hHeld.1, keepc hb1 hHeld.2.1, keepc hb1 hHeld.2.2.1, below_t hHeld.2.2.2 hb1⟩
  clear hK K hHeld
  have hHeld := hHeldN
  clear hHeldN
  (try simp only [Act.put, List.setIfInBounds_toArray, List.set_cons_zero, List.set_cons_succ])
  refine wpAnyH_ready (rs := [4]) (by kernel_rfl) (by simp) ?_
  refine AllReadyH.cons (by simp only [List.getElem?_toArray, List.getElem?_cons_succ, List.getElem?_cons_zero]; rfl) (fun K hK => ?_) AllReadyH.nil
  go_simp
  go_at_call 97; (with_reducible refine (spanIt R C p q _).mono ?_); rintro e w2 ⟨bx, bp, bq, rfl, hx1, hx2, hx3, hsp, hb2⟩
  refine hK.out _ _ ?_ (fun hHeldN => ?_)
  · exact ⟨keepc hb2 hHeld.1, keepc hb2 hHeld.2.1, keepc hb2 hHeld.2.2.1, below_t hHeld.2.2.2 hb2⟩
  have HSP := hid (And.intro hsp (show w0.heap.size ≤ bx ∧ w0.heap.size ≤ bp ∧ w0.heap.size ≤ bq from by have := hHeld.2.2.2.size; exact ⟨Nat.le_trans this hx1, Nat.le_trans this hx2, Nat.le_trans this hx3⟩))
  clear hsp hx1 hx2 hx3
  clear hK K hHeld
  have hHeld := hHeldN
  clear hHeldN
  (try simp only [Act.put, List.setIfInBounds_toArray, List.set_cons_zero, List.set_cons_succ])
  refine wpAnyH_done (by kernel_rfl) ?_ _
  have HE := hid hHeld
  clear hHeld
  dsimp only [OnlyN]
  have hg2 : Grow W.heap.size W w2 := Grow.below (below_t H1.out.2.1 HE.out.2.2.2) _
  have hz2 : W.heap.size ≤ w2.heap.size := hg2.size
  have HI0 := hid (show IAh I K W.heap.size W.heap.size bx bp bq l R C p q 0 [] w2 from ⟨hI _ _ _ _ hg2 H0.out, Nat.zero_le _, keepc HE.out.2.2.2 H1.out.1, HSP.out.1, by simp, by simp, by simp, by simp, Nat.le_refl _, by have := HSP.out.2.1; have := H1.out.2.2; omega, by have := HSP.out.2.2.1; have := H1.out.2.2; omega, by have := HSP.out.2.2.2; have := H1.out.2.2; omega⟩)
  clear hg2 HE HRW HRR H0 H1 cs cf ct ls lf lt HSP
  gi_wp2
  refine rangeFunc_seq (n := n) (w := w2) rfl (by omega) (gf := 139) (lb := #[.pointer (some ⟨bx, 0, none⟩), .pointer (some ⟨bp, 0, none⟩), .pointer (some ⟨bq, 0, none⟩)]) rfl trivial (enters_of Try.func139 (by kernel_rfl) rfl)
    (encs := encI) (fun _ => rfl) (el := fun k x _ => sl[k]? = some x) (N := L) (R := RSp bx bp bq R C p q) (IAh I K W.heap.size W.heap.size bx bp bq l R C p q) (IxAh I Ix K) ?hI ?hIx ?hR HI0.out
    (fun k S x a V => IAh I K W.heap.size W.heap.size bx bp bq l R C p q k S V ∧ sl[k]? = some x ∧ W.heap.size ≤ V.heap.size ∧ a = { tmps := #[.func (.yield l) #[] #[], .pointer (some ⟨bs, 0, none⟩), .pointer (some ⟨bf, 0, none⟩), .pointer (some ⟨bt, 0, none⟩), .pointer (some ⟨W.heap.size, 0, none⟩), .int .i64 (x : Nat), .pointer (some ⟨b, 0, none⟩), .agg #[.int .i64 R, .int .i64 C], .int .i64 p, .int .i64 q, .func (.func 139) #[] #[.pointer (some ⟨bx, 0, none⟩), .pointer (some ⟨bp, 0, none⟩), .pointer (some ⟨bq, 0, none⟩)], .int .i64 (x : Nat), undef, undef, undef, undef, undef, undef, undef, undef, undef, undef], defers := [] }) ?hAx ?assign ?body ?iter ?done ?stop
  case hI => exact fun k S A B hg h => h.grow hI hz2 hg
  case hIx => exact fun c k S A B hg ⟨h1, h2⟩ => ⟨h1, h2.elim (fun ⟨S, h⟩ => .inl ⟨S, hI _ _ _ _ (hg.mono hz2) h⟩) (fun ⟨j, S, h3, h4⟩ => .inr ⟨j, S, h3, hIx _ _ _ _ (hg.mono hz2) h4⟩)⟩
  case hR => exact fun k S V h => h.2.2.2.1
  case hAx => exact fun k S x a A B hg ⟨h1, h2, h3, h4⟩ => ⟨h1.grow hI hz2 hg, h2, Nat.le_trans h3 hg.size, h4⟩
  case iter => exact fun o1 o2 _ _ => HSQ.out bx bp bq _
  case assign =>
    rintro l' k x S V KK hk hx1 hi hsz hK
    have HK := hid hK
    have HI2 := hid hi
    have hVz : W.heap.size ≤ V.heap.size := by omega
    clear hK hi
    gi_wp2
    exact HK.out _ _ (Touch.refl _ _ _) ⟨HI2.out, hx1, hVz, by simp⟩
  case body =>
    rintro l' k x S a' V hk ⟨hi, hx, hVz, rfl⟩ hsz
    have hxN := HML.out k x hx
    obtain ⟨tw1, tw2⟩ := HTW.out k x hx hi.2.1
    have hrr := HR.out _ _ _ hi.1
    have cs := hrr.1
    have ls := World.block_lt_of_cell? V _ cs
    obtain ⟨x0, x2, x3, x4, x5, hat⟩ := HAT.out x hxN V hrr
    have HATx := hid hat
    have HI2 := hid hi
    have hf1 := celf1
    have HTX := hid (And.intro tw1 tw2)
    clear hat hrr hi hx tw1 tw2
    gi_wp2
    refine ⟨trivial, fun _ => (by omega), ?_⟩
    refine (callsIn_wide.2 HATx.out).mono ?_
    rintro e w3 ⟨rfl, hb3⟩
    have HI3 := hid (HI2.out.grow hI (Nat.le_refl _) (Grow.below hb3 W.heap.size))
    have HT3 := hid (Touch.below hb3 w2.heap.size S)
    have hV3 : W.heap.size ≤ w3.heap.size := Nat.le_trans hVz hb3.size
    clear hb3 HI2 cs ls
    cases hp : P x
    · obtain ⟨q1, q2⟩ := HTX.out.1 (by rw [hp]; rfl)
      obtain ⟨f1, t1, a1, b1, hy, hr⟩ := HY.out _ x S w3 q1 q2 HI3.out.1 hV3
      have HRR := hid (fun l' m => roundIn_wide (l' := l') (m := m) hr)
      have cy := HI3.out.2.2.1
      have ly := World.block_lt_of_cell? w3 _ cy
      clear hr hp
      gi_wp2
      refine ⟨fun _ => (by omega), (HRR.out _ _).mono ?_⟩
      obtain ⟨h1, h2, h3, h4, h5, h6, h7, h8, h9, h10, h11, h12⟩ := HI3.out
      rintro e W1 ⟨S', ht, ⟨rfl, hj⟩ | ⟨rfl, hj⟩⟩
      · have HJ := hid (show IAh I K W.heap.size W.heap.size bx bp bq l R C p q (k + 1) S' W1 from ⟨hj, q1, cell_touch ht h9 h5 h3, ⟨cell_touch ht h10 h6 h4.1, cell_touch ht h10 h6 h4.2.1, cell_touch ht h11 h7 h4.2.2.1, cell_touch ht h12 h8 h4.2.2.2⟩, notin_touch ht h5 (World.block_lt_of_cell? _ _ h3), notin_touch ht h6 (World.block_lt_of_cell? _ _ h4.1), notin_touch ht h7 (World.block_lt_of_cell? _ _ h4.2.2.1), notin_touch ht h8 (World.block_lt_of_cell? _ _ h4.2.2.2), h9, h10, h11, h12⟩)
        have HT := hid (HT3.out.trans (ht.mono hz2))
        clear hj ht h1 h2 h3 h4 h5 h6 h7 h8
        gi_wp2
        exact ⟨S', HT.out, HJ.out⟩
      · have HJ := hid (show IxAh I Ix K .ret (k + 1) S' W1 from ⟨rfl, .inr ⟨k, S', q1, hj⟩⟩)
        have HT := hid (HT3.out.trans (ht.mono hz2))
        clear hj ht h1 h2 h3 h4 h5 h6 h7 h8
        gi_wp2
        exact ⟨S', HT.out, HJ.out⟩
    · have hKk : K = k := HTX.out.2 (by rw [hp]; rfl)
      have HJ := hid (show IxAh I Ix K .ret (k + 1) S w3 from ⟨rfl, .inl ⟨S, by rw [hKk]; exact HI3.out.1⟩⟩)
      clear hp
      gi_wp2
      rename_i aK _ _ _ _
      refine ⟨fun _ f => (by cases f), aK _ _ ?_⟩
      gi_wp2
      exact ⟨S, HT3.out, HJ.out⟩
  case done =>
    rintro D S V hD hi hK
    have HK := hid hK
    have hKL : K = L := HTA.out hi.2.1
    have HI2 := hid (show I K S V by rw [hKL]; exact hi.1)
    clear hi hK
    gi_wp2
    refine ⟨by simp, .inl ⟨_, _, rfl, run_takeDeferred HK.out, ?_⟩⟩
    exact ⟨_, results_none rfl _ _ _, ⟨_, rfl⟩, .inl ⟨S, hI _ _ _ _ (Grow.put _ (by omega) HK.out rfl) HI2.out⟩⟩
  case stop =>
    rintro D k c S V hD hk ⟨rfl, hj⟩ hK
    have HK := hid hK
    have HJ := hid hj
    clear hj hK
    gi_wp2
    refine ⟨by simp, .inl ⟨_, _, rfl, run_takeDeferred HK.out, ?_⟩⟩
    have hg := Grow.put (m := W.heap.size) (.deferred none) (by omega) HK.out rfl
    exact ⟨_, results_none rfl _ _ _, ⟨_, rfl⟩, HJ.out.elim (fun ⟨S, h⟩ => .inl ⟨S, hI _ _ _ _ hg h⟩) (fun ⟨j, S, h3, h4⟩ => .inr ⟨j, S, h3, hIx _ _ _ _ hg h4⟩)⟩
end
set_option maxRecDepth 100000 in
theorem aheadIt (o : Option Addr) (p q : Int) (w : World) : Calls Try.prog 90 #[.pointer o, .int .i64 p, .int .i64 q] w fun e w' => ∃ bs bf bt, e = .returned (.func (.func 134) #[] #[.pointer (some ⟨bs, 0, none⟩), .pointer (some ⟨bf, 0, none⟩), .pointer (some ⟨bt, 0, none⟩)]) ∧ w.heap.size ≤ bs ∧ w.heap.size ≤ bf ∧ w.heap.size ≤ bt ∧ (w'.cell? ⟨bs, 0, none⟩ = some (.pointer o) ∧ w'.cell? ⟨bf, 0, none⟩ = some (.int .i64 p) ∧ w'.cell? ⟨bt, 0, none⟩ = some (.int .i64 q)) ∧ Below w.heap.size w w' := by
  go_enter Try.func90, Try.ntmps90
  go_wp2
  go_ret
  refine ⟨w.heap.size, w.heap.size + 1, w.heap.size + 2, rfl, by omega, by omega, by omega, ⟨by simp [go_sem], by simp [go_sem], by simp [go_sem]⟩, ?_⟩
  exact (((Below.refl _ w).alloc (Nat.le_refl _) _).alloc (by simp) _).alloc (by simp; omega) _
end Go.Proofs.Ytpehhinpohmpiaa
