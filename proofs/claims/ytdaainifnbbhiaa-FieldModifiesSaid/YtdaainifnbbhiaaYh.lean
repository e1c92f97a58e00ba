/-
  The places of a space's attributes are told one by one.
-/
import Derived.Test.YtdaainifnbbhiaaYg
namespace Go.Proofs.Ytdaainifnbbhiaa
open Go.RowKit Go.Lib Go.Shelf
attribute [local go_sem] Oper.semAt_some

/-- The places of which P holds. -/
def attP (P : Nat → Bool) (N : Nat) : List Nat := (List.range N).filter P
theorem attP_succ (P : Nat → Bool) (k : Nat) : attP P (k + 1) = attP P k ++ (if P k then [k] else []) := by
  unfold attP
  rw [List.range_succ, List.filter_append]
  congr 1
  cases h : P k <;> simp [h]
theorem attP_pre (P : Nat → Bool) {k N : Nat} (h : k ≤ N) : ∃ t, attP P N = attP P k ++ t := by
  induction N with
  | zero => exact ⟨[], by rw [show k = 0 by omega]; simp⟩
  | succ N ih =>
    by_cases hk : k = N + 1
    · exact ⟨[], by rw [hk]; simp⟩
    · obtain ⟨t, ht⟩ := ih (by omega)
      exact ⟨t ++ (if P N then [N] else []), by rw [attP_succ, ht, List.append_assoc]⟩
theorem attP_at (P : Nat → Bool) {k N : Nat} (h : k < N) (hp : P k = true) : (attP P k).length < (attP P N).length ∧ (attP P N)[(attP P k).length]? = some k ∧ (attP P (k + 1)).length = (attP P k).length + 1 := by
  have e := attP_succ P k
  rw [if_pos hp] at e
  obtain ⟨t, ht⟩ := attP_pre P (show k + 1 ≤ N from h)
  rw [e] at ht
  refine ⟨by rw [ht]; simp, by rw [ht]; simp, by rw [e]; simp⟩
theorem attP_not (P : Nat → Bool) {k : Nat} (hp : P k = false) : (attP P (k + 1)).length = (attP P k).length := by
  rw [attP_succ, if_neg (by rw [hp]; decide), List.append_nil]
abbrev encI (x : Nat) : Array Value := #[.int .i64 x]
/-- The space at b: N cells, and where P says, and nowhere else, attributes. -/
def SpP (b N : Nat) (P : Nat → Bool) (V : World) : Prop := ∃ g s, SpM V b g s ∧ s.L.length = N ∧ ∀ i, i < N → (s.cel i).at_ = P i
def RP (bx b N : Nat) (P : Nat → Bool) (V : World) : Prop := V.cell? ⟨bx, 0, none⟩ = some (.pointer (some ⟨b, 0, none⟩)) ∧ SpP b N P V
theorem RP.ra {bx b N : Nat} {P : Nat → Bool} {V : World} (h : SpP b N P V) (hb : V.cell? ⟨bx, 0, none⟩ = some (.pointer (some ⟨b, 0, none⟩))) : RA bx b N V := by
  obtain ⟨g, s, h1, h2, _⟩ := h
  exact ⟨hb, g, s, h1, h2⟩
section
variable {l l' n m : Nat} {P : Program} {f : FuncId} {tmps : Array Value} {assign body : Code} {w : World} {R : Ending → World → Prop}
theorem roundIn_wide (h : RoundIn Fence.wide n P l f tmps assign body w R) : RoundIn (Fence.wide.inRound l') m P l f tmps assign body w R := ⟨h.1, fun c cs _ => h.2 c cs (room_wide _)⟩
end
theorem cell_grow {m : Nat} {A B : World} {b o : Nat} {v : Value} (k : Grow m A B) (h : A.cell? ⟨b, o, none⟩ = some v) : B.cell? ⟨b, o, none⟩ = some v := by
  obtain ⟨q, hq, hc⟩ := cells_of_cell h
  exact (World.cell?_of_block (a := ⟨b, o, none⟩) ((k.block _ _ hq (.inr hc)).trans hq.symm)).trans h
theorem cell_touch {m : Nat} {A B : World} {S S' : List Nat} {b o : Nat} {v : Value} (k : Touch m A B S S') (hm : m ≤ b) (hs : b ∉ S) (h : A.cell? ⟨b, o, none⟩ = some v) : B.cell? ⟨b, o, none⟩ = some v :=
  (World.cell?_of_block (a := ⟨b, o, none⟩) (k.block b hm (World.block_lt_of_cell? A _ h) hs)).trans h
theorem notin_touch {m : Nat} {A B : World} {S S' : List Nat} {b : Nat} (k : Touch m A B S S') (hs : b ∉ S) (hb : b < A.heap.size) : b ∉ S' := fun q => by
  rcases k.from' b q with h | h
  · exact hs h
  · omega
set_option maxRecDepth 100000 in
set_option maxHeartbeats 1000000 in
/-- All: the iterator's value. -/
theorem all_any (b : Nat) (w : World) : Calls Try.prog 74 #[.pointer (some ⟨b, 0, none⟩)] w fun e w' => ∃ bx, e = .returned (.func (.func 94) #[] #[.pointer (some ⟨bx, 0, none⟩)]) ∧ w.heap.size ≤ bx ∧ w'.cell? ⟨bx, 0, none⟩ = some (.pointer (some ⟨b, 0, none⟩)) ∧ Below w.heap.size w w' := by
  go_enter Try.func74, Try.ntmps74
  go_wp2
  go_ret
  exact ⟨w.heap.size, rfl, Nat.le_refl _, by simp [go_sem], (Below.refl _ _).al (Nat.le_refl _) _⟩
theorem cel_ext {c d : Cel} (h : c.cs = d.cs) : c = d := by
  obtain ⟨c0, c1, c2, c3, c4, c5⟩ := c
  obtain ⟨d0, d1, d2, d3, d4, d5⟩ := d
  simp [Cel.cs] at h
  simp [h]
theorem cel_same {w : World} {g i : Nat} {s t : Spc} (h : CellsM w g s.L) (k : CellsM w g t.L) (hi : i < s.L.length) (ht : i < t.L.length) (_ : s.OK) (_ : t.OK) : s.cel i = t.cel i := by
  refine cel_ext (List.ext_getElem? fun j => ?_)
  by_cases hj : j < 6
  · exact (h.at_ i hi j hj).symm.trans (k.at_ i ht j hj)
  · rw [List.getElem?_eq_none (by show 6 ≤ j; omega), List.getElem?_eq_none (by show 6 ≤ j; omega)]
/-- Between two cells: j have been told. -/
def IAt (I : Nat → List Nat → World → Prop) (P : Nat → Bool) (m yb bx b l : Nat) (k : Nat) (S : List Nat) (V : World) : Prop :=
  I (attP P k).length S V ∧ V.cell? ⟨yb, 0, none⟩ = some (.func (.yield l) #[] #[]) ∧ yb ∉ S ∧ V.cell? ⟨bx, 0, none⟩ = some (.pointer (some ⟨b, 0, none⟩)) ∧ bx ∉ S ∧ m ≤ yb ∧ m ≤ bx
def IxAt (Ix : Nat → List Nat → World → Prop) (N : Nat) (c : Code) (_ : Nat) (S : List Nat) (V : World) : Prop := c = .ret ∧ ∃ j, j < N ∧ Ix (j + 1) S V
theorem IAt.grow {I : Nat → List Nat → World → Prop} {P : Nat → Bool} {m yb bx b l k m' : Nat} {S : List Nat} {A C : World} (h : IAt I P m yb bx b l k S A) (hI : ∀ k S, Abides m (I k S)) (hm : m ≤ m') (hg : Grow m' A C) : IAt I P m yb bx b l k S C :=
  ⟨hI _ _ _ _ (hg.mono hm) h.1, cell_grow hg h.2.1, h.2.2.1, cell_grow hg h.2.2.2.1, h.2.2.2.2⟩
/-- What a round begins with. -/
def AxAt (I : Nat → List Nat → World → Prop) (P : Nat → Bool) (m yb bx b l N : Nat) (fr : Value → Value → Value → Array Value) (k : Nat) (S : List Nat) (x : Nat × Cel) (a : Act) (V : World) : Prop :=
  x.1 = k ∧ x.2.at_ = P k ∧ IAt I P m yb bx b l k S V ∧ m ≤ V.heap.size ∧ ∃ cb, V.cell? ⟨cb, 1, none⟩ = some (.bool (P k)) ∧ a = { tmps := fr (.int .i64 k) (.pointer (some ⟨cb, 0, none⟩)) x.2.v, defers := [] } ∧ N = N
set_option maxRecDepth 100000 in
set_option maxHeartbeats 4000000 in
theorem attrs_seq (n : Nat) (hn : 4 ≤ n) (bx b N : Nat) (P : Nat → Bool) (hN : N ≤ 3564) (W : World) : SeqF Fence.wide n Try.prog 93 #[.pointer (some ⟨bx, 0, none⟩)] encI (fun k x _ => (attP P N)[k]? = some x) (attP P N).length (RP bx b N P) W := fun l I Ix hI hIx hR h0 hY => by
  obtain ⟨hb, _⟩ := hR _ _ _ h0
  have hlt : bx < W.heap.size := World.block_lt_of_cell? W _ hb
  have HY := hid hY
  have HR := hid hR
  have H0 := hid h0
  clear hY hR h0
  refine callsIn_of_wp_marks Try.func93 rfl trivial ?_ rfl
  simp only [Try.ntmps93, List.size_toArray, List.length_cons, List.length_nil, Nat.reduceAdd, Nat.reduceSub, Array.replicate_succ, Array.replicate_zero, List.push_toArray, List.append_toArray, List.nil_append, List.cons_append]
  gi_wp2
  refine ⟨trivial, fun _ => (by omega), ?_⟩
  refine (callsIn_wide.2 (all_any b _)).mono ?_
  rintro e w1 ⟨bs, rfl, hbs, hcs, hb1⟩
  have hy1 : w1.cell? ⟨W.heap.size, 0, none⟩ = some (.func (.yield l) #[] #[]) := keepc hb1 (by simp [go_sem])
  have hg1 : Grow W.heap.size W w1 := (Grow.alloc W _ _).trans (Grow.below hb1 _)
  have hz1 : W.heap.size ≤ w1.heap.size := hg1.size
  have hbs' : W.heap.size ≤ bs := by simp at hbs; omega
  have HI0 := hid (show IAt I P W.heap.size W.heap.size bs b l 0 [] w1 from ⟨hI _ _ _ _ hg1 H0.out, hy1, by simp, hcs, by simp, Nat.le_refl _, hbs'⟩)
  clear hb1 hy1 hg1 hcs hbs hb hlt
  gi_wp2
  refine rangeFunc_seq (n := n) (w := w1) rfl (by omega) (gf := 94) (lb := #[.pointer (some ⟨bs, 0, none⟩)]) rfl trivial (enters_of Try.func94 (by kernel_rfl) rfl)
    (encs := encA) (fun _ => rfl) (el := elA b N) (N := N) (R := RA bs b N) (IAt I P W.heap.size W.heap.size bs b l) (IxAt Ix (attP P N).length) ?hI ?hIx ?hR HI0.out
    (AxAt I P W.heap.size W.heap.size bs b l N (fun k c v => #[.func (.yield l) #[] #[], .pointer (some ⟨bx, 0, none⟩), .pointer (some ⟨W.heap.size, 0, none⟩), k, c, .pointer (some ⟨b, 0, none⟩), .func (.func 94) #[] #[.pointer (some ⟨bs, 0, none⟩)], k, v, undef, undef, undef, undef, undef, undef, undef, undef])) ?hAx ?assign ?body ?iter ?done ?stop
  case hI => exact fun k S A C hg h => h.grow hI hz1 hg
  case hIx => exact fun c k S A C hg ⟨h1, j, h2, h3⟩ => ⟨h1, j, h2, hIx _ _ _ _ (hg.mono hz1) h3⟩
  case hR => exact fun k S V h => RP.ra (HR.out _ _ _ h.1).2 h.2.2.2.1
  case hAx => exact fun k S x a A C hg ⟨h1, h2, h3, h4, cb, h5, h6⟩ => ⟨h1, h2, h3.grow hI hz1 hg, Nat.le_trans h4 hg.size, cb, cell_grow hg h5, h6⟩
  case iter => exact fun o1 o2 _ _ => all_seq (n - 1) (by omega) bs b N hN _
  case assign =>
    rintro l' k ⟨x, c⟩ S V KK hk ⟨hx, g, s, hs, hl, hc⟩ hi hsz hK
    dsimp only at hx hc
    subst hx
    obtain ⟨_, g', s', hs', hl', hp⟩ := HR.out _ _ _ hi.1
    have hat : c.at_ = P x := by
      have e2 : s'.cel x = c := by
        have h1 := hs.h2
        rw [hs'.h2] at h1
        have eg : g = g' := by
          injection h1 with h1
          injection h1 with h1
          injection h1 with h1
          injection h1 with h1
          exact h1.symm
        subst eg
        exact (cel_same hs.row hs'.row (by omega) (by omega) hs.ok hs'.ok).symm.trans hc
      rw [← e2]
      exact hp x hk
    have HK := hid hK
    have HI := hid hi
    have hbz := Nat.le_trans hz1 (show w1.heap.size ≤ V.heap.size by omega)
    clear hK hi hs hs' hp hl hl' hc
    obtain ⟨x0, x1, x2, x3, x4, x5⟩ := c
    dsimp only at hat
    subst hat
    gi_wp2
    refine HK.out _ _ (Touch.alloc V _ _ S) ⟨rfl, rfl, HI.out.grow hI hz1 (Grow.alloc V _ _), by simp; omega, V.heap.size, by simp [go_sem], rfl, rfl⟩
  case body =>
    rintro l' k ⟨x, c⟩ S a' V hk ⟨hx, hat, hi, hVz, cb, hcb, rfl, -⟩ hsz
    dsimp only at hx hat
    subst hx
    have hyb := hi.2.1
    cases hp : P x
    · rw [hp] at hcb
      have HI := hid hi
      clear hi hat
      gi_wp2

      rename_i aK _ _ _ _
      refine ⟨fun _ f => (by cases f), aK _ _ ?_⟩
      gi_wp2
      obtain ⟨h1, h2, h3, h4, h5, h6, h7⟩ := HI.out
      exact ⟨S, Touch.refl _ _ _, by rw [attP_not P hp]; exact h1, h2, h3, h4, h5, h6, h7⟩
    · obtain ⟨q1, q2, q3⟩ := attP_at P hk hp
      rw [hp] at hcb
      obtain ⟨f1, t1, a1, b1, hy, hr⟩ := HY.out _ x S V q1 q2 hi.1 hVz
      have HRR := hid (fun l' m => roundIn_wide (l' := l') (m := m) hr)
      have HI := hid hi
      clear hi hr hat
      gi_wp2
      refine ⟨fun _ => (by omega), (HRR.out _ _).mono ?_⟩
      obtain ⟨h1, h2, h3, h4, h5, h6, h7⟩ := HI.out
      have l2 := World.block_lt_of_cell? V _ h2
      have l4 := World.block_lt_of_cell? V _ h4
      rintro e W1 ⟨S', ht, ⟨rfl, hj⟩ | ⟨rfl, hj⟩⟩
      · have HJ := hid (show IAt I P W.heap.size W.heap.size bs b l (x + 1) S' W1 from ⟨by rw [q3]; exact hj, cell_touch ht h6 h3 h2, notin_touch ht h3 l2, cell_touch ht h7 h5 h4, notin_touch ht h5 l4, h6, h7⟩)
        have HT := hid (ht.mono hz1)
        clear hj ht h1 h2 h3 h4 h5
        gi_wp2
        exact ⟨S', HT.out, HJ.out⟩
      · have HJ := hid (show IxAt Ix (attP P N).length .ret (x + 1) S' W1 from ⟨rfl, (attP P x).length, q1, hj⟩)
        have HT := hid (ht.mono hz1)
        clear hj ht h1 h2 h3 h4 h5
        gi_wp2
        exact ⟨S', HT.out, HJ.out⟩
  case done =>
    rintro D S V hD hi hK
    have HK := hid hK
    have HI := hid hi
    clear hi hK
    gi_wp2
    refine ⟨by simp, .inl ⟨_, _, rfl, run_takeDeferred HK.out, ?_⟩⟩
    exact ⟨_, results_none rfl _ _ _, ⟨_, rfl⟩, .inl ⟨S, hI _ _ _ _ (Grow.put _ (by omega) HK.out rfl) HI.out.1⟩⟩
  case stop =>
    rintro D k c S V hD hk ⟨rfl, j, hj, hx⟩ hK
    have HK := hid hK
    have HX := hid hx
    clear hx hK
    gi_wp2
    refine ⟨by simp, .inl ⟨_, _, rfl, run_takeDeferred HK.out, ?_⟩⟩
    exact ⟨_, results_none rfl _ _ _, ⟨_, rfl⟩, .inr ⟨j, S, hj, hIx _ _ _ _ (Grow.put _ (by omega) HK.out rfl) HX.out⟩⟩
end Go.Proofs.Ytdaainifnbbhiaa
