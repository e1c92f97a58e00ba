/-
  The cells of a space are told one by one.
  The places of a space's attributes are told one by one.
  What a loop over an iterator collects; slices.Collect of ints; the law's list of attributes.
  The law's lists of attributes and of cells; is a space formatted?
  The law's list of cells.
-/
import Derived.Test.YtlhaefgchmakfaaFc
import Derived.RangeFuncNested
import Derived.RangeFuncBound
import Derived.Shelf.Abstract
import Derived.Shelf.RegionOpen
import Derived.OwnWalkIn
import Derived.TacticsInMore
import Derived.LoopNIn
import Derived.LoopIn
namespace Go.Proofs.Ytlhaefgchmakfaa
open Go.RowKit Go.Lib Go.Shelf
attribute [local go_sem] Oper.semAt_some

abbrev encA (x : Nat × Cel) : Array Value := #[.int .i64 x.1, x.2.v]
/-- The k-th cell of the space at b. -/
def elA (b N : Nat) (k : Nat) (x : Nat × Cel) (V : World) : Prop := x.1 = k ∧ ∃ g s, SpM V b g s ∧ s.L.length = N ∧ s.cel k = x.2
/-- The space at b, of N cells, whose pointer lies in the box bx. -/
def RA (bx b N : Nat) (V : World) : Prop := V.cell? ⟨bx, 0, none⟩ = some (.pointer (some ⟨b, 0, none⟩)) ∧ ∃ g s, SpM V b g s ∧ s.L.length = N
set_option maxRecDepth 100000 in
set_option maxHeartbeats 2000000 in
theorem all_seq (n : Nat) (_hn : 1 ≤ n) (bx b N : Nat) (hN : N ≤ 3564) (W : World) : SeqF Fence.wide n Try.prog 81 #[.pointer (some ⟨bx, 0, none⟩)] encA (elA b N) N (RA bx b N) W := fun l I Ix _ _ hR h0 hY => by
  obtain ⟨hb, _⟩ := hR _ _ _ h0
  have hlt : bx < W.heap.size := World.block_lt_of_cell? W _ hb
  have HY := hid hY
  have HR := hid hR
  have H0 := hid h0
  clear hY hR h0
  refine callsIn_of_wp Try.func81 rfl trivial ?_ rfl
  simp only [Try.ntmps81, List.size_toArray, List.length_cons, List.length_nil, Nat.reduceAdd, Nat.reduceSub, Array.replicate_succ, Array.replicate_zero, List.push_toArray, List.append_toArray, List.nil_append, List.cons_append]
  gi_wp2
  gi_loopw [3] (fun i wr => ∃ k : Nat, k ≤ N ∧ i = .int .i64 k ∧ Hid (∃ S, I k S wr) ∧ W.heap.size ≤ wr.heap.size) (fun i _ => N - (intOf i).toNat)
  case atStart => exact ⟨0, by omega, rfl, ⟨_, H0.out⟩, Nat.le_refl _⟩
  case round =>
    obtain ⟨k, hk, rfl, ⟨S, hi⟩, hsz⟩ := hrel
    clear hb hlt
    obtain ⟨hb, g, s, hs, hl⟩ := HR.out _ _ _ hi
    have hlt : bx < wr.heap.size := World.block_lt_of_cell? wr _ hb
    have h2 := hs.h2
    have hbl := hs.lt.1
    have hgl := hs.lt.2
    rw [hl] at h2
    by_cases hlt2 : k < N
    · obtain ⟨c, hc⟩ : ∃ c, s.cel k = c := ⟨_, rfl⟩
      obtain ⟨a0, a1, a2, a3, a4, a5⟩ := hs.row.six k (by omega) c hc
      obtain ⟨f1, t1, a6, b1, hy, hr⟩ := HY.out k (k, c) S wr hlt2 ⟨rfl, g, s, hs, hl, hc⟩ hi hsz
      obtain ⟨x0, x1, x2, x3, x4, x5⟩ := c
      dsimp only at a0 a1 a2 a3 a4 a5 hy
      have HRR := hid hr
      have hki : (k : Int) < N := by omega
      clear hr hs hc hi
      gi_wp2
      refine HRR.out.mono ?_
      rintro e W1 ⟨S', ht, ⟨rfl, hj⟩ | ⟨rfl, hj⟩⟩
      · have HJ := hid (show ∃ S, I (k + 1) S W1 from ⟨S', hj⟩)
        have hsz1 := Nat.le_trans hsz ht.size
        clear hj ht h2 a0 a1 a2 a3 a4 a5 hb
        gi_wp2
        go_roundw
        case rel => exact ⟨k + 1, by omega, by go_num, HJ, hsz1⟩
        case measure => simp [intOf]; omega
      · have HJ := hid hj
        clear hj ht h2 a0 a1 a2 a3 a4 a5 hb
        gi_wp2
        refine bodyPost_ret (results_none rfl _ _ _) rfl ?_
        exact ⟨⟨_, rfl⟩, .inr ⟨k, S', hlt2, HJ.out⟩⟩
    · obtain rfl : k = N := by omega
      clear hs
      gi_wp2
      go_end0
      exact ⟨⟨_, rfl⟩, .inl ⟨S, hi⟩⟩
end Go.Proofs.Ytlhaefgchmakfaa
namespace Go.Proofs.Ytlhaefgchmakfaa
open Go.RowKit Go.Lib Go.Shelf
attribute [local go_sem] Oper.semAt_some

/-- The places of which P holds. -/
def attP (P : Nat → Bool) (N : Nat) : List Nat := (List.range N).filter P
theorem attP_succ (P : Nat → Bool) (k : Nat) : attP P (k + 1) = attP P k ++ (if P k then [k] else []) := by
  unfold attP
  rw [List.range_succ, List.filter_append]
  congr 1
  cases h : P k <;> simp [h]
theorem attP_pre (P : Nat → Bool) {k N : Nat} (h : k ≤ N) : ∃ t, attP P N = attP P k ++ t := by
  induction N with
  | zero => exact ⟨[], by rw [show k = 0 by omega]; simp⟩
  | succ N ih =>
    by_cases hk : k = N + 1
    · exact ⟨[], by rw [hk]; simp⟩
    · obtain ⟨t, ht⟩ := ih (by omega)
      exact ⟨t ++ (if P N then [N] else []), by rw [attP_succ, ht, List.append_assoc]⟩
theorem attP_at (P : Nat → Bool) {k N : Nat} (h : k < N) (hp : P k = true) : (attP P k).length < (attP P N).length ∧ (attP P N)[(attP P k).length]? = some k ∧ (attP P (k + 1)).length = (attP P k).length + 1 := by
  have e := attP_succ P k
  rw [if_pos hp] at e
  obtain ⟨t, ht⟩ := attP_pre P (show k + 1 ≤ N from h)
  rw [e] at ht
  refine ⟨by rw [ht]; simp, by rw [ht]; simp, by rw [e]; simp⟩
theorem attP_not (P : Nat → Bool) {k : Nat} (hp : P k = false) : (attP P (k + 1)).length = (attP P k).length := by
  rw [attP_succ, if_neg (by rw [hp]; decide), List.append_nil]
abbrev encI (x : Nat) : Array Value := #[.int .i64 x]
/-- The space at b: N cells, and where P says, and nowhere else, attributes. -/
def SpP (b N : Nat) (P : Nat → Bool) (V : World) : Prop := ∃ g s, SpM V b g s ∧ s.L.length = N ∧ ∀ i, i < N → (s.cel i).at_ = P i
def RP (bx b N : Nat) (P : Nat → Bool) (V : World) : Prop := V.cell? ⟨bx, 0, none⟩ = some (.pointer (some ⟨b, 0, none⟩)) ∧ SpP b N P V
theorem RP.ra {bx b N : Nat} {P : Nat → Bool} {V : World} (h : SpP b N P V) (hb : V.cell? ⟨bx, 0, none⟩ = some (.pointer (some ⟨b, 0, none⟩))) : RA bx b N V := by
  obtain ⟨g, s, h1, h2, _⟩ := h
  exact ⟨hb, g, s, h1, h2⟩
section
variable {l l' n m : Nat} {P : Program} {f : FuncId} {tmps : Array Value} {assign body : Code} {w : World} {R : Ending → World → Prop}
theorem roundIn_wide (h : RoundIn Fence.wide n P l f tmps assign body w R) : RoundIn (Fence.wide.inRound l') m P l f tmps assign body w R := ⟨h.1, fun c cs _ => h.2 c cs (room_wide _)⟩
end
theorem cell_grow {m : Nat} {A B : World} {b o : Nat} {v : Value} (k : Grow m A B) (h : A.cell? ⟨b, o, none⟩ = some v) : B.cell? ⟨b, o, none⟩ = some v := by
  obtain ⟨q, hq, hc⟩ := cells_of_cell h
  exact (World.cell?_of_block (a := ⟨b, o, none⟩) ((k.block _ _ hq (.inr hc)).trans hq.symm)).trans h
theorem cell_touch {m : Nat} {A B : World} {S S' : List Nat} {b o : Nat} {v : Value} (k : Touch m A B S S') (hm : m ≤ b) (hs : b ∉ S) (h : A.cell? ⟨b, o, none⟩ = some v) : B.cell? ⟨b, o, none⟩ = some v :=
  (World.cell?_of_block (a := ⟨b, o, none⟩) (k.block b hm (World.block_lt_of_cell? A _ h) hs)).trans h
theorem notin_touch {m : Nat} {A B : World} {S S' : List Nat} {b : Nat} (k : Touch m A B S S') (hs : b ∉ S) (hb : b < A.heap.size) : b ∉ S' := fun q => by
  rcases k.from' b q with h | h
  · exact hs h
  · omega
set_option maxRecDepth 100000 in
set_option maxHeartbeats 1000000 in
/-- All: the iterator's value. -/
theorem all_any (b : Nat) (w : World) : Calls Try.prog 50 #[.pointer (some ⟨b, 0, none⟩)] w fun e w' => ∃ bx, e = .returned (.func (.func 81) #[] #[.pointer (some ⟨bx, 0, none⟩)]) ∧ w.heap.size ≤ bx ∧ w'.cell? ⟨bx, 0, none⟩ = some (.pointer (some ⟨b, 0, none⟩)) ∧ Below w.heap.size w w' := by
  go_enter Try.func50, Try.ntmps50
  go_wp2
  go_ret
  exact ⟨w.heap.size, rfl, Nat.le_refl _, by simp [go_sem], (Below.refl _ _).al (Nat.le_refl _) _⟩
theorem cel_ext {c d : Cel} (h : c.cs = d.cs) : c = d := by
  obtain ⟨c0, c1, c2, c3, c4, c5⟩ := c
  obtain ⟨d0, d1, d2, d3, d4, d5⟩ := d
  simp [Cel.cs] at h
  simp [h]
theorem cel_same {w : World} {g i : Nat} {s t : Spc} (h : CellsM w g s.L) (k : CellsM w g t.L) (hi : i < s.L.length) (ht : i < t.L.length) (_ : s.OK) (_ : t.OK) : s.cel i = t.cel i := by
  refine cel_ext (List.ext_getElem? fun j => ?_)
  by_cases hj : j < 6
  · exact (h.at_ i hi j hj).symm.trans (k.at_ i ht j hj)
  · rw [List.getElem?_eq_none (by show 6 ≤ j; omega), List.getElem?_eq_none (by show 6 ≤ j; omega)]
/-- Between two cells: j have been told. -/
def IAt (I : Nat → List Nat → World → Prop) (P : Nat → Bool) (m yb bx b l : Nat) (k : Nat) (S : List Nat) (V : World) : Prop :=
  I (attP P k).length S V ∧ V.cell? ⟨yb, 0, none⟩ = some (.func (.yield l) #[] #[]) ∧ yb ∉ S ∧ V.cell? ⟨bx, 0, none⟩ = some (.pointer (some ⟨b, 0, none⟩)) ∧ bx ∉ S ∧ m ≤ yb ∧ m ≤ bx
def IxAt (Ix : Nat → List Nat → World → Prop) (N : Nat) (c : Code) (_ : Nat) (S : List Nat) (V : World) : Prop := c = .ret ∧ ∃ j, j < N ∧ Ix (j + 1) S V
theorem IAt.grow {I : Nat → List Nat → World → Prop} {P : Nat → Bool} {m yb bx b l k m' : Nat} {S : List Nat} {A C : World} (h : IAt I P m yb bx b l k S A) (hI : ∀ k S, Abides m (I k S)) (hm : m ≤ m') (hg : Grow m' A C) : IAt I P m yb bx b l k S C :=
  ⟨hI _ _ _ _ (hg.mono hm) h.1, cell_grow hg h.2.1, h.2.2.1, cell_grow hg h.2.2.2.1, h.2.2.2.2⟩
/-- What a round begins with. -/
def AxAt (I : Nat → List Nat → World → Prop) (P : Nat → Bool) (m yb bx b l N : Nat) (fr : Value → Value → Value → Array Value) (k : Nat) (S : List Nat) (x : Nat × Cel) (a : Act) (V : World) : Prop :=
  x.1 = k ∧ x.2.at_ = P k ∧ IAt I P m yb bx b l k S V ∧ m ≤ V.heap.size ∧ ∃ cb, V.cell? ⟨cb, 1, none⟩ = some (.bool (P k)) ∧ a = { tmps := fr (.int .i64 k) (.pointer (some ⟨cb, 0, none⟩)) x.2.v, defers := [] } ∧ N = N
set_option maxRecDepth 100000 in
set_option maxHeartbeats 4000000 in
theorem attrs_seq (n : Nat) (hn : 4 ≤ n) (bx b N : Nat) (P : Nat → Bool) (hN : N ≤ 3564) (W : World) : SeqF Fence.wide n Try.prog 97 #[.pointer (some ⟨bx, 0, none⟩)] encI (fun k x _ => (attP P N)[k]? = some x) (attP P N).length (RP bx b N P) W := fun l I Ix hI hIx hR h0 hY => by
  obtain ⟨hb, _⟩ := hR _ _ _ h0
  have hlt : bx < W.heap.size := World.block_lt_of_cell? W _ hb
  have HY := hid hY
  have HR := hid hR
  have H0 := hid h0
  clear hY hR h0
  refine callsIn_of_wp_marks Try.func97 rfl trivial ?_ rfl
  simp only [Try.ntmps97, List.size_toArray, List.length_cons, List.length_nil, Nat.reduceAdd, Nat.reduceSub, Array.replicate_succ, Array.replicate_zero, List.push_toArray, List.append_toArray, List.nil_append, List.cons_append]
  gi_wp2
  refine ⟨trivial, fun _ => (by omega), ?_⟩
  refine (callsIn_wide.2 (all_any b _)).mono ?_
  rintro e w1 ⟨bs, rfl, hbs, hcs, hb1⟩
  have hy1 : w1.cell? ⟨W.heap.size, 0, none⟩ = some (.func (.yield l) #[] #[]) := keepc hb1 (by simp [go_sem])
  have hg1 : Grow W.heap.size W w1 := (Grow.alloc W _ _).trans (Grow.below hb1 _)
  have hz1 : W.heap.size ≤ w1.heap.size := hg1.size
  have hbs' : W.heap.size ≤ bs := by simp at hbs; omega
  have HI0 := hid (show IAt I P W.heap.size W.heap.size bs b l 0 [] w1 from ⟨hI _ _ _ _ hg1 H0.out, hy1, by simp, hcs, by simp, Nat.le_refl _, hbs'⟩)
  clear hb1 hy1 hg1 hcs hbs hb hlt
  gi_wp2
  refine rangeFunc_seq (n := n) (w := w1) rfl (by omega) (gf := 81) (lb := #[.pointer (some ⟨bs, 0, none⟩)]) rfl trivial (enters_of Try.func81 (by kernel_rfl) rfl)
    (encs := encA) (fun _ => rfl) (el := elA b N) (N := N) (R := RA bs b N) (IAt I P W.heap.size W.heap.size bs b l) (IxAt Ix (attP P N).length) ?hI ?hIx ?hR HI0.out
    (AxAt I P W.heap.size W.heap.size bs b l N (fun k c v => #[.func (.yield l) #[] #[], .pointer (some ⟨bx, 0, none⟩), .pointer (some ⟨W.heap.size, 0, none⟩), k, c, .pointer (some ⟨b, 0, none⟩), .func (.func 81) #[] #[.pointer (some ⟨bs, 0, none⟩)], k, v, undef, undef, undef, undef, undef, undef, undef, undef])) ?hAx ?assign ?body ?iter ?done ?stop
  case hI => exact fun k S A C hg h => h.grow hI hz1 hg
  case hIx => exact fun c k S A C hg ⟨h1, j, h2, h3⟩ => ⟨h1, j, h2, hIx _ _ _ _ (hg.mono hz1) h3⟩
  case hR => exact fun k S V h => RP.ra (HR.out _ _ _ h.1).2 h.2.2.2.1
  case hAx => exact fun k S x a A C hg ⟨h1, h2, h3, h4, cb, h5, h6⟩ => ⟨h1, h2, h3.grow hI hz1 hg, Nat.le_trans h4 hg.size, cb, cell_grow hg h5, h6⟩
  case iter => exact fun o1 o2 _ _ => all_seq (n - 1) (by omega) bs b N hN _
  case assign =>
    rintro l' k ⟨x, c⟩ S V KK hk ⟨hx, g, s, hs, hl, hc⟩ hi hsz hK
    dsimp only at hx hc
    subst hx
    obtain ⟨_, g', s', hs', hl', hp⟩ := HR.out _ _ _ hi.1
    have hat : c.at_ = P x := by
      have e2 : s'.cel x = c := by
        have h1 := hs.h2
        rw [hs'.h2] at h1
        have eg : g = g' := by
          injection h1 with h1
          injection h1 with h1
          injection h1 with h1
          injection h1 with h1
          exact h1.symm
        subst eg
        exact (cel_same hs.row hs'.row (by omega) (by omega) hs.ok hs'.ok).symm.trans hc
      rw [← e2]
      exact hp x hk
    have HK := hid hK
    have HI := hid hi
    have hbz := Nat.le_trans hz1 (show w1.heap.size ≤ V.heap.size by omega)
    clear hK hi hs hs' hp hl hl' hc
    obtain ⟨x0, x1, x2, x3, x4, x5⟩ := c
    dsimp only at hat
    subst hat
    gi_wp2
    refine HK.out _ _ (Touch.alloc V _ _ S) ⟨rfl, rfl, HI.out.grow hI hz1 (Grow.alloc V _ _), by simp; omega, V.heap.size, by simp [go_sem], rfl, rfl⟩
  case body =>
    rintro l' k ⟨x, c⟩ S a' V hk ⟨hx, hat, hi, hVz, cb, hcb, rfl, -⟩ hsz
    dsimp only at hx hat
    subst hx
    have hyb := hi.2.1
    cases hp : P x
    · rw [hp] at hcb
      have HI := hid hi
      clear hi hat
      gi_wp2

      rename_i aK _ _ _ _
      refine ⟨fun _ f => (by cases f), aK _ _ ?_⟩
      gi_wp2
      obtain ⟨h1, h2, h3, h4, h5, h6, h7⟩ := HI.out
      exact ⟨S, Touch.refl _ _ _, by rw [attP_not P hp]; exact h1, h2, h3, h4, h5, h6, h7⟩
    · obtain ⟨q1, q2, q3⟩ := attP_at P hk hp
      rw [hp] at hcb
      obtain ⟨f1, t1, a1, b1, hy, hr⟩ := HY.out _ x S V q1 q2 hi.1 hVz
      have HRR := hid (fun l' m => roundIn_wide (l' := l') (m := m) hr)
      have HI := hid hi
      clear hi hr hat
      gi_wp2
      refine ⟨fun _ => (by omega), (HRR.out _ _).mono ?_⟩
      obtain ⟨h1, h2, h3, h4, h5, h6, h7⟩ := HI.out
      have l2 := World.block_lt_of_cell? V _ h2
      have l4 := World.block_lt_of_cell? V _ h4
      rintro e W1 ⟨S', ht, ⟨rfl, hj⟩ | ⟨rfl, hj⟩⟩
      · have HJ := hid (show IAt I P W.heap.size W.heap.size bs b l (x + 1) S' W1 from ⟨by rw [q3]; exact hj, cell_touch ht h6 h3 h2, notin_touch ht h3 l2, cell_touch ht h7 h5 h4, notin_touch ht h5 l4, h6, h7⟩)
        have HT := hid (ht.mono hz1)
        clear hj ht h1 h2 h3 h4 h5
        gi_wp2
        exact ⟨S', HT.out, HJ.out⟩
      · have HJ := hid (show IxAt Ix (attP P N).length .ret (x + 1) S' W1 from ⟨rfl, (attP P x).length, q1, hj⟩)
        have HT := hid (ht.mono hz1)
        clear hj ht h1 h2 h3 h4 h5
        gi_wp2
        exact ⟨S', HT.out, HJ.out⟩
  case done =>
    rintro D S V hD hi hK
    have HK := hid hK
    have HI := hid hi
    clear hi hK
    gi_wp2
    refine ⟨by simp, .inl ⟨_, _, rfl, run_takeDeferred HK.out, ?_⟩⟩
    exact ⟨_, results_none rfl _ _ _, ⟨_, rfl⟩, .inl ⟨S, hI _ _ _ _ (Grow.put _ (by omega) HK.out rfl) HI.out.1⟩⟩
  case stop =>
    rintro D k c S V hD hk ⟨rfl, j, hj, hx⟩ hK
    have HK := hid hK
    have HX := hid hx
    clear hx hK
    gi_wp2
    refine ⟨by simp, .inl ⟨_, _, rfl, run_takeDeferred HK.out, ?_⟩⟩
    exact ⟨_, results_none rfl _ _ _, ⟨_, rfl⟩, .inr ⟨j, S, hj, hIx _ _ _ _ (Grow.put _ (by omega) HK.out rfl) HX.out⟩⟩
end Go.Proofs.Ytlhaefgchmakfaa
namespace Go.Proofs.Ytlhaefgchmakfaa
open Go.RowKit Go.Lib Go.Shelf
attribute [local go_sem] Oper.semAt_some

theorem wpListIn_append_blk {F : Fence} {n : Nat} {P : Program} (w : World) {ops : Array Oper} {rest : List Oper} {o : Oper} {a : Act} {Q : Exit → Act → World → Prop}
    (hg : o.guard = none) (s x : Operand) (t : TypeId) (hop : o.op = Op.call { callee := Callee.builtin Builtin.append, args := #[s, x], argTypes := #[t, t] })
    (e : TypeId) (i : TypeInfo) (z : Value) (size bytes : Nat) (h1 : P.underlying t = some (.slice e)) (h2 : P.info? e = some i) (h3 : i.zero = some z) (h4 : i.size = size) (h5 : i.bytes = bytes) (h6 : z.cells.size = size) (h7 : 0 < size)
    (v : Value) (k : Nat) (xs : List Value) (hs : a.eval s = v) (hown : w.ownsRow 0 e size v k xs) (ad : Addr) (m c : Nat) (news : List Value) (hx : a.eval x = .slice (some ad) m c) (hn : news.length = m * size)
    (hc : ∀ j u, news[j]? = some u → w.cell? (ad.add j) = some u) (h1c : ∀ u ∈ news, u.oneCell' = true) (b1 : k + m ≤ maxLen) (b2 : (k + m) * bytes ≤ 140737488355328)
    (hK : ∀ v' w', w'.ownsRow 0 e size v' (k + m) (xs ++ news) → w.grownBy w' v.ownBlock → (∀ k ∈ blkV v', k ∈ blkV v ∨ w.heap.size ≤ k) → wpListIn F n P ops Q rest (a.put o.dst v') w') :
    wpListIn F n P ops Q (o :: rest) a w := by
  refine wpListIn_plain hg fun K hK' => ?_
  obtain ⟨v', w', hrun, r1, r2, _, r4⟩ := run_append_blk (P := P) w t o.type e i z size bytes h1 h2 h3 h4 h5 h6 h7 v k xs hown ad m c news hn hc h1c b1 b2
  unfold Oper.wpIn
  refine ⟨?_, ?_⟩
  · simp [Oper.about, hop, resolve, Target.leads, Sem.run_pure]
  · rw [Oper.semAt_plain F _ _ (by rw [hop]; intro c hc'; cases hc')]
    simp [execOp, hop, resolve, invoke, builtin, hs, hx, hrun, Result.andThen]
    exact hK' _ _ (hK v' w' r1 r2 r4)
theorem own_block {A B : World} {t : TypeId} {sz n : Nat} {v : Value} {cs : List Value} (h : A.ownsRow 0 t sz v n cs) (hb : ∀ k ∈ blkV v, B.heap[k]? = A.heap[k]?) : B.ownsRow 0 t sz v n cs := by
  refine ⟨h.1, ?_⟩
  rcases h.2 with hn | ⟨g, cap, cur, rfl, hb', hgg, rest⟩
  · exact .inl hn
  · refine .inr ⟨g, cap, cur, rfl, hb', ?_, rest⟩
    rw [hb g (by simp [blkV, Value.ownBlock])]
    exact hgg
theorem own_cells {A : World} {t : TypeId} {sz n : Nat} {v : Value} {cs : List Value} (h : A.ownsRow 0 t sz v n cs) : ∀ k ∈ blkV v, ∃ q : Obj, A.heap[k]? = some q ∧ q.isCells = true := fun k hk => by
  rcases h.2 with ⟨rfl, _⟩ | ⟨g, cap, cur, rfl, hb', hgg, rest⟩
  · cases hk
  · have e : g = k := by simpa [mem_blkV, Value.ownBlock] using hk
    subst e
    exact ⟨_, hgg, rfl⟩
theorem own_grow {m : Nat} {A B : World} {t : TypeId} {sz n : Nat} {v : Value} {cs : List Value} (h : A.ownsRow 0 t sz v n cs) (k : Grow m A B) : B.ownsRow 0 t sz v n cs :=
  own_block h fun q hq => by
    obtain ⟨o, ho, hc⟩ := own_cells h q hq
    exact (k.block _ _ ho (.inr hc)).trans ho.symm
theorem frozen_grow {m : Nat} {A B : World} {b o : Nat} {v : Value} {z : Bool} (k : Grow m A B) (h : A.cell? ⟨b, o, none⟩ = some v) (hf : A.frozen? ⟨b, o, none⟩ = z) : B.frozen? ⟨b, o, none⟩ = z := by
  obtain ⟨q, hq, hc⟩ := cells_of_cell h
  exact (World.frozen?_of_block (a := ⟨b, o, none⟩) ((k.block _ _ hq (.inr hc)).trans hq.symm)).trans hf
theorem below_grow {n m : Nat} {w A B : World} (h : Below n w A) (k : Grow m A B) (hn : n ≤ m) (hw : n ≤ w.heap.size) : Below n w B :=
  ⟨k.os.trans h.os, k.tape.trans h.tape, k.output.trans h.output, Nat.le_trans h.size k.size, fun i hi => by
    have hi2 : i < A.heap.size := Nat.lt_of_lt_of_le hi (Nat.le_trans hw h.size)
    rw [k.block i _ (Array.getElem?_eq_getElem hi2) (.inl (Nat.lt_of_lt_of_le hi hn)), ← Array.getElem?_eq_getElem hi2]
    exact h.block i hi⟩
/-- The box ob holds a slice that owns these cells, in a row of S. -/
structure Acc (m ob : Nat) (t : TypeId) (sz : Nat) (cs : List Value) (n : Nat) (S : List Nat) (V : World) : Prop where
  ex : ∃ v, V.cell? ⟨ob, 0, none⟩ = some v ∧ V.frozen? ⟨ob, 0, none⟩ = false ∧ V.ownsRow 0 t sz v n cs ∧ ∀ k ∈ blkV v, k ∈ S
  lt : ob < m
  ms : ∀ k ∈ S, m ≤ k
section
variable {m ob : Nat} {t : TypeId} {sz n : Nat} {cs : List Value} {S : List Nat} {V : World}
theorem Acc.grow (h : Acc m ob t sz cs n S V) {m' : Nat} {B : World} (k : Grow m' V B) : Acc m ob t sz cs n S B := by
  obtain ⟨⟨v, h1, h2, h3, h4⟩, h5, h6⟩ := h
  exact ⟨⟨v, cell_grow k h1, frozen_grow k h1 h2, own_grow h3 k, h4⟩, h5, h6⟩
theorem Acc.step (h : Acc m ob t sz cs n S V) {v v' : Value} {o : Obj} {W1 : World} {news : List Value} {k : Nat} (hv : V.cell? ⟨ob, 0, none⟩ = some v) (hown : W1.ownsRow 0 t sz v' (n + k) (cs ++ news)) (hg : (V.alloc o).grownBy W1 v.ownBlock) (hb : ∀ k ∈ blkV v', k ∈ blkV v ∨ (V.alloc o).heap.size ≤ k) (hmV : m ≤ V.heap.size) :
    W1.cell? ⟨ob, 0, none⟩ = some v ∧ W1.frozen? ⟨ob, 0, none⟩ = false ∧ ob < W1.heap.size ∧ Acc m ob t sz (cs ++ news) (n + k) (blkV v') (W1.setCell ⟨ob, 0, none⟩ v') ∧ Touch m V (W1.setCell ⟨ob, 0, none⟩ v') S (blkV v') ∧ (∀ n0 w, n0 ≤ ob → Below n0 w V → Below n0 w (W1.setCell ⟨ob, 0, none⟩ v')) ∧ ∀ i, i < V.heap.size → i ≠ ob → i ∉ S → (W1.setCell ⟨ob, 0, none⟩ v').heap[i]? = V.heap[i]? := by
  obtain ⟨⟨v0, h1, h2, h3, h4⟩, h5, h6⟩ := h
  rw [hv] at h1
  cases h1
  have hlt := World.block_lt_of_cell? V _ hv
  have hz : V.heap.size ≤ W1.heap.size := Nat.le_trans (by simp) hg.size
  have hsame : ∀ i, i < V.heap.size → i ∉ S → W1.heap[i]? = V.heap[i]? := fun i hi hs => (hg.block i (by simp; omega) (fun e => hs (h4 i (mem_blkV.2 e.symm)))).trans (Below.heap_alloc _ _ _ hi)
  have hobS : ob ∉ S := fun q => by have := h6 _ q; omega
  have c1 : W1.cell? ⟨ob, 0, none⟩ = some v := (World.cell?_of_block (a := ⟨ob, 0, none⟩) (hsame ob hlt hobS)).trans hv
  have f1 : W1.frozen? ⟨ob, 0, none⟩ = false := (World.frozen?_of_block (a := ⟨ob, 0, none⟩) (hsame ob hlt hobS)).trans h2
  have hms : ∀ k ∈ blkV v', m ≤ k := fun k hk => by
    rcases hb k hk with q | q
    · exact h6 k (h4 k q)
    · simp at q; omega
  have hset : ∀ i, i ≠ ob → (W1.setCell ⟨ob, 0, none⟩ v').heap[i]? = W1.heap[i]? := fun i hi => Go.heap_setCell_other W1 ⟨ob, 0, none⟩ i v' hi
  refine ⟨c1, f1, by omega, ⟨⟨v', sc_same c1, by rw [World.frozen?_setCell]; exact f1, own_block hown fun i hi => hset i (fun e => by have := hms i hi; omega), fun _ q => q⟩, h5, hms⟩, ⟨by simp [World.setCell]; omega, fun i hm hi hs => (hset i (by omega)).trans (hsame i hi hs), fun i hi => ?_⟩, fun n0 w hn hbl => ⟨?_, ?_, ?_, ?_, fun i hi => ?_⟩, fun i hi hn hs => (hset i hn).trans (hsame i hi hs)⟩
  · rcases hb i hi with q | q
    · exact .inl (h4 i q)
    · simp at q; exact .inr (by omega)
  · exact (show W1.os = _ from hg.os.trans hbl.os)
  · exact (show W1.tape = _ from hg.tape.trans hbl.tape)
  · exact (show W1.output = _ from hg.output.trans hbl.output)
  · have := hbl.size; simp [World.setCell]; omega
  · rw [hset i (by omega), hsame i (by omega) (fun q => by have := h6 _ q; omega)]
    exact hbl.block i hi
end
theorem infoI : (Try.prog.info? 3).map (fun i => (i.zero, i.size, i.bytes)) = some (some (.int .i64 0), 1, 8) := by kernel_rfl
def intsV (xs : List Int) : List Value := xs.map (Value.int .i64)
theorem one_new (V : World) (u : Value) (t : TypeId) (b : Nat) (hb : b = V.heap.size) : ∀ j x, ([u] : List Value)[j]? = some x → (V.alloc (.cells #[u] t)).cell? ((⟨b, 0, none⟩ : Addr).add j) = some x := fun j x hx => by
  subst hb
  rcases j with _ | j
  · simp at hx
    subst hx
    rw [addr_add]
    simp [go_sem]
  · simp at hx
/-- A list of ints was made. -/
def IntsD (xs : List Int) (w : World) (e : Ending) (w' : World) : Prop := ∃ v, e = .returned v ∧ w'.ownsRow 0 3 1 v xs.length (intsV xs) ∧ (∀ k ∈ blkV v, w.heap.size ≤ k) ∧ Below w.heap.size w w'
def IColl (w : World) (m ob : Nat) (xs : List Nat) (k : Nat) (S : List Nat) (V : World) : Prop := k ≤ xs.length ∧ Acc m ob 3 1 (intsV ((xs.take k).map Int.ofNat)) k S V ∧ Below w.heap.size w V ∧ w.heap.size ≤ ob
theorem IColl.abides {w : World} {m ob : Nat} {xs : List Nat} {k : Nat} {S : List Nat} (hm : w.heap.size ≤ m) : Abides m (IColl w m ob xs k S) := fun _ _ hg ⟨h1, h2, h3, h4⟩ => ⟨h1, h2.grow hg, below_grow h3 hg hm (Nat.le_refl _), h4⟩
theorem row_any {w : World} {base : Nat} {e : TypeId} {size n : Nat} {v : Value} {xs : List Value} (h : w.ownsRow base e size v n xs) : ∃ y cap, v = .slice y n cap := by
  rcases h.2 with ⟨rfl, h0⟩ | ⟨g, cap, cur, rfl, _⟩
  · exact ⟨none, 0, by rw [h0]⟩
  · exact ⟨_, cap, rfl⟩
theorem take_one {α : Type} (xs : List α) (k : Nat) (x : α) (h : xs[k]? = some x) : xs.take (k + 1) = xs.take k ++ [x] := by
  obtain ⟨hk, e⟩ := List.getElem?_eq_some_iff.1 h
  rw [List.take_succ_eq_append_getElem hk, e]
end Go.Proofs.Ytlhaefgchmakfaa
namespace Go.Proofs.Ytlhaefgchmakfaa
open Go.RowKit Go.Lib Go.Shelf
attribute [local go_sem] Oper.semAt_some

set_option maxRecDepth 100000 in
set_option maxHeartbeats 1000000 in
/-- Attrs: the iterator's value. -/
theorem attrsIt_any (b : Nat) (w : World) : Calls Try.prog 75 #[.pointer (some ⟨b, 0, none⟩)] w fun e w' => ∃ bx, e = .returned (.func (.func 97) #[] #[.pointer (some ⟨bx, 0, none⟩)]) ∧ w.heap.size ≤ bx ∧ w'.cell? ⟨bx, 0, none⟩ = some (.pointer (some ⟨b, 0, none⟩)) ∧ Below w.heap.size w w' := by
  go_enter Try.func75, Try.ntmps75
  go_wp2
  go_ret
  exact ⟨w.heap.size, rfl, Nat.le_refl _, by simp [go_sem], (Below.refl _ _).al (Nat.le_refl _) _⟩
/-- Where a space's attributes stand. -/
def Spc.P (s : Spc) (i : Nat) : Bool := (s.cel i).at_
def Spc.A (s : Spc) : List Nat := attP s.P s.L.length
def Spc.iA (s : Spc) (k : Nat) : List Value := intsV ((s.A.take k).map Int.ofNat)
theorem iA_succ {s : Spc} {k x : Nat} (h : s.A[k]? = some x) : s.iA (k + 1) = s.iA k ++ [.int .i64 x] := by
  unfold Spc.iA
  rw [take_one _ _ _ h, List.map_append]
  unfold intsV
  rw [List.map_append]
  rfl
theorem iA_full {s : Spc} {k : Nat} (h : s.A.length ≤ k) : s.iA k = s.iA s.A.length := by
  unfold Spc.iA
  rw [List.take_of_length_le h, List.take_length]
theorem SpM.spP {w : World} {b g : Nat} {s : Spc} (h : SpM w b g s) : SpP b s.L.length s.P w := ⟨g, s, h, rfl, fun _ _ => rfl⟩
theorem attP_len (P : Nat → Bool) (N : Nat) : (attP P N).length ≤ N := by
  have := List.length_filter_le P (List.range N)
  simpa [attP] using this
theorem elA_is {b g N k : Nat} {s : Spc} {x : Nat × Cel} {V : World} (h : SpM V b g s) (hN : s.L.length = N) (he : elA b N k x V) (hk : k < N) : x = (k, s.cel k) := by
  obtain ⟨hx, g', s', hs', hl', hc⟩ := he
  have h1 := h.h2
  rw [hs'.h2] at h1
  have eg : g' = g := by
    injection h1 with h1
    injection h1 with h1
    injection h1 with h1
    injection h1 with h1
  subst eg
  obtain ⟨x1, x2⟩ := x
  dsimp only at hx hc
  rw [hx, ← hc, cel_same hs'.row h.row (by omega) (by omega) hs'.ok h.ok]
/-- What is collected while the world w0 lies as it lay. -/
def ICo (w0 : World) (m ob : Nat) (t : TypeId) (sz : Nat) (cs : Nat → List Value) (k : Nat) (S : List Nat) (V : World) : Prop := Acc m ob t sz (cs k) k S V ∧ Below w0.heap.size w0 V
theorem ICo.abides {w0 : World} {m ob : Nat} {t : TypeId} {sz : Nat} {cs : Nat → List Value} {k : Nat} {S : List Nat} (hm : w0.heap.size ≤ m) {A C : World} (hg : Grow m A C) (h : ICo w0 m ob t sz cs k S A) : ICo w0 m ob t sz cs k S C := ⟨h.1.grow hg, below_grow h.2 hg hm (Nat.le_refl _)⟩
def ICm (w0 : World) (m ob : Nat) (t : TypeId) (sz K : Nat) (cs : Nat → List Value) (k : Nat) (S : List Nat) (V : World) : Prop := k < K ∧ ICo w0 m ob t sz cs k S V
def IxCm (w0 : World) (m ob : Nat) (t : TypeId) (sz K : Nat) (cs : Nat → List Value) (c : Code) (k : Nat) (S : List Nat) (V : World) : Prop := c = .exit 0 ∧ k = K ∧ ICo w0 m ob t sz cs k S V
/-- A list was made. -/
def ListD (t : TypeId) (sz : Nat) (cs : List Value) (n : Nat) (w : World) (e : Ending) (w' : World) : Prop := ∃ v, e = .returned v ∧ w'.ownsRow 0 t sz v n cs ∧ (∀ k ∈ blkV v, w.heap.size ≤ k) ∧ Below w.heap.size w w'
end Go.Proofs.Ytlhaefgchmakfaa
namespace Go.Proofs.Ytlhaefgchmakfaa
open Go.RowKit Go.Lib Go.Shelf
attribute [local go_sem] Oper.semAt_some

def cellsV (L : List Cel) : List Value := L.flatMap Cel.cs
def Spc.cA (s : Spc) (k : Nat) : List Value := cellsV (s.L.take k)
theorem cA_succ {s : Spc} {k : Nat} (h : k < s.L.length) : s.cA (k + 1) = s.cA k ++ (s.cel k).cs := by
  unfold Spc.cA cellsV Spc.cel
  rw [take_one s.L k _ (List.getElem?_eq_getElem h), List.flatMap_append, List.getD, List.getElem?_eq_getElem h]
  simp
theorem cA_full {s : Spc} {k : Nat} (h : s.L.length ≤ k) : s.cA k = s.cA s.L.length := by
  unfold Spc.cA
  rw [List.take_of_length_le h, List.take_length]
theorem six_new (V : World) (x0 x1 x2 x3 x4 x5 : Value) (t : TypeId) : ∀ j u, ([x0, x1, x2, x3, x4, x5] : List Value)[j]? = some u → (V.alloc (.cells #[x0, x1, x2, x3, x4, x5] t)).cell? ((⟨V.heap.size, 0, none⟩ : Addr).add j) = some u := fun j u hu => by
  rw [addr_add]
  have hj : j < 6 := by
    rcases Nat.lt_or_ge j 6 with h | h
    · exact h
    · rw [List.getElem?_eq_none (by simpa using h)] at hu; cases hu
  have : j = 0 ∨ j = 1 ∨ j = 2 ∨ j = 3 ∨ j = 4 ∨ j = 5 := by omega
  rcases this with rfl | rfl | rfl | rfl | rfl | rfl <;> (simp at hu; subst hu; simp [go_sem])
/-- The box of a loop's cell. -/
structure Six (V : World) (b : Nat) (c : Cel) : Prop where
  c0 : V.cell? ⟨b, 0, none⟩ = some (.int .u8 c.ch)
  c1 : V.cell? ⟨b, 1, none⟩ = some (.bool c.at_)
  c2 : V.cell? ⟨b, 2, none⟩ = some (.int .u8 c.fa)
  c3 : V.cell? ⟨b, 3, none⟩ = some (.int .u8 c.hi)
  c4 : V.cell? ⟨b, 4, none⟩ = some (.int .u8 c.co)
  c5 : V.cell? ⟨b, 5, none⟩ = some (.int .u8 c.se)
theorem Six.grow {m : Nat} {A B : World} {b : Nat} {c : Cel} (h : Six A b c) (k : Grow m A B) : Six B b c := ⟨cell_grow k h.c0, cell_grow k h.c1, cell_grow k h.c2, cell_grow k h.c3, cell_grow k h.c4, cell_grow k h.c5⟩
theorem six_box (V : World) (x0 : Int) (x1 : Bool) (x2 x3 x4 x5 : Int) (t : TypeId) : Six (V.alloc (.cells #[.int .u8 x0, .bool x1, .int .u8 x2, .int .u8 x3, .int .u8 x4, .int .u8 x5] t)) V.heap.size ⟨x0, x1, x2, x3, x4, x5⟩ :=
  ⟨by simp [go_sem], by simp [go_sem], by simp [go_sem], by simp [go_sem], by simp [go_sem], by simp [go_sem]⟩
end Go.Proofs.Ytlhaefgchmakfaa
