/-
  The modified ones, told.
-/
import Derived.Test.YtdaainifnbbhiaaWf
namespace Go.Proofs.Ytdaainifnbbhiaa
open Go.RowKit Go.Lib Go.Deep
attribute [local go_sem] Oper.semAt_some

theorem md_step (s : Spc) {k x : Nat} (h : s.A[k]? = some x) : mdS s (s.A.take (k + 1)) = mdS s (s.A.take k) ++ (if (s.cel x).modi then [x] else []) := by
  rw [List.take_add_one, h]
  exact mdS_add s _ x
theorem md_pre (s : Spc) (k : Nat) : ∃ t, mdS s s.A = mdS s (s.A.take k) ++ t := by
  refine ⟨mdS s (s.A.drop k), ?_⟩
  unfold mdS
  rw [← List.filter_append, List.take_append_drop]
theorem md_at (s : Spc) {k x : Nat} (h : s.A[k]? = some x) (hp : (s.cel x).modi = true) : (mdS s (s.A.take k)).length < (mdS s s.A).length ∧ (mdS s s.A)[(mdS s (s.A.take k)).length]? = some x ∧ (mdS s (s.A.take (k + 1))).length = (mdS s (s.A.take k)).length + 1 := by
  have e := md_step s h
  rw [if_pos hp] at e
  obtain ⟨t, ht⟩ := md_pre s (k + 1)
  rw [e] at ht
  refine ⟨by rw [ht]; simp, by rw [ht]; simp, by rw [e]; simp⟩
theorem md_not (s : Spc) {k x : Nat} (h : s.A[k]? = some x) (hp : (s.cel x).modi = false) : (mdS s (s.A.take (k + 1))).length = (mdS s (s.A.take k)).length := by
  rw [md_step s h, if_neg (by rw [hp]; decide), List.append_nil]
/-- Between two fields. -/
def IMd (I : Nat → List Nat → World → Prop) (s : Spc) (m yb bs b l : Nat) (k : Nat) (S : List Nat) (V : World) : Prop :=
  I (mdS s (s.A.take k)).length S V ∧ V.cell? ⟨yb, 0, none⟩ = some (.func (.yield l) #[] #[]) ∧ yb ∉ S ∧ V.cell? ⟨bs, 0, none⟩ = some (.pointer (some ⟨b, 0, none⟩)) ∧ bs ∉ S ∧ m ≤ yb ∧ m ≤ bs
theorem IMd.grow {I : Nat → List Nat → World → Prop} {s : Spc} {m yb bs b l k m' : Nat} {S : List Nat} {A C : World} (h : IMd I s m yb bs b l k S A) (hI : ∀ k S, Abides m (I k S)) (hm : m ≤ m') (hg : Grow m' A C) : IMd I s m yb bs b l k S C :=
  ⟨hI _ _ _ _ (hg.mono hm) h.1, cell_grow hg h.2.1, h.2.2.1, cell_grow hg h.2.2.2.1, h.2.2.2.2⟩
def AxMd (I : Nat → List Nat → World → Prop) (s : Spc) (m yb bs b l : Nat) (fr : Value → Value → Value → Array Value) (k : Nat) (S : List Nat) (x : Nat × Value) (a : Act) (V : World) : Prop :=
  (s.A[k]? = some x.1 ∧ x.2 = (s.cel x.1).fv) ∧ IMd I s m yb bs b l k S V ∧ m ≤ V.heap.size ∧ ∃ cb, V.cell? ⟨cb, 3, none⟩ = some (.bool (s.cel x.1).modi) ∧ a = { tmps := fr (.int .i64 x.1) (.pointer (some ⟨cb, 0, none⟩)) x.2, defers := [] }
set_option maxRecDepth 100000 in
set_option maxHeartbeats 1000000 in
/-- Fields: the iterator's value. -/
theorem fieldsIt_any (b : Nat) (w : World) : Calls Try.prog 47 #[.pointer (some ⟨b, 0, none⟩)] w fun e w' => ∃ bx, e = .returned (.func (.func 81) #[] #[.pointer (some ⟨bx, 0, none⟩)]) ∧ w.heap.size ≤ bx ∧ w'.cell? ⟨bx, 0, none⟩ = some (.pointer (some ⟨b, 0, none⟩)) ∧ Below w.heap.size w w' := by
  go_enter Try.func47, Try.ntmps47
  go_wp2
  go_ret
  exact ⟨w.heap.size, rfl, Nat.le_refl _, by simp [go_sem], (Below.refl _ _).al (Nat.le_refl _) _⟩
set_option maxRecDepth 100000 in
set_option maxHeartbeats 1000000 in
/-- Modified: the iterator's value. -/
theorem modifiedIt_any (b : Nat) (w : World) : Calls Try.prog 63 #[.pointer (some ⟨b, 0, none⟩)] w fun e w' => ∃ bx, e = .returned (.func (.func 89) #[] #[.pointer (some ⟨bx, 0, none⟩)]) ∧ w.heap.size ≤ bx ∧ w'.cell? ⟨bx, 0, none⟩ = some (.pointer (some ⟨b, 0, none⟩)) ∧ Below w.heap.size w w' := by
  go_enter Try.func63, Try.ntmps63
  go_wp2
  go_ret
  exact ⟨w.heap.size, rfl, Nat.le_refl _, by simp [go_sem], (Below.refl _ _).al (Nat.le_refl _) _⟩
set_option maxRecDepth 100000 in
set_option maxHeartbeats 8000000 in
theorem modified_seq (n : Nat) (hn : 6 ≤ n) (bx b g : Nat) (s : Spc) (hpos : 0 < s.L.length ∧ s.L.length ≤ 3564) (W : World) : SeqF Fence.wide n Try.prog 89 #[.pointer (some ⟨bx, 0, none⟩)] encI (fun k x _ => (mdS s s.A)[k]? = some x) (mdS s s.A).length (RFs bx b g s) W := fun l I Ix hI hIx hR h0 hY => by
  obtain ⟨hb, _⟩ := hR _ _ _ h0
  have hlt : bx < W.heap.size := World.block_lt_of_cell? W _ hb
  have HY := hid hY
  have HR := hid hR
  have H0 := hid h0
  clear hY hR h0
  refine callsIn_of_wp_marks Try.func89 rfl trivial ?_ rfl
  simp only [Try.ntmps89, List.size_toArray, List.length_cons, List.length_nil, Nat.reduceAdd, Nat.reduceSub, Array.replicate_succ, Array.replicate_zero, List.push_toArray, List.append_toArray, List.nil_append, List.cons_append]
  gi_wp2
  refine ⟨trivial, fun _ => (by omega), ?_⟩
  refine (callsIn_wide.2 (fieldsIt_any b _)).mono ?_
  rintro e w1 ⟨bs, rfl, hbs, hcs, hb1⟩
  have hy1 : w1.cell? ⟨W.heap.size, 0, none⟩ = some (.func (.yield l) #[] #[]) := keepc hb1 (by simp [go_sem])
  have hg1 : Grow W.heap.size W w1 := (Grow.alloc W _ _).trans (Grow.below hb1 _)
  have hz1 : W.heap.size ≤ w1.heap.size := hg1.size
  have hbs' : W.heap.size ≤ bs := by simp at hbs; omega
  have HI0 := hid (show IMd I s W.heap.size W.heap.size bs b l 0 [] w1 from ⟨hI _ _ _ _ hg1 H0.out, hy1, by simp, hcs, by simp, Nat.le_refl _, hbs'⟩)
  clear hb1 hy1 hg1 hcs hbs hb hlt
  gi_wp2
  refine rangeFunc_seq (n := n) (w := w1) rfl (by omega) (gf := 81) (lb := #[.pointer (some ⟨bs, 0, none⟩)]) rfl trivial (enters_of Try.func81 (by kernel_rfl) rfl)
    (encs := encF) (fun _ => rfl) (el := fun k x _ => s.A[k]? = some x.1 ∧ x.2 = (s.cel x.1).fv) (N := s.A.length) (R := RFs bs b g s) (IMd I s W.heap.size W.heap.size bs b l) (IxAt Ix (mdS s s.A).length) ?hI ?hIx ?hR HI0.out
    (AxMd I s W.heap.size W.heap.size bs b l (fun k c v => #[.func (.yield l) #[] #[], .pointer (some ⟨bx, 0, none⟩), .pointer (some ⟨W.heap.size, 0, none⟩), k, c, .pointer (some ⟨b, 0, none⟩), .func (.func 81) #[] #[.pointer (some ⟨bs, 0, none⟩)], k, v, undef, undef, undef, undef, undef, undef, undef, undef])) ?hAx ?assign ?body ?iter ?done ?stop
  case hI => exact fun k S A C hg h => h.grow hI hz1 hg
  case hIx => exact fun c k S A C hg ⟨h1, j, h2, h3⟩ => ⟨h1, j, h2, hIx _ _ _ _ (hg.mono hz1) h3⟩
  case hR => exact fun k S V h => ⟨h.2.2.2.1, (HR.out _ _ _ h.1).2⟩
  case hAx => exact fun k S x a A C hg ⟨h1, h2, h3, cb, h5, h6⟩ => ⟨h1, h2.grow hI hz1 hg, Nat.le_trans h3 hg.size, cb, cell_grow hg h5, h6⟩
  case iter => exact fun o1 o2 _ _ => fields_seq (n - 1) (by omega) bs b g s hpos _
  case assign =>
    rintro l' k ⟨x, c⟩ S V KK hk ⟨hx, hc⟩ hi hsz hK
    dsimp only at hx hc
    subst hc
    have HK := hid hK
    have HI := hid hi
    have HX := hid hx
    have hbz := Nat.le_trans hz1 (show w1.heap.size ≤ V.heap.size by omega)
    have HFV := hid (show (s.cel x).fv = .agg #[.bool (ofP (s.cel x).fa.toNat), .bool (ofN (s.cel x).fa.toNat), .int .i64 (ofD (s.cel x).fa.toNat), .bool (s.cel x).modi] from rfl)
    have HK2 := hid (fun a V1 (ht : Touch w1.heap.size V V1 S S) q => HK.out a V1 ht q)
    clear hK hi hx
    rw [HFV.out] at HK2 ⊢
    generalize ofP (s.cel x).fa.toNat = fp at *
    generalize ofN (s.cel x).fa.toNat = fn at *
    generalize ofD (s.cel x).fa.toNat = fd at *
    gi_wp2
    refine HK.out _ _ (Touch.alloc V _ _ S) ⟨⟨HX.out, rfl⟩, HI.out.grow hI hz1 (Grow.alloc V _ _), by simp; omega, V.heap.size, by simp [go_sem], by rw [HFV.out]⟩
  case body =>
    rintro l' k ⟨x, c⟩ S a' V hk ⟨⟨hx, hc⟩, hi, hVz, cb, hcb, rfl⟩ hsz
    dsimp only at hx hc hcb
    subst hc
    have hyb := hi.2.1
    have HX := hid hx
    generalize (s.cel x).fv = fv
    cases hp : (s.cel x).modi
    · rw [hp] at hcb
      have HI := hid hi
      clear hi hx
      gi_wp2
      rename_i aK _ _ _ _
      refine ⟨fun _ f => (by cases f), aK _ _ ?_⟩
      gi_wp2
      obtain ⟨h1, h2, h3, h4, h5, h6, h7⟩ := HI.out
      exact ⟨S, Touch.refl _ _ _, by rw [md_not s HX.out hp]; exact h1, h2, h3, h4, h5, h6, h7⟩
    · obtain ⟨q1, q2, q3⟩ := md_at s hx hp
      rw [hp] at hcb
      obtain ⟨f1, t1, a1, b1, hy, hr⟩ := HY.out _ x S V q1 q2 hi.1 hVz
      have HRR := hid (fun l' m => roundIn_wide (l' := l') (m := m) hr)
      have HI := hid hi
      clear hi hr hx
      gi_wp2
      refine ⟨fun _ => (by omega), (HRR.out _ _).mono ?_⟩
      obtain ⟨h1, h2, h3, h4, h5, h6, h7⟩ := HI.out
      have l2 := World.block_lt_of_cell? V _ h2
      have l4 := World.block_lt_of_cell? V _ h4
      rintro e W1 ⟨S', ht, ⟨rfl, hj⟩ | ⟨rfl, hj⟩⟩
      · have HJ := hid (show IMd I s W.heap.size W.heap.size bs b l (k + 1) S' W1 from ⟨by rw [q3]; exact hj, cell_touch ht h6 h3 h2, notin_touch ht h3 l2, cell_touch ht h7 h5 h4, notin_touch ht h5 l4, h6, h7⟩)
        have HT := hid (ht.mono hz1)
        clear hj ht h1 h2 h3 h4 h5
        gi_wp2
        exact ⟨S', HT.out, HJ.out⟩
      · have HJ := hid (show IxAt Ix (mdS s s.A).length .ret (k + 1) S' W1 from ⟨rfl, (mdS s (s.A.take k)).length, q1, hj⟩)
        have HT := hid (ht.mono hz1)
        clear hj ht h1 h2 h3 h4 h5
        gi_wp2
        exact ⟨S', HT.out, HJ.out⟩
  case done =>
    rintro D S V hD hi hK
    have HK := hid hK
    have HI := hid hi
    clear hi hK
    gi_wp2
    refine ⟨by simp, .inl ⟨_, _, rfl, run_takeDeferred HK.out, ?_⟩⟩
    have h1 := HI.out.1
    rw [List.take_length] at h1
    exact ⟨_, results_none rfl _ _ _, ⟨_, rfl⟩, .inl ⟨S, hI _ _ _ _ (Grow.put _ (by omega) HK.out rfl) h1⟩⟩
  case stop =>
    rintro D k c S V hD hk ⟨rfl, j, hj, hx⟩ hK
    have HK := hid hK
    have HX := hid hx
    clear hx hK
    gi_wp2
    refine ⟨by simp, .inl ⟨_, _, rfl, run_takeDeferred HK.out, ?_⟩⟩
    exact ⟨_, results_none rfl _ _ _, ⟨_, rfl⟩, .inr ⟨j, S, hj, hIx _ _ _ _ (Grow.put _ (by omega) HK.out rfl) HX.out⟩⟩
end Go.Proofs.Ytdaainifnbbhiaa
