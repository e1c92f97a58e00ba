/-
  The law's lists of attributes and of cells; is a space formatted?
-/
import Derived.Test.YtdaainifnbbhiaaYi
namespace Go.Proofs.Ytdaainifnbbhiaa
open Go.RowKit Go.Lib Go.Shelf
attribute [local go_sem] Oper.semAt_some

set_option maxRecDepth 100000 in
set_option maxHeartbeats 1000000 in
/-- Attrs: the iterator's value. -/
theorem attrsIt_any (b : Nat) (w : World) : Calls Try.prog 73 #[.pointer (some ⟨b, 0, none⟩)] w fun e w' => ∃ bx, e = .returned (.func (.func 93) #[] #[.pointer (some ⟨bx, 0, none⟩)]) ∧ w.heap.size ≤ bx ∧ w'.cell? ⟨bx, 0, none⟩ = some (.pointer (some ⟨b, 0, none⟩)) ∧ Below w.heap.size w w' := by
  go_enter Try.func73, Try.ntmps73
  go_wp2
  go_ret
  exact ⟨w.heap.size, rfl, Nat.le_refl _, by simp [go_sem], (Below.refl _ _).al (Nat.le_refl _) _⟩
/-- Where a space's attributes stand. -/
def Spc.P (s : Spc) (i : Nat) : Bool := (s.cel i).at_
def Spc.A (s : Spc) : List Nat := attP s.P s.L.length
def Spc.iA (s : Spc) (k : Nat) : List Value := intsV ((s.A.take k).map Int.ofNat)
theorem iA_succ {s : Spc} {k x : Nat} (h : s.A[k]? = some x) : s.iA (k + 1) = s.iA k ++ [.int .i64 x] := by
  unfold Spc.iA
  rw [take_one _ _ _ h, List.map_append]
  unfold intsV
  rw [List.map_append]
  rfl
theorem iA_full {s : Spc} {k : Nat} (h : s.A.length ≤ k) : s.iA k = s.iA s.A.length := by
  unfold Spc.iA
  rw [List.take_of_length_le h, List.take_length]
theorem SpM.spP {w : World} {b g : Nat} {s : Spc} (h : SpM w b g s) : SpP b s.L.length s.P w := ⟨g, s, h, rfl, fun _ _ => rfl⟩
theorem attP_len (P : Nat → Bool) (N : Nat) : (attP P N).length ≤ N := by
  have := List.length_filter_le P (List.range N)
  simpa [attP] using this
theorem elA_is {b g N k : Nat} {s : Spc} {x : Nat × Cel} {V : World} (h : SpM V b g s) (hN : s.L.length = N) (he : elA b N k x V) (hk : k < N) : x = (k, s.cel k) := by
  obtain ⟨hx, g', s', hs', hl', hc⟩ := he
  have h1 := h.h2
  rw [hs'.h2] at h1
  have eg : g' = g := by
    injection h1 with h1
    injection h1 with h1
    injection h1 with h1
    injection h1 with h1
  subst eg
  obtain ⟨x1, x2⟩ := x
  dsimp only at hx hc
  rw [hx, ← hc, cel_same hs'.row h.row (by omega) (by omega) hs'.ok h.ok]
/-- What is collected while the world w0 lies as it lay. -/
def ICo (w0 : World) (m ob : Nat) (t : TypeId) (sz : Nat) (cs : Nat → List Value) (k : Nat) (S : List Nat) (V : World) : Prop := Acc m ob t sz (cs k) k S V ∧ Below w0.heap.size w0 V
theorem ICo.abides {w0 : World} {m ob : Nat} {t : TypeId} {sz : Nat} {cs : Nat → List Value} {k : Nat} {S : List Nat} (hm : w0.heap.size ≤ m) {A C : World} (hg : Grow m A C) (h : ICo w0 m ob t sz cs k S A) : ICo w0 m ob t sz cs k S C := ⟨h.1.grow hg, below_grow h.2 hg hm (Nat.le_refl _)⟩
def ICm (w0 : World) (m ob : Nat) (t : TypeId) (sz K : Nat) (cs : Nat → List Value) (k : Nat) (S : List Nat) (V : World) : Prop := k < K ∧ ICo w0 m ob t sz cs k S V
def IxCm (w0 : World) (m ob : Nat) (t : TypeId) (sz K : Nat) (cs : Nat → List Value) (c : Code) (k : Nat) (S : List Nat) (V : World) : Prop := c = .exit 0 ∧ k = K ∧ ICo w0 m ob t sz cs k S V
/-- A list was made. -/
def ListD (t : TypeId) (sz : Nat) (cs : List Value) (n : Nat) (w : World) (e : Ending) (w' : World) : Prop := ∃ v, e = .returned v ∧ w'.ownsRow 0 t sz v n cs ∧ (∀ k ∈ blkV v, w.heap.size ≤ k) ∧ Below w.heap.size w w'
set_option maxRecDepth 100000 in
set_option maxHeartbeats 4000000 in
theorem attrs_in (n : Nat) (hn : 6 ≤ n) (b g K : Nat) (s : Spc) (hK1 : 1 ≤ K) (w : World) (h : SpM w b g s) :
    CallsIn Fence.wide n Try.prog 34 #[.pointer (some ⟨b, 0, none⟩), .int .i64 K] w (ListD 3 1 (s.iA K) (min K s.A.length) w) := by
  obtain ⟨i0, hi, hz0, hz1, hz2⟩ := info_parts infoI
  have hN := h.ok.pos.2
  have hA : s.A.length ≤ 3564 := Nat.le_trans (attP_len _ _) hN
  have HH := hid h
  clear h
  refine callsIn_of_wp_marks Try.func34 rfl trivial ?_ rfl
  simp only [Try.ntmps34, List.size_toArray, List.length_cons, List.length_nil, Nat.reduceAdd, Nat.reduceSub, Array.replicate_succ, Array.replicate_zero, List.push_toArray, List.append_toArray, List.nil_append, List.cons_append]
  gi_wp2
  refine ⟨trivial, fun _ => (by omega), ?_⟩
  refine (callsIn_wide.2 (attrsIt_any b _)).mono ?_
  obtain ⟨w0, hw0⟩ : ∃ w0, w.alloc (.cells #[.int .i64 K] 3) = w0 := ⟨_, rfl⟩
  have hz : w0.heap.size = w.heap.size + 1 := by rw [← hw0]; simp
  have hk0 : w0.cell? ⟨w.heap.size, 0, none⟩ = some (.int .i64 K) := by rw [← hw0]; simp [go_sem]
  have hb0 : Below w.heap.size w w0 := by rw [← hw0]; exact bal (Below.refl _ _) _
  rw [hw0]
  rintro e w1 ⟨bs, rfl, hbs, hcs, hb1⟩
  have o1 : w1.cell? ⟨w.heap.size + 1, 0, none⟩ = some (.slice none 0 0) := keepc hb1 (by rw [← hz]; simp [go_sem])
  have f1 : w1.frozen? ⟨w.heap.size + 1, 0, none⟩ = false := (hb1.frozen (p := ⟨w.heap.size + 1, 0, none⟩) (by simp; omega)).trans (by rw [← hz]; simp [go_sem])
  have hb2 : Below w0.heap.size w0 w1 := (bal (Below.refl _ w0) _).trans (hb1.mono (by simp))
  have hz1' : w.heap.size + 2 ≤ w1.heap.size := by have := hb1.size; simp at this; omega
  have hbs' : w.heap.size + 2 ≤ bs := by simp at hbs; omega
  have HI0 := hid (show ICm w0 w1.heap.size (w.heap.size + 1) 3 1 K s.iA 0 [] w1 from ⟨hK1, ⟨⟨.slice none 0 0, o1, f1, World.ownsRow_nil _ _ _ _, fun k hk => (by cases hk)⟩, by omega, fun k hk => (by cases hk)⟩, hb2⟩)
  have HBX := hid (show ∀ V, Below w0.heap.size w0 V → V.cell? ⟨w.heap.size, 0, none⟩ = some (.int .i64 K) from fun V hV => keepc hV hk0)
  have HSP := hid (show ∀ V, Below w0.heap.size w0 V → SpM V b g s from fun V hV => HH.out.below (below_t hb0 hV))
  have HB0 := hid hb0
  have HZ := hid hz
  have HCS := hid hcs
  have hlz : w0.heap.size ≤ w1.heap.size := by omega
  clear hb1 hb2 hk0 hb0 hcs o1 f1 hw0 hz
  gi_wp2
  refine rangeFunc_seq (n := n) (w := w1) rfl (by omega) (gf := 93) (lb := #[.pointer (some ⟨bs, 0, none⟩)]) rfl trivial (enters_of Try.func93 (by kernel_rfl) rfl)
    (encs := encI) (fun _ => rfl) (el := fun k x _ => s.A[k]? = some x) (N := s.A.length) (R := RP bs b s.L.length s.P)
    (fun k S V => V.cell? ⟨bs, 0, none⟩ = some (.pointer (some ⟨b, 0, none⟩)) ∧ bs ∉ S ∧ ICm w0 w1.heap.size (w.heap.size + 1) 3 1 K s.iA k S V)
    (IxCm w0 w1.heap.size (w.heap.size + 1) 3 1 K s.iA) ?hI ?hIx ?hR ⟨HCS.out, by simp, HI0.out⟩
    (fun k S x a V => s.A[k]? = some x ∧ V.cell? ⟨bs, 0, none⟩ = some (.pointer (some ⟨b, 0, none⟩)) ∧ bs ∉ S ∧ ICm w0 w1.heap.size (w.heap.size + 1) 3 1 K s.iA k S V ∧ a = { tmps := #[.pointer (some ⟨b, 0, none⟩), .int .i64 K, undef, .pointer (some ⟨w.heap.size, 0, none⟩), .slice none 0 0, .pointer (some ⟨w.heap.size + 1, 0, none⟩), .int .i64 x, .pointer (some ⟨b, 0, none⟩), .func (.func 93) #[] #[.pointer (some ⟨bs, 0, none⟩)], .int .i64 x, undef, undef, undef, undef, undef, undef, undef, undef, undef], defers := [] }) ?hAx ?assign ?body ?iter ?done ?stop
  case hI => exact fun k S A C hg ⟨h1, h2, h3, h4⟩ => ⟨cell_grow hg h1, h2, h3, h4.abides hlz hg⟩
  case hIx => exact fun c k S A C hg ⟨h1, h2, h3⟩ => ⟨h1, h2, h3.abides hlz hg⟩
  case hR => exact fun k S V h => ⟨h.1, (HSP.out V h.2.2.2.2).spP⟩
  case hAx => exact fun k S x a A C hg ⟨h0, h1, h2, ⟨h3, h4⟩, h5⟩ => ⟨h0, cell_grow hg h1, h2, ⟨h3, h4.abides hlz hg⟩, h5⟩
  case iter => exact fun o1 o2 _ _ => attrs_seq (n - 1) (by omega) bs b s.L.length s.P hN _
  case assign =>
    rintro l' k x S V KK hk hx1 hi hsz hK
    have HK := hid hK
    have HI := hid hi
    clear hK hi
    gi_wp2
    exact HK.out _ _ (Touch.refl _ _ _) ⟨hx1, HI.out.1, HI.out.2.1, HI.out.2.2, rfl⟩
  case body =>
    rintro l' k x S a' V hk ⟨hx1, hcs, hbS, ⟨hkK, hi'⟩, rfl⟩ hsz
    obtain ⟨v, hv, hf, hrow, hbl⟩ := hi'.1.ex
    have hlt := World.block_lt_of_cell? V _ hv
    have hmV : w1.heap.size ≤ V.heap.size := by omega
    have HI := hid hi'
    have HROW := hid hrow
    have HV := hid hv
    have HCS' := hid hcs
    clear hi' hrow hbl hcs
    by_cases hlast : k + 1 = K
    · have hkb : ((k : Int) + 1 == K) = true := by simp; omega
      have HL := hid hlast
      clear hlast
      gi_wp2_with (gi_at_builtin; refine wpListIn_append_blk _ rfl _ _ 56 rfl 3 i0 _ 1 8 Try.underlying56 hi hz0 hz1 hz2 rfl (by decide) v k (s.iA k) rfl (HROW.out.alloc _) ⟨V.heap.size, 0, none⟩ 1 1 [.int .i64 x] rfl rfl (one_new V _ _ _ rfl) (by simp [Value.oneCell']) (by unfold maxLen; omega) (by omega) ?_; intro v' W1 hown' hgrow hb'; obtain ⟨s1, s2, s3, s4, s5, s6, s7⟩ := HI.out.1.step HV.out hown' hgrow hb' hmV; obtain ⟨g', cap', rfl⟩ := row_any hown'; have S1 := hid s4; have S2 := hid s5; have S3 := hid (s6 w0.heap.size w0 (by have := HZ.out; omega) HI.out.2); have hkc : W1.cell? ⟨w.heap.size, 0, none⟩ = some (.int .i64 K) := (World.cell?_setCell_far W1 ⟨w.heap.size + 1, 0, none⟩ ⟨w.heap.size, 0, none⟩ _ (by simp)).symm.trans (HBX.out _ S3.out); have hkl := World.block_lt_of_cell? W1 _ hkc; have S7 := hid ((World.cell?_of_block (a := ⟨bs, 0, none⟩) (s7 bs (World.block_lt_of_cell? V _ HCS'.out) (by omega) hbS)).trans HCS'.out); clear hown' hgrow s4 s5 s6 s7 hb')
      refine ⟨_, S2.out, rfl, HL.out, ?_, S3.out⟩
      rw [iA_succ hx1]
      exact S1.out
    · have hkb : ((k : Int) + 1 == K) = false := by simp; omega
      gi_wp2_with (gi_at_builtin; refine wpListIn_append_blk _ rfl _ _ 56 rfl 3 i0 _ 1 8 Try.underlying56 hi hz0 hz1 hz2 rfl (by decide) v k (s.iA k) rfl (HROW.out.alloc _) ⟨V.heap.size, 0, none⟩ 1 1 [.int .i64 x] rfl rfl (one_new V _ _ _ rfl) (by simp [Value.oneCell']) (by unfold maxLen; omega) (by omega) ?_; intro v' W1 hown' hgrow hb'; obtain ⟨s1, s2, s3, s4, s5, s6, s7⟩ := HI.out.1.step HV.out hown' hgrow hb' hmV; obtain ⟨g', cap', rfl⟩ := row_any hown'; have S1 := hid s4; have S2 := hid s5; have S3 := hid (s6 w0.heap.size w0 (by have := HZ.out; omega) HI.out.2); have hkc : W1.cell? ⟨w.heap.size, 0, none⟩ = some (.int .i64 K) := (World.cell?_setCell_far W1 ⟨w.heap.size + 1, 0, none⟩ ⟨w.heap.size, 0, none⟩ _ (by simp)).symm.trans (HBX.out _ S3.out); have hkl := World.block_lt_of_cell? W1 _ hkc; have S7 := hid ((World.cell?_of_block (a := ⟨bs, 0, none⟩) (s7 bs (World.block_lt_of_cell? V _ HCS'.out) (by omega) hbS)).trans HCS'.out); clear hown' hgrow s4 s5 s6 s7 hb')
      refine ⟨_, S2.out, S7.out, notin_touch S2.out hbS (World.block_lt_of_cell? V _ HCS'.out), by omega, ?_, S3.out⟩
      rw [iA_succ hx1]
      exact S1.out
  case done =>
    rintro D S V hD ⟨hcs, hbS, hNK, hi'⟩ hK
    obtain ⟨v, hv, hf, hrow, hbl⟩ := hi'.1.ex
    have hlt := World.block_lt_of_cell? V _ hv
    obtain ⟨y, cap, rfl⟩ := row_any hrow
    have HK := hid hK
    have HI := hid hi'
    have HROW := hid hrow
    have HBL := hid hbl
    clear hK hi' hrow hbl
    gi_wp2
    refine ⟨by simp, .inl ⟨_, _, rfl, run_takeDeferred HK.out, ?_⟩⟩
    have hg := Grow.put (m := w1.heap.size) (.deferred none) hD HK.out rfl
    have e1 := iA_full (s := s) (k := K) (by omega)
    have e2 : min K s.A.length = s.A.length := by omega
    refine ⟨.slice y s.A.length cap, by simp [results, Try.f34, go_sem], .slice y s.A.length cap, rfl, ?_, fun k hk => ?_, HB0.out.trans ((below_grow HI.out.2 hg hlz (Nat.le_refl _)).mono HB0.out.size)⟩
    · have := own_grow HROW.out hg
      rw [e1, e2]
      exact this
    · have := HI.out.1.ms k (HBL.out k hk)
      omega
  case stop =>
    rintro D k c S V hD hk ⟨rfl, hkK, hi'⟩ hK
    obtain ⟨v, hv, hf, hrow, hbl⟩ := hi'.1.ex
    have hlt := World.block_lt_of_cell? V _ hv
    obtain ⟨y, cap, rfl⟩ := row_any hrow
    have HK := hid hK
    have HI := hid hi'
    have HROW := hid hrow
    have HBL := hid hbl
    have HL := hid hkK
    clear hK hi' hrow hbl hkK
    gi_wp2
    refine ⟨by simp, .inl ⟨_, _, rfl, run_takeDeferred HK.out, ?_⟩⟩
    have hg := Grow.put (m := w1.heap.size) (.deferred none) hD HK.out rfl
    have e1 : min K s.A.length = k + 1 := by have := HL.out; omega
    refine ⟨.slice y (k + 1) cap, by simp [results, Try.f34, go_sem], .slice y (k + 1) cap, rfl, ?_, fun k hk => ?_, HB0.out.trans ((below_grow HI.out.2 hg hlz (Nat.le_refl _)).mono HB0.out.size)⟩
    · have := own_grow HROW.out hg
      rw [e1, ← HL.out]
      exact this
    · have := HI.out.1.ms k (HBL.out k hk)
      omega
end Go.Proofs.Ytdaainifnbbhiaa
