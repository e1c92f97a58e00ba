/-
  As many tabs as one likes; which of them the cursor is on.
-/
import Derived.Test.YtpehhinpohmpiaaCi
namespace Go.Proofs.Ytpehhinpohmpiaa
open Go.RowKit Go.Lib Go.Deep

def iT (s : Spc) (k : Nat) : List Value := intsV (((tabL s).take k).map Int.ofNat)
theorem iT_succ {s : Spc} {k x : Nat} (h : (tabL s)[k]? = some x) : iT s (k + 1) = iT s k ++ [.int .i64 x] := by
  unfold iT
  rw [take_one _ _ _ h, List.map_append]
  unfold intsV
  rw [List.map_append]
  rfl
theorem iT_full {s : Spc} {k : Nat} (h : (tabL s).length ≤ k) : iT s k = iT s (tabL s).length := by
  unfold iT
  rw [List.take_of_length_le h, List.take_of_length_le (Nat.le_refl _)]
section
attribute [local go_sem] Oper.semAt_some
set_option maxRecDepth 100000 in
set_option maxHeartbeats 4000000 in
theorem ltabs_in (n : Nat) (hn : 6 ≤ n) (b g K : Nat) (s : Spc) (hK1 : 1 ≤ K) (w : World) (h : SpM w b g s) :
    CallsIn Fence.wide n Try.prog 52 #[.pointer (some ⟨b, 0, none⟩), .int .i64 K] w (ListD 3 1 (iT s K) (min K (tabL s).length) w) := by
  obtain ⟨i0, hi, hz0, hz1, hz2⟩ := info_parts infoI
  have hN := h.ok.pos.2
  have hA : (tabL s).length ≤ 3564 := Nat.le_trans (tabL_len s) hN
  have HH := hid h
  clear h
  refine callsIn_of_wp_marks Try.func52 rfl trivial ?_ rfl
  simp only [Try.ntmps52, List.size_toArray, List.length_cons, List.length_nil, Nat.reduceAdd, Nat.reduceSub, Array.replicate_succ, Array.replicate_zero, List.push_toArray, List.append_toArray, List.nil_append, List.cons_append]
  gi_wp2
  refine ⟨trivial, fun _ => (by omega), ?_⟩
  refine (callsIn_wide.2 (tabsIt (some ⟨b, 0, none⟩) _)).mono ?_
  obtain ⟨w0, hw0⟩ : ∃ w0, w.alloc (.cells #[.int .i64 K] 3) = w0 := ⟨_, rfl⟩
  have hz : w0.heap.size = w.heap.size + 1 := by rw [← hw0]; simp
  have hk0 : w0.cell? ⟨w.heap.size, 0, none⟩ = some (.int .i64 K) := by rw [← hw0]; simp [go_sem]
  have hb0 : Below w.heap.size w w0 := by rw [← hw0]; exact bal (Below.refl _ _) _
  rw [hw0]
  rintro e w1 ⟨bs, rfl, hbs, hcs, hb1⟩
  have o1 : w1.cell? ⟨w.heap.size + 1, 0, none⟩ = some (.slice none 0 0) := keepc hb1 (by rw [← hz]; simp [go_sem])
  have f1 : w1.frozen? ⟨w.heap.size + 1, 0, none⟩ = false := (hb1.frozen (p := ⟨w.heap.size + 1, 0, none⟩) (by simp; omega)).trans (by rw [← hz]; simp [go_sem])
  have hb2 : Below w0.heap.size w0 w1 := (bal (Below.refl _ w0) _).trans (hb1.mono (by simp))
  have hz1' : w.heap.size + 2 ≤ w1.heap.size := by have := hb1.size; simp at this; omega
  have hbs' : w.heap.size + 2 ≤ bs := by simp at hbs; omega
  have HI0 := hid (show ICm w0 w1.heap.size (w.heap.size + 1) 3 1 K (iT s) 0 [] w1 from ⟨hK1, ⟨⟨.slice none 0 0, o1, f1, World.ownsRow_nil _ _ _ _, fun k hk => (by cases hk)⟩, by omega, fun k hk => (by cases hk)⟩, hb2⟩)
  have HBX := hid (show ∀ V, Below w0.heap.size w0 V → V.cell? ⟨w.heap.size, 0, none⟩ = some (.int .i64 K) from fun V hV => keepc hV hk0)
  have HSP := hid (show ∀ V, Below w0.heap.size w0 V → SpM V b g s from fun V hV => HH.out.below (below_t hb0 hV))
  have HB0 := hid hb0
  have HZ := hid hz
  have HCS := hid hcs
  have hlz : w0.heap.size ≤ w1.heap.size := by omega
  clear hb1 hb2 hk0 hb0 hcs o1 f1 hw0 hz
  gi_wp2
  refine rangeFunc_seq (n := n) (w := w1) rfl (by omega) (gf := 105) (lb := #[.pointer (some ⟨bs, 0, none⟩)]) rfl trivial (enters_of Try.func105 (by kernel_rfl) rfl)
    (encs := encI) (fun _ => rfl) (el := fun k x _ => (tabL s)[k]? = some x) (N := (tabL s).length) (R := RTb bs b g s)
    (fun k S V => V.cell? ⟨bs, 0, none⟩ = some (.pointer (some ⟨b, 0, none⟩)) ∧ bs ∉ S ∧ ICm w0 w1.heap.size (w.heap.size + 1) 3 1 K (iT s) k S V)
    (IxCm w0 w1.heap.size (w.heap.size + 1) 3 1 K (iT s)) ?hI ?hIx ?hR ⟨HCS.out, by simp, HI0.out⟩
    (fun k S x a V => (tabL s)[k]? = some x ∧ V.cell? ⟨bs, 0, none⟩ = some (.pointer (some ⟨b, 0, none⟩)) ∧ bs ∉ S ∧ ICm w0 w1.heap.size (w.heap.size + 1) 3 1 K (iT s) k S V ∧ a = { tmps := #[.pointer (some ⟨b, 0, none⟩), .int .i64 K, undef, .pointer (some ⟨w.heap.size, 0, none⟩), .slice none 0 0, .pointer (some ⟨w.heap.size + 1, 0, none⟩), .int .i64 x, .pointer (some ⟨b, 0, none⟩), .func (.func 105) #[] #[.pointer (some ⟨bs, 0, none⟩)], .int .i64 x, undef, undef, undef, undef, undef, undef, undef, undef, undef], defers := [] }) ?hAx ?assign ?body ?iter ?done ?stop
  case hI => exact fun k S A C hg ⟨h1, h2, h3, h4⟩ => ⟨cell_grow hg h1, h2, h3, h4.abides hlz hg⟩
  case hIx => exact fun c k S A C hg ⟨h1, h2, h3⟩ => ⟨h1, h2, h3.abides hlz hg⟩
  case hR => exact fun k S V h => ⟨h.1, HSP.out V h.2.2.2.2⟩
  case hAx => exact fun k S x a A C hg ⟨h0, h1, h2, ⟨h3, h4⟩, h5⟩ => ⟨h0, cell_grow hg h1, h2, ⟨h3, h4.abides hlz hg⟩, h5⟩
  case iter => exact fun o1 o2 _ _ => tabs_seq (n - 1) (by omega) bs b g s _
  case assign =>
    rintro l' k x S V KK hk hx1 hi hsz hK
    have HK := hid hK
    have HI := hid hi
    clear hK hi
    gi_wp2
    exact HK.out _ _ (Touch.refl _ _ _) ⟨hx1, HI.out.1, HI.out.2.1, HI.out.2.2, rfl⟩
  case body =>
    rintro l' k x S a' V hk ⟨hx1, hcs, hbS, ⟨hkK, hi'⟩, rfl⟩ hsz
    obtain ⟨v, hv, hf, hrow, hbl⟩ := hi'.1.ex
    have hlt := World.block_lt_of_cell? V _ hv
    have hmV : w1.heap.size ≤ V.heap.size := by omega
    have HI := hid hi'
    have HROW := hid hrow
    have HV := hid hv
    have HCS' := hid hcs
    clear hi' hrow hbl hcs
    by_cases hlast : k + 1 = K
    · have hkb : ((k : Int) + 1 == K) = true := by simp; omega
      have HL := hid hlast
      clear hlast
      gi_wp2_with (gi_at_builtin; refine wpListIn_append_blk _ rfl _ _ 37 rfl 3 i0 _ 1 8 Try.underlying37 hi hz0 hz1 hz2 rfl (by decide) v k (iT s k) rfl (HROW.out.alloc _) ⟨V.heap.size, 0, none⟩ 1 1 [.int .i64 x] rfl rfl (one_new V _ _ _ rfl) (by simp [Value.oneCell']) (by unfold maxLen; omega) (by omega) ?_; intro v' W1 hown' hgrow hb'; obtain ⟨s1, s2, s3, s4, s5, s6, s7⟩ := HI.out.1.step HV.out hown' hgrow hb' hmV; obtain ⟨g', cap', rfl⟩ := row_any hown'; have S1 := hid s4; have S2 := hid s5; have S3 := hid (s6 w0.heap.size w0 (by have := HZ.out; omega) HI.out.2); have hkc : W1.cell? ⟨w.heap.size, 0, none⟩ = some (.int .i64 K) := (World.cell?_setCell_far W1 ⟨w.heap.size + 1, 0, none⟩ ⟨w.heap.size, 0, none⟩ _ (by simp)).symm.trans (HBX.out _ S3.out); have hkl := World.block_lt_of_cell? W1 _ hkc; have S7 := hid ((World.cell?_of_block (a := ⟨bs, 0, none⟩) (s7 bs (World.block_lt_of_cell? V _ HCS'.out) (by omega) hbS)).trans HCS'.out); clear hown' hgrow s4 s5 s6 s7 hb')
      refine ⟨_, S2.out, rfl, HL.out, ?_, S3.out⟩
      rw [iT_succ hx1]
      exact S1.out
    · have hkb : ((k : Int) + 1 == K) = false := by simp; omega
      gi_wp2_with (gi_at_builtin; refine wpListIn_append_blk _ rfl _ _ 37 rfl 3 i0 _ 1 8 Try.underlying37 hi hz0 hz1 hz2 rfl (by decide) v k (iT s k) rfl (HROW.out.alloc _) ⟨V.heap.size, 0, none⟩ 1 1 [.int .i64 x] rfl rfl (one_new V _ _ _ rfl) (by simp [Value.oneCell']) (by unfold maxLen; omega) (by omega) ?_; intro v' W1 hown' hgrow hb'; obtain ⟨s1, s2, s3, s4, s5, s6, s7⟩ := HI.out.1.step HV.out hown' hgrow hb' hmV; obtain ⟨g', cap', rfl⟩ := row_any hown'; have S1 := hid s4; have S2 := hid s5; have S3 := hid (s6 w0.heap.size w0 (by have := HZ.out; omega) HI.out.2); have hkc : W1.cell? ⟨w.heap.size, 0, none⟩ = some (.int .i64 K) := (World.cell?_setCell_far W1 ⟨w.heap.size + 1, 0, none⟩ ⟨w.heap.size, 0, none⟩ _ (by simp)).symm.trans (HBX.out _ S3.out); have hkl := World.block_lt_of_cell? W1 _ hkc; have S7 := hid ((World.cell?_of_block (a := ⟨bs, 0, none⟩) (s7 bs (World.block_lt_of_cell? V _ HCS'.out) (by omega) hbS)).trans HCS'.out); clear hown' hgrow s4 s5 s6 s7 hb')
      refine ⟨_, S2.out, S7.out, notin_touch S2.out hbS (World.block_lt_of_cell? V _ HCS'.out), by omega, ?_, S3.out⟩
      rw [iT_succ hx1]
      exact S1.out
  case done =>
    rintro D S V hD ⟨hcs, hbS, hNK, hi'⟩ hK
    obtain ⟨v, hv, hf, hrow, hbl⟩ := hi'.1.ex
    have hlt := World.block_lt_of_cell? V _ hv
    obtain ⟨y, cap, rfl⟩ := row_any hrow
    have HK := hid hK
    have HI := hid hi'
    have HROW := hid hrow
    have HBL := hid hbl
    clear hK hi' hrow hbl
    gi_wp2
    refine ⟨by simp, .inl ⟨_, _, rfl, run_takeDeferred HK.out, ?_⟩⟩
    have hg := Grow.put (m := w1.heap.size) (.deferred none) hD HK.out rfl
    have e1 := iT_full (s := s) (k := K) (by omega)
    have e2 : min K (tabL s).length = (tabL s).length := by omega
    refine ⟨.slice y (tabL s).length cap, by simp [results, Try.f52, go_sem], .slice y (tabL s).length cap, rfl, ?_, fun k hk => ?_, HB0.out.trans ((below_grow HI.out.2 hg hlz (Nat.le_refl _)).mono HB0.out.size)⟩
    · have := own_grow HROW.out hg
      rw [e1, e2]
      exact this
    · have := HI.out.1.ms k (HBL.out k hk)
      omega
  case stop =>
    rintro D k c S V hD hk ⟨rfl, hkK, hi'⟩ hK
    obtain ⟨v, hv, hf, hrow, hbl⟩ := hi'.1.ex
    have hlt := World.block_lt_of_cell? V _ hv
    obtain ⟨y, cap, rfl⟩ := row_any hrow
    have HK := hid hK
    have HI := hid hi'
    have HROW := hid hrow
    have HBL := hid hbl
    have HL := hid hkK
    clear hK hi' hrow hbl hkK
    gi_wp2
    refine ⟨by simp, .inl ⟨_, _, rfl, run_takeDeferred HK.out, ?_⟩⟩
    have hg := Grow.put (m := w1.heap.size) (.deferred none) hD HK.out rfl
    have e1 : min K (tabL s).length = k + 1 := by have := HL.out; omega
    refine ⟨.slice y (k + 1) cap, by simp [results, Try.f52, go_sem], .slice y (k + 1) cap, rfl, ?_, fun k hk => ?_, HB0.out.trans ((below_grow HI.out.2 hg hlz (Nat.le_refl _)).mono HB0.out.size)⟩
    · have := own_grow HROW.out hg
      rw [e1, ← HL.out]
      exact this
    · have := HI.out.1.ms k (HBL.out k hk)
      omega
end
/-- The first that is it, or -1. -/
def idxF : List Nat → Int → Nat → Int
  | [], _, _ => -1
  | x :: l, v, k => if (x : Int) = v then (k : Int) else idxF l v (k + 1)
def idxZ (l : List Nat) (v : Int) : Int := idxF l v 0
theorem idxF_found {v : Int} : ∀ (l : List Nat) (k0 k x : Nat), l[k]? = some x → (x : Int) = v → (∀ j y, j < k → l[j]? = some y → (y : Int) ≠ v) → idxF l v k0 = ((k0 + k : Nat) : Int)
  | [], _, _, _, h, _, _ => by simp at h
  | y :: l, k0, 0, x, h, e, _ => by
    simp at h
    subst h
    unfold idxF
    rw [if_pos e]
    rfl
  | y :: l, k0, k + 1, x, h, e, hn => by
    have h0 := hn 0 y (by omega) rfl
    unfold idxF
    rw [if_neg h0, idxF_found l (k0 + 1) k x (by simpa using h) e (fun j z hj hz => hn (j + 1) z (by omega) (by simpa using hz))]
    congr 1
    omega
theorem idxF_none {v : Int} : ∀ (l : List Nat) (k0 : Nat), (∀ (j y : Nat), l[j]? = some y → (y : Int) ≠ v) → idxF l v k0 = -1
  | [], _, _ => rfl
  | y :: l, k0, hn => by
    have h0 := hn 0 y rfl
    unfold idxF
    rw [if_neg h0]
    exact idxF_none l (k0 + 1) (fun j z hz => hn (j + 1) z (by simpa using hz))
def NoF (l : List Nat) (v : Int) (k : Nat) : Prop := ∀ j y, j < k → l[j]? = some y → (y : Int) ≠ v
theorem NoF.more {l : List Nat} {v : Int} {k x : Nat} (h : NoF l v k) (hx : l[k]? = some x) (hn : ¬ (x : Int) = v) : NoF l v (k + 1) := fun j y hj hy => by
  by_cases e : j = k
  · subst e
    rw [hx] at hy
    injection hy with hy
    subst hy
    exact hn
  · exact h j y (by omega) hy
theorem NoF.found {l : List Nat} {v : Int} {k x : Nat} (h : NoF l v k) (hx : l[k]? = some x) (he : (x : Int) = v) : idxZ l v = (k : Int) := by
  have := idxF_found l 0 k x hx he h
  rwa [Nat.zero_add] at this
theorem NoF.none {l : List Nat} {v : Int} {k : Nat} (h : NoF l v k) (hk : l.length ≤ k) : idxZ l v = -1 := idxF_none l 0 (fun j y hy => h j y (by have := (List.getElem?_eq_some_iff.1 hy).1; omega) hy)
/-- What Index holds between two rounds. -/
structure IxJ (w : World) (o : Option Addr) (k : Nat) (V : World) : Prop where
  c0 : V.cell? ⟨w.heap.size, 0, Option.none⟩ = some (.pointer o)
  c1 : V.cell? ⟨w.heap.size + 1, 0, Option.none⟩ = some (.int .i64 0)
  f1 : V.frozen? ⟨w.heap.size + 1, 0, Option.none⟩ = false
  c2 : V.cell? ⟨w.heap.size + 2, 0, Option.none⟩ = some (.int .i64 k)
  f2 : V.frozen? ⟨w.heap.size + 2, 0, Option.none⟩ = false
  bel : Below w.heap.size w V
theorem IxJ.grow {w A C : World} {o : Option Addr} {k m : Nat} (h : IxJ w o k A) (hg : Grow m A C) (hm : w.heap.size ≤ m) : IxJ w o k C := ⟨cell_grow hg h.c0, cell_grow hg h.c1, frozen_grow hg h.c1 h.f1, cell_grow hg h.c2, frozen_grow hg h.c2 h.f2, below_grow h.bel hg hm (Nat.le_refl _)⟩
theorem IxJ.lt {w V : World} {o : Option Addr} {k : Nat} (h : IxJ w o k V) : w.heap.size + 2 < V.heap.size := World.block_lt_of_cell? V _ h.c2
theorem IxJ.below {w A C : World} {o : Option Addr} {k : Nat} (h : IxJ w o k A) (hb : Below A.heap.size A C) : IxJ w o k C := h.grow (Grow.below hb w.heap.size) (Nat.le_refl _)
theorem IxJ.start (w : World) (o : Option Addr) (t u : TypeId) : IxJ w o 0 (((w.alloc (.cells #[.pointer o] t)).alloc (.cells #[.int .i64 0] u)).alloc (.cells #[.int .i64 0] u)) := by
  obtain ⟨a0, ha0⟩ : ∃ a0, w.alloc (.cells #[.pointer o] t) = a0 := ⟨_, rfl⟩
  have hz0 : a0.heap.size = w.heap.size + 1 := by rw [← ha0]; simp
  have hb0 : Below w.heap.size w a0 := by rw [← ha0]; exact bal (Below.refl _ _) _
  have k0 : a0.cell? ⟨w.heap.size, 0, Option.none⟩ = some (.pointer o) := by rw [← ha0]; simp [go_sem]
  obtain ⟨a1, ha1⟩ : ∃ a1, a0.alloc (.cells #[.int .i64 0] u) = a1 := ⟨_, rfl⟩
  have hz1 : a1.heap.size = a0.heap.size + 1 := by rw [← ha1]; simp
  have hb1 : Below a0.heap.size a0 a1 := by rw [← ha1]; exact bal (Below.refl _ _) _
  have k1 : a1.cell? ⟨w.heap.size + 1, 0, Option.none⟩ = some (.int .i64 0) := by rw [← ha1, ← hz0]; simp [go_sem]
  have g1 : a1.frozen? ⟨w.heap.size + 1, 0, Option.none⟩ = false := by rw [← ha1, ← hz0]; simp [go_sem]
  obtain ⟨a2, ha2⟩ : ∃ a2, a1.alloc (.cells #[.int .i64 0] u) = a2 := ⟨_, rfl⟩
  have hb2 : Below a1.heap.size a1 a2 := by rw [← ha2]; exact bal (Below.refl _ _) _
  have e2 : w.heap.size + 2 = a1.heap.size := by omega
  have k2 : a2.cell? ⟨w.heap.size + 2, 0, Option.none⟩ = some (.int .i64 0) := by rw [← ha2, e2]; simp [go_sem]
  have g2 : a2.frozen? ⟨w.heap.size + 2, 0, Option.none⟩ = false := by rw [← ha2, e2]; simp [go_sem]
  rw [ha0, ha1, ha2]
  have hb12 := below_t hb1 hb2
  exact ⟨keepc hb2 (keepc hb1 k0), keepc hb2 k1, (hb2.frozen (p := ⟨w.heap.size + 1, 0, Option.none⟩) (by show w.heap.size + 1 < a1.heap.size; omega)).trans g1, k2, g2, below_t hb0 hb12⟩
section
attribute [local go_sem] Oper.semAt_some
set_option maxRecDepth 100000 in
set_option maxHeartbeats 4000000 in
theorem index_in (n : Nat) (hn : 6 ≤ n) (b g : Nat) (s : Spc) (w : World) (h : SpM w b g s) :
    CallsIn Fence.wide n Try.prog 49 #[.pointer (some ⟨b, 0, none⟩)] w fun e w' => e = .returned (.int .i64 (idxZ (tabL s) s.cu)) ∧ Below w.heap.size w w' := by
  have hN := h.ok.pos.2
  have hTL : (tabL s).length ≤ 4000 := by have := tabL_len s; omega
  have HSP := hid (show ∀ V, Below w.heap.size w V → SpM V b g s from fun V hV => h.below hV)
  have HSQ := hid (fun bx V => tabs_seq (n - 1) (by omega) bx b g s V)
  have HCU := hid (fun W h => cursor_any (b := b) (g := g) (s := s) W h)
  generalize tabL s = tl at HSQ hTL ⊢
  generalize s.cu = cu at HCU ⊢
  clear h hN
  refine callsIn_of_wp_marks Try.func49 rfl trivial ?_ rfl
  simp only [Try.ntmps49, List.size_toArray, List.length_cons, List.length_nil, Nat.reduceAdd, Nat.reduceSub, Array.replicate_succ, Array.replicate_zero, List.push_toArray, List.append_toArray, List.nil_append, List.cons_append]
  gi_wp2
  have HS := IxJ.start w (some ⟨b, 0, none⟩) 25 3
  generalize hW0 : (((w.alloc (.cells #[.pointer (some ⟨b, 0, none⟩)] 25)).alloc (.cells #[.int .i64 0] 3)).alloc (.cells #[.int .i64 0] 3)) = W0 at HS
  have HS0 := hid HS
  have HW0 := hid hW0
  try simp only [hW0]
  clear HS hW0
  refine ⟨trivial, fun _ => (by omega), ?_⟩
  refine (callsIn_wide.2 (tabsIt (some ⟨b, 0, none⟩) _)).mono ?_
  rintro e w1 ⟨bs, rfl, hbs, hcs, hb1⟩
  have HJ1 := hid (HS0.out.below hb1)
  have hz1' : w.heap.size + 3 ≤ w1.heap.size := HJ1.out.lt
  have hbs' : w.heap.size + 3 ≤ bs := by have := HS0.out.lt; omega
  have HCS := hid hcs
  have hlz : w.heap.size ≤ w1.heap.size := by omega
  clear hb1 hcs HS0
  gi_wp2
  refine rangeFunc_seq (n := n) (w := w1) rfl (by omega) (gf := 105) (lb := #[.pointer (some ⟨bs, 0, none⟩)]) rfl trivial (enters_of Try.func105 (by kernel_rfl) rfl)
    (encs := encI) (fun _ => rfl) (el := fun k x _ => tl[k]? = some x) (N := tl.length) (R := RTb bs b g s)
    (fun k _ V => V.cell? ⟨bs, 0, none⟩ = some (.pointer (some ⟨b, 0, none⟩)) ∧ IxJ w (some ⟨b, 0, none⟩) k V ∧ NoF tl cu k)
    (fun c k _ V => c = .ret ∧ ∃ j : Nat, k = j + 1 ∧ V.cell? ⟨w.heap.size + 1, 0, none⟩ = some (.int .i64 j) ∧ Below w.heap.size w V ∧ idxZ tl cu = j) ?hI ?hIx ?hR ⟨HCS.out, HJ1.out, fun j y hj _ => absurd hj (Nat.not_lt_zero j)⟩
    (fun k _ x a V => tl[k]? = some x ∧ V.cell? ⟨bs, 0, none⟩ = some (.pointer (some ⟨b, 0, none⟩)) ∧ IxJ w (some ⟨b, 0, none⟩) k V ∧ NoF tl cu k ∧ a = { tmps := #[.pointer (some ⟨b, 0, none⟩), .pointer (some ⟨w.heap.size, 0, none⟩), .pointer (some ⟨w.heap.size + 1, 0, none⟩), .pointer (some ⟨w.heap.size + 2, 0, none⟩), .int .i64 x, .pointer (some ⟨b, 0, none⟩), .func (.func 105) #[] #[.pointer (some ⟨bs, 0, none⟩)], .int .i64 x, undef, undef, undef, undef, undef, undef, undef], defers := [] }) ?hAx ?assign ?body ?iter ?done ?stop
  case hI => exact fun k S A C hg ⟨h1, h2, h3⟩ => ⟨cell_grow hg h1, h2.grow hg hlz, h3⟩
  case hIx => exact fun c k S A C hg ⟨h1, j, h2, h3, h4, h5⟩ => ⟨h1, j, h2, cell_grow hg h3, below_grow h4 hg hlz (Nat.le_refl _), h5⟩
  case hR => exact fun k S V h => ⟨h.1, HSP.out V h.2.1.bel⟩
  case hAx => exact fun k S x a A C hg ⟨h0, h1, h2, h3, h4⟩ => ⟨h0, cell_grow hg h1, h2.grow hg hlz, h3, h4⟩
  case iter => exact fun o1 o2 _ _ => HSQ.out bs _
  case assign =>
    rintro l' k x S V KK hk hx1 hi hsz hK
    have HK := hid hK
    have HI := hid hi
    clear hK hi
    gi_wp2
    exact HK.out _ _ (Touch.refl _ _ _) ⟨hx1, HI.out.1, HI.out.2.1, HI.out.2.2, by simp⟩
  case body =>
    rintro l' k x S a' V hk ⟨hx1, hcs, hj, hnf, rfl⟩ hsz
    have h0 := hj.c0
    have hlt := World.block_lt_of_cell? V _ h0
    have HX := hid hx1
    have HC := hid hcs
    have HJ := hid hj
    have HNF := hid hnf
    have hkb : k < 4000 := by omega
    clear hcs hj hnf hx1
    gi_wp2
    refine ⟨trivial, fun _ => (by omega), ?_⟩
    refine (callsIn_wide.2 (HCU.out _ (HSP.out V HJ.out.bel))).mono ?_
    rintro e w2 ⟨rfl, hb2⟩
    have HJ2 := hid (HJ.out.below hb2)
    have HC2 := hid (keepc hb2 HC.out)
    have HT := hid (Touch.below hb2 w1.heap.size S)
    have c1 := HJ2.out.c1
    have f1 := HJ2.out.f1
    have c2 := HJ2.out.c2
    have f2 := HJ2.out.f2
    have hl2 := HJ2.out.lt
    clear hb2 h0 hlt
    by_cases he : (x : Int) = cu
    · have hbe : ((x : Int) == cu) = true := by simp [he]
      have HE := hid he
      clear he
      gi_wp2
      refine ⟨S, HT.out.trans (Touch.set w2 ⟨w.heap.size + 1, 0, none⟩ _ (.inl (by simp; omega))), rfl, k, rfl, sc_same HJ2.out.c1, HJ2.out.bel.sc _ _ _ (by omega), HNF.out.found HX.out HE.out⟩
    · have hbe : ((x : Int) == cu) = false := by simp [he]
      have HE := hid he
      have hw : IntKind.i64.wrap ((k : Int) + 1) = (k : Int) + 1 := wrapI (i64_small (by omega) (by omega))
      clear he
      gi_wp2
      have e0 : ∀ i, i ≠ w.heap.size + 2 → ∀ u, (w2.setCell ⟨w.heap.size + 2, 0, none⟩ u).cell? ⟨i, 0, none⟩ = w2.cell? ⟨i, 0, none⟩ := fun i hi u => World.cell?_setCell_far w2 ⟨w.heap.size + 2, 0, none⟩ ⟨i, 0, none⟩ _ (by simp; omega)
      refine ⟨S, HT.out.trans (Touch.set w2 ⟨w.heap.size + 2, 0, none⟩ _ (.inl (by simp; omega))), (e0 bs (by omega) _).trans HC2.out, ⟨(e0 _ (by omega) _).trans HJ2.out.c0, (e0 _ (by omega) _).trans HJ2.out.c1, by simp [HJ2.out.f1], (sc_same HJ2.out.c2).trans (by push_cast; rfl), by simp [HJ2.out.f2], HJ2.out.bel.sc _ _ _ (by omega)⟩, HNF.out.more HX.out HE.out⟩
  case done =>
    rintro D S V hD ⟨_, hj, hnf⟩ hK
    have c1 := hj.c1
    have f1 := hj.f1
    have hl := hj.lt
    have HK := hid hK
    have HJ := hid hj
    have HNF := hid hnf
    clear hK hj hnf
    gi_wp2
    have e1 : (V.setCell ⟨w.heap.size + 1, 0, none⟩ (.int .i64 (-1))).heap[D]? = V.heap[D]? := Go.heap_setCell_other V _ D _ (by simp; omega)
    refine ⟨by simp, .inl ⟨_, _, rfl, run_takeDeferred (e1.trans HK.out), ?_⟩⟩
    have hg := Grow.put (m := w1.heap.size) (.deferred none) hD (e1.trans HK.out) rfl
    have e2 := cell_grow hg (sc_same (v := .int .i64 (-1)) HJ.out.c1)
    exact ⟨.int .i64 (-1), by simp [results, Try.f49, go_sem, e2], by rw [HNF.out.none (Nat.le_refl _)], below_grow (HJ.out.bel.sc _ _ _ (by omega)) hg hlz (Nat.le_refl _)⟩
  case stop =>
    rintro D k c S V hD hk ⟨rfl, j, hj, c1, hb, hx⟩ hK
    have hlt := World.block_lt_of_cell? V _ c1
    have HK := hid hK
    have HB := hid hb
    have HX := hid hx
    have HC1 := hid c1
    clear hK hb hx
    gi_wp2
    refine ⟨by simp, .inl ⟨_, _, rfl, run_takeDeferred HK.out, ?_⟩⟩
    have hg := Grow.put (m := w1.heap.size) (.deferred none) hD HK.out rfl
    have e2 := cell_grow hg HC1.out
    exact ⟨.int .i64 j, by simp [results, Try.f49, go_sem, e2], by rw [HX.out], below_grow HB.out hg hlz (Nat.le_refl _)⟩
set_option maxRecDepth 100000 in
set_option maxHeartbeats 4000000 in
theorem index_nil (n : Nat) (hn : 6 ≤ n) (w : World) :
    CallsIn Fence.wide n Try.prog 49 #[.pointer none] w fun e w' => e = .returned (.int .i64 (-1)) ∧ Below w.heap.size w w' := by
  refine callsIn_of_wp_marks Try.func49 rfl trivial ?_ rfl
  simp only [Try.ntmps49, List.size_toArray, List.length_cons, List.length_nil, Nat.reduceAdd, Nat.reduceSub, Array.replicate_succ, Array.replicate_zero, List.push_toArray, List.append_toArray, List.nil_append, List.cons_append]
  gi_wp2
  have HS := IxJ.start w none 25 3
  generalize hW0 : (((w.alloc (.cells #[.pointer none] 25)).alloc (.cells #[.int .i64 0] 3)).alloc (.cells #[.int .i64 0] 3)) = W0 at HS
  have HS0 := hid HS
  have HW0 := hid hW0
  try simp only [hW0]
  clear HS hW0
  refine ⟨trivial, fun _ => (by omega), ?_⟩
  refine (callsIn_wide.2 (tabsIt none _)).mono ?_
  rintro e w1 ⟨bs, rfl, hbs, hcs, hb1⟩
  have HJ1 := hid (HS0.out.below hb1)
  have hz1' : w.heap.size + 3 ≤ w1.heap.size := HJ1.out.lt
  have hlz : w.heap.size ≤ w1.heap.size := by omega
  have HRR := hid (show RN bs w1 from hcs)
  clear hb1 hcs HS0
  gi_wp2
  refine rangeFunc_none (n := n) (w := w1) rfl (by omega) (gf := 105) (lb := #[.pointer (some ⟨bs, 0, none⟩)]) rfl trivial (enters_of Try.func105 (by kernel_rfl) rfl)
    (encs := encI) (fun _ => rfl) (R := RN bs) (fun V => RN bs V ∧ IxJ w none 0 V) (fun A C hg h => ⟨cell_grow hg h.1, h.2.grow hg hlz⟩) (fun V h => h.1) ⟨HRR.out, HJ1.out⟩ (fun V => tabs_nil_seq (n - 1) (by omega) bs V) ?done
  case done =>
    rintro D V hD hi hK
    have hj := hi.2
    have c1 := hj.c1
    have f1 := hj.f1
    have hl := hj.lt
    have HK := hid hK
    have HJ := hid hj
    clear hK hj hi
    gi_wp2
    have e1 : (V.setCell ⟨w.heap.size + 1, 0, none⟩ (.int .i64 (-1))).heap[D]? = V.heap[D]? := Go.heap_setCell_other V _ D _ (by simp; omega)
    refine ⟨by simp, .inl ⟨_, _, rfl, run_takeDeferred (e1.trans HK.out), ?_⟩⟩
    have hg := Grow.put (m := w1.heap.size) (.deferred none) hD (e1.trans HK.out) rfl
    have e2 := cell_grow hg (sc_same (v := .int .i64 (-1)) HJ.out.c1)
    exact ⟨.int .i64 (-1), by simp [results, Try.f49, go_sem, e2], rfl, below_grow (HJ.out.bel.sc _ _ _ (by omega)) hg hlz (Nat.le_refl _)⟩
end
end Go.Proofs.Ytpehhinpohmpiaa
