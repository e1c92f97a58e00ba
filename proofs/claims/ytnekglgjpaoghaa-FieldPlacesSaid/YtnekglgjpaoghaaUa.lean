/-
  The law's places.
-/
import Derived.Test.YtnekglgjpaoghaaEb
namespace Go.Proofs.Ytnekglgjpaoghaa
open Go.RowKit Go.Lib Go.Deep

def iPL (pl : List Nat) (k : Nat) : List Value := intsV ((pl.take k).map Int.ofNat)
theorem iPL_succ {pl : List Nat} {k x : Nat} (h : pl[k]? = some x) : iPL pl (k + 1) = iPL pl k ++ [.int .i64 x] := by
  unfold iPL
  rw [take_one _ _ _ h, List.map_append]
  unfold intsV
  rw [List.map_append]
  rfl
theorem iPL_full {pl : List Nat} {k : Nat} (h : pl.length ≤ k) : iPL pl k = iPL pl pl.length := by
  unfold iPL
  rw [List.take_of_length_le h, List.take_of_length_le (Nat.le_refl _)]
section
attribute [local go_sem] Oper.semAt_some
set_option maxRecDepth 100000 in
set_option maxHeartbeats 4000000 in
theorem lplaces_in (n : Nat) (hn : 6 ≤ n) (b g K : Nat) (s : Spc) (n0 : Int) (hn0 : I64 n0) (hK1 : 1 ≤ K) (w : World) (h : SpM w b g s) :
    CallsIn Fence.wide n Try.prog 18 #[.pointer (some ⟨b, 0, none⟩), .int .i64 n0, .int .i64 K] w (ListD 3 1 (iPL (plL s.P s.L.length (s.wr n0)) K) (min K (plL s.P s.L.length (s.wr n0)).length) w) := by
  obtain ⟨i0, hi, hz0, hz1, hz2⟩ := info_parts infoI
  have hN := h.ok.pos.2
  have hA : (plL s.P s.L.length (s.wr n0)).length ≤ 3564 := Nat.le_trans (plL_len _ _ _) hN
  have HH := hid h
  have HSQ := hid (fun bx by_ V => (show SeqF Fence.wide (n - 1) Try.prog 32 #[.pointer (some ⟨bx, 0, none⟩), .pointer (some ⟨by_, 0, none⟩)] encI (fun k x _ => (plL s.P s.L.length (s.wr n0))[k]? = some x) (plL s.P s.L.length (s.wr n0)).length (RPl bx by_ b s.L.length n0 s.P) V from places_seq (n - 1) (by omega) bx by_ b s.L.length n0 hn0 s.P V))
  generalize plL s.P s.L.length (s.wr n0) = pl at HSQ hA ⊢
  clear h hn0
  refine callsIn_of_wp_marks Try.func18 rfl trivial ?_ rfl
  simp only [Try.ntmps18, List.size_toArray, List.length_cons, List.length_nil, Nat.reduceAdd, Nat.reduceSub, Array.replicate_succ, Array.replicate_zero, List.push_toArray, List.append_toArray, List.nil_append, List.cons_append]
  gi_wp2
  refine ⟨trivial, fun _ => (by omega), ?_⟩
  refine (callsIn_wide.2 (placesIt (some ⟨b, 0, none⟩) n0 _)).mono ?_
  obtain ⟨w0, hw0⟩ : ∃ w0, w.alloc (.cells #[.int .i64 K] 3) = w0 := ⟨_, rfl⟩
  have hz : w0.heap.size = w.heap.size + 1 := by rw [← hw0]; simp
  have hk0 : w0.cell? ⟨w.heap.size, 0, none⟩ = some (.int .i64 K) := by rw [← hw0]; simp [go_sem]
  have hb0 : Below w.heap.size w w0 := by rw [← hw0]; exact bal (Below.refl _ _) _
  rw [hw0]
  rintro e w1 ⟨bs, by_, rfl, hbs, hby, hcs, hcy, hb1⟩
  have o1 : w1.cell? ⟨w.heap.size + 1, 0, none⟩ = some (.slice none 0 0) := keepc hb1 (by rw [← hz]; simp [go_sem])
  have f1 : w1.frozen? ⟨w.heap.size + 1, 0, none⟩ = false := (hb1.frozen (p := ⟨w.heap.size + 1, 0, none⟩) (by simp; omega)).trans (by rw [← hz]; simp [go_sem])
  have hb2 : Below w0.heap.size w0 w1 := (bal (Below.refl _ w0) _).trans (hb1.mono (by simp))
  have hz1' : w.heap.size + 2 ≤ w1.heap.size := by have := hb1.size; simp at this; omega
  have hbs' : w.heap.size + 2 ≤ bs := by simp at hbs; omega
  have hby' : w.heap.size + 2 ≤ by_ := by simp at hby; omega
  have HI0 := hid (show ICm w0 w1.heap.size (w.heap.size + 1) 3 1 K (iPL pl) 0 [] w1 from ⟨hK1, ⟨⟨.slice none 0 0, o1, f1, World.ownsRow_nil _ _ _ _, fun k hk => (by cases hk)⟩, by omega, fun k hk => (by cases hk)⟩, hb2⟩)
  have HBX := hid (show ∀ V, Below w0.heap.size w0 V → V.cell? ⟨w.heap.size, 0, none⟩ = some (.int .i64 K) from fun V hV => keepc hV hk0)
  have HSP := hid (show ∀ V, Below w0.heap.size w0 V → SpM V b g s from fun V hV => HH.out.below (below_t hb0 hV))
  have HB0 := hid hb0
  have HZ := hid hz
  have HCS := hid (And.intro hcs hcy)
  have hlz : w0.heap.size ≤ w1.heap.size := by omega
  clear hb1 hb2 hk0 hb0 hcs hcy o1 f1 hw0 hz
  gi_wp2
  refine rangeFunc_seq (n := n) (w := w1) rfl (by omega) (gf := 32) (lb := #[.pointer (some ⟨bs, 0, none⟩), .pointer (some ⟨by_, 0, none⟩)]) rfl trivial (enters_of Try.func32 (by kernel_rfl) rfl)
    (encs := encI) (fun _ => rfl) (el := fun k x _ => pl[k]? = some x) (N := pl.length) (R := RPl bs by_ b s.L.length n0 s.P)
    (fun k S V => (V.cell? ⟨bs, 0, none⟩ = some (.pointer (some ⟨b, 0, none⟩)) ∧ V.cell? ⟨by_, 0, none⟩ = some (.int .i64 n0)) ∧ (bs ∉ S ∧ by_ ∉ S) ∧ ICm w0 w1.heap.size (w.heap.size + 1) 3 1 K (iPL pl) k S V)
    (IxCm w0 w1.heap.size (w.heap.size + 1) 3 1 K (iPL pl)) ?hI ?hIx ?hR ⟨HCS.out, by simp, HI0.out⟩
    (fun k S x a V => pl[k]? = some x ∧ (V.cell? ⟨bs, 0, none⟩ = some (.pointer (some ⟨b, 0, none⟩)) ∧ V.cell? ⟨by_, 0, none⟩ = some (.int .i64 n0)) ∧ (bs ∉ S ∧ by_ ∉ S) ∧ ICm w0 w1.heap.size (w.heap.size + 1) 3 1 K (iPL pl) k S V ∧ a = { tmps := #[.pointer (some ⟨b, 0, none⟩), .int .i64 n0, .int .i64 K, undef, undef, .pointer (some ⟨w.heap.size, 0, none⟩), .slice none 0 0, .pointer (some ⟨w.heap.size + 1, 0, none⟩), .int .i64 x, .pointer (some ⟨b, 0, none⟩), .int .i64 n0, .func (.func 32) #[] #[.pointer (some ⟨bs, 0, none⟩), .pointer (some ⟨by_, 0, none⟩)], .int .i64 x, undef, undef, undef, undef, undef, undef, undef, undef, undef], defers := [] }) ?hAx ?assign ?body ?iter ?done ?stop
  case hI => exact fun k S A C hg ⟨h1, h2, h3, h4⟩ => ⟨⟨cell_grow hg h1.1, cell_grow hg h1.2⟩, h2, h3, h4.abides hlz hg⟩
  case hIx => exact fun c k S A C hg ⟨h1, h2, h3⟩ => ⟨h1, h2, h3.abides hlz hg⟩
  case hR => exact fun k S V h => ⟨h.1.1, h.1.2, (HSP.out V h.2.2.2.2).spP⟩
  case hAx => exact fun k S x a A C hg ⟨h0, h1, h2, ⟨h3, h4⟩, h5⟩ => ⟨h0, ⟨cell_grow hg h1.1, cell_grow hg h1.2⟩, h2, ⟨h3, h4.abides hlz hg⟩, h5⟩
  case iter => exact fun o1 o2 _ _ => HSQ.out bs by_ _
  case assign =>
    rintro l' k x S V KK hk hx1 hi hsz hK
    have HK := hid hK
    have HI := hid hi
    clear hK hi
    gi_wp2
    exact HK.out _ _ (Touch.refl _ _ _) ⟨hx1, HI.out.1, HI.out.2.1, HI.out.2.2, rfl⟩
  case body =>
    rintro l' k x S a' V hk ⟨hx1, hcs, hbS, ⟨hkK, hi'⟩, rfl⟩ hsz
    obtain ⟨v, hv, hf, hrow, hbl⟩ := hi'.1.ex
    have hlt := World.block_lt_of_cell? V _ hv
    have hmV : w1.heap.size ≤ V.heap.size := by omega
    have HI := hid hi'
    have HROW := hid hrow
    have HV := hid hv
    have HCS' := hid hcs
    clear hi' hrow hbl hcs
    by_cases hlast : k + 1 = K
    · have hkb : ((k : Int) + 1 == K) = true := by simp; omega
      have HL := hid hlast
      clear hlast
      gi_wp2_with (gi_at_builtin; refine wpListIn_append_blk _ rfl _ _ 28 rfl 3 i0 _ 1 8 Try.underlying28 hi hz0 hz1 hz2 rfl (by decide) v k (iPL pl k) rfl (HROW.out.alloc _) ⟨V.heap.size, 0, none⟩ 1 1 [.int .i64 x] rfl rfl (one_new V _ _ _ rfl) (by simp [Value.oneCell']) (by unfold maxLen; omega) (by omega) ?_; intro v' W1 hown' hgrow hb'; obtain ⟨s1, s2, s3, s4, s5, s6, s7⟩ := HI.out.1.step HV.out hown' hgrow hb' hmV; obtain ⟨g', cap', rfl⟩ := row_any hown'; have S1 := hid s4; have S2 := hid s5; have S3 := hid (s6 w0.heap.size w0 (by have := HZ.out; omega) HI.out.2); have hkc : W1.cell? ⟨w.heap.size, 0, none⟩ = some (.int .i64 K) := (World.cell?_setCell_far W1 ⟨w.heap.size + 1, 0, none⟩ ⟨w.heap.size, 0, none⟩ _ (by simp)).symm.trans (HBX.out _ S3.out); have hkl := World.block_lt_of_cell? W1 _ hkc; have S7 := hid (And.intro ((World.cell?_of_block (a := ⟨bs, 0, none⟩) (s7 bs (World.block_lt_of_cell? V _ HCS'.out.1) (by omega) hbS.1)).trans HCS'.out.1) ((World.cell?_of_block (a := ⟨by_, 0, none⟩) (s7 by_ (World.block_lt_of_cell? V _ HCS'.out.2) (by omega) hbS.2)).trans HCS'.out.2)); clear hown' hgrow s4 s5 s6 s7 hb')
      refine ⟨_, S2.out, rfl, HL.out, ?_, S3.out⟩
      rw [iPL_succ hx1]
      exact S1.out
    · have hkb : ((k : Int) + 1 == K) = false := by simp; omega
      gi_wp2_with (gi_at_builtin; refine wpListIn_append_blk _ rfl _ _ 28 rfl 3 i0 _ 1 8 Try.underlying28 hi hz0 hz1 hz2 rfl (by decide) v k (iPL pl k) rfl (HROW.out.alloc _) ⟨V.heap.size, 0, none⟩ 1 1 [.int .i64 x] rfl rfl (one_new V _ _ _ rfl) (by simp [Value.oneCell']) (by unfold maxLen; omega) (by omega) ?_; intro v' W1 hown' hgrow hb'; obtain ⟨s1, s2, s3, s4, s5, s6, s7⟩ := HI.out.1.step HV.out hown' hgrow hb' hmV; obtain ⟨g', cap', rfl⟩ := row_any hown'; have S1 := hid s4; have S2 := hid s5; have S3 := hid (s6 w0.heap.size w0 (by have := HZ.out; omega) HI.out.2); have hkc : W1.cell? ⟨w.heap.size, 0, none⟩ = some (.int .i64 K) := (World.cell?_setCell_far W1 ⟨w.heap.size + 1, 0, none⟩ ⟨w.heap.size, 0, none⟩ _ (by simp)).symm.trans (HBX.out _ S3.out); have hkl := World.block_lt_of_cell? W1 _ hkc; have S7 := hid (And.intro ((World.cell?_of_block (a := ⟨bs, 0, none⟩) (s7 bs (World.block_lt_of_cell? V _ HCS'.out.1) (by omega) hbS.1)).trans HCS'.out.1) ((World.cell?_of_block (a := ⟨by_, 0, none⟩) (s7 by_ (World.block_lt_of_cell? V _ HCS'.out.2) (by omega) hbS.2)).trans HCS'.out.2)); clear hown' hgrow s4 s5 s6 s7 hb')
      refine ⟨_, S2.out, S7.out, ⟨notin_touch S2.out hbS.1 (World.block_lt_of_cell? V _ HCS'.out.1), notin_touch S2.out hbS.2 (World.block_lt_of_cell? V _ HCS'.out.2)⟩, by omega, ?_, S3.out⟩
      rw [iPL_succ hx1]
      exact S1.out
  case done =>
    rintro D S V hD ⟨hcs, hbS, hNK, hi'⟩ hK
    obtain ⟨v, hv, hf, hrow, hbl⟩ := hi'.1.ex
    have hlt := World.block_lt_of_cell? V _ hv
    obtain ⟨y, cap, rfl⟩ := row_any hrow
    have HK := hid hK
    have HI := hid hi'
    have HROW := hid hrow
    have HBL := hid hbl
    clear hK hi' hrow hbl
    gi_wp2
    refine ⟨by simp, .inl ⟨_, _, rfl, run_takeDeferred HK.out, ?_⟩⟩
    have hg := Grow.put (m := w1.heap.size) (.deferred none) hD HK.out rfl
    have e1 := iPL_full (pl := pl) (k := K) (by omega)
    have e2 : min K pl.length = pl.length := by omega
    refine ⟨.slice y pl.length cap, by simp [results, Try.f18, go_sem], .slice y pl.length cap, rfl, ?_, fun k hk => ?_, HB0.out.trans ((below_grow HI.out.2 hg hlz (Nat.le_refl _)).mono HB0.out.size)⟩
    · have := own_grow HROW.out hg
      rw [e1, e2]
      exact this
    · have := HI.out.1.ms k (HBL.out k hk)
      omega
  case stop =>
    rintro D k c S V hD hk ⟨rfl, hkK, hi'⟩ hK
    obtain ⟨v, hv, hf, hrow, hbl⟩ := hi'.1.ex
    have hlt := World.block_lt_of_cell? V _ hv
    obtain ⟨y, cap, rfl⟩ := row_any hrow
    have HK := hid hK
    have HI := hid hi'
    have HROW := hid hrow
    have HBL := hid hbl
    have HL := hid hkK
    clear hK hi' hrow hbl hkK
    gi_wp2
    refine ⟨by simp, .inl ⟨_, _, rfl, run_takeDeferred HK.out, ?_⟩⟩
    have hg := Grow.put (m := w1.heap.size) (.deferred none) hD HK.out rfl
    have e1 : min K pl.length = k + 1 := by have := HL.out; omega
    refine ⟨.slice y (k + 1) cap, by simp [results, Try.f18, go_sem], .slice y (k + 1) cap, rfl, ?_, fun k hk => ?_, HB0.out.trans ((below_grow HI.out.2 hg hlz (Nat.le_refl _)).mono HB0.out.size)⟩
    · have := own_grow HROW.out hg
      rw [e1, ← HL.out]
      exact this
    · have := HI.out.1.ms k (HBL.out k hk)
      omega
end
end Go.Proofs.Ytnekglgjpaoghaa
