/-
  The law's list of cells.
-/
import Derived.Test.YtdaainifnbbhiaaYk
namespace Go.Proofs.Ytdaainifnbbhiaa
open Go.RowKit Go.Lib Go.Shelf
attribute [local go_sem] Oper.semAt_some

def cellsV (L : List Cel) : List Value := L.flatMap Cel.cs
def Spc.cA (s : Spc) (k : Nat) : List Value := cellsV (s.L.take k)
theorem cA_succ {s : Spc} {k : Nat} (h : k < s.L.length) : s.cA (k + 1) = s.cA k ++ (s.cel k).cs := by
  unfold Spc.cA cellsV Spc.cel
  rw [take_one s.L k _ (List.getElem?_eq_getElem h), List.flatMap_append, List.getD, List.getElem?_eq_getElem h]
  simp
theorem cA_full {s : Spc} {k : Nat} (h : s.L.length ≤ k) : s.cA k = s.cA s.L.length := by
  unfold Spc.cA
  rw [List.take_of_length_le h, List.take_length]
theorem six_new (V : World) (x0 x1 x2 x3 x4 x5 : Value) (t : TypeId) : ∀ j u, ([x0, x1, x2, x3, x4, x5] : List Value)[j]? = some u → (V.alloc (.cells #[x0, x1, x2, x3, x4, x5] t)).cell? ((⟨V.heap.size, 0, none⟩ : Addr).add j) = some u := fun j u hu => by
  rw [addr_add]
  have hj : j < 6 := by
    rcases Nat.lt_or_ge j 6 with h | h
    · exact h
    · rw [List.getElem?_eq_none (by simpa using h)] at hu; cases hu
  have : j = 0 ∨ j = 1 ∨ j = 2 ∨ j = 3 ∨ j = 4 ∨ j = 5 := by omega
  rcases this with rfl | rfl | rfl | rfl | rfl | rfl <;> (simp at hu; subst hu; simp [go_sem])
/-- The box of a loop's cell. -/
structure Six (V : World) (b : Nat) (c : Cel) : Prop where
  c0 : V.cell? ⟨b, 0, none⟩ = some (.int .u8 c.ch)
  c1 : V.cell? ⟨b, 1, none⟩ = some (.bool c.at_)
  c2 : V.cell? ⟨b, 2, none⟩ = some (.int .u8 c.fa)
  c3 : V.cell? ⟨b, 3, none⟩ = some (.int .u8 c.hi)
  c4 : V.cell? ⟨b, 4, none⟩ = some (.int .u8 c.co)
  c5 : V.cell? ⟨b, 5, none⟩ = some (.int .u8 c.se)
theorem Six.grow {m : Nat} {A B : World} {b : Nat} {c : Cel} (h : Six A b c) (k : Grow m A B) : Six B b c := ⟨cell_grow k h.c0, cell_grow k h.c1, cell_grow k h.c2, cell_grow k h.c3, cell_grow k h.c4, cell_grow k h.c5⟩
theorem six_box (V : World) (x0 : Int) (x1 : Bool) (x2 x3 x4 x5 : Int) (t : TypeId) : Six (V.alloc (.cells #[.int .u8 x0, .bool x1, .int .u8 x2, .int .u8 x3, .int .u8 x4, .int .u8 x5] t)) V.heap.size ⟨x0, x1, x2, x3, x4, x5⟩ :=
  ⟨by simp [go_sem], by simp [go_sem], by simp [go_sem], by simp [go_sem], by simp [go_sem], by simp [go_sem]⟩
set_option maxRecDepth 100000 in
set_option maxHeartbeats 4000000 in
theorem cells_in (n : Nat) (hn : 6 ≤ n) (b g K : Nat) (s : Spc) (hK1 : 1 ≤ K) (w : World) (h : SpM w b g s) :
    CallsIn Fence.wide n Try.prog 23 #[.pointer (some ⟨b, 0, none⟩), .int .i64 K] w (ListD 31 6 (s.cA K) (min K s.L.length) w) := by
  obtain ⟨i0, hi, hz0, hz1, hz2⟩ := info_parts infoC
  have hN := h.ok.pos.2
  have HH := hid h
  clear h
  refine callsIn_of_wp_marks Try.func23 rfl trivial ?_ rfl
  simp only [Try.ntmps23, List.size_toArray, List.length_cons, List.length_nil, Nat.reduceAdd, Nat.reduceSub, Array.replicate_succ, Array.replicate_zero, List.push_toArray, List.append_toArray, List.nil_append, List.cons_append]
  gi_wp2
  refine ⟨trivial, fun _ => (by omega), ?_⟩
  refine (callsIn_wide.2 (all_any b _)).mono ?_
  obtain ⟨w0, hw0⟩ : ∃ w0, w.alloc (.cells #[.int .i64 K] 3) = w0 := ⟨_, rfl⟩
  have hz : w0.heap.size = w.heap.size + 1 := by rw [← hw0]; simp
  have hk0 : w0.cell? ⟨w.heap.size, 0, none⟩ = some (.int .i64 K) := by rw [← hw0]; simp [go_sem]
  have hb0 : Below w.heap.size w w0 := by rw [← hw0]; exact bal (Below.refl _ _) _
  rw [hw0]
  rintro e w1 ⟨bs, rfl, hbs, hcs, hb1⟩
  have o1 : w1.cell? ⟨w.heap.size + 1, 0, none⟩ = some (.slice none 0 0) := keepc hb1 (by rw [← hz]; simp [go_sem])
  have f1 : w1.frozen? ⟨w.heap.size + 1, 0, none⟩ = false := (hb1.frozen (p := ⟨w.heap.size + 1, 0, none⟩) (by simp; omega)).trans (by rw [← hz]; simp [go_sem])
  have hb2 : Below w0.heap.size w0 w1 := (bal (Below.refl _ w0) _).trans (hb1.mono (by simp))
  have hz1' : w.heap.size + 2 ≤ w1.heap.size := by have := hb1.size; simp at this; omega
  have hbs' : w.heap.size + 2 ≤ bs := by simp at hbs; omega
  have HI0 := hid (show ICm w0 w1.heap.size (w.heap.size + 1) 31 6 K s.cA 0 [] w1 from ⟨hK1, ⟨⟨.slice none 0 0, o1, f1, World.ownsRow_nil _ _ _ _, fun k hk => (by cases hk)⟩, by omega, fun k hk => (by cases hk)⟩, hb2⟩)
  have HBX := hid (show ∀ V, Below w0.heap.size w0 V → V.cell? ⟨w.heap.size, 0, none⟩ = some (.int .i64 K) from fun V hV => keepc hV hk0)
  have HSP := hid (show ∀ V, Below w0.heap.size w0 V → SpM V b g s from fun V hV => HH.out.below (below_t hb0 hV))
  have HB0 := hid hb0
  have HZ := hid hz
  have HCS := hid hcs
  have hlz : w0.heap.size ≤ w1.heap.size := by omega
  clear hb1 hb2 hk0 hb0 hcs o1 f1 hw0 hz
  gi_wp2
  refine rangeFunc_seq (n := n) (w := w1) rfl (by omega) (gf := 94) (lb := #[.pointer (some ⟨bs, 0, none⟩)]) rfl trivial (enters_of Try.func94 (by kernel_rfl) rfl)
    (encs := encA) (fun _ => rfl) (el := elA b s.L.length) (N := s.L.length) (R := RA bs b s.L.length)
    (fun k S V => V.cell? ⟨bs, 0, none⟩ = some (.pointer (some ⟨b, 0, none⟩)) ∧ bs ∉ S ∧ ICm w0 w1.heap.size (w.heap.size + 1) 31 6 K s.cA k S V)
    (IxCm w0 w1.heap.size (w.heap.size + 1) 31 6 K s.cA) ?hI ?hIx ?hR ⟨HCS.out, by simp, HI0.out⟩
    (fun k S x a V => (∃ cb, x = (k, s.cel k) ∧ Six V cb (s.cel k) ∧ a = { tmps := #[.pointer (some ⟨b, 0, none⟩), .int .i64 K, undef, .pointer (some ⟨w.heap.size, 0, none⟩), .slice none 0 0, .pointer (some ⟨w.heap.size + 1, 0, none⟩), undef, .pointer (some ⟨cb, 0, none⟩), .pointer (some ⟨b, 0, none⟩), .func (.func 94) #[] #[.pointer (some ⟨bs, 0, none⟩)], .int .i64 k, (s.cel k).v, undef, undef, undef, undef, undef, undef, undef, undef, undef], defers := [] }) ∧ V.cell? ⟨bs, 0, none⟩ = some (.pointer (some ⟨b, 0, none⟩)) ∧ bs ∉ S ∧ ICm w0 w1.heap.size (w.heap.size + 1) 31 6 K s.cA k S V) ?hAx ?assign ?body ?iter ?done ?stop
  case hI => exact fun k S A C hg ⟨h1, h2, h3, h4⟩ => ⟨cell_grow hg h1, h2, h3, h4.abides hlz hg⟩
  case hIx => exact fun c k S A C hg ⟨h1, h2, h3⟩ => ⟨h1, h2, h3.abides hlz hg⟩
  case hR => exact fun k S V h => ⟨h.1, g, s, HSP.out V h.2.2.2.2, rfl⟩
  case hAx => exact fun k S x a A C hg ⟨⟨cb, h01, h02, h03⟩, h1, h2, ⟨h3, h4⟩⟩ => ⟨⟨cb, h01, h02.grow hg, h03⟩, cell_grow hg h1, h2, ⟨h3, h4.abides hlz hg⟩⟩
  case iter => exact fun o1 o2 _ _ => all_seq (n - 1) (by omega) bs b s.L.length hN _
  case assign =>
    rintro l' k x S V KK hk hx1 hi hsz hK
    obtain rfl := elA_is (HSP.out V hi.2.2.2.2) rfl hx1 hk
    have HK := hid hK
    have HI := hid hi
    clear hK hi hx1
    obtain ⟨c, hc⟩ : ∃ c, s.cel k = c := ⟨_, rfl⟩
    have hg := Grow.alloc V (.cells #[.int .u8 c.ch, .bool c.at_, .int .u8 c.fa, .int .u8 c.hi, .int .u8 c.co, .int .u8 c.se] 31) w1.heap.size
    have HN := hid (show Six (V.alloc (.cells #[.int .u8 c.ch, .bool c.at_, .int .u8 c.fa, .int .u8 c.hi, .int .u8 c.co, .int .u8 c.se] 31)) V.heap.size (s.cel k) ∧ V.cell? ⟨bs, 0, none⟩ = V.cell? ⟨bs, 0, none⟩ from ⟨by rw [hc]; exact six_box V _ _ _ _ _ _ _, rfl⟩)
    have HG := hid hg
    have HV := hid (show (s.cel k).v = c.v by rw [hc])
    clear hg
    rw [show encA (k, s.cel k) = #[.int .i64 k, c.v] by rw [← hc]]
    rw [HV.out] at HK
    clear hc
    obtain ⟨x0, x1, x2, x3, x4, x5⟩ := c
    gi_wp2
    refine HK.out _ _ (Touch.alloc V _ _ S) ⟨⟨V.heap.size, trivial, HN.out.1, ?_⟩, cell_grow HG.out HI.out.1, HI.out.2.1, HI.out.2.2.1, HI.out.2.2.2.abides hlz HG.out⟩
    rfl
  case body =>
    rintro l' k x S a' V hk ⟨⟨cb, rfl, h6, rfl⟩, hcs, hbS, ⟨hkK, hi'⟩⟩ hsz
    have h6k := h6
    obtain ⟨c, hc⟩ : ∃ c, s.cel k = c := ⟨_, rfl⟩
    have HSU := hid (cA_succ hk)
    rw [hc] at h6 HSU ⊢
    clear h6k hc
    obtain ⟨x0, x1, x2, x3, x4, x5⟩ := c
    obtain ⟨z0, z1, z2, z3, z4, z5⟩ := h6
    dsimp only at z0 z1 z2 z3 z4 z5
    have HEE := hid (show (Cel.mk x0 x1 x2 x3 x4 x5).cs = [.int .u8 x0, .bool x1, .int .u8 x2, .int .u8 x3, .int .u8 x4, .int .u8 x5] from rfl)
    obtain ⟨v, hv, hf, hrow, hbl⟩ := hi'.1.ex
    have hlt := World.block_lt_of_cell? V _ hv
    have hmV : w1.heap.size ≤ V.heap.size := by omega
    have HI := hid hi'
    have HROW := hid hrow
    have HV := hid hv
    have HCS' := hid hcs
    clear hi' hrow hbl hcs
    by_cases hlast : k + 1 = K
    · have hkb : ((k : Int) + 1 == K) = true := by simp; omega
      have HL := hid hlast
      clear hlast
      gi_wp2_with (gi_at_builtin; refine wpListIn_append_blk _ rfl _ _ 41 rfl 31 i0 _ 6 6 Try.underlying41 hi hz0 hz1 hz2 rfl (by decide) v k (s.cA k) rfl (HROW.out.alloc _) ⟨V.heap.size, 0, none⟩ 1 1 [.int .u8 x0, .bool x1, .int .u8 x2, .int .u8 x3, .int .u8 x4, .int .u8 x5] rfl rfl (six_new V _ _ _ _ _ _ _) (by simp [Value.oneCell']) (by unfold maxLen; omega) (by omega) ?_; intro v' W1 hown' hgrow hb'; obtain ⟨s1, s2, s3, s4, s5, s6, s7⟩ := HI.out.1.step HV.out hown' hgrow hb' hmV; obtain ⟨g', cap', rfl⟩ := row_any hown'; have S1 := hid s4; have S2 := hid s5; have S3 := hid (s6 w0.heap.size w0 (by have := HZ.out; omega) HI.out.2); have hkc : W1.cell? ⟨w.heap.size, 0, none⟩ = some (.int .i64 K) := (World.cell?_setCell_far W1 ⟨w.heap.size + 1, 0, none⟩ ⟨w.heap.size, 0, none⟩ _ (by simp)).symm.trans (HBX.out _ S3.out); have hkl := World.block_lt_of_cell? W1 _ hkc; have S7 := hid ((World.cell?_of_block (a := ⟨bs, 0, none⟩) (s7 bs (World.block_lt_of_cell? V _ HCS'.out) (by omega) hbS)).trans HCS'.out); clear hown' hgrow s4 s5 s6 s7 hb')
      refine ⟨_, S2.out, rfl, HL.out, ?_, S3.out⟩
      rw [HSU.out, HEE.out]
      exact S1.out
    · have hkb : ((k : Int) + 1 == K) = false := by simp; omega
      gi_wp2_with (gi_at_builtin; refine wpListIn_append_blk _ rfl _ _ 41 rfl 31 i0 _ 6 6 Try.underlying41 hi hz0 hz1 hz2 rfl (by decide) v k (s.cA k) rfl (HROW.out.alloc _) ⟨V.heap.size, 0, none⟩ 1 1 [.int .u8 x0, .bool x1, .int .u8 x2, .int .u8 x3, .int .u8 x4, .int .u8 x5] rfl rfl (six_new V _ _ _ _ _ _ _) (by simp [Value.oneCell']) (by unfold maxLen; omega) (by omega) ?_; intro v' W1 hown' hgrow hb'; obtain ⟨s1, s2, s3, s4, s5, s6, s7⟩ := HI.out.1.step HV.out hown' hgrow hb' hmV; obtain ⟨g', cap', rfl⟩ := row_any hown'; have S1 := hid s4; have S2 := hid s5; have S3 := hid (s6 w0.heap.size w0 (by have := HZ.out; omega) HI.out.2); have hkc : W1.cell? ⟨w.heap.size, 0, none⟩ = some (.int .i64 K) := (World.cell?_setCell_far W1 ⟨w.heap.size + 1, 0, none⟩ ⟨w.heap.size, 0, none⟩ _ (by simp)).symm.trans (HBX.out _ S3.out); have hkl := World.block_lt_of_cell? W1 _ hkc; have S7 := hid ((World.cell?_of_block (a := ⟨bs, 0, none⟩) (s7 bs (World.block_lt_of_cell? V _ HCS'.out) (by omega) hbS)).trans HCS'.out); clear hown' hgrow s4 s5 s6 s7 hb')
      refine ⟨_, S2.out, S7.out, notin_touch S2.out hbS (World.block_lt_of_cell? V _ HCS'.out), by omega, ?_, S3.out⟩
      rw [HSU.out, HEE.out]
      exact S1.out
  case done =>
    rintro D S V hD ⟨hcs, hbS, hNK, hi'⟩ hK
    obtain ⟨v, hv, hf, hrow, hbl⟩ := hi'.1.ex
    have hlt := World.block_lt_of_cell? V _ hv
    obtain ⟨y, cap, rfl⟩ := row_any hrow
    have HK := hid hK
    have HI := hid hi'
    have HROW := hid hrow
    have HBL := hid hbl
    clear hK hi' hrow hbl
    gi_wp2
    refine ⟨by simp, .inl ⟨_, _, rfl, run_takeDeferred HK.out, ?_⟩⟩
    have hg := Grow.put (m := w1.heap.size) (.deferred none) hD HK.out rfl
    have e1 := cA_full (s := s) (k := K) (by omega)
    have e2 : min K s.L.length = s.L.length := by omega
    refine ⟨.slice y s.L.length cap, by simp [results, Try.f23, go_sem], .slice y s.L.length cap, rfl, ?_, fun k hk => ?_, HB0.out.trans ((below_grow HI.out.2 hg hlz (Nat.le_refl _)).mono HB0.out.size)⟩
    · have := own_grow HROW.out hg
      rw [e1, e2]
      exact this
    · have := HI.out.1.ms k (HBL.out k hk)
      omega
  case stop =>
    rintro D k c S V hD hk ⟨rfl, hkK, hi'⟩ hK
    obtain ⟨v, hv, hf, hrow, hbl⟩ := hi'.1.ex
    have hlt := World.block_lt_of_cell? V _ hv
    obtain ⟨y, cap, rfl⟩ := row_any hrow
    have HK := hid hK
    have HI := hid hi'
    have HROW := hid hrow
    have HBL := hid hbl
    have HL := hid hkK
    clear hK hi' hrow hbl hkK
    gi_wp2
    refine ⟨by simp, .inl ⟨_, _, rfl, run_takeDeferred HK.out, ?_⟩⟩
    have hg := Grow.put (m := w1.heap.size) (.deferred none) hD HK.out rfl
    have e1 : min K s.L.length = k + 1 := by have := HL.out; omega
    refine ⟨.slice y (k + 1) cap, by simp [results, Try.f23, go_sem], .slice y (k + 1) cap, rfl, ?_, fun k hk => ?_, HB0.out.trans ((below_grow HI.out.2 hg hlz (Nat.le_refl _)).mono HB0.out.size)⟩
    · have := own_grow HROW.out hg
      rw [e1, ← HL.out]
      exact this
    · have := HI.out.1.ms k (HBL.out k hk)
      omega
end Go.Proofs.Ytdaainifnbbhiaa
