/-
  FieldPlaces: the law's own walk.
-/
import Derived.Test.YtnekglgjpaoghaaUa
namespace Go.Proofs.Ytnekglgjpaoghaa
open Go.RowKit Go.Lib Go.Deep

theorem rattf0' (p n m : Bool) (d : Int) (w : World) : (Instr.field 35 (.agg #[.bool p, .bool n, .int .i64 d, .bool m]) 0).run Try.prog w = .ok (.bool p) w := by kernel_rfl
/-- What lies in the law's boxes. -/
structure FpJ (w : World) (a10 a11 a13 b1 g1 b2 g2 : Nat) (s : Spc) (vl : Value) (i : Nat) (V : World) : Prop where
  c8 : V.cell? ⟨w.heap.size, 0, none⟩ = some (.bool false)
  f8 : V.frozen? ⟨w.heap.size, 0, none⟩ = false
  c10 : V.cell? ⟨a10, 0, none⟩ = some (.pointer (some ⟨b2, 0, none⟩))
  c11 : V.cell? ⟨a11, 0, none⟩ = some vl
  c13 : V.cell? ⟨a13, 0, none⟩ = some (.int .i64 i)
  f13 : V.frozen? ⟨a13, 0, none⟩ = false
  own : V.ownsRow 0 3 1 vl s.A.length (intsV (s.A.map Int.ofNat))
  sp : SpM V b1 g1 s
  rf : RfM V b2 g2 s
  bel : Below w.heap.size w V
section
variable {w : World} {a10 a11 a13 b1 g1 b2 g2 : Nat} {s : Spc} {vl : Value} {i : Nat} {A C : World}
theorem FpJ.grow {m : Nat} (h : FpJ w a10 a11 a13 b1 g1 b2 g2 s vl i A) (hg : Grow m A C) (hm : w.heap.size ≤ m) : FpJ w a10 a11 a13 b1 g1 b2 g2 s vl i C :=
  ⟨cell_grow hg h.c8, frozen_grow hg h.c8 h.f8, cell_grow hg h.c10, cell_grow hg h.c11, cell_grow hg h.c13, frozen_grow hg h.c13 h.f13, own_grow h.own hg, h.sp.grow hg, h.rf.grow hg, below_grow h.bel hg hm (Nat.le_refl _)⟩
theorem FpJ.below (h : FpJ w a10 a11 a13 b1 g1 b2 g2 s vl i A) (hb : Below A.heap.size A C) : FpJ w a10 a11 a13 b1 g1 b2 g2 s vl i C := h.grow (Grow.below hb w.heap.size) (Nat.le_refl _)
/-- The next number. -/
theorem FpJ.next (h : FpJ w a10 a11 a13 b1 g1 b2 g2 s vl i A) (h1 : w.heap.size < a13) (h2 : a13 ≠ a10) (h3 : a13 ≠ a11) (h4 : a13 ∉ blkV vl) (h5 : a13 ∉ [b1, g1, b2, g2]) (j : Nat) : FpJ w a10 a11 a13 b1 g1 b2 g2 s vl j (A.setCell ⟨a13, 0, none⟩ (.int .i64 j)) := by
  have m : Moved A (A.setCell ⟨a13, 0, none⟩ (.int .i64 j)) [a13] [a13] := Moved.set (by simp) 0 _
  have e : ∀ q u, q ≠ a13 → A.cell? ⟨q, 0, none⟩ = some u → (A.setCell ⟨a13, 0, none⟩ (.int .i64 j)).cell? ⟨q, 0, none⟩ = some u := fun q u hq hu => cell_moved m hu (by simpa using hq)
  simp at h5
  refine ⟨e _ _ (by omega) h.c8, by simp [h.f8], e _ _ (fun q => h2 q.symm) h.c10, e _ _ (fun q => h3 q.symm) h.c11, sc_same h.c13, by simp [h.f13], own_moved h.own m (fun k hk q => h4 (by simp at q; exact q ▸ hk)), h.sp.moved m (by simp; omega) (by simp; omega), h.rf.moved m (by simp; omega) (by simp; omega), h.bel.sc _ _ _ (by omega)⟩
end
/-- What lies there when the fields are told. -/
structure FpX (w : World) (b1 g1 b2 g2 : Nat) (s : Spc) (vp : Value) (pl : List Nat) (D : Nat) (V : World) : Prop where
  own : V.ownsRow 0 3 1 vp pl.length (intsV (pl.map Int.ofNat))
  sp : SpM V b1 g1 s
  rf : RfM V b2 g2 s
  bel : Below w.heap.size w V
  d : V.heap[D]? = some (.deferred (some []))
  c8 : ∃ u, V.cell? ⟨w.heap.size, 0, none⟩ = some u
  f8 : V.frozen? ⟨w.heap.size, 0, none⟩ = false
theorem FpX.below {w A C : World} {b1 g1 b2 g2 D : Nat} {s : Spc} {vp : Value} {pl : List Nat} (h : FpX w b1 g1 b2 g2 s vp pl D A) (hb : Below A.heap.size A C) : FpX w b1 g1 b2 g2 s vp pl D C := by
  obtain ⟨u, hu⟩ := h.c8
  exact ⟨own_below h.own hb, h.sp.below hb, h.rf.below hb, below_t h.bel hb, (hb.block _ (Array.getElem?_eq_some_iff.1 h.d).1).trans h.d, ⟨u, keepc hb hu⟩, (hb.frozen (p := ⟨w.heap.size, 0, none⟩) (World.block_lt_of_cell? A _ hu)).trans h.f8⟩
theorem FpX.set {w A : World} {b1 g1 b2 g2 D : Nat} {s : Spc} {vp : Value} {pl : List Nat} (h : FpX w b1 g1 b2 g2 s vp pl D A) (u : Value) (h1 : w.heap.size ∉ blkV vp) (h2 : w.heap.size ∉ [b1, g1, b2, g2]) (h3 : D ≠ w.heap.size) : FpX w b1 g1 b2 g2 s vp pl D (A.setCell ⟨w.heap.size, 0, none⟩ u) := by
  have m : Moved A (A.setCell ⟨w.heap.size, 0, none⟩ u) [w.heap.size] [w.heap.size] := Moved.set (by simp) 0 _
  obtain ⟨u0, hu⟩ := h.c8
  simp at h2
  exact ⟨own_moved h.own m (fun k hk q => h1 (by simp at q; exact q ▸ hk)), h.sp.moved m (by simp; omega) (by simp; omega), h.rf.moved m (by simp; omega) (by simp; omega), h.bel.sc _ _ _ (Nat.le_refl _), (Go.heap_setCell_other A ⟨w.heap.size, 0, none⟩ D u (by simp; omega)).trans h.d, ⟨_, sc_same hu⟩, by simp [h.f8]⟩
theorem plSum_le (P : Nat → Bool) (N : Nat) : ∀ l : List Nat, plSum P N l ≤ l.length * (N + 1)
  | [] => by simp [plSum]
  | a :: l => by
    have h := plSum_le P N l
    have q := plL_len P N a
    unfold plSum at h ⊢
    simp only [List.map_cons, List.sum_cons, List.length_cons, Nat.succ_mul]
    omega
theorem reads_tx {w : World} {v : Value} {s : Spc} (h : s.OK) {l : List Nat} (ho : w.ownsRow 0 5 1 v l.length (txV s l)) : Reads w v (txL s l) := by
  have hlen : (txL s l).length = l.length := by unfold txL; rw [List.length_map]
  refine OwnB.reads ⟨fun x hx => ?_, by rw [hlen]; exact ho⟩
  unfold txL at hx
  obtain ⟨i, _, rfl⟩ := List.mem_map.1 hx
  exact (h.cel i).ch
section
attribute [local go_sem] Oper.semAt_some
set_option maxRecDepth 100000 in
set_option maxHeartbeats 16000000 in
theorem fplaces_in (n : Nat) (hn : 14 ≤ n) (m : Nat) (hm : m < 256) (v : Value) (ac : List ActD) (nz : Int) (hnz : I64 nz) (st : Nat) (hst : st < 256) (w : World) (hx : ActsIn w.heap.size w v ac) :
    CallsIn Fence.wide n Try.prog 3 #[.int .u8 m, v, .int .i64 nz, .int .u8 st] w fun e w' => e = .returned (.bool true) ∧ Below w.heap.size w w' := by
  have HLY := hid (fun W (hb : Below w.heap.size w W) => lay_any m hm v ac w.heap.size W hb.size (hx.below hb))
  obtain ⟨x, cp, rfl⟩ := hx.sl
  generalize runS (clearS (2 + ((m % 4 : Nat) : Int)) false) ac ac.length = s at HLY
  clear hx hm
  refine callsIn_of_wp_marks Try.func3 rfl trivial ?_ rfl
  simp only [Try.ntmps3, List.size_toArray, List.length_cons, List.length_nil, Nat.reduceAdd, Nat.reduceSub, Array.replicate_succ, Array.replicate_zero, List.push_toArray, List.append_toArray, List.nil_append, List.cons_append]
  gi_wp2
  obtain ⟨w0, hw0⟩ : ∃ w0, w.alloc (.cells #[.bool false] 4) = w0 := ⟨_, rfl⟩
  have H0 := hid (show w0.cell? ⟨w.heap.size, 0, none⟩ = some (.bool false) ∧ w0.frozen? ⟨w.heap.size, 0, none⟩ = false ∧ Below w.heap.size w w0 ∧ w0.heap.size = w.heap.size + 1 from ⟨by rw [← hw0]; simp [go_sem], by rw [← hw0]; simp [go_sem], by rw [← hw0]; exact bal (Below.refl _ _) _, by rw [← hw0]; simp⟩)
  simp only [hw0]
  clear hw0
  refine ⟨trivial, fun _ => (by omega), ?_⟩
  refine (callsIn_wide.2 (awake13 _)).mono ?_
  rintro e w1 ⟨rfl, hb1⟩
  have H1 := hid (show w1.cell? ⟨w.heap.size, 0, none⟩ = some (.bool false) ∧ w1.frozen? ⟨w.heap.size, 0, none⟩ = false ∧ Below w.heap.size w w1 ∧ w.heap.size < w1.heap.size from ⟨keepc hb1 H0.out.1, (hb1.frozen (p := ⟨w.heap.size, 0, none⟩) (by show w.heap.size < w0.heap.size; have := H0.out.2.2.2; omega)).trans H0.out.2.1, below_t H0.out.2.2.1 hb1, by have := hb1.size; have := H0.out.2.2.2; omega⟩)
  clear hb1 H0
  gi_wp2
  refine ⟨trivial, fun _ => (by omega), ?_⟩
  refine (callsIn_wide.2 (HLY.out _ H1.out.2.2.1)).mono ?_
  rintro e w2 ⟨b1, g1, b2, g2, rfl, hd, -⟩
  have hw1d := hd.bel
  have HSEP := hid (show ∀ k ∈ [b1, g1, b2, g2], k ≠ w.heap.size from fun k hk => by have := hd.lb k hk; have := H1.out.2.2.2; omega)
  have H2 := hid (show w2.cell? ⟨w.heap.size, 0, none⟩ = some (.bool false) ∧ w2.frozen? ⟨w.heap.size, 0, none⟩ = false ∧ Below w.heap.size w w2 ∧ SpM w2 b1 g1 s ∧ RfM w2 b2 g2 s ∧ (∀ k ∈ [b1, g1, b2, g2], k < w2.heap.size) ∧ w.heap.size < w2.heap.size from ⟨keepc hw1d H1.out.1, (hw1d.frozen (p := ⟨w.heap.size, 0, none⟩) H1.out.2.2.2).trans H1.out.2.1, below_t H1.out.2.2.1 hw1d, hd.sp, hd.rf, fun k hk => hd.lt k hk, by have := hw1d.size; have := H1.out.2.2.2; omega⟩)
  clear hd hw1d H1
  gi_wp2
  obtain ⟨w3, hw3⟩ : ∃ w3, w2.alloc (.cells #[.pointer (some ⟨b2, 0, none⟩)] 25) = w3 := ⟨_, rfl⟩
  obtain ⟨a10, ha10⟩ : ∃ a10, w2.heap.size = a10 := ⟨_, rfl⟩
  have H3 := hid (show Below w2.heap.size w2 w3 ∧ w3.cell? ⟨a10, 0, none⟩ = some (.pointer (some ⟨b2, 0, none⟩)) ∧ w3.heap.size = a10 + 1 from ⟨by rw [← hw3]; exact bal (Below.refl _ _) _, by rw [← hw3, ← ha10]; simp [go_sem], by rw [← hw3, ← ha10]; simp⟩)
  simp only [hw3, ha10]
  clear hw3
  refine ⟨trivial, fun _ => (by omega), ?_⟩
  refine (callsIn_wide.2 (rattrs_any b2 g2 s _ (H2.out.2.2.2.2.1.below H3.out.1))).mono ?_
  rintro e w4 ⟨vl, rfl, hol, hkl, hb4⟩
  have hAE : s.iA s.A.length = intsV (s.A.map Int.ofNat) := by unfold Spc.iA; rw [List.take_length]
  rw [hAE] at hol
  obtain ⟨yl, cl, rfl⟩ := row_any hol
  have H4 := hid (show Below w2.heap.size w2 w4 ∧ w4.cell? ⟨a10, 0, none⟩ = some (.pointer (some ⟨b2, 0, none⟩)) ∧ w4.ownsRow 0 3 1 (.slice yl s.A.length cl) s.A.length (intsV (s.A.map Int.ofNat)) ∧ (∀ k ∈ blkV (.slice yl s.A.length cl), k < w4.heap.size) ∧ a10 < w4.heap.size from ⟨below_t H3.out.1 hb4, keepc hb4 H3.out.2.1, hol, fun k hk => own_lt hol k hk, by have := hb4.size; have := H3.out.2.2; omega⟩)
  clear hol hkl hb4 H3 hAE
  gi_wp2
  have HF : Hid (∃ a11 a13 w5, w4.heap.size = a11 ∧ a11 + 1 = a13 ∧ (w4.alloc (.cells #[.slice yl s.A.length cl] 28)).alloc (.cells #[.int .i64 0] 3) = w5 ∧ FpJ w a10 a11 a13 b1 g1 b2 g2 s (.slice yl s.A.length cl) 0 w5 ∧ w5.heap.size = a13 + 1) := by
    obtain ⟨wa, hwa⟩ : ∃ wa, w4.alloc (.cells #[.slice yl s.A.length cl] 28) = wa := ⟨_, rfl⟩
    have hza : wa.heap.size = w4.heap.size + 1 := by rw [← hwa]; simp
    have hba : Below w4.heap.size w4 wa := by rw [← hwa]; exact bal (Below.refl _ _) _
    have hca : wa.cell? ⟨w4.heap.size, 0, none⟩ = some (.slice yl s.A.length cl) := by rw [← hwa]; simp [go_sem]
    obtain ⟨w5, hw5⟩ : ∃ w5, wa.alloc (.cells #[.int .i64 0] 3) = w5 := ⟨_, rfl⟩
    have hb5 : Below wa.heap.size wa w5 := by rw [← hw5]; exact bal (Below.refl _ _) _
    have hc5 : w5.cell? ⟨wa.heap.size, 0, none⟩ = some (.int .i64 0) := by rw [← hw5]; simp [go_sem]
    have hf5 : w5.frozen? ⟨wa.heap.size, 0, none⟩ = false := by rw [← hw5]; simp [go_sem]
    have h45 := below_t hba hb5
    have h25 := below_t H4.out.1 h45
    refine ⟨_, wa.heap.size, w5, rfl, by omega, by rw [hwa, hw5], ⟨keepc h25 H2.out.1, (h25.frozen (p := ⟨w.heap.size, 0, none⟩) H2.out.2.2.2.2.2.2).trans H2.out.2.1, keepc h45 H4.out.2.1, keepc hb5 hca, hc5, hf5, own_below H4.out.2.2.1 h45, H2.out.2.2.2.1.below h25, H2.out.2.2.2.2.1.below h25, below_t H2.out.2.2.1 h25⟩, by rw [← hw5]; simp⟩
  obtain ⟨a11, a13, w5, e11, e13, e5, hJ5, hz5⟩ := HF.out
  have HJ5 := hid hJ5
  have HAP := hid (show w.heap.size < a13 ∧ a13 ≠ a10 ∧ a13 ≠ a11 ∧ a13 ∉ blkV (.slice yl s.A.length cl) ∧ a13 ∉ [b1, g1, b2, g2] ∧ w.heap.size < w2.heap.size from ⟨by have := H2.out.2.2.2.2.2.2; have := H4.out.1.size; omega, by have := H4.out.2.2.2.2; omega, by omega, fun q => by have := H4.out.2.2.2.1 _ q; omega, fun q => by have := H2.out.2.2.2.2.2.1 _ q; have := H4.out.1.size; omega, H2.out.2.2.2.2.2.2⟩)
  simp only [e11, e13, e5]
  have HWB := hid (show w.heap.size ∉ [b1, g1, b2, g2] ∧ a11 ≠ w.heap.size ∧ a10 ≠ w.heap.size from ⟨fun q => HSEP.out _ q rfl, by have := H2.out.2.2.2.2.2.2; have := H4.out.1.size; omega, by have := H2.out.2.2.2.2.2.2; omega⟩)
  clear HF hJ5 e11 e5 H2 H4
  refine ⟨trivial, fun _ => (by omega), ?_⟩
  refine (callsIn_wide.2 (fieldsIt_any b1 _)).mono ?_
  rintro e w6 ⟨bs, rfl, hbs, hcs, hb6⟩
  have HI6 := hid (show FpJ w a10 a11 a13 b1 g1 b2 g2 s (.slice yl s.A.length cl) 0 w6 ∧ w6.cell? ⟨bs, 0, none⟩ = some (.pointer (some ⟨b1, 0, none⟩)) from ⟨HJ5.out.below hb6, hcs⟩)
  have hlz : w.heap.size ≤ w6.heap.size := HI6.out.1.bel.size
  have h13z : a13 < w6.heap.size := by have := hb6.size; omega
  have hbs' : a13 < bs := by omega
  clear hb6 hcs hbs HJ5
  gi_wp2
  refine rangeFunc_seq (n := n) (w := w6) rfl (by omega) (gf := 27) (lb := #[.pointer (some ⟨bs, 0, none⟩)]) rfl trivial (enters_of Try.func27 (by kernel_rfl) rfl)
    (encs := encF) (fun _ => rfl) (el := fun k x _ => s.A[k]? = some x.1 ∧ x.2 = (s.cel x.1).fv) (N := s.A.length) (R := RFs bs b1 g1 s)
    (fun k _ V => FpJ w a10 a11 a13 b1 g1 b2 g2 s (.slice yl s.A.length cl) k V ∧ V.cell? ⟨bs, 0, none⟩ = some (.pointer (some ⟨b1, 0, none⟩))) (fun _ _ _ _ => False) ?hI ?hIx ?hR HI6.out
    (fun k _ x1 a V => (FpJ w a10 a11 a13 b1 g1 b2 g2 s (.slice yl s.A.length cl) k V ∧ V.cell? ⟨bs, 0, none⟩ = some (.pointer (some ⟨b1, 0, none⟩))) ∧ s.A[k]? = some x1.1 ∧ ∃ cb, (V.cell? ⟨cb, 0, none⟩ = some (.bool (ofP (s.cel x1.1).fa.toNat)) ∧ V.cell? ⟨cb, 1, none⟩ = some (.bool (ofN (s.cel x1.1).fa.toNat)) ∧ V.cell? ⟨cb, 2, none⟩ = some (.int .i64 (ofD (s.cel x1.1).fa.toNat)) ∧ V.cell? ⟨cb, 3, none⟩ = some (.bool (ofM (s.cel x1.1).fa.toNat))) ∧ a = { tmps := #[.int .u8 m, .slice x ac.length cp, .int .i64 nz, .int .u8 st, undef, undef, undef, undef, .pointer (some ⟨w.heap.size, 0, none⟩), .pointer (some ⟨b1, 0, none⟩), .pointer (some ⟨a10, 0, none⟩), .pointer (some ⟨a11, 0, none⟩), .int .i64 0, .pointer (some ⟨a13, 0, none⟩), .int .i64 (x1.1 : Nat), .pointer (some ⟨cb, 0, none⟩), undef, undef, undef, undef, undef, undef, .bool true, .bool false, .tuple #[.pointer (some ⟨b1, 0, none⟩), .pointer (some ⟨b2, 0, none⟩)], .int .u8 m, .slice x ac.length cp, .tuple #[.pointer (some ⟨b1, 0, none⟩), .pointer (some ⟨b2, 0, none⟩)], .pointer (some ⟨b1, 0, none⟩), .pointer (some ⟨b2, 0, none⟩), .pointer (some ⟨b2, 0, none⟩), .slice yl s.A.length cl, .pointer (some ⟨b1, 0, none⟩), .func (.func 27) #[] #[.pointer (some ⟨bs, 0, none⟩)], .int .i64 (x1.1 : Nat), x1.2, undef, undef, undef, undef, undef, undef, undef, undef, undef, undef, undef, undef, undef, undef, undef, undef, undef, undef, undef, undef, undef, undef, undef, undef, undef, undef, undef, undef, undef, undef, undef, undef, undef, undef, undef, undef, undef, undef, undef, undef, undef, undef, undef, undef, undef, undef, undef, undef, undef, undef, undef, undef, undef, undef, undef, undef, undef, undef, undef, undef, undef, undef, undef, undef, undef, undef, undef, undef, undef, undef, undef, undef, undef, undef, undef, undef, undef, undef, undef, undef, undef, undef, undef, undef, undef, undef, undef, undef, undef, undef, undef, undef, undef, undef, undef, undef, undef, undef, undef, undef, undef, undef, undef, undef, undef, undef, undef, undef, undef, undef, undef, undef, undef, undef], defers := [] }) ?hAx ?assign ?body ?iter ?done ?stop
  case hI => exact fun k S A C hg ⟨h1, h2⟩ => ⟨h1.grow hg hlz, cell_grow hg h2⟩
  case hIx => exact fun c k S A C hg h => h.elim
  case hR => exact fun k S V h => ⟨h.2, h.1.sp⟩
  case hAx => exact fun k S x a A C hg ⟨⟨h1, h2⟩, h6, cb, h7, h8⟩ => ⟨⟨h1.grow hg hlz, cell_grow hg h2⟩, h6, cb, ⟨cell_grow hg h7.1, cell_grow hg h7.2.1, cell_grow hg h7.2.2.1, cell_grow hg h7.2.2.2⟩, h8⟩
  case iter => exact fun o1 o2 _ _ => fields_seq (n - 1) (by omega) bs b1 g1 s HI6.out.1.sp.ok.pos _
  case assign =>
    rintro l' k ⟨x1, c⟩ S V KK hk ⟨hx, hc⟩ hi hsz hK
    dsimp only at hx hc
    subst hc
    have HK := hid hK
    have HI := hid hi
    have HX := hid hx
    have HFV := hid (show (s.cel x1).fv = .agg #[.bool (ofP (s.cel x1).fa.toNat), .bool (ofN (s.cel x1).fa.toNat), .int .i64 (ofD (s.cel x1).fa.toNat), .bool (ofM (s.cel x1).fa.toNat)] from rfl)
    clear hK hi hx
    rw [HFV.out] at HK ⊢
    generalize ofP (s.cel x1).fa.toNat = fp at *
    generalize ofN (s.cel x1).fa.toNat = fn at *
    generalize ofD (s.cel x1).fa.toNat = fd at *
    generalize ofM (s.cel x1).fa.toNat = fm at *
    gi_wp2
    obtain ⟨h1, h2⟩ := HI.out
    have hg := Grow.alloc V (.cells #[.bool fp, .bool fn, .int .i64 fd, .bool fm] 34) w6.heap.size
    refine HK.out _ _ (Touch.alloc V _ _ S) ⟨⟨h1.grow hg hlz, cell_grow hg h2⟩, HX.out, V.heap.size, ⟨by simp [go_sem], by simp [go_sem], by simp [go_sem], by simp [go_sem]⟩, rfl⟩
  case body =>
    rintro l' k ⟨x, fv⟩ S a' V hk ⟨hJ, hx, cb, ⟨z0, z1, z2, z3⟩, rfl⟩ hsz
    dsimp only at hx z0 z1 z2 z3
    have HJ := hid hJ
    obtain ⟨hkl, hxe⟩ := List.getElem?_eq_some_iff.1 hx
    have hmem := attP_mem (P := s.P) (N := s.L.length) (List.mem_of_getElem? hx)
    have hN := hJ.1.sp.ok.pos
    have hRF := fun W (hb : Below V.heap.size V W) => rfield_any (b := b2) (g := g2) (s := s) x hmem.1 W (hJ.1.rf.below hb)
    have HRF := hid (fun W (hb : Below V.heap.size V W) => (show Calls Try.prog 8 #[.pointer (some ⟨b2, 0, none⟩), .int .i64 (x : Nat)] W fun e w' => e = .returned (.agg #[.bool (ofP (s.cel x).fa.toNat), .bool (ofN (s.cel x).fa.toNat), .int .i64 (ofD (s.cel x).fa.toNat), .bool (ofM (s.cel x).fa.toNat)]) ∧ Below W.heap.size W w' from hRF W hb))
    have hcl := ints_cells (xs := s.A.map Int.ofNat) (by rw [List.length_map]; exact hJ.1.own)
    rw [List.length_map] at hcl
    rcases hcl with ⟨x', c', e0, h0⟩ | ⟨gl, cl', el, hcl⟩
    · have : s.A.length = 0 := by rw [← List.length_map (f := Int.ofNat), h0]; rfl
      omega
    injection el with el1 el2 el3
    subst el1
    obtain rfl : cl = cl' := el3
    have cg : V.cell? ⟨gl, k, none⟩ = some (.int .i64 (x : Nat)) := by
      have q := hcl k hkl
      rw [Nat.zero_add] at q
      rw [q, List.getD_eq_getElem?_getD, List.getElem?_map, hx]
      rfl
    have hNA : s.A.length ≤ 3564 := Nat.le_trans (attP_len _ _) hN.2
    clear hcl hRF hxe hx
    generalize ofP (s.cel x).fa.toNat = fp at *
    generalize ofN (s.cel x).fa.toNat = fn at *
    generalize ofD (s.cel x).fa.toNat = fd at *
    generalize ofM (s.cel x).fa.toNat = fm at *
    have hki : (k : Int) < (s.A.length : Nat) := by omega
    have hkge : ¬ ((s.A.length : Nat) : Int) ≤ k := by omega
    obtain ⟨V0, hV0⟩ : ∃ V0, V.drew = V0 := ⟨_, rfl⟩
    have HB0 := hid (show Below V.heap.size V V0 by rw [← hV0]; exact (Below.refl _ _).drew)
    have z0 := keepc HB0.out z0
    have z1 := keepc HB0.out z1
    have z2 := keepc HB0.out z2
    have z3 := keepc HB0.out z3
    have lz := World.block_lt_of_cell? V0 _ z0
    have y10 := keepc HB0.out hJ.1.c10
    have l10 := World.block_lt_of_cell? V0 _ y10
    have y11 := keepc HB0.out hJ.1.c11
    have l11 := World.block_lt_of_cell? V0 _ y11
    have y13 := keepc HB0.out hJ.1.c13
    have l13' := World.block_lt_of_cell? V0 _ y13
    have cg := keepc HB0.out cg
    have lg := World.block_lt_of_cell? V0 _ cg
    clear hJ
    gi_wp2
    refine wpIn_region_round (by kernel_rfl) (by kernel_rfl) ?_
    rw [hV0]
    refine wpAnyIn_ready (rs := [0, 1]) (by kernel_rfl) (by simp) ?_
    refine AllReadyIn.cons (by simp only [List.getElem?_toArray, List.getElem?_cons_zero]; rfl) (fun K hK => ?_) (AllReadyIn.cons (by simp only [List.getElem?_toArray, List.getElem?_cons_succ, List.getElem?_cons_zero]; rfl) (fun K hK => ?_) AllReadyIn.nil)
    · go_simp
      refine hK _ _ ?_
      clear hK K
      (try simp only [Act.put])
      (try simp only [List.setIfInBounds_toArray])
      (try simp only [List.set_cons_succ])
      (try simp only [List.set_cons_zero])
      refine wpAnyIn_ready (rs := [1]) (by kernel_rfl) (by simp) ?_
      refine AllReadyIn.cons (by simp only [List.getElem?_toArray, List.getElem?_cons_succ, List.getElem?_cons_zero]; rfl) (fun K hK => ?_) AllReadyIn.nil
      · go_simp
        refine hK _ _ ?_
        clear hK K
        (try simp only [Act.put])
        (try simp only [List.setIfInBounds_toArray])
        (try simp only [List.set_cons_succ])
        (try simp only [List.set_cons_zero])
        refine wpAnyIn_take (i := 2) (v := .int .i64 (s.A.length : Nat)) (fuel := 16) rfl rfl (by kernel_rfl) (by kernel_rfl) (by kernel_rfl) (fun _ _ _ h => h) ⟨Or.inl ⟨by rfl, fun w => ?_⟩, fun _ => rfl⟩ ?_
        · go_simp
          try with_reducible rfl
        (try simp only [Act.put])
        (try simp only [List.setIfInBounds_toArray])
        (try simp only [List.set_cons_succ])
        (try simp only [List.set_cons_zero])
        refine wpAnyIn_take (i := 3) (v := .bool false) (fuel := 15) rfl rfl (by kernel_rfl) (by kernel_rfl) (by kernel_rfl) (fun _ _ _ h => h) ⟨Or.inl ⟨by rfl, fun w => ?_⟩, fun _ => rfl⟩ ?_
        · go_simp
          try with_reducible rfl
        (try simp only [Act.put])
        (try simp only [List.setIfInBounds_toArray])
        (try simp only [List.set_cons_succ])
        (try simp only [List.set_cons_zero])
        refine wpAnyIn_take (i := 4) (v := .bool false) (fuel := 14) rfl rfl (by kernel_rfl) (by kernel_rfl) (by kernel_rfl) (fun _ _ _ h => h) ⟨Or.inl ⟨by rfl, fun w => ?_⟩, fun _ => rfl⟩ ?_
        · go_simp
          try with_reducible rfl
        (try simp only [Act.put])
        (try simp only [List.setIfInBounds_toArray])
        (try simp only [List.set_cons_succ])
        (try simp only [List.set_cons_zero])
        refine wpAnyIn_take (i := 9) (v := .int .i64 (x : Nat)) (fuel := 13) rfl rfl (by kernel_rfl) (by kernel_rfl) (by kernel_rfl) (fun _ _ _ h => h) ⟨Or.inl ⟨by rfl, fun w => ?_⟩, fun _ => rfl⟩ ?_
        · go_simp
          try with_reducible rfl
        (try simp only [Act.put])
        (try simp only [List.setIfInBounds_toArray])
        (try simp only [List.set_cons_succ])
        (try simp only [List.set_cons_zero])
        refine wpAnyIn_ready (rs := [5, 6]) (by kernel_rfl) (by simp) ?_
        refine AllReadyIn.cons (by simp only [List.getElem?_toArray, List.getElem?_cons_succ, List.getElem?_cons_zero]; rfl) (fun K hK => ?_) (AllReadyIn.cons (by simp only [List.getElem?_toArray, List.getElem?_cons_succ, List.getElem?_cons_zero]; rfl) (fun K hK => ?_) AllReadyIn.nil)
        · go_simp
          refine hK _ _ ?_
          clear hK K
          (try simp only [Act.put])
          (try simp only [List.setIfInBounds_toArray])
          (try simp only [List.set_cons_succ])
          (try simp only [List.set_cons_zero])
          refine wpAnyIn_ready (rs := [6]) (by kernel_rfl) (by simp) ?_
          refine AllReadyIn.cons (by simp only [List.getElem?_toArray, List.getElem?_cons_succ, List.getElem?_cons_zero]; rfl) (fun K hK => ?_) AllReadyIn.nil
          · go_simp
            refine hK _ _ ?_
            clear hK K
            (try simp only [Act.put])
            (try simp only [List.setIfInBounds_toArray])
            (try simp only [List.set_cons_succ])
            (try simp only [List.set_cons_zero])
            refine wpAnyIn_take (i := 7) (v := .pointer (some ⟨gl, k, none⟩)) (fuel := 10) rfl rfl (by kernel_rfl) (by kernel_rfl) (by kernel_rfl) (fun _ _ _ h => h) ⟨Or.inl ⟨by rfl, fun w => ?_⟩, fun _ => rfl⟩ ?_
            · go_simp
              try with_reducible rfl
            (try simp only [Act.put])
            (try simp only [List.setIfInBounds_toArray])
            (try simp only [List.set_cons_succ])
            (try simp only [List.set_cons_zero])
            refine wpAnyIn_ready (rs := [8]) (by kernel_rfl) (by simp) ?_
            refine AllReadyIn.cons (by simp only [List.getElem?_toArray, List.getElem?_cons_succ, List.getElem?_cons_zero]; rfl) (fun K hK => ?_) AllReadyIn.nil
            · go_simp
              refine hK _ _ ?_
              clear hK K
              (try simp only [Act.put])
              (try simp only [List.setIfInBounds_toArray])
              (try simp only [List.set_cons_succ])
              (try simp only [List.set_cons_zero])
              refine wpAnyIn_take (i := 10) (v := .bool false) (fuel := 8) rfl rfl (by kernel_rfl) (by kernel_rfl) (by kernel_rfl) (fun _ _ _ h => h) ⟨Or.inl ⟨by rfl, fun w => ?_⟩, fun _ => rfl⟩ ?_
              · go_simp
                try with_reducible rfl
              (try simp only [Act.put])
              (try simp only [List.setIfInBounds_toArray])
              (try simp only [List.set_cons_succ])
              (try simp only [List.set_cons_zero])
              refine wpAnyIn_take (i := 11) (v := .bool false) (fuel := 7) rfl rfl (by kernel_rfl) (by kernel_rfl) (by kernel_rfl) (fun _ _ _ h => h) ⟨Or.inl ⟨by rfl, fun w => ?_⟩, fun _ => rfl⟩ ?_
              · go_simp
                try with_reducible rfl
              (try simp only [Act.put])
              (try simp only [List.setIfInBounds_toArray])
              (try simp only [List.set_cons_succ])
              (try simp only [List.set_cons_zero])
              refine wpAnyIn_take (i := 12) (v := .bool false) (fuel := 6) rfl rfl (by kernel_rfl) (by kernel_rfl) (by kernel_rfl) (fun _ _ _ h => h) ⟨Or.inl ⟨by rfl, fun w => ?_⟩, fun _ => rfl⟩ ?_
              · go_simp
                try with_reducible rfl
              (try simp only [Act.put])
              (try simp only [List.setIfInBounds_toArray])
              (try simp only [List.set_cons_succ])
              (try simp only [List.set_cons_zero])
              refine wpAnyIn_take (i := 15) (v := .int .i64 (x : Nat)) (fuel := 5) rfl rfl (by kernel_rfl) (by kernel_rfl) (by kernel_rfl) (fun _ _ _ h => h) ⟨Or.inl ⟨by rfl, fun w => ?_⟩, fun _ => rfl⟩ ?_
              · go_simp
                try with_reducible rfl
              (try simp only [Act.put])
              (try simp only [List.setIfInBounds_toArray])
              (try simp only [List.set_cons_succ])
              (try simp only [List.set_cons_zero])
              refine wpAnyIn_ready (rs := [13, 14]) (by kernel_rfl) (by simp) ?_
              refine AllReadyIn.cons (by simp only [List.getElem?_toArray, List.getElem?_cons_succ, List.getElem?_cons_zero]; rfl) (fun K hK => ?_) (AllReadyIn.cons (by simp only [List.getElem?_toArray, List.getElem?_cons_succ, List.getElem?_cons_zero]; rfl) (fun K hK => ?_) AllReadyIn.nil)
              · go_simp
                refine hK _ _ ?_
                clear hK K
                (try simp only [Act.put])
                (try simp only [List.setIfInBounds_toArray])
                (try simp only [List.set_cons_succ])
                (try simp only [List.set_cons_zero])
                refine wpAnyIn_ready (rs := [14]) (by kernel_rfl) (by simp) ?_
                refine AllReadyIn.cons (by simp only [List.getElem?_toArray, List.getElem?_cons_succ, List.getElem?_cons_zero]; rfl) (fun K hK => ?_) AllReadyIn.nil
                · go_simp
                  refine hK _ _ ?_
                  clear hK K
                  (try simp only [Act.put])
                  (try simp only [List.setIfInBounds_toArray])
                  (try simp only [List.set_cons_succ])
                  (try simp only [List.set_cons_zero])
                  refine wpAnyIn_ready (rs := [16]) (by kernel_rfl) (by simp) ?_
                  refine AllReadyIn.cons (by simp only [List.getElem?_toArray, List.getElem?_cons_succ, List.getElem?_cons_zero]; rfl) (fun K hK => ?_) AllReadyIn.nil
                  · go_simp
                    refine ⟨trivial, fun _ => (by omega), ?_⟩
                    refine (callsIn_wide.2 (HRF.out _ HB0.out)).mono ?_
                    rintro e wk ⟨rfl, hbk⟩
                    refine hK _ _ ?_
                    clear hK K
                    have HBk := hid (below_t HB0.out hbk)
                    have k0 := keepc hbk z0
                    have k1 := keepc hbk z1
                    have k2 := keepc hbk z2
                    have k3 := keepc hbk z3
                    have lk := World.block_lt_of_cell? wk _ k0
                    clear hbk
                    (try simp only [Act.put])
                    (try simp only [List.setIfInBounds_toArray])
                    (try simp only [List.set_cons_succ])
                    (try simp only [List.set_cons_zero])
                    refine wpAnyIn_take (i := 17) (v := .bool false) (fuel := 1) rfl rfl (by kernel_rfl) (by kernel_rfl) (by kernel_rfl) (fun _ _ _ h => h) ⟨Or.inl ⟨by rfl, fun w => ?_⟩, fun _ => rfl⟩ ?_
                    · go_simp
                      try with_reducible rfl
                    (try simp only [Act.put])
                    (try simp only [List.setIfInBounds_toArray])
                    (try simp only [List.set_cons_succ])
                    (try simp only [List.set_cons_zero])
                    refine wpAnyIn_take (i := 18) (v := .bool false) (fuel := 0) rfl rfl (by kernel_rfl) (by kernel_rfl) (by kernel_rfl) (fun _ _ _ h => h) ⟨Or.inl ⟨by rfl, fun w => ?_⟩, fun _ => rfl⟩ ?_
                    · go_simp
                      try with_reducible rfl
                    (try simp only [Act.put])
                    (try simp only [List.setIfInBounds_toArray])
                    (try simp only [List.set_cons_succ])
                    (try simp only [List.set_cons_zero])
                    refine wpAnyIn_done (by kernel_rfl) ?_ _
                    have hJk := HJ.out.1.below HBk.out
                    have q13 := hJk.c13
                    have r13 := hJk.f13
                    have l13 := World.block_lt_of_cell? wk _ q13
                    have hwr : IntKind.i64.wrap ((k : Int) + 1) = (k : Int) + 1 := wrapI (i64_small (by omega) (by omega))
                    gi_wp2
                    refine ⟨S, (Touch.below HBk.out _ S).trans (Touch.set wk ⟨a13, 0, none⟩ _ (.inl h13z)), ?_, ?_⟩
                    · have q := hJk.next HAP.out.1 HAP.out.2.1 HAP.out.2.2.1 HAP.out.2.2.2.1 HAP.out.2.2.2.2.1 (k + 1)
                      push_cast at q
                      exact q
                    · exact (World.cell?_setCell_far wk ⟨a13, 0, none⟩ ⟨bs, 0, none⟩ _ (by simp; omega)).trans (keepc HBk.out HJ.out.2)
              · go_simp
                refine hK _ _ ?_
                clear hK K
                (try simp only [Act.put])
                (try simp only [List.setIfInBounds_toArray])
                (try simp only [List.set_cons_succ])
                (try simp only [List.set_cons_zero])
                refine wpAnyIn_ready (rs := [13, 16]) (by kernel_rfl) (by simp) ?_
                refine AllReadyIn.cons (by simp only [List.getElem?_toArray, List.getElem?_cons_succ, List.getElem?_cons_zero]; rfl) (fun K hK => ?_) (AllReadyIn.cons (by simp only [List.getElem?_toArray, List.getElem?_cons_succ, List.getElem?_cons_zero]; rfl) (fun K hK => ?_) AllReadyIn.nil)
                · go_simp
                  refine hK _ _ ?_
                  clear hK K
                  (try simp only [Act.put])
                  (try simp only [List.setIfInBounds_toArray])
                  (try simp only [List.set_cons_succ])
                  (try simp only [List.set_cons_zero])
                  refine wpAnyIn_ready (rs := [16]) (by kernel_rfl) (by simp) ?_
                  refine AllReadyIn.cons (by simp only [List.getElem?_toArray, List.getElem?_cons_succ, List.getElem?_cons_zero]; rfl) (fun K hK => ?_) AllReadyIn.nil
                  · go_simp
                    refine ⟨trivial, fun _ => (by omega), ?_⟩
                    refine (callsIn_wide.2 (HRF.out _ HB0.out)).mono ?_
                    rintro e wk ⟨rfl, hbk⟩
                    refine hK _ _ ?_
                    clear hK K
                    have HBk := hid (below_t HB0.out hbk)
                    have k0 := keepc hbk z0
                    have k1 := keepc hbk z1
                    have k2 := keepc hbk z2
                    have k3 := keepc hbk z3
                    have lk := World.block_lt_of_cell? wk _ k0
                    clear hbk
                    (try simp only [Act.put])
                    (try simp only [List.setIfInBounds_toArray])
                    (try simp only [List.set_cons_succ])
                    (try simp only [List.set_cons_zero])
                    refine wpAnyIn_take (i := 17) (v := .bool false) (fuel := 1) rfl rfl (by kernel_rfl) (by kernel_rfl) (by kernel_rfl) (fun _ _ _ h => h) ⟨Or.inl ⟨by rfl, fun w => ?_⟩, fun _ => rfl⟩ ?_
                    · go_simp
                      try with_reducible rfl
                    (try simp only [Act.put])
                    (try simp only [List.setIfInBounds_toArray])
                    (try simp only [List.set_cons_succ])
                    (try simp only [List.set_cons_zero])
                    refine wpAnyIn_take (i := 18) (v := .bool false) (fuel := 0) rfl rfl (by kernel_rfl) (by kernel_rfl) (by kernel_rfl) (fun _ _ _ h => h) ⟨Or.inl ⟨by rfl, fun w => ?_⟩, fun _ => rfl⟩ ?_
                    · go_simp
                      try with_reducible rfl
                    (try simp only [Act.put])
                    (try simp only [List.setIfInBounds_toArray])
                    (try simp only [List.set_cons_succ])
                    (try simp only [List.set_cons_zero])
                    refine wpAnyIn_done (by kernel_rfl) ?_ _
                    have hJk := HJ.out.1.below HBk.out
                    have q13 := hJk.c13
                    have r13 := hJk.f13
                    have l13 := World.block_lt_of_cell? wk _ q13
                    have hwr : IntKind.i64.wrap ((k : Int) + 1) = (k : Int) + 1 := wrapI (i64_small (by omega) (by omega))
                    gi_wp2
                    refine ⟨S, (Touch.below HBk.out _ S).trans (Touch.set wk ⟨a13, 0, none⟩ _ (.inl h13z)), ?_, ?_⟩
                    · have q := hJk.next HAP.out.1 HAP.out.2.1 HAP.out.2.2.1 HAP.out.2.2.2.1 HAP.out.2.2.2.2.1 (k + 1)
                      push_cast at q
                      exact q
                    · exact (World.cell?_setCell_far wk ⟨a13, 0, none⟩ ⟨bs, 0, none⟩ _ (by simp; omega)).trans (keepc HBk.out HJ.out.2)
                · go_simp
                  refine ⟨trivial, fun _ => (by omega), ?_⟩
                  refine (callsIn_wide.2 (HRF.out _ HB0.out)).mono ?_
                  rintro e wk ⟨rfl, hbk⟩
                  refine hK _ _ ?_
                  clear hK K
                  have HBk := hid (below_t HB0.out hbk)
                  have k0 := keepc hbk z0
                  have k1 := keepc hbk z1
                  have k2 := keepc hbk z2
                  have k3 := keepc hbk z3
                  have lk := World.block_lt_of_cell? wk _ k0
                  clear hbk
                  (try simp only [Act.put])
                  (try simp only [List.setIfInBounds_toArray])
                  (try simp only [List.set_cons_succ])
                  (try simp only [List.set_cons_zero])
                  refine wpAnyIn_ready (rs := [13]) (by kernel_rfl) (by simp) ?_
                  refine AllReadyIn.cons (by simp only [List.getElem?_toArray, List.getElem?_cons_succ, List.getElem?_cons_zero]; rfl) (fun K hK => ?_) AllReadyIn.nil
                  · go_simp
                    refine hK _ _ ?_
                    clear hK K
                    (try simp only [Act.put])
                    (try simp only [List.setIfInBounds_toArray])
                    (try simp only [List.set_cons_succ])
                    (try simp only [List.set_cons_zero])
                    refine wpAnyIn_take (i := 17) (v := .bool false) (fuel := 1) rfl rfl (by kernel_rfl) (by kernel_rfl) (by kernel_rfl) (fun _ _ _ h => h) ⟨Or.inl ⟨by rfl, fun w => ?_⟩, fun _ => rfl⟩ ?_
                    · go_simp
                      try with_reducible rfl
                    (try simp only [Act.put])
                    (try simp only [List.setIfInBounds_toArray])
                    (try simp only [List.set_cons_succ])
                    (try simp only [List.set_cons_zero])
                    refine wpAnyIn_take (i := 18) (v := .bool false) (fuel := 0) rfl rfl (by kernel_rfl) (by kernel_rfl) (by kernel_rfl) (fun _ _ _ h => h) ⟨Or.inl ⟨by rfl, fun w => ?_⟩, fun _ => rfl⟩ ?_
                    · go_simp
                      try with_reducible rfl
                    (try simp only [Act.put])
                    (try simp only [List.setIfInBounds_toArray])
                    (try simp only [List.set_cons_succ])
                    (try simp only [List.set_cons_zero])
                    refine wpAnyIn_done (by kernel_rfl) ?_ _
                    have hJk := HJ.out.1.below HBk.out
                    have q13 := hJk.c13
                    have r13 := hJk.f13
                    have l13 := World.block_lt_of_cell? wk _ q13
                    have hwr : IntKind.i64.wrap ((k : Int) + 1) = (k : Int) + 1 := wrapI (i64_small (by omega) (by omega))
                    gi_wp2
                    refine ⟨S, (Touch.below HBk.out _ S).trans (Touch.set wk ⟨a13, 0, none⟩ _ (.inl h13z)), ?_, ?_⟩
                    · have q := hJk.next HAP.out.1 HAP.out.2.1 HAP.out.2.2.1 HAP.out.2.2.2.1 HAP.out.2.2.2.2.1 (k + 1)
                      push_cast at q
                      exact q
                    · exact (World.cell?_setCell_far wk ⟨a13, 0, none⟩ ⟨bs, 0, none⟩ _ (by simp; omega)).trans (keepc HBk.out HJ.out.2)
        · go_simp
          refine hK _ _ ?_
          clear hK K
          (try simp only [Act.put])
          (try simp only [List.setIfInBounds_toArray])
          (try simp only [List.set_cons_succ])
          (try simp only [List.set_cons_zero])
          refine wpAnyIn_ready (rs := [5]) (by kernel_rfl) (by simp) ?_
          refine AllReadyIn.cons (by simp only [List.getElem?_toArray, List.getElem?_cons_succ, List.getElem?_cons_zero]; rfl) (fun K hK => ?_) AllReadyIn.nil
          · go_simp
            refine hK _ _ ?_
            clear hK K
            (try simp only [Act.put])
            (try simp only [List.setIfInBounds_toArray])
            (try simp only [List.set_cons_succ])
            (try simp only [List.set_cons_zero])
            refine wpAnyIn_take (i := 7) (v := .pointer (some ⟨gl, k, none⟩)) (fuel := 10) rfl rfl (by kernel_rfl) (by kernel_rfl) (by kernel_rfl) (fun _ _ _ h => h) ⟨Or.inl ⟨by rfl, fun w => ?_⟩, fun _ => rfl⟩ ?_
            · go_simp
              try with_reducible rfl
            (try simp only [Act.put])
            (try simp only [List.setIfInBounds_toArray])
            (try simp only [List.set_cons_succ])
            (try simp only [List.set_cons_zero])
            refine wpAnyIn_ready (rs := [8]) (by kernel_rfl) (by simp) ?_
            refine AllReadyIn.cons (by simp only [List.getElem?_toArray, List.getElem?_cons_succ, List.getElem?_cons_zero]; rfl) (fun K hK => ?_) AllReadyIn.nil
            · go_simp
              refine hK _ _ ?_
              clear hK K
              (try simp only [Act.put])
              (try simp only [List.setIfInBounds_toArray])
              (try simp only [List.set_cons_succ])
              (try simp only [List.set_cons_zero])
              refine wpAnyIn_take (i := 10) (v := .bool false) (fuel := 8) rfl rfl (by kernel_rfl) (by kernel_rfl) (by kernel_rfl) (fun _ _ _ h => h) ⟨Or.inl ⟨by rfl, fun w => ?_⟩, fun _ => rfl⟩ ?_
              · go_simp
                try with_reducible rfl
              (try simp only [Act.put])
              (try simp only [List.setIfInBounds_toArray])
              (try simp only [List.set_cons_succ])
              (try simp only [List.set_cons_zero])
              refine wpAnyIn_take (i := 11) (v := .bool false) (fuel := 7) rfl rfl (by kernel_rfl) (by kernel_rfl) (by kernel_rfl) (fun _ _ _ h => h) ⟨Or.inl ⟨by rfl, fun w => ?_⟩, fun _ => rfl⟩ ?_
              · go_simp
                try with_reducible rfl
              (try simp only [Act.put])
              (try simp only [List.setIfInBounds_toArray])
              (try simp only [List.set_cons_succ])
              (try simp only [List.set_cons_zero])
              refine wpAnyIn_take (i := 12) (v := .bool false) (fuel := 6) rfl rfl (by kernel_rfl) (by kernel_rfl) (by kernel_rfl) (fun _ _ _ h => h) ⟨Or.inl ⟨by rfl, fun w => ?_⟩, fun _ => rfl⟩ ?_
              · go_simp
                try with_reducible rfl
              (try simp only [Act.put])
              (try simp only [List.setIfInBounds_toArray])
              (try simp only [List.set_cons_succ])
              (try simp only [List.set_cons_zero])
              refine wpAnyIn_take (i := 15) (v := .int .i64 (x : Nat)) (fuel := 5) rfl rfl (by kernel_rfl) (by kernel_rfl) (by kernel_rfl) (fun _ _ _ h => h) ⟨Or.inl ⟨by rfl, fun w => ?_⟩, fun _ => rfl⟩ ?_
              · go_simp
                try with_reducible rfl
              (try simp only [Act.put])
              (try simp only [List.setIfInBounds_toArray])
              (try simp only [List.set_cons_succ])
              (try simp only [List.set_cons_zero])
              refine wpAnyIn_ready (rs := [13, 14]) (by kernel_rfl) (by simp) ?_
              refine AllReadyIn.cons (by simp only [List.getElem?_toArray, List.getElem?_cons_succ, List.getElem?_cons_zero]; rfl) (fun K hK => ?_) (AllReadyIn.cons (by simp only [List.getElem?_toArray, List.getElem?_cons_succ, List.getElem?_cons_zero]; rfl) (fun K hK => ?_) AllReadyIn.nil)
              · go_simp
                refine hK _ _ ?_
                clear hK K
                (try simp only [Act.put])
                (try simp only [List.setIfInBounds_toArray])
                (try simp only [List.set_cons_succ])
                (try simp only [List.set_cons_zero])
                refine wpAnyIn_ready (rs := [14]) (by kernel_rfl) (by simp) ?_
                refine AllReadyIn.cons (by simp only [List.getElem?_toArray, List.getElem?_cons_succ, List.getElem?_cons_zero]; rfl) (fun K hK => ?_) AllReadyIn.nil
                · go_simp
                  refine hK _ _ ?_
                  clear hK K
                  (try simp only [Act.put])
                  (try simp only [List.setIfInBounds_toArray])
                  (try simp only [List.set_cons_succ])
                  (try simp only [List.set_cons_zero])
                  refine wpAnyIn_ready (rs := [16]) (by kernel_rfl) (by simp) ?_
                  refine AllReadyIn.cons (by simp only [List.getElem?_toArray, List.getElem?_cons_succ, List.getElem?_cons_zero]; rfl) (fun K hK => ?_) AllReadyIn.nil
                  · go_simp
                    refine ⟨trivial, fun _ => (by omega), ?_⟩
                    refine (callsIn_wide.2 (HRF.out _ HB0.out)).mono ?_
                    rintro e wk ⟨rfl, hbk⟩
                    refine hK _ _ ?_
                    clear hK K
                    have HBk := hid (below_t HB0.out hbk)
                    have k0 := keepc hbk z0
                    have k1 := keepc hbk z1
                    have k2 := keepc hbk z2
                    have k3 := keepc hbk z3
                    have lk := World.block_lt_of_cell? wk _ k0
                    clear hbk
                    (try simp only [Act.put])
                    (try simp only [List.setIfInBounds_toArray])
                    (try simp only [List.set_cons_succ])
                    (try simp only [List.set_cons_zero])
                    refine wpAnyIn_take (i := 17) (v := .bool false) (fuel := 1) rfl rfl (by kernel_rfl) (by kernel_rfl) (by kernel_rfl) (fun _ _ _ h => h) ⟨Or.inl ⟨by rfl, fun w => ?_⟩, fun _ => rfl⟩ ?_
                    · go_simp
                      try with_reducible rfl
                    (try simp only [Act.put])
                    (try simp only [List.setIfInBounds_toArray])
                    (try simp only [List.set_cons_succ])
                    (try simp only [List.set_cons_zero])
                    refine wpAnyIn_take (i := 18) (v := .bool false) (fuel := 0) rfl rfl (by kernel_rfl) (by kernel_rfl) (by kernel_rfl) (fun _ _ _ h => h) ⟨Or.inl ⟨by rfl, fun w => ?_⟩, fun _ => rfl⟩ ?_
                    · go_simp
                      try with_reducible rfl
                    (try simp only [Act.put])
                    (try simp only [List.setIfInBounds_toArray])
                    (try simp only [List.set_cons_succ])
                    (try simp only [List.set_cons_zero])
                    refine wpAnyIn_done (by kernel_rfl) ?_ _
                    have hJk := HJ.out.1.below HBk.out
                    have q13 := hJk.c13
                    have r13 := hJk.f13
                    have l13 := World.block_lt_of_cell? wk _ q13
                    have hwr : IntKind.i64.wrap ((k : Int) + 1) = (k : Int) + 1 := wrapI (i64_small (by omega) (by omega))
                    gi_wp2
                    refine ⟨S, (Touch.below HBk.out _ S).trans (Touch.set wk ⟨a13, 0, none⟩ _ (.inl h13z)), ?_, ?_⟩
                    · have q := hJk.next HAP.out.1 HAP.out.2.1 HAP.out.2.2.1 HAP.out.2.2.2.1 HAP.out.2.2.2.2.1 (k + 1)
                      push_cast at q
                      exact q
                    · exact (World.cell?_setCell_far wk ⟨a13, 0, none⟩ ⟨bs, 0, none⟩ _ (by simp; omega)).trans (keepc HBk.out HJ.out.2)
              · go_simp
                refine hK _ _ ?_
                clear hK K
                (try simp only [Act.put])
                (try simp only [List.setIfInBounds_toArray])
                (try simp only [List.set_cons_succ])
                (try simp only [List.set_cons_zero])
                refine wpAnyIn_ready (rs := [13, 16]) (by kernel_rfl) (by simp) ?_
                refine AllReadyIn.cons (by simp only [List.getElem?_toArray, List.getElem?_cons_succ, List.getElem?_cons_zero]; rfl) (fun K hK => ?_) (AllReadyIn.cons (by simp only [List.getElem?_toArray, List.getElem?_cons_succ, List.getElem?_cons_zero]; rfl) (fun K hK => ?_) AllReadyIn.nil)
                · go_simp
                  refine hK _ _ ?_
                  clear hK K
                  (try simp only [Act.put])
                  (try simp only [List.setIfInBounds_toArray])
                  (try simp only [List.set_cons_succ])
                  (try simp only [List.set_cons_zero])
                  refine wpAnyIn_ready (rs := [16]) (by kernel_rfl) (by simp) ?_
                  refine AllReadyIn.cons (by simp only [List.getElem?_toArray, List.getElem?_cons_succ, List.getElem?_cons_zero]; rfl) (fun K hK => ?_) AllReadyIn.nil
                  · go_simp
                    refine ⟨trivial, fun _ => (by omega), ?_⟩
                    refine (callsIn_wide.2 (HRF.out _ HB0.out)).mono ?_
                    rintro e wk ⟨rfl, hbk⟩
                    refine hK _ _ ?_
                    clear hK K
                    have HBk := hid (below_t HB0.out hbk)
                    have k0 := keepc hbk z0
                    have k1 := keepc hbk z1
                    have k2 := keepc hbk z2
                    have k3 := keepc hbk z3
                    have lk := World.block_lt_of_cell? wk _ k0
                    clear hbk
                    (try simp only [Act.put])
                    (try simp only [List.setIfInBounds_toArray])
                    (try simp only [List.set_cons_succ])
                    (try simp only [List.set_cons_zero])
                    refine wpAnyIn_take (i := 17) (v := .bool false) (fuel := 1) rfl rfl (by kernel_rfl) (by kernel_rfl) (by kernel_rfl) (fun _ _ _ h => h) ⟨Or.inl ⟨by rfl, fun w => ?_⟩, fun _ => rfl⟩ ?_
                    · go_simp
                      try with_reducible rfl
                    (try simp only [Act.put])
                    (try simp only [List.setIfInBounds_toArray])
                    (try simp only [List.set_cons_succ])
                    (try simp only [List.set_cons_zero])
                    refine wpAnyIn_take (i := 18) (v := .bool false) (fuel := 0) rfl rfl (by kernel_rfl) (by kernel_rfl) (by kernel_rfl) (fun _ _ _ h => h) ⟨Or.inl ⟨by rfl, fun w => ?_⟩, fun _ => rfl⟩ ?_
                    · go_simp
                      try with_reducible rfl
                    (try simp only [Act.put])
                    (try simp only [List.setIfInBounds_toArray])
                    (try simp only [List.set_cons_succ])
                    (try simp only [List.set_cons_zero])
                    refine wpAnyIn_done (by kernel_rfl) ?_ _
                    have hJk := HJ.out.1.below HBk.out
                    have q13 := hJk.c13
                    have r13 := hJk.f13
                    have l13 := World.block_lt_of_cell? wk _ q13
                    have hwr : IntKind.i64.wrap ((k : Int) + 1) = (k : Int) + 1 := wrapI (i64_small (by omega) (by omega))
                    gi_wp2
                    refine ⟨S, (Touch.below HBk.out _ S).trans (Touch.set wk ⟨a13, 0, none⟩ _ (.inl h13z)), ?_, ?_⟩
                    · have q := hJk.next HAP.out.1 HAP.out.2.1 HAP.out.2.2.1 HAP.out.2.2.2.1 HAP.out.2.2.2.2.1 (k + 1)
                      push_cast at q
                      exact q
                    · exact (World.cell?_setCell_far wk ⟨a13, 0, none⟩ ⟨bs, 0, none⟩ _ (by simp; omega)).trans (keepc HBk.out HJ.out.2)
                · go_simp
                  refine ⟨trivial, fun _ => (by omega), ?_⟩
                  refine (callsIn_wide.2 (HRF.out _ HB0.out)).mono ?_
                  rintro e wk ⟨rfl, hbk⟩
                  refine hK _ _ ?_
                  clear hK K
                  have HBk := hid (below_t HB0.out hbk)
                  have k0 := keepc hbk z0
                  have k1 := keepc hbk z1
                  have k2 := keepc hbk z2
                  have k3 := keepc hbk z3
                  have lk := World.block_lt_of_cell? wk _ k0
                  clear hbk
                  (try simp only [Act.put])
                  (try simp only [List.setIfInBounds_toArray])
                  (try simp only [List.set_cons_succ])
                  (try simp only [List.set_cons_zero])
                  refine wpAnyIn_ready (rs := [13]) (by kernel_rfl) (by simp) ?_
                  refine AllReadyIn.cons (by simp only [List.getElem?_toArray, List.getElem?_cons_succ, List.getElem?_cons_zero]; rfl) (fun K hK => ?_) AllReadyIn.nil
                  · go_simp
                    refine hK _ _ ?_
                    clear hK K
                    (try simp only [Act.put])
                    (try simp only [List.setIfInBounds_toArray])
                    (try simp only [List.set_cons_succ])
                    (try simp only [List.set_cons_zero])
                    refine wpAnyIn_take (i := 17) (v := .bool false) (fuel := 1) rfl rfl (by kernel_rfl) (by kernel_rfl) (by kernel_rfl) (fun _ _ _ h => h) ⟨Or.inl ⟨by rfl, fun w => ?_⟩, fun _ => rfl⟩ ?_
                    · go_simp
                      try with_reducible rfl
                    (try simp only [Act.put])
                    (try simp only [List.setIfInBounds_toArray])
                    (try simp only [List.set_cons_succ])
                    (try simp only [List.set_cons_zero])
                    refine wpAnyIn_take (i := 18) (v := .bool false) (fuel := 0) rfl rfl (by kernel_rfl) (by kernel_rfl) (by kernel_rfl) (fun _ _ _ h => h) ⟨Or.inl ⟨by rfl, fun w => ?_⟩, fun _ => rfl⟩ ?_
                    · go_simp
                      try with_reducible rfl
                    (try simp only [Act.put])
                    (try simp only [List.setIfInBounds_toArray])
                    (try simp only [List.set_cons_succ])
                    (try simp only [List.set_cons_zero])
                    refine wpAnyIn_done (by kernel_rfl) ?_ _
                    have hJk := HJ.out.1.below HBk.out
                    have q13 := hJk.c13
                    have r13 := hJk.f13
                    have l13 := World.block_lt_of_cell? wk _ q13
                    have hwr : IntKind.i64.wrap ((k : Int) + 1) = (k : Int) + 1 := wrapI (i64_small (by omega) (by omega))
                    gi_wp2
                    refine ⟨S, (Touch.below HBk.out _ S).trans (Touch.set wk ⟨a13, 0, none⟩ _ (.inl h13z)), ?_, ?_⟩
                    · have q := hJk.next HAP.out.1 HAP.out.2.1 HAP.out.2.2.1 HAP.out.2.2.2.1 HAP.out.2.2.2.2.1 (k + 1)
                      push_cast at q
                      exact q
                    · exact (World.cell?_setCell_far wk ⟨a13, 0, none⟩ ⟨bs, 0, none⟩ _ (by simp; omega)).trans (keepc HBk.out HJ.out.2)
    · go_simp
      refine hK _ _ ?_
      clear hK K
      (try simp only [Act.put])
      (try simp only [List.setIfInBounds_toArray])
      (try simp only [List.set_cons_succ])
      (try simp only [List.set_cons_zero])
      refine wpAnyIn_take (i := 2) (v := .int .i64 (s.A.length : Nat)) (fuel := 17) rfl rfl (by kernel_rfl) (by kernel_rfl) (by kernel_rfl) (fun _ _ _ h => h) ⟨Or.inl ⟨by rfl, fun w => ?_⟩, fun _ => rfl⟩ ?_
      · go_simp
        try with_reducible rfl
      (try simp only [Act.put])
      (try simp only [List.setIfInBounds_toArray])
      (try simp only [List.set_cons_succ])
      (try simp only [List.set_cons_zero])
      refine wpAnyIn_ready (rs := [0]) (by kernel_rfl) (by simp) ?_
      refine AllReadyIn.cons (by simp only [List.getElem?_toArray, List.getElem?_cons_zero]; rfl) (fun K hK => ?_) AllReadyIn.nil
      · go_simp
        refine hK _ _ ?_
        clear hK K
        (try simp only [Act.put])
        (try simp only [List.setIfInBounds_toArray])
        (try simp only [List.set_cons_succ])
        (try simp only [List.set_cons_zero])
        refine wpAnyIn_take (i := 3) (v := .bool false) (fuel := 15) rfl rfl (by kernel_rfl) (by kernel_rfl) (by kernel_rfl) (fun _ _ _ h => h) ⟨Or.inl ⟨by rfl, fun w => ?_⟩, fun _ => rfl⟩ ?_
        · go_simp
          try with_reducible rfl
        (try simp only [Act.put])
        (try simp only [List.setIfInBounds_toArray])
        (try simp only [List.set_cons_succ])
        (try simp only [List.set_cons_zero])
        refine wpAnyIn_take (i := 4) (v := .bool false) (fuel := 14) rfl rfl (by kernel_rfl) (by kernel_rfl) (by kernel_rfl) (fun _ _ _ h => h) ⟨Or.inl ⟨by rfl, fun w => ?_⟩, fun _ => rfl⟩ ?_
        · go_simp
          try with_reducible rfl
        (try simp only [Act.put])
        (try simp only [List.setIfInBounds_toArray])
        (try simp only [List.set_cons_succ])
        (try simp only [List.set_cons_zero])
        refine wpAnyIn_take (i := 9) (v := .int .i64 (x : Nat)) (fuel := 13) rfl rfl (by kernel_rfl) (by kernel_rfl) (by kernel_rfl) (fun _ _ _ h => h) ⟨Or.inl ⟨by rfl, fun w => ?_⟩, fun _ => rfl⟩ ?_
        · go_simp
          try with_reducible rfl
        (try simp only [Act.put])
        (try simp only [List.setIfInBounds_toArray])
        (try simp only [List.set_cons_succ])
        (try simp only [List.set_cons_zero])
        refine wpAnyIn_ready (rs := [5, 6]) (by kernel_rfl) (by simp) ?_
        refine AllReadyIn.cons (by simp only [List.getElem?_toArray, List.getElem?_cons_succ, List.getElem?_cons_zero]; rfl) (fun K hK => ?_) (AllReadyIn.cons (by simp only [List.getElem?_toArray, List.getElem?_cons_succ, List.getElem?_cons_zero]; rfl) (fun K hK => ?_) AllReadyIn.nil)
        · go_simp
          refine hK _ _ ?_
          clear hK K
          (try simp only [Act.put])
          (try simp only [List.setIfInBounds_toArray])
          (try simp only [List.set_cons_succ])
          (try simp only [List.set_cons_zero])
          refine wpAnyIn_ready (rs := [6]) (by kernel_rfl) (by simp) ?_
          refine AllReadyIn.cons (by simp only [List.getElem?_toArray, List.getElem?_cons_succ, List.getElem?_cons_zero]; rfl) (fun K hK => ?_) AllReadyIn.nil
          · go_simp
            refine hK _ _ ?_
            clear hK K
            (try simp only [Act.put])
            (try simp only [List.setIfInBounds_toArray])
            (try simp only [List.set_cons_succ])
            (try simp only [List.set_cons_zero])
            refine wpAnyIn_take (i := 7) (v := .pointer (some ⟨gl, k, none⟩)) (fuel := 10) rfl rfl (by kernel_rfl) (by kernel_rfl) (by kernel_rfl) (fun _ _ _ h => h) ⟨Or.inl ⟨by rfl, fun w => ?_⟩, fun _ => rfl⟩ ?_
            · go_simp
              try with_reducible rfl
            (try simp only [Act.put])
            (try simp only [List.setIfInBounds_toArray])
            (try simp only [List.set_cons_succ])
            (try simp only [List.set_cons_zero])
            refine wpAnyIn_ready (rs := [8]) (by kernel_rfl) (by simp) ?_
            refine AllReadyIn.cons (by simp only [List.getElem?_toArray, List.getElem?_cons_succ, List.getElem?_cons_zero]; rfl) (fun K hK => ?_) AllReadyIn.nil
            · go_simp
              refine hK _ _ ?_
              clear hK K
              (try simp only [Act.put])
              (try simp only [List.setIfInBounds_toArray])
              (try simp only [List.set_cons_succ])
              (try simp only [List.set_cons_zero])
              refine wpAnyIn_take (i := 10) (v := .bool false) (fuel := 8) rfl rfl (by kernel_rfl) (by kernel_rfl) (by kernel_rfl) (fun _ _ _ h => h) ⟨Or.inl ⟨by rfl, fun w => ?_⟩, fun _ => rfl⟩ ?_
              · go_simp
                try with_reducible rfl
              (try simp only [Act.put])
              (try simp only [List.setIfInBounds_toArray])
              (try simp only [List.set_cons_succ])
              (try simp only [List.set_cons_zero])
              refine wpAnyIn_take (i := 11) (v := .bool false) (fuel := 7) rfl rfl (by kernel_rfl) (by kernel_rfl) (by kernel_rfl) (fun _ _ _ h => h) ⟨Or.inl ⟨by rfl, fun w => ?_⟩, fun _ => rfl⟩ ?_
              · go_simp
                try with_reducible rfl
              (try simp only [Act.put])
              (try simp only [List.setIfInBounds_toArray])
              (try simp only [List.set_cons_succ])
              (try simp only [List.set_cons_zero])
              refine wpAnyIn_take (i := 12) (v := .bool false) (fuel := 6) rfl rfl (by kernel_rfl) (by kernel_rfl) (by kernel_rfl) (fun _ _ _ h => h) ⟨Or.inl ⟨by rfl, fun w => ?_⟩, fun _ => rfl⟩ ?_
              · go_simp
                try with_reducible rfl
              (try simp only [Act.put])
              (try simp only [List.setIfInBounds_toArray])
              (try simp only [List.set_cons_succ])
              (try simp only [List.set_cons_zero])
              refine wpAnyIn_take (i := 15) (v := .int .i64 (x : Nat)) (fuel := 5) rfl rfl (by kernel_rfl) (by kernel_rfl) (by kernel_rfl) (fun _ _ _ h => h) ⟨Or.inl ⟨by rfl, fun w => ?_⟩, fun _ => rfl⟩ ?_
              · go_simp
                try with_reducible rfl
              (try simp only [Act.put])
              (try simp only [List.setIfInBounds_toArray])
              (try simp only [List.set_cons_succ])
              (try simp only [List.set_cons_zero])
              refine wpAnyIn_ready (rs := [13, 14]) (by kernel_rfl) (by simp) ?_
              refine AllReadyIn.cons (by simp only [List.getElem?_toArray, List.getElem?_cons_succ, List.getElem?_cons_zero]; rfl) (fun K hK => ?_) (AllReadyIn.cons (by simp only [List.getElem?_toArray, List.getElem?_cons_succ, List.getElem?_cons_zero]; rfl) (fun K hK => ?_) AllReadyIn.nil)
              · go_simp
                refine hK _ _ ?_
                clear hK K
                (try simp only [Act.put])
                (try simp only [List.setIfInBounds_toArray])
                (try simp only [List.set_cons_succ])
                (try simp only [List.set_cons_zero])
                refine wpAnyIn_ready (rs := [14]) (by kernel_rfl) (by simp) ?_
                refine AllReadyIn.cons (by simp only [List.getElem?_toArray, List.getElem?_cons_succ, List.getElem?_cons_zero]; rfl) (fun K hK => ?_) AllReadyIn.nil
                · go_simp
                  refine hK _ _ ?_
                  clear hK K
                  (try simp only [Act.put])
                  (try simp only [List.setIfInBounds_toArray])
                  (try simp only [List.set_cons_succ])
                  (try simp only [List.set_cons_zero])
                  refine wpAnyIn_ready (rs := [16]) (by kernel_rfl) (by simp) ?_
                  refine AllReadyIn.cons (by simp only [List.getElem?_toArray, List.getElem?_cons_succ, List.getElem?_cons_zero]; rfl) (fun K hK => ?_) AllReadyIn.nil
                  · go_simp
                    refine ⟨trivial, fun _ => (by omega), ?_⟩
                    refine (callsIn_wide.2 (HRF.out _ HB0.out)).mono ?_
                    rintro e wk ⟨rfl, hbk⟩
                    refine hK _ _ ?_
                    clear hK K
                    have HBk := hid (below_t HB0.out hbk)
                    have k0 := keepc hbk z0
                    have k1 := keepc hbk z1
                    have k2 := keepc hbk z2
                    have k3 := keepc hbk z3
                    have lk := World.block_lt_of_cell? wk _ k0
                    clear hbk
                    (try simp only [Act.put])
                    (try simp only [List.setIfInBounds_toArray])
                    (try simp only [List.set_cons_succ])
                    (try simp only [List.set_cons_zero])
                    refine wpAnyIn_take (i := 17) (v := .bool false) (fuel := 1) rfl rfl (by kernel_rfl) (by kernel_rfl) (by kernel_rfl) (fun _ _ _ h => h) ⟨Or.inl ⟨by rfl, fun w => ?_⟩, fun _ => rfl⟩ ?_
                    · go_simp
                      try with_reducible rfl
                    (try simp only [Act.put])
                    (try simp only [List.setIfInBounds_toArray])
                    (try simp only [List.set_cons_succ])
                    (try simp only [List.set_cons_zero])
                    refine wpAnyIn_take (i := 18) (v := .bool false) (fuel := 0) rfl rfl (by kernel_rfl) (by kernel_rfl) (by kernel_rfl) (fun _ _ _ h => h) ⟨Or.inl ⟨by rfl, fun w => ?_⟩, fun _ => rfl⟩ ?_
                    · go_simp
                      try with_reducible rfl
                    (try simp only [Act.put])
                    (try simp only [List.setIfInBounds_toArray])
                    (try simp only [List.set_cons_succ])
                    (try simp only [List.set_cons_zero])
                    refine wpAnyIn_done (by kernel_rfl) ?_ _
                    have hJk := HJ.out.1.below HBk.out
                    have q13 := hJk.c13
                    have r13 := hJk.f13
                    have l13 := World.block_lt_of_cell? wk _ q13
                    have hwr : IntKind.i64.wrap ((k : Int) + 1) = (k : Int) + 1 := wrapI (i64_small (by omega) (by omega))
                    gi_wp2
                    refine ⟨S, (Touch.below HBk.out _ S).trans (Touch.set wk ⟨a13, 0, none⟩ _ (.inl h13z)), ?_, ?_⟩
                    · have q := hJk.next HAP.out.1 HAP.out.2.1 HAP.out.2.2.1 HAP.out.2.2.2.1 HAP.out.2.2.2.2.1 (k + 1)
                      push_cast at q
                      exact q
                    · exact (World.cell?_setCell_far wk ⟨a13, 0, none⟩ ⟨bs, 0, none⟩ _ (by simp; omega)).trans (keepc HBk.out HJ.out.2)
              · go_simp
                refine hK _ _ ?_
                clear hK K
                (try simp only [Act.put])
                (try simp only [List.setIfInBounds_toArray])
                (try simp only [List.set_cons_succ])
                (try simp only [List.set_cons_zero])
                refine wpAnyIn_ready (rs := [13, 16]) (by kernel_rfl) (by simp) ?_
                refine AllReadyIn.cons (by simp only [List.getElem?_toArray, List.getElem?_cons_succ, List.getElem?_cons_zero]; rfl) (fun K hK => ?_) (AllReadyIn.cons (by simp only [List.getElem?_toArray, List.getElem?_cons_succ, List.getElem?_cons_zero]; rfl) (fun K hK => ?_) AllReadyIn.nil)
                · go_simp
                  refine hK _ _ ?_
                  clear hK K
                  (try simp only [Act.put])
                  (try simp only [List.setIfInBounds_toArray])
                  (try simp only [List.set_cons_succ])
                  (try simp only [List.set_cons_zero])
                  refine wpAnyIn_ready (rs := [16]) (by kernel_rfl) (by simp) ?_
                  refine AllReadyIn.cons (by simp only [List.getElem?_toArray, List.getElem?_cons_succ, List.getElem?_cons_zero]; rfl) (fun K hK => ?_) AllReadyIn.nil
                  · go_simp
                    refine ⟨trivial, fun _ => (by omega), ?_⟩
                    refine (callsIn_wide.2 (HRF.out _ HB0.out)).mono ?_
                    rintro e wk ⟨rfl, hbk⟩
                    refine hK _ _ ?_
                    clear hK K
                    have HBk := hid (below_t HB0.out hbk)
                    have k0 := keepc hbk z0
                    have k1 := keepc hbk z1
                    have k2 := keepc hbk z2
                    have k3 := keepc hbk z3
                    have lk := World.block_lt_of_cell? wk _ k0
                    clear hbk
                    (try simp only [Act.put])
                    (try simp only [List.setIfInBounds_toArray])
                    (try simp only [List.set_cons_succ])
                    (try simp only [List.set_cons_zero])
                    refine wpAnyIn_take (i := 17) (v := .bool false) (fuel := 1) rfl rfl (by kernel_rfl) (by kernel_rfl) (by kernel_rfl) (fun _ _ _ h => h) ⟨Or.inl ⟨by rfl, fun w => ?_⟩, fun _ => rfl⟩ ?_
                    · go_simp
                      try with_reducible rfl
                    (try simp only [Act.put])
                    (try simp only [List.setIfInBounds_toArray])
                    (try simp only [List.set_cons_succ])
                    (try simp only [List.set_cons_zero])
                    refine wpAnyIn_take (i := 18) (v := .bool false) (fuel := 0) rfl rfl (by kernel_rfl) (by kernel_rfl) (by kernel_rfl) (fun _ _ _ h => h) ⟨Or.inl ⟨by rfl, fun w => ?_⟩, fun _ => rfl⟩ ?_
                    · go_simp
                      try with_reducible rfl
                    (try simp only [Act.put])
                    (try simp only [List.setIfInBounds_toArray])
                    (try simp only [List.set_cons_succ])
                    (try simp only [List.set_cons_zero])
                    refine wpAnyIn_done (by kernel_rfl) ?_ _
                    have hJk := HJ.out.1.below HBk.out
                    have q13 := hJk.c13
                    have r13 := hJk.f13
                    have l13 := World.block_lt_of_cell? wk _ q13
                    have hwr : IntKind.i64.wrap ((k : Int) + 1) = (k : Int) + 1 := wrapI (i64_small (by omega) (by omega))
                    gi_wp2
                    refine ⟨S, (Touch.below HBk.out _ S).trans (Touch.set wk ⟨a13, 0, none⟩ _ (.inl h13z)), ?_, ?_⟩
                    · have q := hJk.next HAP.out.1 HAP.out.2.1 HAP.out.2.2.1 HAP.out.2.2.2.1 HAP.out.2.2.2.2.1 (k + 1)
                      push_cast at q
                      exact q
                    · exact (World.cell?_setCell_far wk ⟨a13, 0, none⟩ ⟨bs, 0, none⟩ _ (by simp; omega)).trans (keepc HBk.out HJ.out.2)
                · go_simp
                  refine ⟨trivial, fun _ => (by omega), ?_⟩
                  refine (callsIn_wide.2 (HRF.out _ HB0.out)).mono ?_
                  rintro e wk ⟨rfl, hbk⟩
                  refine hK _ _ ?_
                  clear hK K
                  have HBk := hid (below_t HB0.out hbk)
                  have k0 := keepc hbk z0
                  have k1 := keepc hbk z1
                  have k2 := keepc hbk z2
                  have k3 := keepc hbk z3
                  have lk := World.block_lt_of_cell? wk _ k0
                  clear hbk
                  (try simp only [Act.put])
                  (try simp only [List.setIfInBounds_toArray])
                  (try simp only [List.set_cons_succ])
                  (try simp only [List.set_cons_zero])
                  refine wpAnyIn_ready (rs := [13]) (by kernel_rfl) (by simp) ?_
                  refine AllReadyIn.cons (by simp only [List.getElem?_toArray, List.getElem?_cons_succ, List.getElem?_cons_zero]; rfl) (fun K hK => ?_) AllReadyIn.nil
                  · go_simp
                    refine hK _ _ ?_
                    clear hK K
                    (try simp only [Act.put])
                    (try simp only [List.setIfInBounds_toArray])
                    (try simp only [List.set_cons_succ])
                    (try simp only [List.set_cons_zero])
                    refine wpAnyIn_take (i := 17) (v := .bool false) (fuel := 1) rfl rfl (by kernel_rfl) (by kernel_rfl) (by kernel_rfl) (fun _ _ _ h => h) ⟨Or.inl ⟨by rfl, fun w => ?_⟩, fun _ => rfl⟩ ?_
                    · go_simp
                      try with_reducible rfl
                    (try simp only [Act.put])
                    (try simp only [List.setIfInBounds_toArray])
                    (try simp only [List.set_cons_succ])
                    (try simp only [List.set_cons_zero])
                    refine wpAnyIn_take (i := 18) (v := .bool false) (fuel := 0) rfl rfl (by kernel_rfl) (by kernel_rfl) (by kernel_rfl) (fun _ _ _ h => h) ⟨Or.inl ⟨by rfl, fun w => ?_⟩, fun _ => rfl⟩ ?_
                    · go_simp
                      try with_reducible rfl
                    (try simp only [Act.put])
                    (try simp only [List.setIfInBounds_toArray])
                    (try simp only [List.set_cons_succ])
                    (try simp only [List.set_cons_zero])
                    refine wpAnyIn_done (by kernel_rfl) ?_ _
                    have hJk := HJ.out.1.below HBk.out
                    have q13 := hJk.c13
                    have r13 := hJk.f13
                    have l13 := World.block_lt_of_cell? wk _ q13
                    have hwr : IntKind.i64.wrap ((k : Int) + 1) = (k : Int) + 1 := wrapI (i64_small (by omega) (by omega))
                    gi_wp2
                    refine ⟨S, (Touch.below HBk.out _ S).trans (Touch.set wk ⟨a13, 0, none⟩ _ (.inl h13z)), ?_, ?_⟩
                    · have q := hJk.next HAP.out.1 HAP.out.2.1 HAP.out.2.2.1 HAP.out.2.2.2.1 HAP.out.2.2.2.2.1 (k + 1)
                      push_cast at q
                      exact q
                    · exact (World.cell?_setCell_far wk ⟨a13, 0, none⟩ ⟨bs, 0, none⟩ _ (by simp; omega)).trans (keepc HBk.out HJ.out.2)
        · go_simp
          refine hK _ _ ?_
          clear hK K
          (try simp only [Act.put])
          (try simp only [List.setIfInBounds_toArray])
          (try simp only [List.set_cons_succ])
          (try simp only [List.set_cons_zero])
          refine wpAnyIn_ready (rs := [5]) (by kernel_rfl) (by simp) ?_
          refine AllReadyIn.cons (by simp only [List.getElem?_toArray, List.getElem?_cons_succ, List.getElem?_cons_zero]; rfl) (fun K hK => ?_) AllReadyIn.nil
          · go_simp
            refine hK _ _ ?_
            clear hK K
            (try simp only [Act.put])
            (try simp only [List.setIfInBounds_toArray])
            (try simp only [List.set_cons_succ])
            (try simp only [List.set_cons_zero])
            refine wpAnyIn_take (i := 7) (v := .pointer (some ⟨gl, k, none⟩)) (fuel := 10) rfl rfl (by kernel_rfl) (by kernel_rfl) (by kernel_rfl) (fun _ _ _ h => h) ⟨Or.inl ⟨by rfl, fun w => ?_⟩, fun _ => rfl⟩ ?_
            · go_simp
              try with_reducible rfl
            (try simp only [Act.put])
            (try simp only [List.setIfInBounds_toArray])
            (try simp only [List.set_cons_succ])
            (try simp only [List.set_cons_zero])
            refine wpAnyIn_ready (rs := [8]) (by kernel_rfl) (by simp) ?_
            refine AllReadyIn.cons (by simp only [List.getElem?_toArray, List.getElem?_cons_succ, List.getElem?_cons_zero]; rfl) (fun K hK => ?_) AllReadyIn.nil
            · go_simp
              refine hK _ _ ?_
              clear hK K
              (try simp only [Act.put])
              (try simp only [List.setIfInBounds_toArray])
              (try simp only [List.set_cons_succ])
              (try simp only [List.set_cons_zero])
              refine wpAnyIn_take (i := 10) (v := .bool false) (fuel := 8) rfl rfl (by kernel_rfl) (by kernel_rfl) (by kernel_rfl) (fun _ _ _ h => h) ⟨Or.inl ⟨by rfl, fun w => ?_⟩, fun _ => rfl⟩ ?_
              · go_simp
                try with_reducible rfl
              (try simp only [Act.put])
              (try simp only [List.setIfInBounds_toArray])
              (try simp only [List.set_cons_succ])
              (try simp only [List.set_cons_zero])
              refine wpAnyIn_take (i := 11) (v := .bool false) (fuel := 7) rfl rfl (by kernel_rfl) (by kernel_rfl) (by kernel_rfl) (fun _ _ _ h => h) ⟨Or.inl ⟨by rfl, fun w => ?_⟩, fun _ => rfl⟩ ?_
              · go_simp
                try with_reducible rfl
              (try simp only [Act.put])
              (try simp only [List.setIfInBounds_toArray])
              (try simp only [List.set_cons_succ])
              (try simp only [List.set_cons_zero])
              refine wpAnyIn_take (i := 12) (v := .bool false) (fuel := 6) rfl rfl (by kernel_rfl) (by kernel_rfl) (by kernel_rfl) (fun _ _ _ h => h) ⟨Or.inl ⟨by rfl, fun w => ?_⟩, fun _ => rfl⟩ ?_
              · go_simp
                try with_reducible rfl
              (try simp only [Act.put])
              (try simp only [List.setIfInBounds_toArray])
              (try simp only [List.set_cons_succ])
              (try simp only [List.set_cons_zero])
              refine wpAnyIn_take (i := 15) (v := .int .i64 (x : Nat)) (fuel := 5) rfl rfl (by kernel_rfl) (by kernel_rfl) (by kernel_rfl) (fun _ _ _ h => h) ⟨Or.inl ⟨by rfl, fun w => ?_⟩, fun _ => rfl⟩ ?_
              · go_simp
                try with_reducible rfl
              (try simp only [Act.put])
              (try simp only [List.setIfInBounds_toArray])
              (try simp only [List.set_cons_succ])
              (try simp only [List.set_cons_zero])
              refine wpAnyIn_ready (rs := [13, 14]) (by kernel_rfl) (by simp) ?_
              refine AllReadyIn.cons (by simp only [List.getElem?_toArray, List.getElem?_cons_succ, List.getElem?_cons_zero]; rfl) (fun K hK => ?_) (AllReadyIn.cons (by simp only [List.getElem?_toArray, List.getElem?_cons_succ, List.getElem?_cons_zero]; rfl) (fun K hK => ?_) AllReadyIn.nil)
              · go_simp
                refine hK _ _ ?_
                clear hK K
                (try simp only [Act.put])
                (try simp only [List.setIfInBounds_toArray])
                (try simp only [List.set_cons_succ])
                (try simp only [List.set_cons_zero])
                refine wpAnyIn_ready (rs := [14]) (by kernel_rfl) (by simp) ?_
                refine AllReadyIn.cons (by simp only [List.getElem?_toArray, List.getElem?_cons_succ, List.getElem?_cons_zero]; rfl) (fun K hK => ?_) AllReadyIn.nil
                · go_simp
                  refine hK _ _ ?_
                  clear hK K
                  (try simp only [Act.put])
                  (try simp only [List.setIfInBounds_toArray])
                  (try simp only [List.set_cons_succ])
                  (try simp only [List.set_cons_zero])
                  refine wpAnyIn_ready (rs := [16]) (by kernel_rfl) (by simp) ?_
                  refine AllReadyIn.cons (by simp only [List.getElem?_toArray, List.getElem?_cons_succ, List.getElem?_cons_zero]; rfl) (fun K hK => ?_) AllReadyIn.nil
                  · go_simp
                    refine ⟨trivial, fun _ => (by omega), ?_⟩
                    refine (callsIn_wide.2 (HRF.out _ HB0.out)).mono ?_
                    rintro e wk ⟨rfl, hbk⟩
                    refine hK _ _ ?_
                    clear hK K
                    have HBk := hid (below_t HB0.out hbk)
                    have k0 := keepc hbk z0
                    have k1 := keepc hbk z1
                    have k2 := keepc hbk z2
                    have k3 := keepc hbk z3
                    have lk := World.block_lt_of_cell? wk _ k0
                    clear hbk
                    (try simp only [Act.put])
                    (try simp only [List.setIfInBounds_toArray])
                    (try simp only [List.set_cons_succ])
                    (try simp only [List.set_cons_zero])
                    refine wpAnyIn_take (i := 17) (v := .bool false) (fuel := 1) rfl rfl (by kernel_rfl) (by kernel_rfl) (by kernel_rfl) (fun _ _ _ h => h) ⟨Or.inl ⟨by rfl, fun w => ?_⟩, fun _ => rfl⟩ ?_
                    · go_simp
                      try with_reducible rfl
                    (try simp only [Act.put])
                    (try simp only [List.setIfInBounds_toArray])
                    (try simp only [List.set_cons_succ])
                    (try simp only [List.set_cons_zero])
                    refine wpAnyIn_take (i := 18) (v := .bool false) (fuel := 0) rfl rfl (by kernel_rfl) (by kernel_rfl) (by kernel_rfl) (fun _ _ _ h => h) ⟨Or.inl ⟨by rfl, fun w => ?_⟩, fun _ => rfl⟩ ?_
                    · go_simp
                      try with_reducible rfl
                    (try simp only [Act.put])
                    (try simp only [List.setIfInBounds_toArray])
                    (try simp only [List.set_cons_succ])
                    (try simp only [List.set_cons_zero])
                    refine wpAnyIn_done (by kernel_rfl) ?_ _
                    have hJk := HJ.out.1.below HBk.out
                    have q13 := hJk.c13
                    have r13 := hJk.f13
                    have l13 := World.block_lt_of_cell? wk _ q13
                    have hwr : IntKind.i64.wrap ((k : Int) + 1) = (k : Int) + 1 := wrapI (i64_small (by omega) (by omega))
                    gi_wp2
                    refine ⟨S, (Touch.below HBk.out _ S).trans (Touch.set wk ⟨a13, 0, none⟩ _ (.inl h13z)), ?_, ?_⟩
                    · have q := hJk.next HAP.out.1 HAP.out.2.1 HAP.out.2.2.1 HAP.out.2.2.2.1 HAP.out.2.2.2.2.1 (k + 1)
                      push_cast at q
                      exact q
                    · exact (World.cell?_setCell_far wk ⟨a13, 0, none⟩ ⟨bs, 0, none⟩ _ (by simp; omega)).trans (keepc HBk.out HJ.out.2)
              · go_simp
                refine hK _ _ ?_
                clear hK K
                (try simp only [Act.put])
                (try simp only [List.setIfInBounds_toArray])
                (try simp only [List.set_cons_succ])
                (try simp only [List.set_cons_zero])
                refine wpAnyIn_ready (rs := [13, 16]) (by kernel_rfl) (by simp) ?_
                refine AllReadyIn.cons (by simp only [List.getElem?_toArray, List.getElem?_cons_succ, List.getElem?_cons_zero]; rfl) (fun K hK => ?_) (AllReadyIn.cons (by simp only [List.getElem?_toArray, List.getElem?_cons_succ, List.getElem?_cons_zero]; rfl) (fun K hK => ?_) AllReadyIn.nil)
                · go_simp
                  refine hK _ _ ?_
                  clear hK K
                  (try simp only [Act.put])
                  (try simp only [List.setIfInBounds_toArray])
                  (try simp only [List.set_cons_succ])
                  (try simp only [List.set_cons_zero])
                  refine wpAnyIn_ready (rs := [16]) (by kernel_rfl) (by simp) ?_
                  refine AllReadyIn.cons (by simp only [List.getElem?_toArray, List.getElem?_cons_succ, List.getElem?_cons_zero]; rfl) (fun K hK => ?_) AllReadyIn.nil
                  · go_simp
                    refine ⟨trivial, fun _ => (by omega), ?_⟩
                    refine (callsIn_wide.2 (HRF.out _ HB0.out)).mono ?_
                    rintro e wk ⟨rfl, hbk⟩
                    refine hK _ _ ?_
                    clear hK K
                    have HBk := hid (below_t HB0.out hbk)
                    have k0 := keepc hbk z0
                    have k1 := keepc hbk z1
                    have k2 := keepc hbk z2
                    have k3 := keepc hbk z3
                    have lk := World.block_lt_of_cell? wk _ k0
                    clear hbk
                    (try simp only [Act.put])
                    (try simp only [List.setIfInBounds_toArray])
                    (try simp only [List.set_cons_succ])
                    (try simp only [List.set_cons_zero])
                    refine wpAnyIn_take (i := 17) (v := .bool false) (fuel := 1) rfl rfl (by kernel_rfl) (by kernel_rfl) (by kernel_rfl) (fun _ _ _ h => h) ⟨Or.inl ⟨by rfl, fun w => ?_⟩, fun _ => rfl⟩ ?_
                    · go_simp
                      try with_reducible rfl
                    (try simp only [Act.put])
                    (try simp only [List.setIfInBounds_toArray])
                    (try simp only [List.set_cons_succ])
                    (try simp only [List.set_cons_zero])
                    refine wpAnyIn_take (i := 18) (v := .bool false) (fuel := 0) rfl rfl (by kernel_rfl) (by kernel_rfl) (by kernel_rfl) (fun _ _ _ h => h) ⟨Or.inl ⟨by rfl, fun w => ?_⟩, fun _ => rfl⟩ ?_
                    · go_simp
                      try with_reducible rfl
                    (try simp only [Act.put])
                    (try simp only [List.setIfInBounds_toArray])
                    (try simp only [List.set_cons_succ])
                    (try simp only [List.set_cons_zero])
                    refine wpAnyIn_done (by kernel_rfl) ?_ _
                    have hJk := HJ.out.1.below HBk.out
                    have q13 := hJk.c13
                    have r13 := hJk.f13
                    have l13 := World.block_lt_of_cell? wk _ q13
                    have hwr : IntKind.i64.wrap ((k : Int) + 1) = (k : Int) + 1 := wrapI (i64_small (by omega) (by omega))
                    gi_wp2
                    refine ⟨S, (Touch.below HBk.out _ S).trans (Touch.set wk ⟨a13, 0, none⟩ _ (.inl h13z)), ?_, ?_⟩
                    · have q := hJk.next HAP.out.1 HAP.out.2.1 HAP.out.2.2.1 HAP.out.2.2.2.1 HAP.out.2.2.2.2.1 (k + 1)
                      push_cast at q
                      exact q
                    · exact (World.cell?_setCell_far wk ⟨a13, 0, none⟩ ⟨bs, 0, none⟩ _ (by simp; omega)).trans (keepc HBk.out HJ.out.2)
                · go_simp
                  refine ⟨trivial, fun _ => (by omega), ?_⟩
                  refine (callsIn_wide.2 (HRF.out _ HB0.out)).mono ?_
                  rintro e wk ⟨rfl, hbk⟩
                  refine hK _ _ ?_
                  clear hK K
                  have HBk := hid (below_t HB0.out hbk)
                  have k0 := keepc hbk z0
                  have k1 := keepc hbk z1
                  have k2 := keepc hbk z2
                  have k3 := keepc hbk z3
                  have lk := World.block_lt_of_cell? wk _ k0
                  clear hbk
                  (try simp only [Act.put])
                  (try simp only [List.setIfInBounds_toArray])
                  (try simp only [List.set_cons_succ])
                  (try simp only [List.set_cons_zero])
                  refine wpAnyIn_ready (rs := [13]) (by kernel_rfl) (by simp) ?_
                  refine AllReadyIn.cons (by simp only [List.getElem?_toArray, List.getElem?_cons_succ, List.getElem?_cons_zero]; rfl) (fun K hK => ?_) AllReadyIn.nil
                  · go_simp
                    refine hK _ _ ?_
                    clear hK K
                    (try simp only [Act.put])
                    (try simp only [List.setIfInBounds_toArray])
                    (try simp only [List.set_cons_succ])
                    (try simp only [List.set_cons_zero])
                    refine wpAnyIn_take (i := 17) (v := .bool false) (fuel := 1) rfl rfl (by kernel_rfl) (by kernel_rfl) (by kernel_rfl) (fun _ _ _ h => h) ⟨Or.inl ⟨by rfl, fun w => ?_⟩, fun _ => rfl⟩ ?_
                    · go_simp
                      try with_reducible rfl
                    (try simp only [Act.put])
                    (try simp only [List.setIfInBounds_toArray])
                    (try simp only [List.set_cons_succ])
                    (try simp only [List.set_cons_zero])
                    refine wpAnyIn_take (i := 18) (v := .bool false) (fuel := 0) rfl rfl (by kernel_rfl) (by kernel_rfl) (by kernel_rfl) (fun _ _ _ h => h) ⟨Or.inl ⟨by rfl, fun w => ?_⟩, fun _ => rfl⟩ ?_
                    · go_simp
                      try with_reducible rfl
                    (try simp only [Act.put])
                    (try simp only [List.setIfInBounds_toArray])
                    (try simp only [List.set_cons_succ])
                    (try simp only [List.set_cons_zero])
                    refine wpAnyIn_done (by kernel_rfl) ?_ _
                    have hJk := HJ.out.1.below HBk.out
                    have q13 := hJk.c13
                    have r13 := hJk.f13
                    have l13 := World.block_lt_of_cell? wk _ q13
                    have hwr : IntKind.i64.wrap ((k : Int) + 1) = (k : Int) + 1 := wrapI (i64_small (by omega) (by omega))
                    gi_wp2
                    refine ⟨S, (Touch.below HBk.out _ S).trans (Touch.set wk ⟨a13, 0, none⟩ _ (.inl h13z)), ?_, ?_⟩
                    · have q := hJk.next HAP.out.1 HAP.out.2.1 HAP.out.2.2.1 HAP.out.2.2.2.1 HAP.out.2.2.2.2.1 (k + 1)
                      push_cast at q
                      exact q
                    · exact (World.cell?_setCell_far wk ⟨a13, 0, none⟩ ⟨bs, 0, none⟩ _ (by simp; omega)).trans (keepc HBk.out HJ.out.2)
  case stop => exact fun _ _ _ _ _ _ _ h => h.elim
  case done =>
    rintro D S V hD ⟨hJ, -⟩ hK
    have HJ := hid hJ
    have HD := hid hK
    have hDw : D ≠ w.heap.size := by have := HAP.out.1; omega
    obtain ⟨NA, hNA⟩ : ∃ NA, s.A.length = NA := ⟨_, rfl⟩
    have hNA1 : NA ≤ 3564 := by rw [← hNA]; exact Nat.le_trans (attP_len _ _) hJ.sp.ok.pos.2
    have HNA := hid hNA
    have y11 := hJ.c11
    have l11 := World.block_lt_of_cell? V _ y11
    clear hJ hK HI6
    gi_wp2
    rw [hNA] at HJ y11
    try rw [hNA]
    clear hNA
    gi_loopw [59, 12, 16] (fun i al op W => ∃ k : Nat, k ≤ NA ∧ i = .int .i64 k ∧ (∃ az : Nat, al = .int .i64 az ∧ Hid (az = plSum s.P s.L.length (s.A.take k))) ∧ (∃ oz : Nat, op = .int .i64 oz ∧ Hid (oz = opN s (s.A.take k))) ∧ Hid (FpJ w a10 a11 a13 b1 g1 b2 g2 s (.slice yl NA cl) NA W) ∧ Hid (W.heap[D]? = some (.deferred (some [])))) (fun i _ _ _ => NA - (intOf i).toNat)
    case atStart => exact ⟨0, by omega, rfl, ⟨0, rfl, rfl⟩, ⟨0, rfl, rfl⟩, HJ.out, HD.out⟩
    case round =>
      clear HJ HD y11 l11
      obtain ⟨k, hk, rfl, ⟨az, rfl, HAZ⟩, ⟨oz, rfl, HOZ⟩, HJ, HD⟩ := hrel
      have hN := HJ.out.sp.ok.pos
      have haz : az ≤ 3564 * 3565 := by
        rw [HAZ.out]
        refine Nat.le_trans (plSum_le _ _ _) ?_
        refine Nat.mul_le_mul ?_ (by omega)
        rw [List.length_take]
        omega
      have hoz : oz ≤ az := by rw [HAZ.out, HOZ.out]; exact opN_le _ _
      by_cases hkN : k < NA
      · have hki : (k : Int) < NA := by omega
        have hcl := ints_cells (xs := s.A.map Int.ofNat) (by rw [List.length_map]; exact HJ.out.own)
        rw [List.length_map, HNA.out] at hcl
        rcases hcl with ⟨x', c', e0, h0⟩ | ⟨gl, cl', el, hcl⟩
        · have : NA = 0 := by rw [← HNA.out, ← List.length_map (f := Int.ofNat), h0]; rfl
          omega
        injection el with el1 el2 el3
        subst el1
        obtain rfl : cl = cl' := el3
        have hx : s.A[k]? = some (s.A.getD k 0) := by rw [List.getD_eq_getElem?_getD, List.getElem?_eq_getElem (by rw [HNA.out]; exact hkN)]; rfl
        generalize s.A.getD k 0 = a at hx
        have hmem := attP_mem (P := s.P) (N := s.L.length) (List.mem_of_getElem? hx)
        have cg : wr.cell? ⟨gl, k, none⟩ = some (.int .i64 (a : Nat)) := by
          have q := hcl k hkN
          rw [Nat.zero_add] at q
          rw [q, List.getD_eq_getElem?_getD, List.getElem?_map, hx]
          rfl
        have lg := World.block_lt_of_cell? wr _ cg
        have hia : I64 (a : Int) := i64_small (by omega) (by omega)
        have etk : s.A.take k ++ [a] = s.A.take (k + 1) := by rw [List.take_add_one, hx]; rfl
        have hsum := plSum_add s.P s.L.length (s.A.take k) a
        have hop := opN_add s (s.A.take k) a
        rw [etk] at hsum hop
        rw [← HAZ.out] at hsum
        rw [← HOZ.out] at hop
        have hpl := plL_len s.P s.L.length a
        have ewr : s.wr (a : Int) = a := wr_nat hmem.1
        have HCO := hid (fun bx by_ W h hb hc => collectP_any bx by_ b1 g1 s (a : Int) hia W h hb hc)
        have HRP := hid (fun W h => rplaces_any (b := b2) (g := g2) (s := s) (a : Int) hia W h)
        have HLN := hid (fun W h => callsIn_wide.1 (length_in 8 (by omega) b1 g1 s (a : Int) hia W h))
        have HTX := hid (fun W h => callsIn_wide.1 (text_in 8 (by omega) b1 g1 s (a : Int) hia W h))
        have HRT := hid (fun W h => rtext_any (b := b2) (g := g2) (s := s) (a : Int) hia W h)
        have HRF := hid (fun W h => (show Calls Try.prog 8 #[.pointer (some ⟨b2, 0, none⟩), .int .i64 (a : Nat)] W fun e w' => e = .returned (.agg #[.bool (ofP (s.cel a).fa.toNat), .bool (ofN (s.cel a).fa.toNat), .int .i64 (ofD (s.cel a).fa.toNat), .bool (ofM (s.cel a).fa.toNat)]) ∧ Below W.heap.size W w' from rfield_any (b := b2) (g := g2) (s := s) a hmem.1 W h))
        rw [ewr] at HCO HRP HLN HTX HRT
        generalize plL s.P s.L.length a = pl at HCO HRP HLN HTX HRT hsum hop hpl
        obtain ⟨lp, hlp⟩ : ∃ lp, pl.length = lp := ⟨_, rfl⟩
        have HLP := hid (show pl.length = lp ∧ (pl.map Int.ofNat).length = lp from ⟨hlp, by rw [List.length_map]; exact hlp⟩)
        rw [hlp] at HRP HLN HTX HRT hsum hop hpl
        have HEQ := hid (fun u v W (hu : W.ownsRow 0 3 1 u lp (intsV (pl.map Int.ofNat))) (hv : W.ownsRow 0 3 1 v lp (intsV (pl.map Int.ofNat))) => equalI_any u v (pl.map Int.ofNat) W (by rw [HLP.out.2]; exact hu) (by rw [HLP.out.2]; exact hv) (by rw [HLP.out.2]; omega))
        have HSM := hid (fun u v W (hu : W.ownsRow 0 5 1 u lp (txV s pl)) (hv : W.ownsRow 0 5 1 v lp (txV s pl)) => same_true u v (txL s pl) W (reads_tx HJ.out.sp.ok (by rw [HLP.out.1]; exact hu)) (reads_tx HJ.out.sp.ok (by rw [HLP.out.1]; exact hv)))
        have hfa := rattf0'
        have HSUM := hid (And.intro hsum hop)
        clear hcl hx etk hsum hop ewr hmem hlp hia
        gi_wp2
        refine ⟨trivial, fun _ => (by omega), ?_⟩
        refine (callsIn_wide.2 (placesIt (some ⟨b1, 0, none⟩) (a : Int) _)).mono ?_
        rintro e w7 ⟨bx, by_, rfl, -, -, hcx, hcy, hb7⟩
        have H7 := hid (show w7.cell? ⟨bx, 0, none⟩ = some (.pointer (some ⟨b1, 0, none⟩)) ∧ w7.cell? ⟨by_, 0, none⟩ = some (.int .i64 (a : Int)) from ⟨hcx, hcy⟩)
        have HJ7 := hid (HJ.out.below hb7)
        have HD7 := hid ((hb7.block _ (Array.getElem?_eq_some_iff.1 HD.out).1).trans HD.out)
        clear hcx hcy hb7 HJ HD cg lg
        gi_wp2
        refine ⟨trivial, fun _ => (by omega), ?_⟩
        refine (callsIn_wide.2 (HCO.out bx by_ _ HJ7.out.sp H7.out.1 H7.out.2)).mono ?_
        rintro e w8 ⟨vp, rfl, hop8, -, hb8⟩
        rw [HLP.out.2] at hop8
        obtain ⟨yp, cp', rfl⟩ := row_any hop8
        have HOP := hid hop8
        have HJ8 := hid (HJ7.out.below hb8)
        have HD8 := hid ((hb8.block _ (Array.getElem?_eq_some_iff.1 HD7.out).1).trans HD7.out)
        clear hop8 hb8 HJ7 HD7 H7 HCO
        have y10 := HJ8.out.c10
        have l10 := World.block_lt_of_cell? w8 _ y10
        gi_wp2
        refine wpIn_of_wpN ?_
        refine wp_region_held_drew (S := fun V => V.cell? ⟨a10, 0, none⟩ = some (.pointer (some ⟨b2, 0, none⟩)) ∧ Below w8.heap.size w8 V) (by kernel_rfl) ?_ (fun hHeld => ?_)
        · have hdr : Below w8.heap.size w8 w8.drew := (Below.refl _ _).drew
          exact ⟨keepc hdr y10, hdr⟩
        refine takeD (i := 0) (v := ?_) 67 rfl rfl (by kernel_rfl) (by kernel_rfl) (by kernel_rfl) (fun _ _ _ h => h) (by assumption) (Or.inl ⟨by rfl, ?_⟩) ?_
        rotate_left
        · intro w hSw
          (try dsimp only at hSw)
          go_simp
          try with_reducible rfl
        (try simp only [List.setIfInBounds_toArray])
        (try simp only [List.set_cons_succ])
        (try simp only [List.set_cons_zero])
        refine takeD (i := 1) (v := ?_) 68 rfl rfl (by kernel_rfl) (by kernel_rfl) (by kernel_rfl) (fun _ _ _ h => h) (by assumption) (Or.inl ⟨by rfl, ?_⟩) ?_
        rotate_left
        · intro w hSw
          (try dsimp only at hSw)
          go_simp
          try with_reducible rfl
        (try simp only [List.setIfInBounds_toArray])
        (try simp only [List.set_cons_succ])
        (try simp only [List.set_cons_zero])
        refine takeD (i := 2) (v := ?_) 69 rfl rfl (by kernel_rfl) (by kernel_rfl) (by kernel_rfl) (fun _ _ _ h => h) (by assumption) (Or.inl ⟨by rfl, ?_⟩) ?_
        rotate_left
        · intro w hSw
          (try dsimp only at hSw)
          go_simp
          try with_reducible rfl
        (try simp only [List.setIfInBounds_toArray])
        (try simp only [List.set_cons_succ])
        (try simp only [List.set_cons_zero])
        refine wpAnyH_ready (rs := [3]) (by kernel_rfl) (by simp) ?_
        refine AllReadyH.cons (by simp only [List.getElem?_toArray, List.getElem?_cons_succ, List.getElem?_cons_zero]; rfl) (fun K hK => ?_) AllReadyH.nil
        go_simp
        go_at_call 12; (with_reducible refine (HRP.out _ (HJ8.out.rf.below hHeld.2)).mono ?_); rintro e w10 ⟨vr, rfl, hor, hkr, hb10⟩; have HOR := hid hor; clear hor hkr
        refine hK.out _ _ ?_ (fun hHeldN => ?_)
        · exact ⟨keepc hb10 hHeld.1, below_t hHeld.2 hb10⟩
        clear hK K hHeld
        have hHeld := hHeldN
        clear hHeldN
        (try simp only [Act.put])
        (try simp only [List.setIfInBounds_toArray])
        (try simp only [List.set_cons_succ])
        (try simp only [List.set_cons_zero])
        refine wpAnyH_ready (rs := [4]) (by kernel_rfl) (by simp) ?_
        refine AllReadyH.cons (by simp only [List.getElem?_toArray, List.getElem?_cons_succ, List.getElem?_cons_zero]; rfl) (fun K hK => ?_) AllReadyH.nil
        go_simp
        go_at_call 11; (with_reducible refine (HEQ.out _ _ _ (own_below HOP.out hHeld.2) HOR.out).mono ?_); rintro e w11 ⟨rfl, hb11⟩
        refine hK.out _ _ ?_ (fun hHeldN => ?_)
        · exact ⟨keepc hb11 hHeld.1, below_t hHeld.2 hb11⟩
        clear hK K hHeld
        have hHeld := hHeldN
        clear hHeldN
        (try simp only [Act.put])
        (try simp only [List.setIfInBounds_toArray])
        (try simp only [List.set_cons_succ])
        (try simp only [List.set_cons_zero])
        refine takeD (i := 5) (v := ?_) 72 rfl rfl (by kernel_rfl) (by kernel_rfl) (by kernel_rfl) (fun _ _ _ h => h) (by assumption) (Or.inl ⟨by rfl, ?_⟩) ?_
        rotate_left
        · intro w hSw
          (try dsimp only at hSw)
          go_simp
          try with_reducible rfl
        (try simp only [List.setIfInBounds_toArray])
        (try simp only [List.set_cons_succ])
        (try simp only [List.set_cons_zero])
        refine takeD (i := 6) (v := ?_) 73 rfl rfl (by kernel_rfl) (by kernel_rfl) (by kernel_rfl) (fun _ _ _ h => h) (by assumption) (Or.inl ⟨by rfl, ?_⟩) ?_
        rotate_left
        · intro w hSw
          (try dsimp only at hSw)
          go_simp
          try with_reducible rfl
        (try simp only [List.setIfInBounds_toArray])
        (try simp only [List.set_cons_succ])
        (try simp only [List.set_cons_zero])
        refine takeD (i := 7) (v := ?_) 74 rfl rfl (by kernel_rfl) (by kernel_rfl) (by kernel_rfl) (fun _ _ _ h => h) (by assumption) (Or.inl ⟨by rfl, ?_⟩) ?_
        rotate_left
        · intro w hSw
          (try dsimp only at hSw)
          go_simp
          try with_reducible rfl
        (try simp only [List.setIfInBounds_toArray])
        (try simp only [List.set_cons_succ])
        (try simp only [List.set_cons_zero])
        refine takeD (i := 8) (v := ?_) 75 rfl rfl (by kernel_rfl) (by kernel_rfl) (by kernel_rfl) (fun _ _ _ h => h) (by assumption) (Or.inl ⟨by rfl, ?_⟩) ?_
        rotate_left
        · intro w hSw
          (try dsimp only at hSw)
          go_simp
          try with_reducible rfl
        (try simp only [List.setIfInBounds_toArray])
        (try simp only [List.set_cons_succ])
        (try simp only [List.set_cons_zero])
        refine takeD (i := 10) (v := ?_) 77 rfl rfl (by kernel_rfl) (by kernel_rfl) (by kernel_rfl) (fun _ _ _ h => h) (by assumption) (Or.inl ⟨by rfl, ?_⟩) ?_
        rotate_left
        · intro w hSw
          (try dsimp only at hSw)
          go_simp
          try with_reducible rfl
        (try simp only [List.setIfInBounds_toArray])
        (try simp only [List.set_cons_succ])
        (try simp only [List.set_cons_zero])
        refine takeD (i := 11) (v := ?_) 78 rfl rfl (by kernel_rfl) (by kernel_rfl) (by kernel_rfl) (fun _ _ _ h => h) (by assumption) (Or.inl ⟨by rfl, ?_⟩) ?_
        rotate_left
        · intro w hSw
          (try dsimp only at hSw)
          go_simp
          try with_reducible rfl
        (try simp only [List.setIfInBounds_toArray])
        (try simp only [List.set_cons_succ])
        (try simp only [List.set_cons_zero])
        refine wpAnyH_ready (rs := [9]) (by kernel_rfl) (by simp) ?_
        refine AllReadyH.cons (by simp only [List.getElem?_toArray, List.getElem?_cons_succ, List.getElem?_cons_zero]; rfl) (fun K hK => ?_) AllReadyH.nil
        go_simp
        go_at_call 13; (with_reducible refine (HLN.out _ (HJ8.out.sp.below hHeld.2)).mono ?_); rintro e w12 ⟨rfl, hb12⟩
        refine hK.out _ _ ?_ (fun hHeldN => ?_)
        · exact ⟨keepc hb12 hHeld.1, below_t hHeld.2 hb12⟩
        clear hK K hHeld
        have hHeld := hHeldN
        clear hHeldN
        (try simp only [Act.put])
        (try simp only [List.setIfInBounds_toArray])
        (try simp only [List.set_cons_succ])
        (try simp only [List.set_cons_zero])
        refine takeD (i := 12) (v := ?_) 79 rfl rfl (by kernel_rfl) (by kernel_rfl) (by kernel_rfl) (fun _ _ _ h => h) (by assumption) (Or.inl ⟨by rfl, ?_⟩) ?_
        rotate_left
        · intro w hSw
          (try dsimp only at hSw)
          go_simp
          try with_reducible rfl
        (try simp only [List.setIfInBounds_toArray])
        (try simp only [List.set_cons_succ])
        (try simp only [List.set_cons_zero])
        refine takeD (i := 13) (v := ?_) 80 rfl rfl (by kernel_rfl) (by kernel_rfl) (by kernel_rfl) (fun _ _ _ h => h) (by assumption) (Or.inl ⟨by rfl, ?_⟩) ?_
        rotate_left
        · intro w hSw
          (try dsimp only at hSw)
          go_simp
          try with_reducible rfl
        (try simp only [List.setIfInBounds_toArray])
        (try simp only [List.set_cons_succ])
        (try simp only [List.set_cons_zero])
        refine takeD (i := 14) (v := ?_) 81 rfl rfl (by kernel_rfl) (by kernel_rfl) (by kernel_rfl) (fun _ _ _ h => h) (by assumption) (Or.inl ⟨by rfl, ?_⟩) ?_
        rotate_left
        · intro w hSw
          (try dsimp only at hSw)
          go_simp
          try with_reducible rfl
        (try simp only [List.setIfInBounds_toArray])
        (try simp only [List.set_cons_succ])
        (try simp only [List.set_cons_zero])
        refine takeD (i := 15) (v := ?_) 82 rfl rfl (by kernel_rfl) (by kernel_rfl) (by kernel_rfl) (fun _ _ _ h => h) (by assumption) (Or.inl ⟨by rfl, ?_⟩) ?_
        rotate_left
        · intro w hSw
          (try dsimp only at hSw)
          go_simp
          try with_reducible rfl
        (try simp only [List.setIfInBounds_toArray])
        (try simp only [List.set_cons_succ])
        (try simp only [List.set_cons_zero])
        refine takeD (i := 16) (v := ?_) 83 rfl rfl (by kernel_rfl) (by kernel_rfl) (by kernel_rfl) (fun _ _ _ h => h) (by assumption) (Or.inl ⟨by rfl, ?_⟩) ?_
        rotate_left
        · intro w hSw
          (try dsimp only at hSw)
          go_simp
          try with_reducible rfl
        (try simp only [List.setIfInBounds_toArray])
        (try simp only [List.set_cons_succ])
        (try simp only [List.set_cons_zero])
        refine takeD (i := 18) (v := ?_) 85 rfl rfl (by kernel_rfl) (by kernel_rfl) (by kernel_rfl) (fun _ _ _ h => h) (by assumption) (Or.inl ⟨by rfl, ?_⟩) ?_
        rotate_left
        · intro w hSw
          (try dsimp only at hSw)
          go_simp
          try with_reducible rfl
        (try simp only [List.setIfInBounds_toArray])
        (try simp only [List.set_cons_succ])
        (try simp only [List.set_cons_zero])
        refine takeD (i := 19) (v := ?_) 86 rfl rfl (by kernel_rfl) (by kernel_rfl) (by kernel_rfl) (fun _ _ _ h => h) (by assumption) (Or.inl ⟨by rfl, ?_⟩) ?_
        rotate_left
        · intro w hSw
          (try dsimp only at hSw)
          go_simp
          try with_reducible rfl
        (try simp only [List.setIfInBounds_toArray])
        (try simp only [List.set_cons_succ])
        (try simp only [List.set_cons_zero])
        refine wpAnyH_ready (rs := [17]) (by kernel_rfl) (by simp) ?_
        refine AllReadyH.cons (by simp only [List.getElem?_toArray, List.getElem?_cons_succ, List.getElem?_cons_zero]; rfl) (fun K hK => ?_) AllReadyH.nil
        go_simp
        go_at_call 15; (with_reducible refine (HTX.out _ (HJ8.out.sp.below hHeld.2)).mono ?_); rintro e w13 ⟨vt, rfl, hot, hkt, hb13⟩; have HOT := hid hot; clear hot hkt
        refine hK.out _ _ ?_ (fun hHeldN => ?_)
        · exact ⟨keepc hb13 hHeld.1, below_t hHeld.2 hb13⟩
        clear hK K hHeld
        have hHeld := hHeldN
        clear hHeldN
        (try simp only [Act.put])
        (try simp only [List.setIfInBounds_toArray])
        (try simp only [List.set_cons_succ])
        (try simp only [List.set_cons_zero])
        refine wpAnyH_ready (rs := [20]) (by kernel_rfl) (by simp) ?_
        refine AllReadyH.cons (by simp only [List.getElem?_toArray, List.getElem?_cons_succ, List.getElem?_cons_zero]; rfl) (fun K hK => ?_) AllReadyH.nil
        go_simp
        go_at_call 16; (with_reducible refine (HRT.out _ (HJ8.out.rf.below hHeld.2)).mono ?_); rintro e w14 ⟨vu, rfl, hou, hku, hb14⟩; have HOU := hid (And.intro (own_below HOT.out hb14) hou); clear hou hku
        refine hK.out _ _ ?_ (fun hHeldN => ?_)
        · exact ⟨keepc hb14 hHeld.1, below_t hHeld.2 hb14⟩
        clear hK K hHeld
        have hHeld := hHeldN
        clear hHeldN
        (try simp only [Act.put])
        (try simp only [List.setIfInBounds_toArray])
        (try simp only [List.set_cons_succ])
        (try simp only [List.set_cons_zero])
        refine wpAnyH_ready (rs := [21]) (by kernel_rfl) (by simp) ?_
        refine AllReadyH.cons (by simp only [List.getElem?_toArray, List.getElem?_cons_succ, List.getElem?_cons_zero]; rfl) (fun K hK => ?_) AllReadyH.nil
        go_simp
        go_at_call 14; (with_reducible refine (HSM.out _ _ _ HOU.out.1 HOU.out.2).mono ?_); rintro e w15 ⟨rfl, rfl⟩
        refine hK.out _ _ ?_ (fun hHeldN => ?_)
        · exact hHeld
        clear hK K hHeld
        have hHeld := hHeldN
        clear hHeldN
        (try simp only [Act.put])
        (try simp only [List.setIfInBounds_toArray])
        (try simp only [List.set_cons_succ])
        (try simp only [List.set_cons_zero])
        refine takeD (i := 22) (v := ?_) 89 rfl rfl (by kernel_rfl) (by kernel_rfl) (by kernel_rfl) (fun _ _ _ h => h) (by assumption) (Or.inl ⟨by rfl, ?_⟩) ?_
        rotate_left
        · intro w hSw
          (try dsimp only at hSw)
          go_simp
          try with_reducible rfl
        (try simp only [List.setIfInBounds_toArray])
        (try simp only [List.set_cons_succ])
        (try simp only [List.set_cons_zero])
        refine takeD (i := 23) (v := ?_) 90 rfl rfl (by kernel_rfl) (by kernel_rfl) (by kernel_rfl) (fun _ _ _ h => h) (by assumption) (Or.inl ⟨by rfl, ?_⟩) ?_
        rotate_left
        · intro w hSw
          (try dsimp only at hSw)
          go_simp
          try with_reducible rfl
        (try simp only [List.setIfInBounds_toArray])
        (try simp only [List.set_cons_succ])
        (try simp only [List.set_cons_zero])
        refine wpAnyH_done (by kernel_rfl) ?_ _
        have HE := hid hHeld
        clear hHeld
        dsimp only [OnlyN]
        have HJ9 := hid (HJ8.out.below HE.out.2)
        have HD9 := hid ((HE.out.2.block _ (Array.getElem?_eq_some_iff.1 HD8.out).1).trans HD8.out)
        obtain ⟨w9, hw9⟩ : ∃ w9, w14 = w9 := ⟨_, rfl⟩
        rw [hw9] at HJ9 HD9 ⊢
        have y10 := HJ9.out.c10
        have l10 := World.block_lt_of_cell? w9 _ y10
        clear HE HJ8 HD8 HOP hw9
        have hw1 : IntKind.i64.wrap (1 + (lp : Int)) = 1 + (lp : Int) := wrapI (i64_small (by omega) (by omega))
        have hw2 : IntKind.i64.wrap ((az : Int) + (1 + (lp : Int))) = (az : Int) + (1 + (lp : Int)) := wrapI ⟨by omega, by omega⟩
        have hw3 : IntKind.i64.wrap ((oz : Int) + (lp : Int)) = (oz : Int) + (lp : Int) := wrapI ⟨by omega, by omega⟩
        generalize ofN (s.cel a).fa.toNat = fn at HRF
        generalize ofD (s.cel a).fa.toNat = fd at HRF
        generalize ofM (s.cel a).fa.toNat = fm at HRF
        have HSU := HSUM
        cases hp : ofP (s.cel a).fa.toNat
        · rw [hp] at HRF HSU
          clear hp HSUM
          gi_wp2
          refine ⟨trivial, fun _ => (by omega), ?_⟩
          refine (callsIn_wide.2 (HRF.out _ HJ9.out.rf)).mono ?_
          rintro e w16 ⟨rfl, hb16⟩
          have HJA := hid (HJ9.out.below hb16)
          have HDA := hid ((hb16.block _ (Array.getElem?_eq_some_iff.1 HD9.out).1).trans HD9.out)
          clear hb16
          gi_wp2
          go_roundw
          case rel => exact ⟨k + 1, by omega, by go_num, ⟨az + (lp + 1), by push_cast; congr 1; omega, HSU.out.1.symm⟩, ⟨oz + lp, by push_cast; rfl, HSU.out.2.symm⟩, HJA.out, HDA.out⟩
          case measure => simp [intOf]; omega
        · rw [hp] at HRF HSU
          clear hp HSUM
          gi_wp2
          refine ⟨trivial, fun _ => (by omega), ?_⟩
          refine (callsIn_wide.2 (HRF.out _ HJ9.out.rf)).mono ?_
          rintro e w16 ⟨rfl, hb16⟩
          have HJA := hid (HJ9.out.below hb16)
          have HDA := hid ((hb16.block _ (Array.getElem?_eq_some_iff.1 HD9.out).1).trans HD9.out)
          clear hb16
          gi_wp2
          go_roundw
          case rel => exact ⟨k + 1, by omega, by go_num, ⟨az + (lp + 1), by push_cast; congr 1; omega, HSU.out.1.symm⟩, ⟨oz, rfl, by have q := HSU.out.2; rw [if_pos trivial, Nat.add_zero] at q; exact q.symm⟩, HJA.out, HDA.out⟩
          case measure => simp [intOf]; omega
      · obtain rfl : k = NA := by omega
        have htk : s.A.take k = s.A := List.take_of_length_le (by rw [HNA.out]; exact Nat.le_refl _)
        rw [htk] at HAZ HOZ
        obtain ⟨K, hK⟩ : ∃ K : Nat, K = 1 + st % 5 := ⟨_, rfl⟩
        have hst0 : (0 : Int) ≤ (st : Int) := by omega
        have hst1 : (st : Int) < 256 := by omega
        have hstm : (st : Int).tmod 5 = ((K - 1 : Nat) : Int) := by rw [Int.tmod_eq_emod_of_nonneg (by omega)]; omega
        have hK1 : 1 ≤ K ∧ K ≤ 5 := by omega
        have hKa : 1 + ((K - 1 : Nat) : Int) = (K : Int) := by omega
        have HUN := hid (fun W h => callsIn_wide.1 (unprot_in 9 (by omega) b1 g1 s W h))
        rw [← HOZ.out] at HUN
        have HRP := hid (fun W h => rplaces_any (b := b2) (g := g2) (s := s) nz hnz W h)
        have HPK := hid (fun W h => callsIn_wide.1 (lplaces_in 8 (by omega) b1 g1 K s nz hnz (by omega) W h))
        have hpl := plL_len s.P s.L.length (s.wr nz)
        generalize plL s.P s.L.length (s.wr nz) = pl at HRP HPK hpl
        obtain ⟨lp, hlp⟩ : ∃ lp, pl.length = lp := ⟨_, rfl⟩
        have HLP := hid (show pl.length = lp ∧ (pl.map Int.ofNat).length = lp from ⟨hlp, by rw [List.length_map]; exact hlp⟩)
        obtain ⟨kk, hkk⟩ : ∃ kk : Nat, kk = min K lp := ⟨_, rfl⟩
        have hmin : (if K < lp then (K : Int) else (lp : Int)) = (kk : Int) := by split <;> omega
        have hkL : kk ≤ lp := by omega
        rw [hlp] at HRP HPK hpl
        rw [← hkk] at HPK
        have HIT := hid (show iPL pl K = intsV ((pl.map Int.ofNat).take kk) ∧ ((pl.map Int.ofNat).take kk).length = kk by
          refine ⟨?_, by rw [List.length_take, HLP.out.2]; omega⟩
          unfold iPL
          rw [← List.map_take]
          congr 2
          rw [hkk]
          by_cases h : K ≤ lp
          · rw [Nat.min_eq_left h]
          · rw [Nat.min_eq_right (by omega), List.take_of_length_le (by rw [HLP.out.1]; omega), List.take_of_length_le (by rw [HLP.out.1]; exact Nat.le_refl _)])
        have y10 := HJ.out.c10
        have l10 := World.block_lt_of_cell? wr _ y10
        clear htk hK hlp hkk hkN
        gi_wp2
        refine ⟨trivial, fun _ => (by omega), ?_⟩
        refine (callsIn_wide.2 (HRP.out _ HJ.out.rf)).mono ?_
        rintro e wC ⟨vp, rfl, how, hkp, hbC⟩
        have hkp := fun q hq => Nat.lt_of_lt_of_le (World.block_lt_of_cell? wr _ HJ.out.c8) (hkp q hq)
        have HJC := hid (HJ.out.below hbC)
        have HDC := hid ((hbC.block _ (Array.getElem?_eq_some_iff.1 HD.out).1).trans HD.out)
        have HOW := hid how
        obtain ⟨N, hNe⟩ : ∃ N, s.L.length = N := ⟨_, rfl⟩
        have hc4 : wC.cell? ⟨b2, 4, none⟩ = some (.slice (some ⟨g2, 0, none⟩) N N) := by rw [← hNe]; exact HJC.out.rf.h4
        have lb2 := HJC.out.rf.lt.1
        have HAN := hid (show k ≠ 0 → az = N from fun h0 => by
          rw [HAZ.out, ← hNe]
          exact plSum_all (fun q => h0 (by rw [← HNA.out]; show s.A.length = 0; unfold Spc.A; rw [q]; rfl)))
        have HBW := hid (show w.heap.size ∉ [b1, g1, b2, g2] ∧ a13 ≠ w.heap.size ∧ a11 ≠ w.heap.size ∧ a10 ≠ w.heap.size from ⟨HWB.out.1, by have := HAP.out.1; omega, HWB.out.2.1, HWB.out.2.2⟩)
        rw [hNe] at hN hpl
        have y10 := HJC.out.c10
        have y11 := HJC.out.c11
        have y13 := HJC.out.c13
        have l10 := World.block_lt_of_cell? wC _ y10
        have l11 := World.block_lt_of_cell? wC _ y11
        have l13 := World.block_lt_of_cell? wC _ y13
        have hbw : w.heap.size < wC.heap.size := World.block_lt_of_cell? wC _ HJC.out.c8
        have HX := hid (show FpX w b1 g1 b2 g2 s vp pl D wC from ⟨by rw [HLP.out.1]; exact how, HJC.out.sp, HJC.out.rf, HJC.out.bel, HDC.out, ⟨_, HJC.out.c8⟩, HJC.out.f8⟩)
        have HBV := hid (show w.heap.size ∉ blkV vp from fun q => by
          have := hkp w.heap.size q
          exact absurd this (Nat.lt_irrefl _))
        have hn13 : a13 ≠ w.heap.size := HBW.out.2.1
        have hn11 : a11 ≠ w.heap.size := HBW.out.2.2.1
        have hn10 : a10 ≠ w.heap.size := HBW.out.2.2.2
        have hnb2 : b2 ≠ w.heap.size := fun q => HBW.out.1 (by simp [q])
        clear hbC HJ HD HRP HAZ HOZ hNe
        rcases how.2 with ⟨rfl, hn0⟩ | ⟨gw, cw, cur, rfl, -, -, hcw1, hcw2, -, -⟩
        · by_cases hk0 : k = 0
          · obtain rfl : kk = 0 := by omega
            obtain rfl : lp = 0 := hn0
            have hmin0 : (if (K : Int) < 0 then (K : Int) else 0) = 0 := by rw [if_neg (by omega)]
            obtain rfl : k = 0 := hk0
            clear how
            gi_wp2
            refine wpIn_of_wpN ?_
            refine wp_region_held_drew (S := fun V => V.cell? ⟨a13, 0, none⟩ = some (.int .i64 (0 : Nat)) ∧ V.cell? ⟨a11, 0, none⟩ = some (.slice yl 0 cl) ∧ V.cell? ⟨a10, 0, none⟩ = some (.pointer (some ⟨b2, 0, none⟩)) ∧ V.cell? ⟨b2, 4, none⟩ = some (.slice (some ⟨g2, 0, none⟩) N N) ∧ FpX w b1 g1 b2 g2 s (.slice none 0 0) pl D V) (by kernel_rfl) ?_ (fun hHeld => ?_)
            · have hdr : Below wC.heap.size wC wC.drew := (Below.refl _ _).drew
              exact ⟨keepc hdr y13, keepc hdr y11, keepc hdr y10, keepc hdr hc4, HX.out.below hdr⟩
            refine takeD (i := 0) (v := ?_) 113 rfl rfl (by kernel_rfl) (by kernel_rfl) (by kernel_rfl) (fun _ _ _ h => h) (by assumption) (Or.inl ⟨by rfl, ?_⟩) ?_
            rotate_left
            · intro w hSw
              (try dsimp only at hSw)
              go_simp
              try with_reducible rfl
            (try simp only [List.setIfInBounds_toArray])
            (try simp only [List.set_cons_succ])
            (try simp only [List.set_cons_zero])
            refine takeD (i := 1) (v := ?_) 114 rfl rfl (by kernel_rfl) (by kernel_rfl) (by kernel_rfl) (fun _ _ _ h => h) (by assumption) (Or.inl ⟨by rfl, ?_⟩) ?_
            rotate_left
            · intro w hSw
              (try dsimp only at hSw)
              go_simp
              try with_reducible rfl
            (try simp only [List.setIfInBounds_toArray])
            (try simp only [List.set_cons_succ])
            (try simp only [List.set_cons_zero])
            refine takeD (i := 2) (v := ?_) 115 rfl rfl (by kernel_rfl) (by kernel_rfl) (by kernel_rfl) (fun _ _ _ h => h) (by assumption) (Or.inl ⟨by rfl, ?_⟩) ?_
            rotate_left
            · intro w hSw
              (try dsimp only at hSw)
              go_simp
              try with_reducible rfl
            (try simp only [List.setIfInBounds_toArray])
            (try simp only [List.set_cons_succ])
            (try simp only [List.set_cons_zero])
            refine takeD (i := 3) (v := ?_) 116 rfl rfl (by kernel_rfl) (by kernel_rfl) (by kernel_rfl) (fun _ _ _ h => h) (by assumption) (Or.inl ⟨by rfl, ?_⟩) ?_
            rotate_left
            · intro w hSw
              (try dsimp only at hSw)
              go_simp
              try with_reducible rfl
            (try simp only [List.setIfInBounds_toArray])
            (try simp only [List.set_cons_succ])
            (try simp only [List.set_cons_zero])
            refine takeD (i := 4) (v := ?_) 117 rfl rfl (by kernel_rfl) (by kernel_rfl) (by kernel_rfl) (fun _ _ _ h => h) (by assumption) (Or.inl ⟨by rfl, ?_⟩) ?_
            rotate_left
            · intro w hSw
              (try dsimp only at hSw)
              go_simp
              try with_reducible rfl
            (try simp only [List.setIfInBounds_toArray])
            (try simp only [List.set_cons_succ])
            (try simp only [List.set_cons_zero])
            refine takeD (i := 5) (v := ?_) 118 rfl rfl (by kernel_rfl) (by kernel_rfl) (by kernel_rfl) (fun _ _ _ h => h) (by assumption) (Or.inl ⟨by rfl, ?_⟩) ?_
            rotate_left
            · intro w hSw
              (try dsimp only at hSw)
              go_simp
              try with_reducible rfl
            (try simp only [List.setIfInBounds_toArray])
            (try simp only [List.set_cons_succ])
            (try simp only [List.set_cons_zero])
            refine takeD (i := 6) (v := ?_) 119 rfl rfl (by kernel_rfl) (by kernel_rfl) (by kernel_rfl) (fun _ _ _ h => h) (by assumption) (Or.inl ⟨by rfl, ?_⟩) ?_
            rotate_left
            · intro w hSw
              (try dsimp only at hSw)
              go_simp
              try with_reducible rfl
            (try simp only [List.setIfInBounds_toArray])
            (try simp only [List.set_cons_succ])
            (try simp only [List.set_cons_zero])
            refine takeD (i := 7) (v := ?_) 120 rfl rfl (by kernel_rfl) (by kernel_rfl) (by kernel_rfl) (fun _ _ _ h => h) (by assumption) (Or.inl ⟨by rfl, ?_⟩) ?_
            rotate_left
            · intro w hSw
              (try dsimp only at hSw)
              go_simp
              try with_reducible rfl
            (try simp only [List.setIfInBounds_toArray])
            (try simp only [List.set_cons_succ])
            (try simp only [List.set_cons_zero])
            refine takeD (i := 8) (v := ?_) 121 rfl rfl (by kernel_rfl) (by kernel_rfl) (by kernel_rfl) (fun _ _ _ h => h) (by assumption) (Or.inl ⟨by rfl, ?_⟩) ?_
            rotate_left
            · intro w hSw
              (try dsimp only at hSw)
              go_simp
              try with_reducible rfl
            (try simp only [List.setIfInBounds_toArray])
            (try simp only [List.set_cons_succ])
            (try simp only [List.set_cons_zero])
            refine takeD (i := 9) (v := undef) 122 rfl rfl (by kernel_rfl) (by kernel_rfl) (by kernel_rfl) (fun _ _ _ h => h) (by assumption) (Or.inr ⟨by rfl, rfl⟩) ?_
            (try simp only [List.setIfInBounds_toArray])
            (try simp only [List.set_cons_succ])
            (try simp only [List.set_cons_zero])
            refine takeD (i := 10) (v := undef) 123 rfl rfl (by kernel_rfl) (by kernel_rfl) (by kernel_rfl) (fun _ _ _ h => h) (by assumption) (Or.inr ⟨by rfl, rfl⟩) ?_
            (try simp only [List.setIfInBounds_toArray])
            (try simp only [List.set_cons_succ])
            (try simp only [List.set_cons_zero])
            refine takeD (i := 11) (v := undef) 124 rfl rfl (by kernel_rfl) (by kernel_rfl) (by kernel_rfl) (fun _ _ _ h => h) (by assumption) (Or.inr ⟨by rfl, rfl⟩) ?_
            (try simp only [List.setIfInBounds_toArray])
            (try simp only [List.set_cons_succ])
            (try simp only [List.set_cons_zero])
            refine takeD (i := 12) (v := undef) 125 rfl rfl (by kernel_rfl) (by kernel_rfl) (by kernel_rfl) (fun _ _ _ h => h) (by assumption) (Or.inr ⟨by rfl, rfl⟩) ?_
            (try simp only [List.setIfInBounds_toArray])
            (try simp only [List.set_cons_succ])
            (try simp only [List.set_cons_zero])
            refine takeD (i := 13) (v := undef) 126 rfl rfl (by kernel_rfl) (by kernel_rfl) (by kernel_rfl) (fun _ _ _ h => h) (by assumption) (Or.inr ⟨by rfl, rfl⟩) ?_
            (try simp only [List.setIfInBounds_toArray])
            (try simp only [List.set_cons_succ])
            (try simp only [List.set_cons_zero])
            refine takeD (i := 14) (v := undef) 127 rfl rfl (by kernel_rfl) (by kernel_rfl) (by kernel_rfl) (fun _ _ _ h => h) (by assumption) (Or.inr ⟨by rfl, rfl⟩) ?_
            (try simp only [List.setIfInBounds_toArray])
            (try simp only [List.set_cons_succ])
            (try simp only [List.set_cons_zero])
            refine takeD (i := 15) (v := undef) 128 rfl rfl (by kernel_rfl) (by kernel_rfl) (by kernel_rfl) (fun _ _ _ h => h) (by assumption) (Or.inr ⟨by rfl, rfl⟩) ?_
            (try simp only [List.setIfInBounds_toArray])
            (try simp only [List.set_cons_succ])
            (try simp only [List.set_cons_zero])
            refine takeD (i := 16) (v := ?_) 129 rfl rfl (by kernel_rfl) (by kernel_rfl) (by kernel_rfl) (fun _ _ _ h => h) (by assumption) (Or.inl ⟨by rfl, ?_⟩) ?_
            rotate_left
            · intro w hSw
              (try dsimp only at hSw)
              go_simp
              try with_reducible rfl
            (try simp only [List.setIfInBounds_toArray])
            (try simp only [List.set_cons_succ])
            (try simp only [List.set_cons_zero])
            refine takeD (i := 17) (v := ?_) 130 rfl rfl (by kernel_rfl) (by kernel_rfl) (by kernel_rfl) (fun _ _ _ h => h) (by assumption) (Or.inl ⟨by rfl, ?_⟩) ?_
            rotate_left
            · intro w hSw
              (try dsimp only at hSw)
              go_simp
              try with_reducible rfl
            (try simp only [List.setIfInBounds_toArray])
            (try simp only [List.set_cons_succ])
            (try simp only [List.set_cons_zero])
            refine takeD (i := 18) (v := ?_) 131 rfl rfl (by kernel_rfl) (by kernel_rfl) (by kernel_rfl) (fun _ _ _ h => h) (by assumption) (Or.inl ⟨by rfl, ?_⟩) ?_
            rotate_left
            · intro w hSw
              (try dsimp only at hSw)
              go_simp
              try with_reducible rfl
            (try simp only [List.setIfInBounds_toArray])
            (try simp only [List.set_cons_succ])
            (try simp only [List.set_cons_zero])
            refine takeD (i := 19) (v := ?_) 132 rfl rfl (by kernel_rfl) (by kernel_rfl) (by kernel_rfl) (fun _ _ _ h => h) (by assumption) (Or.inl ⟨by rfl, ?_⟩) ?_
            rotate_left
            · intro w hSw
              (try dsimp only at hSw)
              go_simp
              try with_reducible rfl
            (try simp only [List.setIfInBounds_toArray])
            (try simp only [List.set_cons_succ])
            (try simp only [List.set_cons_zero])
            refine takeD (i := 21) (v := ?_) 134 rfl rfl (by kernel_rfl) (by kernel_rfl) (by kernel_rfl) (fun _ _ _ h => h) (by assumption) (Or.inl ⟨by rfl, ?_⟩) ?_
            rotate_left
            · intro w hSw
              (try dsimp only at hSw)
              go_simp
              try with_reducible rfl
            (try simp only [List.setIfInBounds_toArray])
            (try simp only [List.set_cons_succ])
            (try simp only [List.set_cons_zero])
            refine wpAnyH_ready (rs := [20]) (by kernel_rfl) (by simp) ?_
            refine AllReadyH.cons (by simp only [List.getElem?_toArray, List.getElem?_cons_succ, List.getElem?_cons_zero]; rfl) (fun K hK => ?_) AllReadyH.nil
            go_simp
            go_at_call 17; (with_reducible refine (HUN.out _ hHeld.2.2.2.2.sp).mono ?_); rintro e w20 ⟨rfl, hb20⟩
            refine hK.out _ _ ?_ (fun hHeldN => ?_)
            · exact ⟨keepc hb20 hHeld.1, keepc hb20 hHeld.2.1, keepc hb20 hHeld.2.2.1, keepc hb20 hHeld.2.2.2.1, hHeld.2.2.2.2.below hb20⟩
            clear hK K hHeld
            have hHeld := hHeldN
            clear hHeldN
            (try simp only [Act.put])
            (try simp only [List.setIfInBounds_toArray])
            (try simp only [List.set_cons_succ])
            (try simp only [List.set_cons_zero])
            refine takeD (i := 22) (v := ?_) 135 rfl rfl (by kernel_rfl) (by kernel_rfl) (by kernel_rfl) (fun _ _ _ h => h) (by assumption) (Or.inl ⟨by rfl, ?_⟩) ?_
            rotate_left
            · intro w hSw
              (try dsimp only at hSw)
              go_simp
              try with_reducible rfl
            (try simp only [List.setIfInBounds_toArray])
            (try simp only [List.set_cons_succ])
            (try simp only [List.set_cons_zero])
            refine takeD (i := 23) (v := ?_) 136 rfl rfl (by kernel_rfl) (by kernel_rfl) (by kernel_rfl) (fun _ _ _ h => h) (by assumption) (Or.inl ⟨by rfl, ?_⟩) ?_
            rotate_left
            · intro w hSw
              (try dsimp only at hSw)
              go_simp
              try with_reducible rfl
            (try simp only [List.setIfInBounds_toArray])
            (try simp only [List.set_cons_succ])
            (try simp only [List.set_cons_zero])
            refine takeD (i := 24) (v := ?_) 137 rfl rfl (by kernel_rfl) (by kernel_rfl) (by kernel_rfl) (fun _ _ _ h => h) (by assumption) (Or.inl ⟨by rfl, ?_⟩) ?_
            rotate_left
            · intro w hSw
              (try dsimp only at hSw)
              go_simp
              try with_reducible rfl
            (try simp only [List.setIfInBounds_toArray])
            (try simp only [List.set_cons_succ])
            (try simp only [List.set_cons_zero])
            refine takeD (i := 25) (v := ?_) 138 rfl rfl (by kernel_rfl) (by kernel_rfl) (by kernel_rfl) (fun _ _ _ h => h) (by assumption) (Or.inl ⟨by rfl, ?_⟩) ?_
            rotate_left
            · intro w hSw
              (try dsimp only at hSw)
              go_simp
              try with_reducible rfl
            (try simp only [List.setIfInBounds_toArray])
            (try simp only [List.set_cons_succ])
            (try simp only [List.set_cons_zero])
            refine takeD (i := 26) (v := ?_) 139 rfl rfl (by kernel_rfl) (by kernel_rfl) (by kernel_rfl) (fun _ _ _ h => h) (by assumption) (Or.inl ⟨by rfl, ?_⟩) ?_
            rotate_left
            · intro w hSw
              (try dsimp only at hSw)
              go_simp
              try with_reducible rfl
            (try simp only [List.setIfInBounds_toArray])
            (try simp only [List.set_cons_succ])
            (try simp only [List.set_cons_zero])
            refine takeD (i := 27) (v := ?_) 140 rfl rfl (by kernel_rfl) (by kernel_rfl) (by kernel_rfl) (fun _ _ _ h => h) (by assumption) (Or.inl ⟨by rfl, ?_⟩) ?_
            rotate_left
            · intro w hSw
              (try dsimp only at hSw)
              go_simp
              try with_reducible rfl
            (try simp only [List.setIfInBounds_toArray])
            (try simp only [List.set_cons_succ])
            (try simp only [List.set_cons_zero])
            refine takeD (i := 29) (v := ?_) 142 rfl rfl (by kernel_rfl) (by kernel_rfl) (by kernel_rfl) (fun _ _ _ h => h) (by assumption) (Or.inl ⟨by rfl, ?_⟩) ?_
            rotate_left
            · intro w hSw
              (try dsimp only at hSw)
              go_simp
              try with_reducible rfl
            (try simp only [List.setIfInBounds_toArray])
            (try simp only [List.set_cons_succ])
            (try simp only [List.set_cons_zero])
            refine takeD (i := 30) (v := ?_) 143 rfl rfl (by kernel_rfl) (by kernel_rfl) (by kernel_rfl) (fun _ _ _ h => h) (by assumption) (Or.inl ⟨by rfl, ?_⟩) ?_
            rotate_left
            · intro w hSw
              (try dsimp only at hSw)
              go_simp
              try with_reducible rfl
            (try simp only [List.setIfInBounds_toArray])
            (try simp only [List.set_cons_succ])
            (try simp only [List.set_cons_zero])
            refine takeD (i := 31) (v := ?_) 144 rfl rfl (by kernel_rfl) (by kernel_rfl) (by kernel_rfl) (fun _ _ _ h => h) (by assumption) (Or.inl ⟨by rfl, ?_⟩) ?_
            rotate_left
            · intro w hSw
              (try dsimp only at hSw)
              go_simp
              try with_reducible rfl
            (try simp only [List.setIfInBounds_toArray])
            (try simp only [List.set_cons_succ])
            (try simp only [List.set_cons_zero])
            refine takeD (i := 32) (v := ?_) 145 rfl rfl (by kernel_rfl) (by kernel_rfl) (by kernel_rfl) (fun _ _ _ h => h) (by assumption) (Or.inl ⟨by rfl, ?_⟩) ?_
            rotate_left
            · intro w hSw
              (try dsimp only at hSw)
              go_simp
              try with_reducible rfl
            (try simp only [List.setIfInBounds_toArray])
            (try simp only [List.set_cons_succ])
            (try simp only [List.set_cons_zero])
            refine takeD (i := 33) (v := ?_) 146 rfl rfl (by kernel_rfl) (by kernel_rfl) (by kernel_rfl) (fun _ _ _ h => h) (by assumption) (Or.inl ⟨by rfl, ?_⟩) ?_
            rotate_left
            · intro w hSw
              (try dsimp only at hSw)
              go_simp
              try with_reducible rfl
            (try simp only [List.setIfInBounds_toArray])
            (try simp only [List.set_cons_succ])
            (try simp only [List.set_cons_zero])
            refine takeD (i := 34) (v := ?_) 147 rfl rfl (by kernel_rfl) (by kernel_rfl) (by kernel_rfl) (fun _ _ _ h => h) (by assumption) (Or.inl ⟨by rfl, ?_⟩) ?_
            rotate_left
            · intro w hSw
              (try dsimp only at hSw)
              go_simp
              try with_reducible rfl
            (try simp only [List.setIfInBounds_toArray])
            (try simp only [List.set_cons_succ])
            (try simp only [List.set_cons_zero])
            refine wpAnyH_ready (rs := [28]) (by kernel_rfl) (by simp) ?_
            refine AllReadyH.cons (by simp only [List.getElem?_toArray, List.getElem?_cons_succ, List.getElem?_cons_zero]; rfl) (fun K hK => ?_) AllReadyH.nil
            go_simp
            go_at_call 18; (with_reducible refine (HPK.out _ hHeld.2.2.2.2.sp).mono ?_); rintro e w21 ⟨v9, rfl, ho9, hk9, hb21⟩; rw [HIT.out.1] at ho9; obtain ⟨y9, c9, rfl⟩ := row_any ho9; have HO9 := hid ho9; clear ho9 hk9
            refine hK.out _ _ ?_ (fun hHeldN => ?_)
            · exact ⟨keepc hb21 hHeld.1, keepc hb21 hHeld.2.1, keepc hb21 hHeld.2.2.1, keepc hb21 hHeld.2.2.2.1, hHeld.2.2.2.2.below hb21⟩
            clear hK K hHeld
            have hHeld := hHeldN
            clear hHeldN
            (try simp only [Act.put])
            (try simp only [List.setIfInBounds_toArray])
            (try simp only [List.set_cons_succ])
            (try simp only [List.set_cons_zero])
            refine wpAnyH_ready (rs := [35]) (by kernel_rfl) (by simp) ?_
            refine AllReadyH.cons (by simp only [List.getElem?_toArray, List.getElem?_cons_succ, List.getElem?_cons_zero]; rfl) (fun K hK => ?_) AllReadyH.nil
            go_simp
            go_at_call 11; (with_reducible refine (equalI_nil _ none _ 0 _).mono ?_); rintro e w22 ⟨rfl, hb22⟩
            refine hK.out _ _ ?_ (fun hHeldN => ?_)
            · exact ⟨keepc hb22 hHeld.1, keepc hb22 hHeld.2.1, keepc hb22 hHeld.2.2.1, keepc hb22 hHeld.2.2.2.1, hHeld.2.2.2.2.below hb22⟩
            obtain ⟨u8, q8⟩ := hHeldN.2.2.2.2.c8
            have r8 := hHeldN.2.2.2.2.f8
            have l8 := World.block_lt_of_cell? w22 _ q8
            have HX22 := hid hHeldN.2.2.2.2
            clear hK K hHeld
            have hHeld := hHeldN
            clear hHeldN
            (try simp only [Act.put])
            (try simp only [List.setIfInBounds_toArray])
            (try simp only [List.set_cons_succ])
            (try simp only [List.set_cons_zero])
            refine takeD (i := 36) (v := ?_) 149 rfl rfl (by kernel_rfl) (by kernel_rfl) (by kernel_rfl) (fun _ _ _ h => h) (by assumption) (Or.inl ⟨by rfl, ?_⟩) ?_
            rotate_left
            · intro w hSw
              (try dsimp only at hSw)
              go_simp
              try with_reducible rfl
            (try simp only [List.setIfInBounds_toArray])
            (try simp only [List.set_cons_succ])
            (try simp only [List.set_cons_zero])
            refine wpAnyH_ready (rs := [37]) (by kernel_rfl) (by simp) ?_
            refine AllReadyH.cons (by simp only [List.getElem?_toArray, List.getElem?_cons_succ, List.getElem?_cons_zero]; rfl) (fun K hK => ?_) AllReadyH.nil
            go_simp
            refine hK.out _ _ ?_ (fun hHeldN => ?_)
            · exact ⟨(World.cell?_setCell_far _ _ _ _ (by simp; omega)).trans hHeld.1, (World.cell?_setCell_far _ _ _ _ (by simp; omega)).trans hHeld.2.1, (World.cell?_setCell_far _ _ _ _ (by simp; omega)).trans hHeld.2.2.1, (World.cell?_setCell_far _ _ _ _ (by simp; omega)).trans hHeld.2.2.2.1, hHeld.2.2.2.2.set _ HBV.out HBW.out.1 hDw⟩
            clear hK K hHeld
            have hHeld := hHeldN
            clear hHeldN
            (try simp only [Act.put])
            (try simp only [List.setIfInBounds_toArray])
            (try simp only [List.set_cons_succ])
            (try simp only [List.set_cons_zero])
            refine wpAnyH_done (by kernel_rfl) ?_ _
            have HE := hid hHeld
            clear hHeld
            dsimp only [OnlyN]
            gi_wp2
            have hdd := (HX22.out.set (.bool true) HBV.out HBW.out.1 hDw)
            refine ⟨by simp, .inl ⟨_, _, rfl, run_takeDeferred hdd.d, ?_⟩⟩
            have hg := Grow.put (m := w6.heap.size) (.deferred none) hD hdd.d rfl
            have e2 := cell_grow hg (sc_same (v := .bool true) q8)
            exact ⟨.bool true, by simp [results, Try.f3, go_sem, e2], rfl, below_grow hdd.bel hg hlz (Nat.le_refl _)⟩
          · obtain rfl : kk = 0 := by omega
            obtain rfl : lp = 0 := hn0
            have hmin0 : (if (K : Int) < 0 then (K : Int) else 0) = 0 := by rw [if_neg (by omega)]
            obtain rfl : N = az := (HAN.out hk0).symm
            have hkne : ¬ (k : Int) = 0 := by omega
            clear how
            gi_wp2
            refine wpIn_of_wpN ?_
            refine wp_region_held_drew (S := fun V => V.cell? ⟨a13, 0, none⟩ = some (.int .i64 (k : Nat)) ∧ V.cell? ⟨a11, 0, none⟩ = some (.slice yl k cl) ∧ V.cell? ⟨a10, 0, none⟩ = some (.pointer (some ⟨b2, 0, none⟩)) ∧ V.cell? ⟨b2, 4, none⟩ = some (.slice (some ⟨g2, 0, none⟩) N N) ∧ FpX w b1 g1 b2 g2 s (.slice none 0 0) pl D V) (by kernel_rfl) ?_ (fun hHeld => ?_)
            · have hdr : Below wC.heap.size wC wC.drew := (Below.refl _ _).drew
              exact ⟨keepc hdr y13, keepc hdr y11, keepc hdr y10, keepc hdr hc4, HX.out.below hdr⟩
            refine takeD (i := 0) (v := ?_) 113 rfl rfl (by kernel_rfl) (by kernel_rfl) (by kernel_rfl) (fun _ _ _ h => h) (by assumption) (Or.inl ⟨by rfl, ?_⟩) ?_
            rotate_left
            · intro w hSw
              (try dsimp only at hSw)
              go_simp
              try with_reducible rfl
            (try simp only [List.setIfInBounds_toArray])
            (try simp only [List.set_cons_succ])
            (try simp only [List.set_cons_zero])
            refine takeD (i := 1) (v := ?_) 114 rfl rfl (by kernel_rfl) (by kernel_rfl) (by kernel_rfl) (fun _ _ _ h => h) (by assumption) (Or.inl ⟨by rfl, ?_⟩) ?_
            rotate_left
            · intro w hSw
              (try dsimp only at hSw)
              go_simp
              try with_reducible rfl
            (try simp only [List.setIfInBounds_toArray])
            (try simp only [List.set_cons_succ])
            (try simp only [List.set_cons_zero])
            refine takeD (i := 2) (v := ?_) 115 rfl rfl (by kernel_rfl) (by kernel_rfl) (by kernel_rfl) (fun _ _ _ h => h) (by assumption) (Or.inl ⟨by rfl, ?_⟩) ?_
            rotate_left
            · intro w hSw
              (try dsimp only at hSw)
              go_simp
              try with_reducible rfl
            (try simp only [List.setIfInBounds_toArray])
            (try simp only [List.set_cons_succ])
            (try simp only [List.set_cons_zero])
            refine takeD (i := 3) (v := ?_) 116 rfl rfl (by kernel_rfl) (by kernel_rfl) (by kernel_rfl) (fun _ _ _ h => h) (by assumption) (Or.inl ⟨by rfl, ?_⟩) ?_
            rotate_left
            · intro w hSw
              (try dsimp only at hSw)
              go_simp
              try with_reducible rfl
            (try simp only [List.setIfInBounds_toArray])
            (try simp only [List.set_cons_succ])
            (try simp only [List.set_cons_zero])
            refine takeD (i := 4) (v := ?_) 117 rfl rfl (by kernel_rfl) (by kernel_rfl) (by kernel_rfl) (fun _ _ _ h => h) (by assumption) (Or.inl ⟨by rfl, ?_⟩) ?_
            rotate_left
            · intro w hSw
              (try dsimp only at hSw)
              go_simp
              try with_reducible rfl
            (try simp only [List.setIfInBounds_toArray])
            (try simp only [List.set_cons_succ])
            (try simp only [List.set_cons_zero])
            refine takeD (i := 5) (v := ?_) 118 rfl rfl (by kernel_rfl) (by kernel_rfl) (by kernel_rfl) (fun _ _ _ h => h) (by assumption) (Or.inl ⟨by rfl, ?_⟩) ?_
            rotate_left
            · intro w hSw
              (try dsimp only at hSw)
              go_simp
              try with_reducible rfl
            (try simp only [List.setIfInBounds_toArray])
            (try simp only [List.set_cons_succ])
            (try simp only [List.set_cons_zero])
            refine takeD (i := 6) (v := ?_) 119 rfl rfl (by kernel_rfl) (by kernel_rfl) (by kernel_rfl) (fun _ _ _ h => h) (by assumption) (Or.inl ⟨by rfl, ?_⟩) ?_
            rotate_left
            · intro w hSw
              (try dsimp only at hSw)
              go_simp
              try with_reducible rfl
            (try simp only [List.setIfInBounds_toArray])
            (try simp only [List.set_cons_succ])
            (try simp only [List.set_cons_zero])
            refine takeD (i := 7) (v := .bool false) 120 rfl rfl (by kernel_rfl) (by kernel_rfl) (by kernel_rfl) (fun _ _ _ h => h) (by assumption) (Or.inl ⟨by rfl, ?_⟩) ?_
            · intro w hSw
              (try dsimp only at hSw)
              go_simp
              try with_reducible rfl
            (try simp only [List.setIfInBounds_toArray])
            (try simp only [List.set_cons_succ])
            (try simp only [List.set_cons_zero])
            refine takeD (i := 8) (v := ?_) 121 rfl rfl (by kernel_rfl) (by kernel_rfl) (by kernel_rfl) (fun _ _ _ h => h) (by assumption) (Or.inl ⟨by rfl, ?_⟩) ?_
            rotate_left
            · intro w hSw
              (try dsimp only at hSw)
              go_simp
              try with_reducible rfl
            (try simp only [List.setIfInBounds_toArray])
            (try simp only [List.set_cons_succ])
            (try simp only [List.set_cons_zero])
            refine takeD (i := 9) (v := ?_) 122 rfl rfl (by kernel_rfl) (by kernel_rfl) (by kernel_rfl) (fun _ _ _ h => h) (by assumption) (Or.inl ⟨by rfl, ?_⟩) ?_
            rotate_left
            · intro w hSw
              (try dsimp only at hSw)
              go_simp
              try with_reducible rfl
            (try simp only [List.setIfInBounds_toArray])
            (try simp only [List.set_cons_succ])
            (try simp only [List.set_cons_zero])
            refine takeD (i := 10) (v := ?_) 123 rfl rfl (by kernel_rfl) (by kernel_rfl) (by kernel_rfl) (fun _ _ _ h => h) (by assumption) (Or.inl ⟨by rfl, ?_⟩) ?_
            rotate_left
            · intro w hSw
              (try dsimp only at hSw)
              go_simp
              try with_reducible rfl
            (try simp only [List.setIfInBounds_toArray])
            (try simp only [List.set_cons_succ])
            (try simp only [List.set_cons_zero])
            refine takeD (i := 11) (v := ?_) 124 rfl rfl (by kernel_rfl) (by kernel_rfl) (by kernel_rfl) (fun _ _ _ h => h) (by assumption) (Or.inl ⟨by rfl, ?_⟩) ?_
            rotate_left
            · intro w hSw
              (try dsimp only at hSw)
              go_simp
              try with_reducible rfl
            (try simp only [List.setIfInBounds_toArray])
            (try simp only [List.set_cons_succ])
            (try simp only [List.set_cons_zero])
            refine takeD (i := 12) (v := ?_) 125 rfl rfl (by kernel_rfl) (by kernel_rfl) (by kernel_rfl) (fun _ _ _ h => h) (by assumption) (Or.inl ⟨by rfl, ?_⟩) ?_
            rotate_left
            · intro w hSw
              (try dsimp only at hSw)
              go_simp
              try with_reducible rfl
            (try simp only [List.setIfInBounds_toArray])
            (try simp only [List.set_cons_succ])
            (try simp only [List.set_cons_zero])
            refine takeD (i := 13) (v := ?_) 126 rfl rfl (by kernel_rfl) (by kernel_rfl) (by kernel_rfl) (fun _ _ _ h => h) (by assumption) (Or.inl ⟨by rfl, ?_⟩) ?_
            rotate_left
            · intro w hSw
              (try dsimp only at hSw)
              go_simp
              try with_reducible rfl
            (try simp only [List.setIfInBounds_toArray])
            (try simp only [List.set_cons_succ])
            (try simp only [List.set_cons_zero])
            refine takeD (i := 14) (v := ?_) 127 rfl rfl (by kernel_rfl) (by kernel_rfl) (by kernel_rfl) (fun _ _ _ h => h) (by assumption) (Or.inl ⟨by rfl, ?_⟩) ?_
            rotate_left
            · intro w hSw
              (try dsimp only at hSw)
              go_simp
              try with_reducible rfl
            (try simp only [List.setIfInBounds_toArray])
            (try simp only [List.set_cons_succ])
            (try simp only [List.set_cons_zero])
            refine takeD (i := 15) (v := ?_) 128 rfl rfl (by kernel_rfl) (by kernel_rfl) (by kernel_rfl) (fun _ _ _ h => h) (by assumption) (Or.inl ⟨by rfl, ?_⟩) ?_
            rotate_left
            · intro w hSw
              (try dsimp only at hSw)
              go_simp
              try with_reducible rfl
            (try simp only [List.setIfInBounds_toArray])
            (try simp only [List.set_cons_succ])
            (try simp only [List.set_cons_zero])
            refine takeD (i := 16) (v := ?_) 129 rfl rfl (by kernel_rfl) (by kernel_rfl) (by kernel_rfl) (fun _ _ _ h => h) (by assumption) (Or.inl ⟨by rfl, ?_⟩) ?_
            rotate_left
            · intro w hSw
              (try dsimp only at hSw)
              go_simp
              try with_reducible rfl
            (try simp only [List.setIfInBounds_toArray])
            (try simp only [List.set_cons_succ])
            (try simp only [List.set_cons_zero])
            refine takeD (i := 17) (v := ?_) 130 rfl rfl (by kernel_rfl) (by kernel_rfl) (by kernel_rfl) (fun _ _ _ h => h) (by assumption) (Or.inl ⟨by rfl, ?_⟩) ?_
            rotate_left
            · intro w hSw
              (try dsimp only at hSw)
              go_simp
              try with_reducible rfl
            (try simp only [List.setIfInBounds_toArray])
            (try simp only [List.set_cons_succ])
            (try simp only [List.set_cons_zero])
            refine takeD (i := 18) (v := ?_) 131 rfl rfl (by kernel_rfl) (by kernel_rfl) (by kernel_rfl) (fun _ _ _ h => h) (by assumption) (Or.inl ⟨by rfl, ?_⟩) ?_
            rotate_left
            · intro w hSw
              (try dsimp only at hSw)
              go_simp
              try with_reducible rfl
            (try simp only [List.setIfInBounds_toArray])
            (try simp only [List.set_cons_succ])
            (try simp only [List.set_cons_zero])
            refine takeD (i := 19) (v := ?_) 132 rfl rfl (by kernel_rfl) (by kernel_rfl) (by kernel_rfl) (fun _ _ _ h => h) (by assumption) (Or.inl ⟨by rfl, ?_⟩) ?_
            rotate_left
            · intro w hSw
              (try dsimp only at hSw)
              go_simp
              try with_reducible rfl
            (try simp only [List.setIfInBounds_toArray])
            (try simp only [List.set_cons_succ])
            (try simp only [List.set_cons_zero])
            refine takeD (i := 21) (v := ?_) 134 rfl rfl (by kernel_rfl) (by kernel_rfl) (by kernel_rfl) (fun _ _ _ h => h) (by assumption) (Or.inl ⟨by rfl, ?_⟩) ?_
            rotate_left
            · intro w hSw
              (try dsimp only at hSw)
              go_simp
              try with_reducible rfl
            (try simp only [List.setIfInBounds_toArray])
            (try simp only [List.set_cons_succ])
            (try simp only [List.set_cons_zero])
            refine wpAnyH_ready (rs := [20]) (by kernel_rfl) (by simp) ?_
            refine AllReadyH.cons (by simp only [List.getElem?_toArray, List.getElem?_cons_succ, List.getElem?_cons_zero]; rfl) (fun K hK => ?_) AllReadyH.nil
            go_simp
            go_at_call 17; (with_reducible refine (HUN.out _ hHeld.2.2.2.2.sp).mono ?_); rintro e w20 ⟨rfl, hb20⟩
            refine hK.out _ _ ?_ (fun hHeldN => ?_)
            · exact ⟨keepc hb20 hHeld.1, keepc hb20 hHeld.2.1, keepc hb20 hHeld.2.2.1, keepc hb20 hHeld.2.2.2.1, hHeld.2.2.2.2.below hb20⟩
            clear hK K hHeld
            have hHeld := hHeldN
            clear hHeldN
            (try simp only [Act.put])
            (try simp only [List.setIfInBounds_toArray])
            (try simp only [List.set_cons_succ])
            (try simp only [List.set_cons_zero])
            refine takeD (i := 22) (v := ?_) 135 rfl rfl (by kernel_rfl) (by kernel_rfl) (by kernel_rfl) (fun _ _ _ h => h) (by assumption) (Or.inl ⟨by rfl, ?_⟩) ?_
            rotate_left
            · intro w hSw
              (try dsimp only at hSw)
              go_simp
              try with_reducible rfl
            (try simp only [List.setIfInBounds_toArray])
            (try simp only [List.set_cons_succ])
            (try simp only [List.set_cons_zero])
            refine takeD (i := 23) (v := ?_) 136 rfl rfl (by kernel_rfl) (by kernel_rfl) (by kernel_rfl) (fun _ _ _ h => h) (by assumption) (Or.inl ⟨by rfl, ?_⟩) ?_
            rotate_left
            · intro w hSw
              (try dsimp only at hSw)
              go_simp
              try with_reducible rfl
            (try simp only [List.setIfInBounds_toArray])
            (try simp only [List.set_cons_succ])
            (try simp only [List.set_cons_zero])
            refine takeD (i := 24) (v := ?_) 137 rfl rfl (by kernel_rfl) (by kernel_rfl) (by kernel_rfl) (fun _ _ _ h => h) (by assumption) (Or.inl ⟨by rfl, ?_⟩) ?_
            rotate_left
            · intro w hSw
              (try dsimp only at hSw)
              go_simp
              try with_reducible rfl
            (try simp only [List.setIfInBounds_toArray])
            (try simp only [List.set_cons_succ])
            (try simp only [List.set_cons_zero])
            refine takeD (i := 25) (v := ?_) 138 rfl rfl (by kernel_rfl) (by kernel_rfl) (by kernel_rfl) (fun _ _ _ h => h) (by assumption) (Or.inl ⟨by rfl, ?_⟩) ?_
            rotate_left
            · intro w hSw
              (try dsimp only at hSw)
              go_simp
              try with_reducible rfl
            (try simp only [List.setIfInBounds_toArray])
            (try simp only [List.set_cons_succ])
            (try simp only [List.set_cons_zero])
            refine takeD (i := 26) (v := ?_) 139 rfl rfl (by kernel_rfl) (by kernel_rfl) (by kernel_rfl) (fun _ _ _ h => h) (by assumption) (Or.inl ⟨by rfl, ?_⟩) ?_
            rotate_left
            · intro w hSw
              (try dsimp only at hSw)
              go_simp
              try with_reducible rfl
            (try simp only [List.setIfInBounds_toArray])
            (try simp only [List.set_cons_succ])
            (try simp only [List.set_cons_zero])
            refine takeD (i := 27) (v := ?_) 140 rfl rfl (by kernel_rfl) (by kernel_rfl) (by kernel_rfl) (fun _ _ _ h => h) (by assumption) (Or.inl ⟨by rfl, ?_⟩) ?_
            rotate_left
            · intro w hSw
              (try dsimp only at hSw)
              go_simp
              try with_reducible rfl
            (try simp only [List.setIfInBounds_toArray])
            (try simp only [List.set_cons_succ])
            (try simp only [List.set_cons_zero])
            refine takeD (i := 29) (v := ?_) 142 rfl rfl (by kernel_rfl) (by kernel_rfl) (by kernel_rfl) (fun _ _ _ h => h) (by assumption) (Or.inl ⟨by rfl, ?_⟩) ?_
            rotate_left
            · intro w hSw
              (try dsimp only at hSw)
              go_simp
              try with_reducible rfl
            (try simp only [List.setIfInBounds_toArray])
            (try simp only [List.set_cons_succ])
            (try simp only [List.set_cons_zero])
            refine takeD (i := 30) (v := ?_) 143 rfl rfl (by kernel_rfl) (by kernel_rfl) (by kernel_rfl) (fun _ _ _ h => h) (by assumption) (Or.inl ⟨by rfl, ?_⟩) ?_
            rotate_left
            · intro w hSw
              (try dsimp only at hSw)
              go_simp
              try with_reducible rfl
            (try simp only [List.setIfInBounds_toArray])
            (try simp only [List.set_cons_succ])
            (try simp only [List.set_cons_zero])
            refine takeD (i := 31) (v := ?_) 144 rfl rfl (by kernel_rfl) (by kernel_rfl) (by kernel_rfl) (fun _ _ _ h => h) (by assumption) (Or.inl ⟨by rfl, ?_⟩) ?_
            rotate_left
            · intro w hSw
              (try dsimp only at hSw)
              go_simp
              try with_reducible rfl
            (try simp only [List.setIfInBounds_toArray])
            (try simp only [List.set_cons_succ])
            (try simp only [List.set_cons_zero])
            refine takeD (i := 32) (v := ?_) 145 rfl rfl (by kernel_rfl) (by kernel_rfl) (by kernel_rfl) (fun _ _ _ h => h) (by assumption) (Or.inl ⟨by rfl, ?_⟩) ?_
            rotate_left
            · intro w hSw
              (try dsimp only at hSw)
              go_simp
              try with_reducible rfl
            (try simp only [List.setIfInBounds_toArray])
            (try simp only [List.set_cons_succ])
            (try simp only [List.set_cons_zero])
            refine takeD (i := 33) (v := ?_) 146 rfl rfl (by kernel_rfl) (by kernel_rfl) (by kernel_rfl) (fun _ _ _ h => h) (by assumption) (Or.inl ⟨by rfl, ?_⟩) ?_
            rotate_left
            · intro w hSw
              (try dsimp only at hSw)
              go_simp
              try with_reducible rfl
            (try simp only [List.setIfInBounds_toArray])
            (try simp only [List.set_cons_succ])
            (try simp only [List.set_cons_zero])
            refine takeD (i := 34) (v := ?_) 147 rfl rfl (by kernel_rfl) (by kernel_rfl) (by kernel_rfl) (fun _ _ _ h => h) (by assumption) (Or.inl ⟨by rfl, ?_⟩) ?_
            rotate_left
            · intro w hSw
              (try dsimp only at hSw)
              go_simp
              try with_reducible rfl
            (try simp only [List.setIfInBounds_toArray])
            (try simp only [List.set_cons_succ])
            (try simp only [List.set_cons_zero])
            refine wpAnyH_ready (rs := [28]) (by kernel_rfl) (by simp) ?_
            refine AllReadyH.cons (by simp only [List.getElem?_toArray, List.getElem?_cons_succ, List.getElem?_cons_zero]; rfl) (fun K hK => ?_) AllReadyH.nil
            go_simp
            go_at_call 18; (with_reducible refine (HPK.out _ hHeld.2.2.2.2.sp).mono ?_); rintro e w21 ⟨v9, rfl, ho9, hk9, hb21⟩; rw [HIT.out.1] at ho9; obtain ⟨y9, c9, rfl⟩ := row_any ho9; have HO9 := hid ho9; clear ho9 hk9
            refine hK.out _ _ ?_ (fun hHeldN => ?_)
            · exact ⟨keepc hb21 hHeld.1, keepc hb21 hHeld.2.1, keepc hb21 hHeld.2.2.1, keepc hb21 hHeld.2.2.2.1, hHeld.2.2.2.2.below hb21⟩
            clear hK K hHeld
            have hHeld := hHeldN
            clear hHeldN
            (try simp only [Act.put])
            (try simp only [List.setIfInBounds_toArray])
            (try simp only [List.set_cons_succ])
            (try simp only [List.set_cons_zero])
            refine wpAnyH_ready (rs := [35]) (by kernel_rfl) (by simp) ?_
            refine AllReadyH.cons (by simp only [List.getElem?_toArray, List.getElem?_cons_succ, List.getElem?_cons_zero]; rfl) (fun K hK => ?_) AllReadyH.nil
            go_simp
            go_at_call 11; (with_reducible refine (equalI_nil _ none _ 0 _).mono ?_); rintro e w22 ⟨rfl, hb22⟩
            refine hK.out _ _ ?_ (fun hHeldN => ?_)
            · exact ⟨keepc hb22 hHeld.1, keepc hb22 hHeld.2.1, keepc hb22 hHeld.2.2.1, keepc hb22 hHeld.2.2.2.1, hHeld.2.2.2.2.below hb22⟩
            obtain ⟨u8, q8⟩ := hHeldN.2.2.2.2.c8
            have r8 := hHeldN.2.2.2.2.f8
            have l8 := World.block_lt_of_cell? w22 _ q8
            have HX22 := hid hHeldN.2.2.2.2
            clear hK K hHeld
            have hHeld := hHeldN
            clear hHeldN
            (try simp only [Act.put])
            (try simp only [List.setIfInBounds_toArray])
            (try simp only [List.set_cons_succ])
            (try simp only [List.set_cons_zero])
            refine takeD (i := 36) (v := ?_) 149 rfl rfl (by kernel_rfl) (by kernel_rfl) (by kernel_rfl) (fun _ _ _ h => h) (by assumption) (Or.inl ⟨by rfl, ?_⟩) ?_
            rotate_left
            · intro w hSw
              (try dsimp only at hSw)
              go_simp
              try with_reducible rfl
            (try simp only [List.setIfInBounds_toArray])
            (try simp only [List.set_cons_succ])
            (try simp only [List.set_cons_zero])
            refine wpAnyH_ready (rs := [37]) (by kernel_rfl) (by simp) ?_
            refine AllReadyH.cons (by simp only [List.getElem?_toArray, List.getElem?_cons_succ, List.getElem?_cons_zero]; rfl) (fun K hK => ?_) AllReadyH.nil
            go_simp
            refine hK.out _ _ ?_ (fun hHeldN => ?_)
            · exact ⟨(World.cell?_setCell_far _ _ _ _ (by simp; omega)).trans hHeld.1, (World.cell?_setCell_far _ _ _ _ (by simp; omega)).trans hHeld.2.1, (World.cell?_setCell_far _ _ _ _ (by simp; omega)).trans hHeld.2.2.1, (World.cell?_setCell_far _ _ _ _ (by simp; omega)).trans hHeld.2.2.2.1, hHeld.2.2.2.2.set _ HBV.out HBW.out.1 hDw⟩
            clear hK K hHeld
            have hHeld := hHeldN
            clear hHeldN
            (try simp only [Act.put])
            (try simp only [List.setIfInBounds_toArray])
            (try simp only [List.set_cons_succ])
            (try simp only [List.set_cons_zero])
            refine wpAnyH_done (by kernel_rfl) ?_ _
            have HE := hid hHeld
            clear hHeld
            dsimp only [OnlyN]
            gi_wp2
            have hdd := (HX22.out.set (.bool true) HBV.out HBW.out.1 hDw)
            refine ⟨by simp, .inl ⟨_, _, rfl, run_takeDeferred hdd.d, ?_⟩⟩
            have hg := Grow.put (m := w6.heap.size) (.deferred none) hD hdd.d rfl
            have e2 := cell_grow hg (sc_same (v := .bool true) q8)
            exact ⟨.bool true, by simp [results, Try.f3, go_sem, e2], rfl, below_grow hdd.bel hg hlz (Nat.le_refl _)⟩
        · by_cases hk0 : k = 0
          · have hkc : kk ≤ cw := by omega
            have HCA := hid (fun W (hb : FpX w b1 g1 b2 g2 s (.slice (some ⟨gw, 0, none⟩) lp cw) pl D W) => (show ∀ i, i < (pl.map Int.ofNat).length → W.cell? ⟨gw, 0 + i, none⟩ = some (.int .i64 ((pl.map Int.ofNat).getD i 0)) from by
              rcases ints_cells (xs := pl.map Int.ofNat) (by rw [List.length_map]; exact hb.own) with ⟨x, c, e, h0⟩ | ⟨g, c, e, hc⟩
              · intro i hi
                rw [h0] at hi
                exact absurd hi (Nat.not_lt_zero i)
              · rw [HLP.out.2] at e
                injection e with e1 e2 e3
                injection e1 with e1
                injection e1 with e1
                subst e1
                exact hc))
            have HE2 := hid (fun u W (hu : W.ownsRow 0 3 1 u kk (intsV ((pl.map Int.ofNat).take kk))) hy => (show Calls Try.prog 11 #[u, .slice (some ⟨gw, 0, none⟩) kk cw] W _ from by
              have q := equalI_pre u gw cw ((pl.map Int.ofNat).take kk) (pl.map Int.ofNat) W (by rw [HIT.out.2]; exact hu) hy (fun i hi => by rw [HIT.out.2] at hi; simp [List.getD, hi]) (by rw [HIT.out.2, HLP.out.2]; exact hkL) (by rw [HLP.out.2]; omega)
              rw [HIT.out.2] at q
              exact q))
            obtain rfl : k = 0 := hk0
            clear how
            gi_wp2
            refine wpIn_of_wpN ?_
            refine wp_region_held_drew (S := fun V => V.cell? ⟨a13, 0, none⟩ = some (.int .i64 (0 : Nat)) ∧ V.cell? ⟨a11, 0, none⟩ = some (.slice yl 0 cl) ∧ V.cell? ⟨a10, 0, none⟩ = some (.pointer (some ⟨b2, 0, none⟩)) ∧ V.cell? ⟨b2, 4, none⟩ = some (.slice (some ⟨g2, 0, none⟩) N N) ∧ FpX w b1 g1 b2 g2 s (.slice (some ⟨gw, 0, none⟩) lp cw) pl D V) (by kernel_rfl) ?_ (fun hHeld => ?_)
            · have hdr : Below wC.heap.size wC wC.drew := (Below.refl _ _).drew
              exact ⟨keepc hdr y13, keepc hdr y11, keepc hdr y10, keepc hdr hc4, HX.out.below hdr⟩
            refine takeD (i := 0) (v := ?_) 113 rfl rfl (by kernel_rfl) (by kernel_rfl) (by kernel_rfl) (fun _ _ _ h => h) (by assumption) (Or.inl ⟨by rfl, ?_⟩) ?_
            rotate_left
            · intro w hSw
              (try dsimp only at hSw)
              go_simp
              try with_reducible rfl
            (try simp only [List.setIfInBounds_toArray])
            (try simp only [List.set_cons_succ])
            (try simp only [List.set_cons_zero])
            refine takeD (i := 1) (v := ?_) 114 rfl rfl (by kernel_rfl) (by kernel_rfl) (by kernel_rfl) (fun _ _ _ h => h) (by assumption) (Or.inl ⟨by rfl, ?_⟩) ?_
            rotate_left
            · intro w hSw
              (try dsimp only at hSw)
              go_simp
              try with_reducible rfl
            (try simp only [List.setIfInBounds_toArray])
            (try simp only [List.set_cons_succ])
            (try simp only [List.set_cons_zero])
            refine takeD (i := 2) (v := ?_) 115 rfl rfl (by kernel_rfl) (by kernel_rfl) (by kernel_rfl) (fun _ _ _ h => h) (by assumption) (Or.inl ⟨by rfl, ?_⟩) ?_
            rotate_left
            · intro w hSw
              (try dsimp only at hSw)
              go_simp
              try with_reducible rfl
            (try simp only [List.setIfInBounds_toArray])
            (try simp only [List.set_cons_succ])
            (try simp only [List.set_cons_zero])
            refine takeD (i := 3) (v := ?_) 116 rfl rfl (by kernel_rfl) (by kernel_rfl) (by kernel_rfl) (fun _ _ _ h => h) (by assumption) (Or.inl ⟨by rfl, ?_⟩) ?_
            rotate_left
            · intro w hSw
              (try dsimp only at hSw)
              go_simp
              try with_reducible rfl
            (try simp only [List.setIfInBounds_toArray])
            (try simp only [List.set_cons_succ])
            (try simp only [List.set_cons_zero])
            refine takeD (i := 4) (v := ?_) 117 rfl rfl (by kernel_rfl) (by kernel_rfl) (by kernel_rfl) (fun _ _ _ h => h) (by assumption) (Or.inl ⟨by rfl, ?_⟩) ?_
            rotate_left
            · intro w hSw
              (try dsimp only at hSw)
              go_simp
              try with_reducible rfl
            (try simp only [List.setIfInBounds_toArray])
            (try simp only [List.set_cons_succ])
            (try simp only [List.set_cons_zero])
            refine takeD (i := 5) (v := ?_) 118 rfl rfl (by kernel_rfl) (by kernel_rfl) (by kernel_rfl) (fun _ _ _ h => h) (by assumption) (Or.inl ⟨by rfl, ?_⟩) ?_
            rotate_left
            · intro w hSw
              (try dsimp only at hSw)
              go_simp
              try with_reducible rfl
            (try simp only [List.setIfInBounds_toArray])
            (try simp only [List.set_cons_succ])
            (try simp only [List.set_cons_zero])
            refine takeD (i := 6) (v := ?_) 119 rfl rfl (by kernel_rfl) (by kernel_rfl) (by kernel_rfl) (fun _ _ _ h => h) (by assumption) (Or.inl ⟨by rfl, ?_⟩) ?_
            rotate_left
            · intro w hSw
              (try dsimp only at hSw)
              go_simp
              try with_reducible rfl
            (try simp only [List.setIfInBounds_toArray])
            (try simp only [List.set_cons_succ])
            (try simp only [List.set_cons_zero])
            refine takeD (i := 7) (v := ?_) 120 rfl rfl (by kernel_rfl) (by kernel_rfl) (by kernel_rfl) (fun _ _ _ h => h) (by assumption) (Or.inl ⟨by rfl, ?_⟩) ?_
            rotate_left
            · intro w hSw
              (try dsimp only at hSw)
              go_simp
              try with_reducible rfl
            (try simp only [List.setIfInBounds_toArray])
            (try simp only [List.set_cons_succ])
            (try simp only [List.set_cons_zero])
            refine takeD (i := 8) (v := ?_) 121 rfl rfl (by kernel_rfl) (by kernel_rfl) (by kernel_rfl) (fun _ _ _ h => h) (by assumption) (Or.inl ⟨by rfl, ?_⟩) ?_
            rotate_left
            · intro w hSw
              (try dsimp only at hSw)
              go_simp
              try with_reducible rfl
            (try simp only [List.setIfInBounds_toArray])
            (try simp only [List.set_cons_succ])
            (try simp only [List.set_cons_zero])
            refine takeD (i := 9) (v := undef) 122 rfl rfl (by kernel_rfl) (by kernel_rfl) (by kernel_rfl) (fun _ _ _ h => h) (by assumption) (Or.inr ⟨by rfl, rfl⟩) ?_
            (try simp only [List.setIfInBounds_toArray])
            (try simp only [List.set_cons_succ])
            (try simp only [List.set_cons_zero])
            refine takeD (i := 10) (v := undef) 123 rfl rfl (by kernel_rfl) (by kernel_rfl) (by kernel_rfl) (fun _ _ _ h => h) (by assumption) (Or.inr ⟨by rfl, rfl⟩) ?_
            (try simp only [List.setIfInBounds_toArray])
            (try simp only [List.set_cons_succ])
            (try simp only [List.set_cons_zero])
            refine takeD (i := 11) (v := undef) 124 rfl rfl (by kernel_rfl) (by kernel_rfl) (by kernel_rfl) (fun _ _ _ h => h) (by assumption) (Or.inr ⟨by rfl, rfl⟩) ?_
            (try simp only [List.setIfInBounds_toArray])
            (try simp only [List.set_cons_succ])
            (try simp only [List.set_cons_zero])
            refine takeD (i := 12) (v := undef) 125 rfl rfl (by kernel_rfl) (by kernel_rfl) (by kernel_rfl) (fun _ _ _ h => h) (by assumption) (Or.inr ⟨by rfl, rfl⟩) ?_
            (try simp only [List.setIfInBounds_toArray])
            (try simp only [List.set_cons_succ])
            (try simp only [List.set_cons_zero])
            refine takeD (i := 13) (v := undef) 126 rfl rfl (by kernel_rfl) (by kernel_rfl) (by kernel_rfl) (fun _ _ _ h => h) (by assumption) (Or.inr ⟨by rfl, rfl⟩) ?_
            (try simp only [List.setIfInBounds_toArray])
            (try simp only [List.set_cons_succ])
            (try simp only [List.set_cons_zero])
            refine takeD (i := 14) (v := undef) 127 rfl rfl (by kernel_rfl) (by kernel_rfl) (by kernel_rfl) (fun _ _ _ h => h) (by assumption) (Or.inr ⟨by rfl, rfl⟩) ?_
            (try simp only [List.setIfInBounds_toArray])
            (try simp only [List.set_cons_succ])
            (try simp only [List.set_cons_zero])
            refine takeD (i := 15) (v := undef) 128 rfl rfl (by kernel_rfl) (by kernel_rfl) (by kernel_rfl) (fun _ _ _ h => h) (by assumption) (Or.inr ⟨by rfl, rfl⟩) ?_
            (try simp only [List.setIfInBounds_toArray])
            (try simp only [List.set_cons_succ])
            (try simp only [List.set_cons_zero])
            refine takeD (i := 16) (v := ?_) 129 rfl rfl (by kernel_rfl) (by kernel_rfl) (by kernel_rfl) (fun _ _ _ h => h) (by assumption) (Or.inl ⟨by rfl, ?_⟩) ?_
            rotate_left
            · intro w hSw
              (try dsimp only at hSw)
              go_simp
              try with_reducible rfl
            (try simp only [List.setIfInBounds_toArray])
            (try simp only [List.set_cons_succ])
            (try simp only [List.set_cons_zero])
            refine takeD (i := 17) (v := ?_) 130 rfl rfl (by kernel_rfl) (by kernel_rfl) (by kernel_rfl) (fun _ _ _ h => h) (by assumption) (Or.inl ⟨by rfl, ?_⟩) ?_
            rotate_left
            · intro w hSw
              (try dsimp only at hSw)
              go_simp
              try with_reducible rfl
            (try simp only [List.setIfInBounds_toArray])
            (try simp only [List.set_cons_succ])
            (try simp only [List.set_cons_zero])
            refine takeD (i := 18) (v := ?_) 131 rfl rfl (by kernel_rfl) (by kernel_rfl) (by kernel_rfl) (fun _ _ _ h => h) (by assumption) (Or.inl ⟨by rfl, ?_⟩) ?_
            rotate_left
            · intro w hSw
              (try dsimp only at hSw)
              go_simp
              try with_reducible rfl
            (try simp only [List.setIfInBounds_toArray])
            (try simp only [List.set_cons_succ])
            (try simp only [List.set_cons_zero])
            refine takeD (i := 19) (v := ?_) 132 rfl rfl (by kernel_rfl) (by kernel_rfl) (by kernel_rfl) (fun _ _ _ h => h) (by assumption) (Or.inl ⟨by rfl, ?_⟩) ?_
            rotate_left
            · intro w hSw
              (try dsimp only at hSw)
              go_simp
              try with_reducible rfl
            (try simp only [List.setIfInBounds_toArray])
            (try simp only [List.set_cons_succ])
            (try simp only [List.set_cons_zero])
            refine takeD (i := 21) (v := ?_) 134 rfl rfl (by kernel_rfl) (by kernel_rfl) (by kernel_rfl) (fun _ _ _ h => h) (by assumption) (Or.inl ⟨by rfl, ?_⟩) ?_
            rotate_left
            · intro w hSw
              (try dsimp only at hSw)
              go_simp
              try with_reducible rfl
            (try simp only [List.setIfInBounds_toArray])
            (try simp only [List.set_cons_succ])
            (try simp only [List.set_cons_zero])
            refine wpAnyH_ready (rs := [20]) (by kernel_rfl) (by simp) ?_
            refine AllReadyH.cons (by simp only [List.getElem?_toArray, List.getElem?_cons_succ, List.getElem?_cons_zero]; rfl) (fun K hK => ?_) AllReadyH.nil
            go_simp
            go_at_call 17; (with_reducible refine (HUN.out _ hHeld.2.2.2.2.sp).mono ?_); rintro e w20 ⟨rfl, hb20⟩
            refine hK.out _ _ ?_ (fun hHeldN => ?_)
            · exact ⟨keepc hb20 hHeld.1, keepc hb20 hHeld.2.1, keepc hb20 hHeld.2.2.1, keepc hb20 hHeld.2.2.2.1, hHeld.2.2.2.2.below hb20⟩
            clear hK K hHeld
            have hHeld := hHeldN
            clear hHeldN
            (try simp only [Act.put])
            (try simp only [List.setIfInBounds_toArray])
            (try simp only [List.set_cons_succ])
            (try simp only [List.set_cons_zero])
            refine takeD (i := 22) (v := ?_) 135 rfl rfl (by kernel_rfl) (by kernel_rfl) (by kernel_rfl) (fun _ _ _ h => h) (by assumption) (Or.inl ⟨by rfl, ?_⟩) ?_
            rotate_left
            · intro w hSw
              (try dsimp only at hSw)
              go_simp
              try with_reducible rfl
            (try simp only [List.setIfInBounds_toArray])
            (try simp only [List.set_cons_succ])
            (try simp only [List.set_cons_zero])
            refine takeD (i := 23) (v := ?_) 136 rfl rfl (by kernel_rfl) (by kernel_rfl) (by kernel_rfl) (fun _ _ _ h => h) (by assumption) (Or.inl ⟨by rfl, ?_⟩) ?_
            rotate_left
            · intro w hSw
              (try dsimp only at hSw)
              go_simp
              try with_reducible rfl
            (try simp only [List.setIfInBounds_toArray])
            (try simp only [List.set_cons_succ])
            (try simp only [List.set_cons_zero])
            refine takeD (i := 24) (v := ?_) 137 rfl rfl (by kernel_rfl) (by kernel_rfl) (by kernel_rfl) (fun _ _ _ h => h) (by assumption) (Or.inl ⟨by rfl, ?_⟩) ?_
            rotate_left
            · intro w hSw
              (try dsimp only at hSw)
              go_simp
              try with_reducible rfl
            (try simp only [List.setIfInBounds_toArray])
            (try simp only [List.set_cons_succ])
            (try simp only [List.set_cons_zero])
            refine takeD (i := 25) (v := ?_) 138 rfl rfl (by kernel_rfl) (by kernel_rfl) (by kernel_rfl) (fun _ _ _ h => h) (by assumption) (Or.inl ⟨by rfl, ?_⟩) ?_
            rotate_left
            · intro w hSw
              (try dsimp only at hSw)
              go_simp
              try with_reducible rfl
            (try simp only [List.setIfInBounds_toArray])
            (try simp only [List.set_cons_succ])
            (try simp only [List.set_cons_zero])
            refine takeD (i := 26) (v := ?_) 139 rfl rfl (by kernel_rfl) (by kernel_rfl) (by kernel_rfl) (fun _ _ _ h => h) (by assumption) (Or.inl ⟨by rfl, ?_⟩) ?_
            rotate_left
            · intro w hSw
              (try dsimp only at hSw)
              go_simp
              try with_reducible rfl
            (try simp only [List.setIfInBounds_toArray])
            (try simp only [List.set_cons_succ])
            (try simp only [List.set_cons_zero])
            refine takeD (i := 27) (v := ?_) 140 rfl rfl (by kernel_rfl) (by kernel_rfl) (by kernel_rfl) (fun _ _ _ h => h) (by assumption) (Or.inl ⟨by rfl, ?_⟩) ?_
            rotate_left
            · intro w hSw
              (try dsimp only at hSw)
              go_simp
              try with_reducible rfl
            (try simp only [List.setIfInBounds_toArray])
            (try simp only [List.set_cons_succ])
            (try simp only [List.set_cons_zero])
            refine takeD (i := 29) (v := ?_) 142 rfl rfl (by kernel_rfl) (by kernel_rfl) (by kernel_rfl) (fun _ _ _ h => h) (by assumption) (Or.inl ⟨by rfl, ?_⟩) ?_
            rotate_left
            · intro w hSw
              (try dsimp only at hSw)
              go_simp
              try with_reducible rfl
            (try simp only [List.setIfInBounds_toArray])
            (try simp only [List.set_cons_succ])
            (try simp only [List.set_cons_zero])
            refine takeD (i := 30) (v := ?_) 143 rfl rfl (by kernel_rfl) (by kernel_rfl) (by kernel_rfl) (fun _ _ _ h => h) (by assumption) (Or.inl ⟨by rfl, ?_⟩) ?_
            rotate_left
            · intro w hSw
              (try dsimp only at hSw)
              go_simp
              try with_reducible rfl
            (try simp only [List.setIfInBounds_toArray])
            (try simp only [List.set_cons_succ])
            (try simp only [List.set_cons_zero])
            refine takeD (i := 31) (v := ?_) 144 rfl rfl (by kernel_rfl) (by kernel_rfl) (by kernel_rfl) (fun _ _ _ h => h) (by assumption) (Or.inl ⟨by rfl, ?_⟩) ?_
            rotate_left
            · intro w hSw
              (try dsimp only at hSw)
              go_simp
              try with_reducible rfl
            (try simp only [List.setIfInBounds_toArray])
            (try simp only [List.set_cons_succ])
            (try simp only [List.set_cons_zero])
            refine takeD (i := 32) (v := ?_) 145 rfl rfl (by kernel_rfl) (by kernel_rfl) (by kernel_rfl) (fun _ _ _ h => h) (by assumption) (Or.inl ⟨by rfl, ?_⟩) ?_
            rotate_left
            · intro w hSw
              (try dsimp only at hSw)
              go_simp
              try with_reducible rfl
            (try simp only [List.setIfInBounds_toArray])
            (try simp only [List.set_cons_succ])
            (try simp only [List.set_cons_zero])
            refine takeD (i := 33) (v := ?_) 146 rfl rfl (by kernel_rfl) (by kernel_rfl) (by kernel_rfl) (fun _ _ _ h => h) (by assumption) (Or.inl ⟨by rfl, ?_⟩) ?_
            rotate_left
            · intro w hSw
              (try dsimp only at hSw)
              go_simp
              try with_reducible rfl
            (try simp only [List.setIfInBounds_toArray])
            (try simp only [List.set_cons_succ])
            (try simp only [List.set_cons_zero])
            refine takeD (i := 34) (v := ?_) 147 rfl rfl (by kernel_rfl) (by kernel_rfl) (by kernel_rfl) (fun _ _ _ h => h) (by assumption) (Or.inl ⟨by rfl, ?_⟩) ?_
            rotate_left
            · intro w hSw
              (try dsimp only at hSw)
              go_simp
              try with_reducible rfl
            (try simp only [List.setIfInBounds_toArray])
            (try simp only [List.set_cons_succ])
            (try simp only [List.set_cons_zero])
            refine wpAnyH_ready (rs := [28]) (by kernel_rfl) (by simp) ?_
            refine AllReadyH.cons (by simp only [List.getElem?_toArray, List.getElem?_cons_succ, List.getElem?_cons_zero]; rfl) (fun K hK => ?_) AllReadyH.nil
            go_simp
            go_at_call 18; (with_reducible refine (HPK.out _ hHeld.2.2.2.2.sp).mono ?_); rintro e w21 ⟨v9, rfl, ho9, hk9, hb21⟩; rw [HIT.out.1] at ho9; obtain ⟨y9, c9, rfl⟩ := row_any ho9; have HO9 := hid ho9; clear ho9 hk9
            refine hK.out _ _ ?_ (fun hHeldN => ?_)
            · exact ⟨keepc hb21 hHeld.1, keepc hb21 hHeld.2.1, keepc hb21 hHeld.2.2.1, keepc hb21 hHeld.2.2.2.1, hHeld.2.2.2.2.below hb21⟩
            clear hK K hHeld
            have hHeld := hHeldN
            clear hHeldN
            (try simp only [Act.put])
            (try simp only [List.setIfInBounds_toArray])
            (try simp only [List.set_cons_succ])
            (try simp only [List.set_cons_zero])
            refine wpAnyH_ready (rs := [35]) (by kernel_rfl) (by simp) ?_
            refine AllReadyH.cons (by simp only [List.getElem?_toArray, List.getElem?_cons_succ, List.getElem?_cons_zero]; rfl) (fun K hK => ?_) AllReadyH.nil
            go_simp
            go_at_call 11; (with_reducible refine (HE2.out _ _ HO9.out (HCA.out _ hHeld.2.2.2.2)).mono ?_); rintro e w22 ⟨rfl, hb22⟩
            refine hK.out _ _ ?_ (fun hHeldN => ?_)
            · exact ⟨keepc hb22 hHeld.1, keepc hb22 hHeld.2.1, keepc hb22 hHeld.2.2.1, keepc hb22 hHeld.2.2.2.1, hHeld.2.2.2.2.below hb22⟩
            obtain ⟨u8, q8⟩ := hHeldN.2.2.2.2.c8
            have r8 := hHeldN.2.2.2.2.f8
            have l8 := World.block_lt_of_cell? w22 _ q8
            have HX22 := hid hHeldN.2.2.2.2
            clear hK K hHeld
            have hHeld := hHeldN
            clear hHeldN
            (try simp only [Act.put])
            (try simp only [List.setIfInBounds_toArray])
            (try simp only [List.set_cons_succ])
            (try simp only [List.set_cons_zero])
            refine takeD (i := 36) (v := ?_) 149 rfl rfl (by kernel_rfl) (by kernel_rfl) (by kernel_rfl) (fun _ _ _ h => h) (by assumption) (Or.inl ⟨by rfl, ?_⟩) ?_
            rotate_left
            · intro w hSw
              (try dsimp only at hSw)
              go_simp
              try with_reducible rfl
            (try simp only [List.setIfInBounds_toArray])
            (try simp only [List.set_cons_succ])
            (try simp only [List.set_cons_zero])
            refine wpAnyH_ready (rs := [37]) (by kernel_rfl) (by simp) ?_
            refine AllReadyH.cons (by simp only [List.getElem?_toArray, List.getElem?_cons_succ, List.getElem?_cons_zero]; rfl) (fun K hK => ?_) AllReadyH.nil
            go_simp
            refine hK.out _ _ ?_ (fun hHeldN => ?_)
            · exact ⟨(World.cell?_setCell_far _ _ _ _ (by simp; omega)).trans hHeld.1, (World.cell?_setCell_far _ _ _ _ (by simp; omega)).trans hHeld.2.1, (World.cell?_setCell_far _ _ _ _ (by simp; omega)).trans hHeld.2.2.1, (World.cell?_setCell_far _ _ _ _ (by simp; omega)).trans hHeld.2.2.2.1, hHeld.2.2.2.2.set _ HBV.out HBW.out.1 hDw⟩
            clear hK K hHeld
            have hHeld := hHeldN
            clear hHeldN
            (try simp only [Act.put])
            (try simp only [List.setIfInBounds_toArray])
            (try simp only [List.set_cons_succ])
            (try simp only [List.set_cons_zero])
            refine wpAnyH_done (by kernel_rfl) ?_ _
            have HE := hid hHeld
            clear hHeld
            dsimp only [OnlyN]
            gi_wp2
            have hdd := (HX22.out.set (.bool true) HBV.out HBW.out.1 hDw)
            refine ⟨by simp, .inl ⟨_, _, rfl, run_takeDeferred hdd.d, ?_⟩⟩
            have hg := Grow.put (m := w6.heap.size) (.deferred none) hD hdd.d rfl
            have e2 := cell_grow hg (sc_same (v := .bool true) q8)
            exact ⟨.bool true, by simp [results, Try.f3, go_sem, e2], rfl, below_grow hdd.bel hg hlz (Nat.le_refl _)⟩
          · have hkc : kk ≤ cw := by omega
            have HCA := hid (fun W (hb : FpX w b1 g1 b2 g2 s (.slice (some ⟨gw, 0, none⟩) lp cw) pl D W) => (show ∀ i, i < (pl.map Int.ofNat).length → W.cell? ⟨gw, 0 + i, none⟩ = some (.int .i64 ((pl.map Int.ofNat).getD i 0)) from by
              rcases ints_cells (xs := pl.map Int.ofNat) (by rw [List.length_map]; exact hb.own) with ⟨x, c, e, h0⟩ | ⟨g, c, e, hc⟩
              · intro i hi
                rw [h0] at hi
                exact absurd hi (Nat.not_lt_zero i)
              · rw [HLP.out.2] at e
                injection e with e1 e2 e3
                injection e1 with e1
                injection e1 with e1
                subst e1
                exact hc))
            have HE2 := hid (fun u W (hu : W.ownsRow 0 3 1 u kk (intsV ((pl.map Int.ofNat).take kk))) hy => (show Calls Try.prog 11 #[u, .slice (some ⟨gw, 0, none⟩) kk cw] W _ from by
              have q := equalI_pre u gw cw ((pl.map Int.ofNat).take kk) (pl.map Int.ofNat) W (by rw [HIT.out.2]; exact hu) hy (fun i hi => by rw [HIT.out.2] at hi; simp [List.getD, hi]) (by rw [HIT.out.2, HLP.out.2]; exact hkL) (by rw [HLP.out.2]; omega)
              rw [HIT.out.2] at q
              exact q))
            obtain rfl : N = az := (HAN.out hk0).symm
            have hkne : ¬ (k : Int) = 0 := by omega
            clear how
            gi_wp2
            refine wpIn_of_wpN ?_
            refine wp_region_held_drew (S := fun V => V.cell? ⟨a13, 0, none⟩ = some (.int .i64 (k : Nat)) ∧ V.cell? ⟨a11, 0, none⟩ = some (.slice yl k cl) ∧ V.cell? ⟨a10, 0, none⟩ = some (.pointer (some ⟨b2, 0, none⟩)) ∧ V.cell? ⟨b2, 4, none⟩ = some (.slice (some ⟨g2, 0, none⟩) N N) ∧ FpX w b1 g1 b2 g2 s (.slice (some ⟨gw, 0, none⟩) lp cw) pl D V) (by kernel_rfl) ?_ (fun hHeld => ?_)
            · have hdr : Below wC.heap.size wC wC.drew := (Below.refl _ _).drew
              exact ⟨keepc hdr y13, keepc hdr y11, keepc hdr y10, keepc hdr hc4, HX.out.below hdr⟩
            refine takeD (i := 0) (v := ?_) 113 rfl rfl (by kernel_rfl) (by kernel_rfl) (by kernel_rfl) (fun _ _ _ h => h) (by assumption) (Or.inl ⟨by rfl, ?_⟩) ?_
            rotate_left
            · intro w hSw
              (try dsimp only at hSw)
              go_simp
              try with_reducible rfl
            (try simp only [List.setIfInBounds_toArray])
            (try simp only [List.set_cons_succ])
            (try simp only [List.set_cons_zero])
            refine takeD (i := 1) (v := ?_) 114 rfl rfl (by kernel_rfl) (by kernel_rfl) (by kernel_rfl) (fun _ _ _ h => h) (by assumption) (Or.inl ⟨by rfl, ?_⟩) ?_
            rotate_left
            · intro w hSw
              (try dsimp only at hSw)
              go_simp
              try with_reducible rfl
            (try simp only [List.setIfInBounds_toArray])
            (try simp only [List.set_cons_succ])
            (try simp only [List.set_cons_zero])
            refine takeD (i := 2) (v := ?_) 115 rfl rfl (by kernel_rfl) (by kernel_rfl) (by kernel_rfl) (fun _ _ _ h => h) (by assumption) (Or.inl ⟨by rfl, ?_⟩) ?_
            rotate_left
            · intro w hSw
              (try dsimp only at hSw)
              go_simp
              try with_reducible rfl
            (try simp only [List.setIfInBounds_toArray])
            (try simp only [List.set_cons_succ])
            (try simp only [List.set_cons_zero])
            refine takeD (i := 3) (v := ?_) 116 rfl rfl (by kernel_rfl) (by kernel_rfl) (by kernel_rfl) (fun _ _ _ h => h) (by assumption) (Or.inl ⟨by rfl, ?_⟩) ?_
            rotate_left
            · intro w hSw
              (try dsimp only at hSw)
              go_simp
              try with_reducible rfl
            (try simp only [List.setIfInBounds_toArray])
            (try simp only [List.set_cons_succ])
            (try simp only [List.set_cons_zero])
            refine takeD (i := 4) (v := ?_) 117 rfl rfl (by kernel_rfl) (by kernel_rfl) (by kernel_rfl) (fun _ _ _ h => h) (by assumption) (Or.inl ⟨by rfl, ?_⟩) ?_
            rotate_left
            · intro w hSw
              (try dsimp only at hSw)
              go_simp
              try with_reducible rfl
            (try simp only [List.setIfInBounds_toArray])
            (try simp only [List.set_cons_succ])
            (try simp only [List.set_cons_zero])
            refine takeD (i := 5) (v := ?_) 118 rfl rfl (by kernel_rfl) (by kernel_rfl) (by kernel_rfl) (fun _ _ _ h => h) (by assumption) (Or.inl ⟨by rfl, ?_⟩) ?_
            rotate_left
            · intro w hSw
              (try dsimp only at hSw)
              go_simp
              try with_reducible rfl
            (try simp only [List.setIfInBounds_toArray])
            (try simp only [List.set_cons_succ])
            (try simp only [List.set_cons_zero])
            refine takeD (i := 6) (v := ?_) 119 rfl rfl (by kernel_rfl) (by kernel_rfl) (by kernel_rfl) (fun _ _ _ h => h) (by assumption) (Or.inl ⟨by rfl, ?_⟩) ?_
            rotate_left
            · intro w hSw
              (try dsimp only at hSw)
              go_simp
              try with_reducible rfl
            (try simp only [List.setIfInBounds_toArray])
            (try simp only [List.set_cons_succ])
            (try simp only [List.set_cons_zero])
            refine takeD (i := 7) (v := .bool false) 120 rfl rfl (by kernel_rfl) (by kernel_rfl) (by kernel_rfl) (fun _ _ _ h => h) (by assumption) (Or.inl ⟨by rfl, ?_⟩) ?_
            · intro w hSw
              (try dsimp only at hSw)
              go_simp
              try with_reducible rfl
            (try simp only [List.setIfInBounds_toArray])
            (try simp only [List.set_cons_succ])
            (try simp only [List.set_cons_zero])
            refine takeD (i := 8) (v := ?_) 121 rfl rfl (by kernel_rfl) (by kernel_rfl) (by kernel_rfl) (fun _ _ _ h => h) (by assumption) (Or.inl ⟨by rfl, ?_⟩) ?_
            rotate_left
            · intro w hSw
              (try dsimp only at hSw)
              go_simp
              try with_reducible rfl
            (try simp only [List.setIfInBounds_toArray])
            (try simp only [List.set_cons_succ])
            (try simp only [List.set_cons_zero])
            refine takeD (i := 9) (v := ?_) 122 rfl rfl (by kernel_rfl) (by kernel_rfl) (by kernel_rfl) (fun _ _ _ h => h) (by assumption) (Or.inl ⟨by rfl, ?_⟩) ?_
            rotate_left
            · intro w hSw
              (try dsimp only at hSw)
              go_simp
              try with_reducible rfl
            (try simp only [List.setIfInBounds_toArray])
            (try simp only [List.set_cons_succ])
            (try simp only [List.set_cons_zero])
            refine takeD (i := 10) (v := ?_) 123 rfl rfl (by kernel_rfl) (by kernel_rfl) (by kernel_rfl) (fun _ _ _ h => h) (by assumption) (Or.inl ⟨by rfl, ?_⟩) ?_
            rotate_left
            · intro w hSw
              (try dsimp only at hSw)
              go_simp
              try with_reducible rfl
            (try simp only [List.setIfInBounds_toArray])
            (try simp only [List.set_cons_succ])
            (try simp only [List.set_cons_zero])
            refine takeD (i := 11) (v := ?_) 124 rfl rfl (by kernel_rfl) (by kernel_rfl) (by kernel_rfl) (fun _ _ _ h => h) (by assumption) (Or.inl ⟨by rfl, ?_⟩) ?_
            rotate_left
            · intro w hSw
              (try dsimp only at hSw)
              go_simp
              try with_reducible rfl
            (try simp only [List.setIfInBounds_toArray])
            (try simp only [List.set_cons_succ])
            (try simp only [List.set_cons_zero])
            refine takeD (i := 12) (v := ?_) 125 rfl rfl (by kernel_rfl) (by kernel_rfl) (by kernel_rfl) (fun _ _ _ h => h) (by assumption) (Or.inl ⟨by rfl, ?_⟩) ?_
            rotate_left
            · intro w hSw
              (try dsimp only at hSw)
              go_simp
              try with_reducible rfl
            (try simp only [List.setIfInBounds_toArray])
            (try simp only [List.set_cons_succ])
            (try simp only [List.set_cons_zero])
            refine takeD (i := 13) (v := ?_) 126 rfl rfl (by kernel_rfl) (by kernel_rfl) (by kernel_rfl) (fun _ _ _ h => h) (by assumption) (Or.inl ⟨by rfl, ?_⟩) ?_
            rotate_left
            · intro w hSw
              (try dsimp only at hSw)
              go_simp
              try with_reducible rfl
            (try simp only [List.setIfInBounds_toArray])
            (try simp only [List.set_cons_succ])
            (try simp only [List.set_cons_zero])
            refine takeD (i := 14) (v := ?_) 127 rfl rfl (by kernel_rfl) (by kernel_rfl) (by kernel_rfl) (fun _ _ _ h => h) (by assumption) (Or.inl ⟨by rfl, ?_⟩) ?_
            rotate_left
            · intro w hSw
              (try dsimp only at hSw)
              go_simp
              try with_reducible rfl
            (try simp only [List.setIfInBounds_toArray])
            (try simp only [List.set_cons_succ])
            (try simp only [List.set_cons_zero])
            refine takeD (i := 15) (v := ?_) 128 rfl rfl (by kernel_rfl) (by kernel_rfl) (by kernel_rfl) (fun _ _ _ h => h) (by assumption) (Or.inl ⟨by rfl, ?_⟩) ?_
            rotate_left
            · intro w hSw
              (try dsimp only at hSw)
              go_simp
              try with_reducible rfl
            (try simp only [List.setIfInBounds_toArray])
            (try simp only [List.set_cons_succ])
            (try simp only [List.set_cons_zero])
            refine takeD (i := 16) (v := ?_) 129 rfl rfl (by kernel_rfl) (by kernel_rfl) (by kernel_rfl) (fun _ _ _ h => h) (by assumption) (Or.inl ⟨by rfl, ?_⟩) ?_
            rotate_left
            · intro w hSw
              (try dsimp only at hSw)
              go_simp
              try with_reducible rfl
            (try simp only [List.setIfInBounds_toArray])
            (try simp only [List.set_cons_succ])
            (try simp only [List.set_cons_zero])
            refine takeD (i := 17) (v := ?_) 130 rfl rfl (by kernel_rfl) (by kernel_rfl) (by kernel_rfl) (fun _ _ _ h => h) (by assumption) (Or.inl ⟨by rfl, ?_⟩) ?_
            rotate_left
            · intro w hSw
              (try dsimp only at hSw)
              go_simp
              try with_reducible rfl
            (try simp only [List.setIfInBounds_toArray])
            (try simp only [List.set_cons_succ])
            (try simp only [List.set_cons_zero])
            refine takeD (i := 18) (v := ?_) 131 rfl rfl (by kernel_rfl) (by kernel_rfl) (by kernel_rfl) (fun _ _ _ h => h) (by assumption) (Or.inl ⟨by rfl, ?_⟩) ?_
            rotate_left
            · intro w hSw
              (try dsimp only at hSw)
              go_simp
              try with_reducible rfl
            (try simp only [List.setIfInBounds_toArray])
            (try simp only [List.set_cons_succ])
            (try simp only [List.set_cons_zero])
            refine takeD (i := 19) (v := ?_) 132 rfl rfl (by kernel_rfl) (by kernel_rfl) (by kernel_rfl) (fun _ _ _ h => h) (by assumption) (Or.inl ⟨by rfl, ?_⟩) ?_
            rotate_left
            · intro w hSw
              (try dsimp only at hSw)
              go_simp
              try with_reducible rfl
            (try simp only [List.setIfInBounds_toArray])
            (try simp only [List.set_cons_succ])
            (try simp only [List.set_cons_zero])
            refine takeD (i := 21) (v := ?_) 134 rfl rfl (by kernel_rfl) (by kernel_rfl) (by kernel_rfl) (fun _ _ _ h => h) (by assumption) (Or.inl ⟨by rfl, ?_⟩) ?_
            rotate_left
            · intro w hSw
              (try dsimp only at hSw)
              go_simp
              try with_reducible rfl
            (try simp only [List.setIfInBounds_toArray])
            (try simp only [List.set_cons_succ])
            (try simp only [List.set_cons_zero])
            refine wpAnyH_ready (rs := [20]) (by kernel_rfl) (by simp) ?_
            refine AllReadyH.cons (by simp only [List.getElem?_toArray, List.getElem?_cons_succ, List.getElem?_cons_zero]; rfl) (fun K hK => ?_) AllReadyH.nil
            go_simp
            go_at_call 17; (with_reducible refine (HUN.out _ hHeld.2.2.2.2.sp).mono ?_); rintro e w20 ⟨rfl, hb20⟩
            refine hK.out _ _ ?_ (fun hHeldN => ?_)
            · exact ⟨keepc hb20 hHeld.1, keepc hb20 hHeld.2.1, keepc hb20 hHeld.2.2.1, keepc hb20 hHeld.2.2.2.1, hHeld.2.2.2.2.below hb20⟩
            clear hK K hHeld
            have hHeld := hHeldN
            clear hHeldN
            (try simp only [Act.put])
            (try simp only [List.setIfInBounds_toArray])
            (try simp only [List.set_cons_succ])
            (try simp only [List.set_cons_zero])
            refine takeD (i := 22) (v := ?_) 135 rfl rfl (by kernel_rfl) (by kernel_rfl) (by kernel_rfl) (fun _ _ _ h => h) (by assumption) (Or.inl ⟨by rfl, ?_⟩) ?_
            rotate_left
            · intro w hSw
              (try dsimp only at hSw)
              go_simp
              try with_reducible rfl
            (try simp only [List.setIfInBounds_toArray])
            (try simp only [List.set_cons_succ])
            (try simp only [List.set_cons_zero])
            refine takeD (i := 23) (v := ?_) 136 rfl rfl (by kernel_rfl) (by kernel_rfl) (by kernel_rfl) (fun _ _ _ h => h) (by assumption) (Or.inl ⟨by rfl, ?_⟩) ?_
            rotate_left
            · intro w hSw
              (try dsimp only at hSw)
              go_simp
              try with_reducible rfl
            (try simp only [List.setIfInBounds_toArray])
            (try simp only [List.set_cons_succ])
            (try simp only [List.set_cons_zero])
            refine takeD (i := 24) (v := ?_) 137 rfl rfl (by kernel_rfl) (by kernel_rfl) (by kernel_rfl) (fun _ _ _ h => h) (by assumption) (Or.inl ⟨by rfl, ?_⟩) ?_
            rotate_left
            · intro w hSw
              (try dsimp only at hSw)
              go_simp
              try with_reducible rfl
            (try simp only [List.setIfInBounds_toArray])
            (try simp only [List.set_cons_succ])
            (try simp only [List.set_cons_zero])
            refine takeD (i := 25) (v := ?_) 138 rfl rfl (by kernel_rfl) (by kernel_rfl) (by kernel_rfl) (fun _ _ _ h => h) (by assumption) (Or.inl ⟨by rfl, ?_⟩) ?_
            rotate_left
            · intro w hSw
              (try dsimp only at hSw)
              go_simp
              try with_reducible rfl
            (try simp only [List.setIfInBounds_toArray])
            (try simp only [List.set_cons_succ])
            (try simp only [List.set_cons_zero])
            refine takeD (i := 26) (v := ?_) 139 rfl rfl (by kernel_rfl) (by kernel_rfl) (by kernel_rfl) (fun _ _ _ h => h) (by assumption) (Or.inl ⟨by rfl, ?_⟩) ?_
            rotate_left
            · intro w hSw
              (try dsimp only at hSw)
              go_simp
              try with_reducible rfl
            (try simp only [List.setIfInBounds_toArray])
            (try simp only [List.set_cons_succ])
            (try simp only [List.set_cons_zero])
            refine takeD (i := 27) (v := ?_) 140 rfl rfl (by kernel_rfl) (by kernel_rfl) (by kernel_rfl) (fun _ _ _ h => h) (by assumption) (Or.inl ⟨by rfl, ?_⟩) ?_
            rotate_left
            · intro w hSw
              (try dsimp only at hSw)
              go_simp
              try with_reducible rfl
            (try simp only [List.setIfInBounds_toArray])
            (try simp only [List.set_cons_succ])
            (try simp only [List.set_cons_zero])
            refine takeD (i := 29) (v := ?_) 142 rfl rfl (by kernel_rfl) (by kernel_rfl) (by kernel_rfl) (fun _ _ _ h => h) (by assumption) (Or.inl ⟨by rfl, ?_⟩) ?_
            rotate_left
            · intro w hSw
              (try dsimp only at hSw)
              go_simp
              try with_reducible rfl
            (try simp only [List.setIfInBounds_toArray])
            (try simp only [List.set_cons_succ])
            (try simp only [List.set_cons_zero])
            refine takeD (i := 30) (v := ?_) 143 rfl rfl (by kernel_rfl) (by kernel_rfl) (by kernel_rfl) (fun _ _ _ h => h) (by assumption) (Or.inl ⟨by rfl, ?_⟩) ?_
            rotate_left
            · intro w hSw
              (try dsimp only at hSw)
              go_simp
              try with_reducible rfl
            (try simp only [List.setIfInBounds_toArray])
            (try simp only [List.set_cons_succ])
            (try simp only [List.set_cons_zero])
            refine takeD (i := 31) (v := ?_) 144 rfl rfl (by kernel_rfl) (by kernel_rfl) (by kernel_rfl) (fun _ _ _ h => h) (by assumption) (Or.inl ⟨by rfl, ?_⟩) ?_
            rotate_left
            · intro w hSw
              (try dsimp only at hSw)
              go_simp
              try with_reducible rfl
            (try simp only [List.setIfInBounds_toArray])
            (try simp only [List.set_cons_succ])
            (try simp only [List.set_cons_zero])
            refine takeD (i := 32) (v := ?_) 145 rfl rfl (by kernel_rfl) (by kernel_rfl) (by kernel_rfl) (fun _ _ _ h => h) (by assumption) (Or.inl ⟨by rfl, ?_⟩) ?_
            rotate_left
            · intro w hSw
              (try dsimp only at hSw)
              go_simp
              try with_reducible rfl
            (try simp only [List.setIfInBounds_toArray])
            (try simp only [List.set_cons_succ])
            (try simp only [List.set_cons_zero])
            refine takeD (i := 33) (v := ?_) 146 rfl rfl (by kernel_rfl) (by kernel_rfl) (by kernel_rfl) (fun _ _ _ h => h) (by assumption) (Or.inl ⟨by rfl, ?_⟩) ?_
            rotate_left
            · intro w hSw
              (try dsimp only at hSw)
              go_simp
              try with_reducible rfl
            (try simp only [List.setIfInBounds_toArray])
            (try simp only [List.set_cons_succ])
            (try simp only [List.set_cons_zero])
            refine takeD (i := 34) (v := ?_) 147 rfl rfl (by kernel_rfl) (by kernel_rfl) (by kernel_rfl) (fun _ _ _ h => h) (by assumption) (Or.inl ⟨by rfl, ?_⟩) ?_
            rotate_left
            · intro w hSw
              (try dsimp only at hSw)
              go_simp
              try with_reducible rfl
            (try simp only [List.setIfInBounds_toArray])
            (try simp only [List.set_cons_succ])
            (try simp only [List.set_cons_zero])
            refine wpAnyH_ready (rs := [28]) (by kernel_rfl) (by simp) ?_
            refine AllReadyH.cons (by simp only [List.getElem?_toArray, List.getElem?_cons_succ, List.getElem?_cons_zero]; rfl) (fun K hK => ?_) AllReadyH.nil
            go_simp
            go_at_call 18; (with_reducible refine (HPK.out _ hHeld.2.2.2.2.sp).mono ?_); rintro e w21 ⟨v9, rfl, ho9, hk9, hb21⟩; rw [HIT.out.1] at ho9; obtain ⟨y9, c9, rfl⟩ := row_any ho9; have HO9 := hid ho9; clear ho9 hk9
            refine hK.out _ _ ?_ (fun hHeldN => ?_)
            · exact ⟨keepc hb21 hHeld.1, keepc hb21 hHeld.2.1, keepc hb21 hHeld.2.2.1, keepc hb21 hHeld.2.2.2.1, hHeld.2.2.2.2.below hb21⟩
            clear hK K hHeld
            have hHeld := hHeldN
            clear hHeldN
            (try simp only [Act.put])
            (try simp only [List.setIfInBounds_toArray])
            (try simp only [List.set_cons_succ])
            (try simp only [List.set_cons_zero])
            refine wpAnyH_ready (rs := [35]) (by kernel_rfl) (by simp) ?_
            refine AllReadyH.cons (by simp only [List.getElem?_toArray, List.getElem?_cons_succ, List.getElem?_cons_zero]; rfl) (fun K hK => ?_) AllReadyH.nil
            go_simp
            go_at_call 11; (with_reducible refine (HE2.out _ _ HO9.out (HCA.out _ hHeld.2.2.2.2)).mono ?_); rintro e w22 ⟨rfl, hb22⟩
            refine hK.out _ _ ?_ (fun hHeldN => ?_)
            · exact ⟨keepc hb22 hHeld.1, keepc hb22 hHeld.2.1, keepc hb22 hHeld.2.2.1, keepc hb22 hHeld.2.2.2.1, hHeld.2.2.2.2.below hb22⟩
            obtain ⟨u8, q8⟩ := hHeldN.2.2.2.2.c8
            have r8 := hHeldN.2.2.2.2.f8
            have l8 := World.block_lt_of_cell? w22 _ q8
            have HX22 := hid hHeldN.2.2.2.2
            clear hK K hHeld
            have hHeld := hHeldN
            clear hHeldN
            (try simp only [Act.put])
            (try simp only [List.setIfInBounds_toArray])
            (try simp only [List.set_cons_succ])
            (try simp only [List.set_cons_zero])
            refine takeD (i := 36) (v := ?_) 149 rfl rfl (by kernel_rfl) (by kernel_rfl) (by kernel_rfl) (fun _ _ _ h => h) (by assumption) (Or.inl ⟨by rfl, ?_⟩) ?_
            rotate_left
            · intro w hSw
              (try dsimp only at hSw)
              go_simp
              try with_reducible rfl
            (try simp only [List.setIfInBounds_toArray])
            (try simp only [List.set_cons_succ])
            (try simp only [List.set_cons_zero])
            refine wpAnyH_ready (rs := [37]) (by kernel_rfl) (by simp) ?_
            refine AllReadyH.cons (by simp only [List.getElem?_toArray, List.getElem?_cons_succ, List.getElem?_cons_zero]; rfl) (fun K hK => ?_) AllReadyH.nil
            go_simp
            refine hK.out _ _ ?_ (fun hHeldN => ?_)
            · exact ⟨(World.cell?_setCell_far _ _ _ _ (by simp; omega)).trans hHeld.1, (World.cell?_setCell_far _ _ _ _ (by simp; omega)).trans hHeld.2.1, (World.cell?_setCell_far _ _ _ _ (by simp; omega)).trans hHeld.2.2.1, (World.cell?_setCell_far _ _ _ _ (by simp; omega)).trans hHeld.2.2.2.1, hHeld.2.2.2.2.set _ HBV.out HBW.out.1 hDw⟩
            clear hK K hHeld
            have hHeld := hHeldN
            clear hHeldN
            (try simp only [Act.put])
            (try simp only [List.setIfInBounds_toArray])
            (try simp only [List.set_cons_succ])
            (try simp only [List.set_cons_zero])
            refine wpAnyH_done (by kernel_rfl) ?_ _
            have HE := hid hHeld
            clear hHeld
            dsimp only [OnlyN]
            gi_wp2
            have hdd := (HX22.out.set (.bool true) HBV.out HBW.out.1 hDw)
            refine ⟨by simp, .inl ⟨_, _, rfl, run_takeDeferred hdd.d, ?_⟩⟩
            have hg := Grow.put (m := w6.heap.size) (.deferred none) hD hdd.d rfl
            have e2 := cell_grow hg (sc_same (v := .bool true) q8)
            exact ⟨.bool true, by simp [results, Try.f3, go_sem, e2], rfl, below_grow hdd.bel hg hlz (Nat.le_refl _)⟩
end
theorem fplaces_any (m : Nat) (hm : m < 256) (v : Value) (ac : List ActD) (nz : Int) (hnz : I64 nz) (st : Nat) (hst : st < 256) (w : World) (hx : ActsIn w.heap.size w v ac) : Calls Try.prog 3 #[.int .u8 m, v, .int .i64 nz, .int .u8 st] w fun e w' => e = .returned (.bool true) ∧ Below w.heap.size w w' := callsIn_wide.1 (fplaces_in 14 (by omega) m hm v ac nz hnz st hst w hx)
end Go.Proofs.Ytnekglgjpaoghaa
