/-
  Is a space formatted; the reference's attributes; lists that are the same.
  Acts: the reference's Do, the law's do.
  Acts that came in, opened; how they are read.
-/
import Derived.Test.YtlhaefgchmakfaaFd
import Derived.Deep.QuietTactic
import Derived.BigQuiet
import Derived.WalkKit
import Derived.ProofKit
import Derived.OpenShut
import Derived.Carry
import Derived.Lib.SmallJoins
import Derived.Deep.Slices
namespace Go.Proofs.Ytlhaefgchmakfaa
open Go.RowKit Go.Lib Go.Shelf

theorem below_dN {B : Nat} {a w : World} (h : Below B a w) (n : Nat) : Below B a (w.drewN n) := h.trans ⟨rfl, rfl, rfl, Nat.le_refl _, fun _ _ => rfl⟩
section
attribute [local go_sem] Oper.semAt_some
set_option maxRecDepth 100000 in
set_option maxHeartbeats 4000000 in
theorem formatted_in (n : Nat) (hn : 6 ≤ n) (b g : Nat) (s : Spc) (w : World) (h : SpM w b g s) :
    CallsIn Fence.wide n Try.prog 48 #[.pointer (some ⟨b, 0, none⟩)] w fun e w' => e = .returned (.bool (decide (0 < s.A.length))) ∧ Below w.heap.size w w' := by
  have hN := h.ok.pos.2
  have HSP := hid (show ∀ V, Below w.heap.size w V → SpM V b g s from fun V hV => h.below hV)
  clear h
  refine callsIn_of_wp_marks Try.func48 rfl trivial ?_ rfl
  simp only [Try.ntmps48, List.size_toArray, List.length_cons, List.length_nil, Nat.reduceAdd, Nat.reduceSub, Array.replicate_succ, Array.replicate_zero, List.push_toArray, List.append_toArray, List.nil_append, List.cons_append]
  gi_wp2
  refine ⟨trivial, fun _ => (by omega), ?_⟩
  refine (callsIn_wide.2 (attrsIt_any b _)).mono ?_
  rintro e w1 ⟨bs, rfl, hbs, hcs, hb1⟩
  have o1 : w1.cell? ⟨w.heap.size, 0, none⟩ = some (.bool false) := keepc hb1 (by simp [go_sem])
  have f1 : w1.frozen? ⟨w.heap.size, 0, none⟩ = false := (hb1.frozen (p := ⟨w.heap.size, 0, none⟩) (by simp)).trans (by simp [go_sem])
  have hb2 : Below w.heap.size w w1 := blw hb1
  have hz1' : w.heap.size + 1 ≤ w1.heap.size := by have := hb1.size; simp at this; omega
  have hbs' : w.heap.size + 1 ≤ bs := by simp at hbs; omega
  have HI0 := hid (show w1.cell? ⟨bs, 0, none⟩ = some (.pointer (some ⟨b, 0, none⟩)) ∧ w1.cell? ⟨w.heap.size, 0, none⟩ = some (.bool false) ∧ w1.frozen? ⟨w.heap.size, 0, none⟩ = false ∧ Below w.heap.size w w1 from ⟨hcs, o1, f1, hb2⟩)
  have hlz : w.heap.size ≤ w1.heap.size := by omega
  clear hb1 hb2 hcs o1 f1
  gi_wp2
  refine rangeFunc_seq (n := n) (w := w1) rfl (by omega) (gf := 97) (lb := #[.pointer (some ⟨bs, 0, none⟩)]) rfl trivial (enters_of Try.func97 (by kernel_rfl) rfl)
    (encs := encI) (fun _ => rfl) (el := fun k x _ => s.A[k]? = some x) (N := s.A.length) (R := RP bs b s.L.length s.P)
    (fun k _ V => V.cell? ⟨bs, 0, none⟩ = some (.pointer (some ⟨b, 0, none⟩)) ∧ V.cell? ⟨w.heap.size, 0, none⟩ = some (.bool false) ∧ V.frozen? ⟨w.heap.size, 0, none⟩ = false ∧ Below w.heap.size w V ∧ k = 0)
    (fun c _ _ V => c = .ret ∧ V.cell? ⟨w.heap.size, 0, none⟩ = some (.bool true) ∧ Below w.heap.size w V) ?hI ?hIx ?hR ⟨HI0.out.1, HI0.out.2.1, HI0.out.2.2.1, HI0.out.2.2.2, rfl⟩
    (fun _ _ x a V => V.cell? ⟨w.heap.size, 0, none⟩ = some (.bool false) ∧ V.frozen? ⟨w.heap.size, 0, none⟩ = false ∧ Below w.heap.size w V ∧ a = { tmps := #[.pointer (some ⟨b, 0, none⟩), undef, .pointer (some ⟨w.heap.size, 0, none⟩), .pointer (some ⟨b, 0, none⟩), .func (.func 97) #[] #[.pointer (some ⟨bs, 0, none⟩)], .int .i64 x], defers := [] }) ?hAx ?assign ?body ?iter ?done ?stop
  case hI => exact fun k S A C hg ⟨h1, h2, h3, h4, h5⟩ => ⟨cell_grow hg h1, cell_grow hg h2, frozen_grow hg h2 h3, below_grow h4 hg hlz (Nat.le_refl _), h5⟩
  case hIx => exact fun c k S A C hg ⟨h1, h2, h3⟩ => ⟨h1, cell_grow hg h2, below_grow h3 hg hlz (Nat.le_refl _)⟩
  case hR => exact fun k S V h => ⟨h.1, (HSP.out V h.2.2.2.1).spP⟩
  case hAx => exact fun k S x a A C hg ⟨h2, h3, h4, h5⟩ => ⟨cell_grow hg h2, frozen_grow hg h2 h3, below_grow h4 hg hlz (Nat.le_refl _), h5⟩
  case iter => exact fun o1 o2 _ _ => attrs_seq (n - 1) (by omega) bs b s.L.length s.P hN _
  case assign =>
    rintro l' k x S V KK hk hx1 hi hsz hK
    have HK := hid hK
    have HI := hid hi
    clear hK hi
    gi_wp2
    exact HK.out _ _ (Touch.refl _ _ _) ⟨HI.out.2.1, HI.out.2.2.1, HI.out.2.2.2.1, by simp⟩
  case body =>
    rintro l' k x S a' V hk ⟨h2, h3, h4, rfl⟩ hsz
    have hlt := World.block_lt_of_cell? V _ h2
    have HB := hid h4
    have H2 := hid h2
    clear h4
    gi_wp2
    exact ⟨S, Touch.set V ⟨w.heap.size, 0, none⟩ _ (.inl hz1'), rfl, sc_same H2.out, HB.out.sc _ _ _ (Nat.le_refl _)⟩
  case done =>
    rintro D S V hD ⟨_, h2, h3, h4, h5⟩ hK
    have hlt := World.block_lt_of_cell? V _ h2
    have HK := hid hK
    have HB := hid h4
    have HN := hid h5
    clear hK h4 h5
    gi_wp2
    refine ⟨by simp, .inl ⟨_, _, rfl, run_takeDeferred ((Go.heap_setCell_other V ⟨w.heap.size, 0, none⟩ D _ (by simp; omega)).trans HK.out), ?_⟩⟩
    have e1 : (V.setCell ⟨w.heap.size, 0, none⟩ (.bool false)).heap[D]? = V.heap[D]? := Go.heap_setCell_other V _ D _ (by simp; omega)
    have hg := Grow.put (m := w1.heap.size) (.deferred none) hD (e1.trans HK.out) rfl
    have e2 := cell_grow hg (sc_same (v := .bool false) h2)
    have hN0 : ¬ 0 < s.A.length := by have := HN.out; omega
    exact ⟨.bool false, by simp [results, Try.f48, go_sem, e2], by rw [show decide (0 < s.A.length) = false from decide_eq_false hN0], below_grow (HB.out.sc _ _ _ (Nat.le_refl _)) hg hlz (Nat.le_refl _)⟩
  case stop =>
    rintro D k c S V hD hk ⟨rfl, h2, h4⟩ hK
    have hlt := World.block_lt_of_cell? V _ h2
    have HK := hid hK
    have HB := hid h4
    clear hK h4
    gi_wp2
    refine ⟨by simp, .inl ⟨_, _, rfl, run_takeDeferred HK.out, ?_⟩⟩
    have hg := Grow.put (m := w1.heap.size) (.deferred none) hD HK.out rfl
    have e2 := cell_grow hg h2
    exact ⟨.bool true, by simp [results, Try.f48, go_sem, e2], by rw [show decide (0 < s.A.length) = true from decide_eq_true (by omega)], below_grow HB.out hg hlz (Nat.le_refl _)⟩
end
set_option maxRecDepth 100000 in
set_option maxHeartbeats 4000000 in
theorem rattrs_any (b g : Nat) (s : Spc) (w : World) (h : RfM w b g s) : Calls Try.prog 10 #[.pointer (some ⟨b, 0, none⟩)] w (ListD 3 1 (s.iA s.A.length) s.A.length w) := by
  obtain ⟨i0, hi, hz0, hz1, hz2⟩ := info_parts infoI
  have hN := h.ok.pos.2
  have h4 := h.h4
  have hlt := h.lt.1
  have HD := hid (show ∀ V, Below w.heap.size w V → RfM V b g s from fun V hV => h.below hV)
  clear h
  obtain ⟨N, hNN⟩ : ∃ N, N = s.L.length := ⟨_, rfl⟩
  have HN := hid hNN
  rw [← hNN] at hN h4
  have hA : ∀ k, (attP s.P k).length ≤ k := attP_len s.P
  have HF := hid (show attP s.P N = s.A by rw [HN.out]; rfl)
  clear hNN
  go_enter Try.func10, Try.ntmps10
  go_wp2
  go_loopw [3, 11] (fun o i W => ∃ k : Nat, k ≤ N ∧ i = .int .i64 k ∧ Hid (W.ownsRow 0 3 1 o (attP s.P k).length (intsV ((attP s.P k).map Int.ofNat))) ∧ Hid (∀ q ∈ blkV o, w.heap.size ≤ q) ∧ Hid (Below w.heap.size w W)) (fun _ i _ => N - (intOf i).toNat)
  case atStart => exact ⟨0, by omega, rfl, World.ownsRow_nil _ _ _ _, fun q hq => (by cases hq), Below.refl _ _⟩
  case round =>
    obtain ⟨k, hk, rfl, HR, HBk, HB⟩ := hrel
    obtain ⟨y, cc, rfl⟩ := row_any HR.out
    by_cases hlt2 : k < N
    · have hki : (k : Int) < N := by omega
      have hD := HD.out _ HB.out
      have hgl := hD.lt.2
      obtain ⟨a0, a1, a2, a3, a4, a5⟩ := hD.row.six k (by rw [← HN.out]; exact hlt2) (s.cel k) rfl
      have hat : (s.cel k).at_ = s.P k := rfl
      generalize s.cel k = c at a0 a1 a2 a3 a4 a5 hat
      obtain ⟨x0, x1, x2, x3, x4, x5⟩ := c
      dsimp only at a0 a1 a2 a3 a4 a5 hat
      subst hat
      clear hD
      cases hp : s.P k
      · rw [hp] at a1
        have hn := hid (show attP s.P (k + 1) = attP s.P k by rw [attP_succ, if_neg (by rw [hp]; decide), List.append_nil])
        go_wp2
        go_roundw
        case rel => exact ⟨k + 1, by omega, by go_num, by rw [hn.out]; exact HR.out.alloc _, HBk.out, HB.out.al (Nat.le_refl _) _⟩
        case measure => simp [intOf]; omega
      · rw [hp] at a1
        have hn := hid (show attP s.P (k + 1) = attP s.P k ++ [k] by rw [attP_succ, if_pos hp])
        have hAk := hA k
        go_wp2_with (first | (at_builtin; refine wpList_append_blk _ rfl _ _ 28 rfl 3 i0 _ 1 8 Try.underlying28 hi hz0 hz1 hz2 rfl (by decide) _ _ _ rfl ((HR.out.alloc _).alloc _) ⟨wr.heap.size + 1, 0, none⟩ 1 1 [.int .i64 k] rfl rfl (one_new _ _ _ _ (by simp)) (by simp [Value.oneCell']) (by unfold maxLen; omega) (by omega) ?_; intro v' W1 hown' hgrow _ hb'; obtain ⟨g', cap', rfl⟩ := row_any hown'; have H1 := hid hown'; have H2 := hid hgrow; have H3 := hid hb'; clear hown' hgrow hb') | fail)
        go_roundw
        case rel =>
          refine ⟨k + 1, by omega, by go_num, ?_, fun q hq => ?_, ?_⟩
          · have h1 := H1.out
            rw [hn.out, List.length_append, List.map_append]
            unfold intsV at h1 ⊢
            rw [List.map_append]
            exact h1
          · rcases H3.out q hq with h | h
            · exact HBk.out q h
            · have := HB.out.size
              simp at h
              omega
          · exact ((HB.out.al (Nat.le_refl _) _).al (Nat.le_refl _) _).grown H2.out (by have := HB.out.size; simp; omega) (fun q e => HBk.out q (mem_blkV.2 e))
        case measure => simp [intOf]; omega
    · obtain rfl : k = N := by omega
      have hF := HF.out
      go_wp2
      go_ret
      refine ⟨.slice y (attP s.P k).length cc, rfl, ?_, HBk.out, HB.out⟩
      have e : s.iA s.A.length = intsV (s.A.map Int.ofNat) := by unfold Spc.iA; rw [List.take_length]
      rw [e, ← HF.out]
      exact HR.out
theorem ints_cells {w : World} {v : Value} {xs : List Int} (h : w.ownsRow 0 3 1 v xs.length (intsV xs)) : (∃ x c, v = .slice x 0 c ∧ xs = []) ∨ ∃ g c, v = .slice (some ⟨g, 0, none⟩) xs.length c ∧ ∀ i, i < xs.length → w.cell? ⟨g, 0 + i, none⟩ = some (.int .i64 (xs.getD i 0)) := by
  rcases h.2 with ⟨rfl, e⟩ | ⟨g, cap, cur, rfl, hb, hh, h1, h2, h3, h4⟩
  · exact .inl ⟨none, 0, by rw [], List.length_eq_zero_iff.1 e⟩
  · refine .inr ⟨g, cap, rfl, fun i hi => ?_⟩
    rw [Nat.zero_add, World.ownsRow.cellAt h i (by omega), intsV, List.getElem?_map, List.getD, List.getElem?_eq_getElem hi]
    rfl
end Go.Proofs.Ytlhaefgchmakfaa
namespace Go.Proofs.Ytlhaefgchmakfaa
open Go.RowKit Go.Lib

theorem wrapI {n : Int} (h : I64 n) : IntKind.i64.wrap n = n := by
  obtain ⟨h1, h2⟩ := h
  simp [IntKind.wrap, IntKind.bits, IntKind.signed]
  omega

/-- An act. -/
structure ActD where
  k : Nat
  n : Int
  on : Bool
  code : Int
  c : Cel
  tx : Value
  xs : List Int
def ActD.cs (a : ActD) : List Value := [.int .u8 a.k, .int .i64 a.n, .bool a.on, .int .u8 a.code, .int .u8 a.c.ch, .bool a.c.at_, .int .u8 a.c.fa, .int .u8 a.c.hi, .int .u8 a.c.co, .int .u8 a.c.se, a.tx]
abbrev ActD.v (a : ActD) : Value := .agg #[.int .u8 a.k, .int .i64 a.n, .bool a.on, .int .u8 a.code, .int .u8 a.c.ch, .bool a.c.at_, .int .u8 a.c.fa, .int .u8 a.c.hi, .int .u8 a.c.co, .int .u8 a.c.se, a.tx]
/-- A text that lies below B. -/
structure TxIn (B : Nat) (w : World) (tx : Value) (xs : List Int) : Prop where
  u8 : ∀ x ∈ xs, U8 x
  len : xs.length ≤ 9223372036854775807
  sl : ∃ x c, tx = .slice x xs.length c
  at_ : ∀ x c, tx = .slice x xs.length c → ∀ i, i < xs.length → ∃ g o, x = some ⟨g, o, none⟩ ∧ g < B ∧ w.cell? ⟨g, o + i, none⟩ = some (.int .u8 (xs.getD i 0))
theorem TxIn.below {B : Nat} {A C : World} {tx : Value} {xs : List Int} (h : TxIn B A tx xs) (hb : Below B A C) : TxIn B C tx xs :=
  ⟨h.u8, h.len, h.sl, fun x c e i hi => by
    obtain ⟨g, o, e1, e2, e3⟩ := h.at_ x c e i hi
    exact ⟨g, o, e1, e2, (hb.cell (p := ⟨g, o + i, none⟩) e2).trans e3⟩⟩
structure ActD.Fit (B : Nat) (w : World) (a : ActD) : Prop where
  k : a.k < 256
  n : I64 a.n
  code : U8 a.code
  c : a.c.OK
  tx : TxIn B w a.tx a.xs
theorem ActD.Fit.below {B : Nat} {A C : World} {a : ActD} (h : a.Fit B A) (hb : Below B A C) : a.Fit B C := ⟨h.k, h.n, h.code, h.c, h.tx.below hb⟩
def txS (s : Spc) (n : Int) (xs : List Int) : Nat → Spc
  | 0 => s
  | k + 1 => if k < 200 then (txS s n xs k).putC ((s.wr n : Int) + k) (xs.getD k 0) else txS s n xs k
def doS (s : Spc) (a : ActD) : Spc :=
  if a.k % 6 = 0 then clearS s.mo a.on else if a.k % 6 = 1 then s.place a.n else if a.k % 6 = 2 then s.putC a.n a.code else if a.k % 6 = 3 then s.setC a.n ⟨0, true, a.code, 0, 0, 0⟩ else if a.k % 6 = 4 then s.setC a.n a.c else txS s a.n a.xs a.xs.length
theorem setC_len (s : Spc) (n : Int) (c : Cel) : (s.setC n c).L.length = s.L.length := Spc.put1_len _ _ _
theorem putC_len (s : Spc) (n : Int) (x : Int) : (s.putC n x).L.length = s.L.length := by unfold Spc.putC; split; rfl; exact setC_len _ _ _
theorem txS_len (s : Spc) (n : Int) (xs : List Int) (k : Nat) : (txS s n xs k).L.length = s.L.length := by
  induction k with
  | zero => rfl
  | succ k ih => unfold txS; split; rw [putC_len, ih]; exact ih
theorem txS_wr (s : Spc) (n : Int) (xs : List Int) (k : Nat) (m : Int) : (txS s n xs k).wr m = s.wr m := by unfold Spc.wr; rw [txS_len]
theorem getD_u8 {xs : List Int} (h : ∀ x ∈ xs, U8 x) (i : Nat) : U8 (xs.getD i 0) := by
  by_cases hi : i < xs.length
  · rw [List.getD, List.getElem?_eq_getElem hi]; exact h _ (List.getElem_mem hi)
  · rw [List.getD, List.getElem?_eq_none (by omega)]; exact u8_zero
theorem txS_ok {s : Spc} (h : s.OK) (n : Int) {xs : List Int} (hx : ∀ x ∈ xs, U8 x) (k : Nat) : (txS s n xs k).OK := by
  induction k with
  | zero => exact h
  | succ k ih => unfold txS; split; exact ih.putC _ (getD_u8 hx k); exact ih
theorem attr_ok {code : Int} (h : U8 code) : (Cel.mk 0 true code 0 0 0).OK := ⟨u8_zero, h, u8_zero, u8_zero, u8_zero⟩
theorem doS_ok {B : Nat} {w : World} {s : Spc} (h : s.OK) {a : ActD} (ha : a.Fit B w) : (doS s a).OK := by
  unfold doS
  split
  · exact clearS_ok h.m1 h.m2 _
  split
  · exact h.place _
  split
  · exact h.putC _ ha.code
  split
  · exact h.setC _ (attr_ok ha.code)
  split
  · exact h.setC _ ha.c
  · exact txS_ok h _ ha.tx.u8 _
/-- An act was done on the reference's. -/
def RDoD (b g : Nat) (s' : Spc) (w : World) (e : Ending) (w' : World) : Prop := (∃ v, e = .returned v) ∧ ∃ g', RfM w' b g' s' ∧ Moved w w' [b, g] [b, g']
theorem RfD.do_ {b g : Nat} {s' : Spc} {w w' : World} {e : Ending} (h : RfD b g s' w e w') : RDoD b g s' w e w' := ⟨h.1, g, h.2.1, h.2.2⟩
theorem moved_b {A B : World} {b g g' : Nat} (m : Moved A B [b] [b]) (hg : A.heap.size ≤ g') : Moved A B [b, g] [b, g'] :=
  ⟨m.os, m.tape, m.output, m.size, fun k hk hs => m.block k hk (fun q => hs (by simp at q; simp [q])), fun k hk => by
    simp at hk
    rcases hk with rfl | rfl
    · exact .inl (by simp)
    · exact .inr hg⟩
theorem RClD.do_ {b g : Nat} {s' : Spc} {w w' : World} {e : Ending} (h : RClD b s' w e w') : RDoD b g s' w e w' := by
  obtain ⟨h1, g', h2, h3, h4⟩ := h
  exact ⟨h1, g', h3, moved_b h4 h2⟩
theorem RDoD.pre {b g : Nat} {s' : Spc} {w w1 w' : World} {e : Ending} (h : RDoD b g s' w1 e w') (hb : Below w.heap.size w w1) : RDoD b g s' w e w' := by
  obtain ⟨h1, g', h2, h3⟩ := h
  exact ⟨h1, g', h2, (Moved.below hb [b, g]).trans h3⟩
def DoD (b g : Nat) (s' : Spc) (w : World) (e : Ending) (w' : World) : Prop := (∃ v, e = .returned v) ∧ ∃ g', SpM w' b g' s' ∧ Moved w w' [b, g] [b, g']
theorem SpD.do_ {b g : Nat} {s' : Spc} {w w' : World} {e : Ending} (h : SpD b g s' w e w') : DoD b g s' w e w' := ⟨h.1, g, h.2.1, h.2.2⟩
theorem ClD.do_ {b g : Nat} {s' : Spc} {w w' : World} {e : Ending} (h : ClD b s' w e w') : DoD b g s' w e w' := by
  obtain ⟨h1, g', h2, h3, h4⟩ := h
  exact ⟨h1, g', h3, moved_b h4 h2⟩
theorem mod6 (k : Nat) : ∃ m : Nat, m < 6 ∧ k % 6 = m := ⟨k % 6, by omega, rfl⟩
section
variable {B : Nat} {b g : Nat} {s : Spc}
set_option maxRecDepth 100000 in
set_option maxHeartbeats 4000000 in
theorem rdo_any (a : ActD) (w : World) (ha : a.Fit B w) (h : RfM w b g s) (hbB : B ≤ b) (hgB : B ≤ g) : Calls Try.prog 35 #[.pointer (some ⟨b, 0, none⟩), a.v] w (RDoD b g (doS s a) w) := by
  obtain ⟨k, n, on, code, c, tx, xs⟩ := a
  obtain ⟨hk, hn, hcode, hc, htx⟩ := ha
  dsimp only at hk hn hcode hc htx
  obtain ⟨x, cp, rfl⟩ := htx.sl
  have hlt := h.lt.1
  have HH := hid h
  have HCL := hid (fun (al : Bool) w h => rclear_any (b := b) (g := g) (s := s) al w h)
  have HPO := hid (fun w h => rpos_any (b := b) (g := g) (s := s) n hn w h)
  have HPU := hid (fun w h => rput_any (b := b) (g := g) (s := s) n hn code hcode w h)
  have HSE := hid (fun (c : Cel) (hc : c.OK) w h => rset_any (b := b) (g := g) (s := s) n hn c hc w h)
  have HAO := hid (attr_ok hcode)
  have HCO := hid hc
  have HN := hid hn
  have HTX := hid htx
  have hb0 : Below w.heap.size w (w.alloc (.cells #[.int .u8 k, .int .i64 n, .bool on, .int .u8 code, .int .u8 c.ch, .bool c.at_, .int .u8 c.fa, .int .u8 c.hi, .int .u8 c.co, .int .u8 c.se, .slice x xs.length cp] 79)) := bal (Below.refl _ _) _
  have HB := hid hb0
  obtain ⟨m, hm6, hm⟩ := mod6 k
  have hkm : ((k : Int) % 6) = m := by omega
  have hkm' : (k : Int).tmod 6 = m := by rw [Int.tmod_eq_emod_of_nonneg (by omega)]; exact hkm
  have hk0 : 0 ≤ (k : Int) := by omega
  have hk1 : (k : Int) < 256 := by omega
  unfold doS
  dsimp only
  rw [hm]
  obtain ⟨x0, x1, x2, x3, x4, x5⟩ := c
  dsimp only at HB
  clear h hc hn hcode htx hb0 hm hk hkm
  show Calls Try.prog 35 #[.pointer (some ⟨b, 0, none⟩), .agg #[.int .u8 k, .int .i64 n, .bool on, .int .u8 code, .int .u8 x0, .bool x1, .int .u8 x2, .int .u8 x3, .int .u8 x4, .int .u8 x5, .slice x xs.length cp]] w _
  have : m = 0 ∨ m = 1 ∨ m = 2 ∨ m = 3 ∨ m = 4 ∨ m = 5 := by omega
  rcases this with rfl | rfl | rfl | rfl | rfl | rfl
  all_goals simp only [Nat.reduceEqDiff, if_true, if_false]
  · go_enter Try.func35, Try.ntmps35
    go_wp2_with fail
    with_reducible refine (HCL.out _ _ (HH.out.below HB.out)).mono ?_
    rintro e w1 h1
    obtain ⟨⟨v, rfl⟩, _⟩ := id h1
    have H1 := hid ((RClD.do_ (g := g) h1).pre HB.out)
    clear h1
    go_wp2
    exact bodyPost_ret (results_none rfl _ _ _) rfl ⟨⟨_, rfl⟩, H1.out.2⟩
  · go_enter Try.func35, Try.ntmps35
    go_wp2_with fail
    with_reducible refine (HPO.out _ (HH.out.below HB.out)).mono ?_
    rintro e w1 ⟨rfl, hb⟩
    have HB1 := hid (below_t HB.out hb)
    have HD := hid ((HH.out.below HB.out).below hb)
    have h5 := HD.out.h5
    have f5 := HD.out.fr 5
    have hl1 := HD.out.lt.1
    clear hb
    go_wp2
    exact bodyPost_ret (results_none rfl _ _ _) rfl ⟨⟨_, rfl⟩, g, HD.out.placed n, (Moved.below HB1.out [b, g]).trans (Moved.set (by simp) 5 _)⟩
  · go_enter Try.func35, Try.ntmps35
    go_wp2_with fail
    with_reducible refine (HPU.out _ (HH.out.below HB.out)).mono ?_
    rintro e w1 h1
    obtain ⟨⟨v, rfl⟩, _⟩ := id h1
    have H1 := hid ((RfD.do_ h1).pre HB.out)
    clear h1
    go_wp2
    exact bodyPost_ret (results_none rfl _ _ _) rfl ⟨⟨_, rfl⟩, H1.out.2⟩
  · go_enter Try.func35, Try.ntmps35
    go_wp2_with fail
    with_reducible refine (HSE.out _ HAO.out _ (HH.out.below HB.out)).mono ?_
    rintro e w1 h1
    obtain ⟨⟨v, rfl⟩, _⟩ := id h1
    have H1 := hid ((RfD.do_ h1).pre HB.out)
    clear h1
    go_wp2
    exact bodyPost_ret (results_none rfl _ _ _) rfl ⟨⟨_, rfl⟩, H1.out.2⟩
  · go_enter Try.func35, Try.ntmps35
    go_wp2_with fail
    with_reducible refine (HSE.out _ HCO.out _ (HH.out.below HB.out)).mono ?_
    rintro e w1 h1
    obtain ⟨⟨v, rfl⟩, _⟩ := id h1
    have H1 := hid ((RfD.do_ h1).pre HB.out)
    clear h1
    go_wp2
    exact bodyPost_ret (results_none rfl _ _ _) rfl ⟨⟨_, rfl⟩, H1.out.2⟩
  · have HL := hid HTX.out.len
    obtain ⟨M, hM⟩ : ∃ M, M = xs.length := ⟨_, rfl⟩
    have HM := hid hM
    have hML : M ≤ 9223372036854775807 := by rw [hM]; exact HL.out
    rw [← hM] at HB ⊢
    clear hM
    go_enter Try.func35, Try.ntmps35
    go_wp2_with fail
    obtain ⟨W0, hW0⟩ : ∃ W0, w.alloc (.cells #[.int .u8 k, .int .i64 n, .bool on, .int .u8 code, .int .u8 x0, .bool x1, .int .u8 x2, .int .u8 x3, .int .u8 x4, .int .u8 x5, .slice x M cp] 79) = W0 := ⟨_, rfl⟩
    have hn0 : W0.cell? ⟨w.heap.size, 1, none⟩ = some (.int .i64 n) := by rw [← hW0]; simp [go_sem]
    rw [hW0] at HB ⊢
    have HN0 := hid hn0
    have HX := hid (HTX.out.below (HB.out.mono (Nat.le_trans hbB (Nat.le_of_lt hlt))))
    have hgl := HH.out.lt.2
    have hBw : B ≤ W0.heap.size := by have := HB.out.size; omega
    clear hW0 hn0 HTX HCL HPO HPU HSE
    go_loopw [12] (fun i W => ∃ k : Nat, k ≤ M ∧ i = .int .i64 k ∧ Hid (RfM W b g (txS s n xs k)) ∧ Hid (Moved W0 W [b, g] [b, g])) (fun i _ => M - (intOf i).toNat)
    case atStart => exact ⟨0, by omega, rfl, HH.out.below HB.out, Moved.refl _ _⟩
    case round =>
      obtain ⟨q, hq, rfl, HR, HMv⟩ := hrel
      by_cases hqM : q < M
      · have hqi : (q : Int) < M := by omega
        obtain ⟨g1, o1, rfl, hg1, hcell⟩ := (HX.out.below (HMv.out.toBelow hBw (fun k hk => by simp at hk; rcases hk with rfl | rfl <;> assumption))).at_ x cp rfl q (by rw [← HM.out]; exact hqM)
        have hncell := cell_moved HMv.out HN0.out (show w.heap.size ∉ [b, g] by simp; omega)
        have hnl := World.block_lt_of_cell? wr _ hncell
        have hg1l := World.block_lt_of_cell? wr _ hcell
        have HP := hid (rpos_any (b := b) (g := g) (s := txS s n xs q) n HN.out wr HR.out)
        have hwl := HH.out.ok.wr_lt n
        have hwp := HH.out.ok.pos
        rw [txS_wr] at HP
        have HPU := hid (fun (h2 : q < 200) w1 h1 => rput_any (b := b) (g := g) (s := txS s n xs q) ((s.wr n : Int) + q) (i64_small (by omega) (by omega)) (xs.getD q 0) (getD_u8 HX.out.u8 q) w1 h1)
        have htx : txS s n xs (q + 1) = if q < 200 then (txS s n xs q).putC ((s.wr n : Int) + q) (xs.getD q 0) else txS s n xs q := rfl
        generalize xs.getD q 0 = y at hcell HPU htx
        generalize hz : s.wr n = z at HP HPU htx hwl
        by_cases h200 : q < 200
        · rw [if_pos h200] at htx
          have h2i : (q : Int) < 200 := by omega
          have HT := hid htx
          clear htx hz
          go_wp2_with fail
          with_reducible refine HP.out.mono ?_
          rintro e w1 ⟨rfl, hb1⟩
          have HB1 := hid hb1
          clear hb1
          go_wp2_with fail
          with_reducible refine (HPU.out h200 _ (HR.out.below HB1.out)).mono ?_
          rintro e w2 ⟨⟨v, rfl⟩, hs, hm⟩
          have HS := hid hs
          have HM2 := hid (HMv.out.trans ((Moved.below HB1.out [b, g]).trans hm))
          clear hs hm
          go_wp2
          go_roundw
          case rel => exact ⟨q + 1, by omega, by go_num, by rw [HT.out]; exact HS.out, HM2.out⟩
          case measure => simp [intOf]; omega
        · rw [if_neg h200] at htx
          have h2i : ¬ (q : Int) < 200 := by omega
          have HT := hid htx
          clear htx hz
          go_wp2
          go_roundw
          case rel => exact ⟨q + 1, by omega, by go_num, by rw [HT.out]; exact HR.out, HMv.out⟩
          case measure => simp [intOf]; omega
      · obtain rfl : q = M := by omega
        go_wp2
        exact bodyPost_ret (results_none rfl _ _ _) rfl ⟨⟨_, rfl⟩, g, HR.out, (Moved.below HB.out [b, g]).trans HMv.out⟩
/-- The program's and the reference's, side by side. -/
structure Two (w : World) (b1 g1 b2 g2 : Nat) (s : Spc) : Prop where
  sp : SpM w b1 g1 s
  rf : RfM w b2 g2 s
  ap : ∀ k ∈ [b1, g1], k ∉ [b2, g2]
theorem Two.below {A C : World} {b1 g1 b2 g2 : Nat} {s : Spc} (h : Two A b1 g1 b2 g2 s) (hb : Below A.heap.size A C) : Two C b1 g1 b2 g2 s := ⟨h.sp.below hb, h.rf.below hb, h.ap⟩
def TwoD (b1 g1 b2 g2 : Nat) (s' : Spc) (w : World) (e : Ending) (w' : World) : Prop := (∃ v, e = .returned v) ∧ ∃ g1' g2', Two w' b1 g1' b2 g2' s' ∧ Moved w w' [b1, g1, b2, g2] [b1, g1', b2, g2']
theorem two_first {A C : World} {b1 g1 b2 g2 g1' : Nat} {s s' : Spc} (h : Two A b1 g1 b2 g2 s) (_hs : SpM C b1 g1' s') (m : Moved A C [b1, g1] [b1, g1']) : RfM C b2 g2 s ∧ ∀ k ∈ [b1, g1'], k ∉ [b2, g2] := by
  have hb : b2 ∉ [b1, g1] := fun q => h.ap b2 q (by simp)
  have hg : g2 ∉ [b1, g1] := fun q => h.ap g2 q (by simp)
  have h1 := h.rf.lt
  refine ⟨h.rf.moved m hb hg, fun k hk q => ?_⟩
  rcases m.from' k hk with r | r
  · exact h.ap k r q
  · simp at q; omega
theorem two_second {A C D : World} {b1 g1 b2 g2 g1' g2' : Nat} {s' : Spc} (hs : SpM C b1 g1' s') (m1 : Moved A C [b1, g1] [b1, g1']) (hap : ∀ k ∈ [b1, g1'], k ∉ [b2, g2]) (hr : RfM D b2 g2' s') (m2 : Moved C D [b2, g2] [b2, g2']) : Two D b1 g1' b2 g2' s' ∧ Moved A D [b1, g1, b2, g2] [b1, g1', b2, g2'] := by
  have h1 := hs.lt
  refine ⟨⟨hs.moved m2 (hap b1 (by simp)) (hap g1' (by simp)), hr, fun k hk q => ?_⟩, ?_⟩
  · rcases m2.from' k q with r | r
    · exact hap k hk r
    · simp at hk; omega
  · have e1 : Moved A C [b1, g1, b2, g2] [b1, g1', b2, g2] := ⟨m1.os, m1.tape, m1.output, m1.size, fun k hk hq => m1.block k hk (fun r => hq (by simp at r ⊢; omega)), fun k hk => by
      simp at hk
      by_cases r : k ∈ [b1, g1']
      · rcases m1.from' k r with y | y
        · exact .inl (by simp at y ⊢; omega)
        · exact .inr y
      · exact .inl (by simp at r ⊢; omega)⟩
    have e2 : Moved C D [b1, g1', b2, g2] [b1, g1', b2, g2'] := ⟨m2.os, m2.tape, m2.output, m2.size, fun k hk hq => m2.block k hk (fun r => hq (by simp at r ⊢; omega)), fun k hk => by
      simp at hk
      by_cases r : k ∈ [b2, g2']
      · rcases m2.from' k r with y | y
        · exact .inl (by simp at y ⊢; omega)
        · exact .inr y
      · exact .inl (by simp at r ⊢; omega)⟩
    exact e1.trans e2
end
section
variable {B b1 g1 b2 g2 : Nat} {s : Spc}
end
end Go.Proofs.Ytlhaefgchmakfaa
namespace Go.Proofs.Ytlhaefgchmakfaa
open Go.ChangeShapes Go.WideShapes Go.ChangeAt Go.RowKit Go.Joins Go.Deep

theorem own : ownKnob Try.prog.godebug = none := by kernel_rfl
theorem laidOut : laidOutB Try.prog = true := by kernel_rfl
theorem byte_nat {a : Int} (h : (Lit.int .u8 a).wf = true) : ∃ n : Nat, n < 256 ∧ a = (n : Int) := by
  have := bounds_u8 h
  exact ⟨a.toNat, by omega, by omega⟩
theorem byte_u8 {a : Int} (h : (Lit.int .u8 a).wf = true) : U8 a := by
  have := bounds_u8 h
  exact ⟨by omega, by omega⟩
theorem list6 {α : Type} {l : List α} (h : l.length = 6) : ∃ a b c d e f, l = [a, b, c, d, e, f] := by
  match l, h with
  | [a, b, c, d, e, f], _ => exact ⟨a, b, c, d, e, f, rfl⟩
theorem list11 {α : Type} {l : List α} (h : l.length = 11) : ∃ a0 a1 a2 a3 a4 a5 a6 a7 a8 a9 a10, l = [a0, a1, a2, a3, a4, a5, a6, a7, a8, a9, a10] := by
  match l, h with
  | [a0, a1, a2, a3, a4, a5, a6, a7, a8, a9, a10], _ => exact ⟨a0, a1, a2, a3, a4, a5, a6, a7, a8, a9, a10, rfl⟩
theorem addr_addS (g off j : Nat) : (⟨g, off, none⟩ : Addr).add j = ⟨g, off + j, none⟩ := by unfold Addr.add; split <;> simp_all
def act0 : ActD := ⟨0, 0, false, 0, cel0, .slice none 0 0, []⟩
/-- Acts that lie below B. -/
structure ActsIn (B : Nat) (w : World) (v : Value) (ac : List ActD) : Prop where
  fit : ∀ i, i < ac.length → (ac.getD i act0).Fit B w
  len : ac.length ≤ 9223372036854775807
  sl : ∃ x c, v = .slice x ac.length c
  at_ : ∀ x c, v = .slice x ac.length c → ∀ i, i < ac.length → ∃ g o, x = some ⟨g, o, none⟩ ∧ g < B ∧ ∀ j, j < 11 → w.cell? ⟨g, o + i * 11 + j, none⟩ = (ac.getD i act0).cs[j]?
theorem ActsIn.below {B : Nat} {A C : World} {v : Value} {ac : List ActD} (h : ActsIn B A v ac) (hb : Below B A C) : ActsIn B C v ac :=
  ⟨fun i hi => (h.fit i hi).below hb, h.len, h.sl, fun x c e i hi => by
    obtain ⟨g, o, e1, e2, e3⟩ := h.at_ x c e i hi
    refine ⟨g, o, e1, e2, fun j hj => ?_⟩
    rw [← e3 j hj]
    exact hb.cell (p := ⟨g, o + i * 11 + j, none⟩) e2⟩
section
variable {H : Type} {enc : TypeId × Value → H} {W : World}
theorem cel_op {P : Program} {t : TypeId} {f0 f1 f2 f3 f4 f5 : Field} (hs : P.underlying t = some (.struct #[f0, f1, f2, f3, f4, f5])) (hone : oneCellFields P #[f0, f1, f2, f3, f4, f5] = true) (h0 : P.underlying f0.type = some (.int .u8)) (h1 : P.underlying f1.type = some .bool) (h2 : P.underlying f2.type = some (.int .u8)) (h3 : P.underlying f3.type = some (.int .u8)) (h4 : P.underlying f4.type = some (.int .u8)) (h5 : P.underlying f5.type = some (.int .u8)) {n : Nat} {cs : List Value} (hcl : cs.length = 6) {y : DataW H × List MemPlace} (ht : DataW.trod enc P W 0 (fun _ => true) true n t cs = some y) :
    ∃ c : Cel, c.OK ∧ cs = c.cs := by
  obtain ⟨ys, n', _, _, _, hyl, hf⟩ := DataW.trod_struct hs ht
  obtain ⟨u0, u1, u2, u3, u4, u5, rfl⟩ := list6 hcl
  obtain ⟨y0, y1, y2, y3, y4, y5, rfl⟩ := list6 (show ys.length = 6 from hyl)
  obtain ⟨o0, k0⟩ := hone_of hone 0 f0 rfl
  obtain ⟨o1, k1⟩ := hone_of hone 1 f1 rfl
  obtain ⟨o2, k2⟩ := hone_of hone 2 f2 rfl
  obtain ⟨o3, k3⟩ := hone_of hone 3 f3 rfl
  obtain ⟨o4, k4⟩ := hone_of hone 4 f4 rfl
  obtain ⟨o5, k5⟩ := hone_of hone 5 f5 rfl
  have g0 := hf 0 f0 rfl
  have g1 := hf 1 f1 rfl
  have g2 := hf 2 f2 rfl
  have g3 := hf 3 f3 rfl
  have g4 := hf 4 f4 rfl
  have g5 := hf 5 f5 rfl
  rw [o0, k0] at g0
  rw [o1, k1] at g1
  rw [o2, k2] at g2
  rw [o3, k3] at g3
  rw [o4, k4] at g4
  rw [o5, k5] at g5
  obtain ⟨b0, e0, _, w0⟩ := DataW.trod_int h0 (show DataW.trod enc P W 0 (fun _ => true) true n' f0.type [u0] = some y0 from g0)
  obtain ⟨b1, e1, _⟩ := DataW.trod_bool h1 (show DataW.trod enc P W 0 (fun _ => true) true n' f1.type [u1] = some y1 from g1)
  obtain ⟨b2, e2, _, w2⟩ := DataW.trod_int h2 (show DataW.trod enc P W 0 (fun _ => true) true n' f2.type [u2] = some y2 from g2)
  obtain ⟨b3, e3, _, w3⟩ := DataW.trod_int h3 (show DataW.trod enc P W 0 (fun _ => true) true n' f3.type [u3] = some y3 from g3)
  obtain ⟨b4, e4, _, w4⟩ := DataW.trod_int h4 (show DataW.trod enc P W 0 (fun _ => true) true n' f4.type [u4] = some y4 from g4)
  obtain ⟨b5, e5, _, w5⟩ := DataW.trod_int h5 (show DataW.trod enc P W 0 (fun _ => true) true n' f5.type [u5] = some y5 from g5)
  simp at e0 e1 e2 e3 e4 e5
  subst e0 e1 e2 e3 e4 e5
  exact ⟨⟨b0, b1, b2, b3, b4, b5⟩, ⟨byte_u8 w0, byte_u8 w2, byte_u8 w3, byte_u8 w4, byte_u8 w5⟩, rfl⟩
theorem tx_op {P : Program} {t e : TypeId} (ht : P.underlying t = some (.slice e)) (he : P.underlying e = some (.int .u8)) (hc : P.cellsOf e = 1) {n : Nat} {u : Value} {y : DataW H × List MemPlace} (h : DataW.trod enc P W 0 (fun _ => true) true n t [u] = some y) : ∃ xs, TxIn W.heap.size W u xs := by
  rcases open_ints ht he hc h with ⟨hcs, _⟩ | ⟨a, len, cap, zs, hcs, _, hl, hm, hz, _, hcell, hwz⟩
  · simp at hcs
    subst hcs
    exact ⟨[], fun x hx => (by cases hx), by simp, ⟨_, _, rfl⟩, fun x c _ i hi => absurd hi (Nat.not_lt_zero i)⟩
  · simp at hcs
    subst hcs
    have hzl : zs.length = cap := by simpa using hz
    have hm' : cap ≤ 9223372036854775807 := hm
    have hlen : (zs.take len).length = len := by rw [List.length_take]; omega
    refine ⟨zs.take len, fun x hx => byte_u8 (hwz x (List.mem_of_mem_take hx)), by omega, ⟨some a, cap, by rw [hlen]⟩, fun x c hx i hi => ?_⟩
    rw [hlen] at hi hx
    injection hx with hx1 hx2 hx3
    have c0 := hcell i (by omega)
    obtain ⟨g, off, spot⟩ := a
    have cz := hcell 0 (by omega)
    obtain rfl : spot = none := by simpa [Addr.add] using World.cell?_spot cz
    rw [addr_addS] at c0
    refine ⟨g, off, hx1.symm, World.block_lt_of_cell? W _ c0, ?_⟩
    rw [c0]
    simp [List.getD, hi]
set_option maxRecDepth 100000 in
/-- One act's eleven cells. -/
theorem act_op {P : Program} {t tc tx te : TypeId} {f0 f1 f2 f3 f4 f5 c0 c1 c2 c3 c4 c5 : Field} (hs : P.underlying t = some (.struct #[f0, f1, f2, f3, f4, f5])) (o0 : f0.offset = 0) (o1 : f1.offset = 1) (o2 : f2.offset = 2) (o3 : f3.offset = 3) (o4 : f4.offset = 4) (o5 : f5.offset = 10) (k0 : P.cellsOf f0.type = 1) (k1 : P.cellsOf f1.type = 1) (k2 : P.cellsOf f2.type = 1) (k3 : P.cellsOf f3.type = 1) (k4 : P.cellsOf f4.type = 6) (k5 : P.cellsOf f5.type = 1) (h0 : P.underlying f0.type = some (.int .u8)) (h1 : P.underlying f1.type = some (.int .i64)) (h2 : P.underlying f2.type = some .bool) (h3 : P.underlying f3.type = some (.int .u8)) (h4 : f4.type = tc) (h5 : f5.type = tx)
    (hsc : P.underlying tc = some (.struct #[c0, c1, c2, c3, c4, c5])) (hone : oneCellFields P #[c0, c1, c2, c3, c4, c5] = true) (q0 : P.underlying c0.type = some (.int .u8)) (q1 : P.underlying c1.type = some .bool) (q2 : P.underlying c2.type = some (.int .u8)) (q3 : P.underlying c3.type = some (.int .u8)) (q4 : P.underlying c4.type = some (.int .u8)) (q5 : P.underlying c5.type = some (.int .u8))
    (hx : P.underlying tx = some (.slice te)) (he : P.underlying te = some (.int .u8)) (hce : P.cellsOf te = 1)
    {n i : Nat} {a : Addr} {cs : List Value} {y : DataW H × List MemPlace} (hc : W.cells? 0 (a.add (i * 11)) 11 = some cs) (ht : DataW.trod enc P W 0 (fun _ => true) true n t cs = some y) :
    ∃ x : ActD, x.Fit W.heap.size W ∧ ∀ j, j < 11 → W.cell? (a.add (i * 11 + j)) = x.cs[j]? := by
  obtain ⟨_, hcl, hat⟩ := World.cells?_some hc
  obtain ⟨ys, n', _, _, _, hyl, hf⟩ := DataW.trod_struct hs ht
  obtain ⟨u0, u1, u2, u3, u4, u5, u6, u7, u8, u9, u10, rfl⟩ := list11 hcl
  obtain ⟨y0, y1, y2, y3, y4, y5, rfl⟩ := list6 (show ys.length = 6 from hyl)
  have g0 := hf 0 f0 rfl
  have g1 := hf 1 f1 rfl
  have g2 := hf 2 f2 rfl
  have g3 := hf 3 f3 rfl
  have g4 := hf 4 f4 rfl
  have g5 := hf 5 f5 rfl
  rw [o0, k0] at g0
  rw [o1, k1] at g1
  rw [o2, k2] at g2
  rw [o3, k3] at g3
  rw [o4, k4, h4] at g4
  rw [o5, k5, h5] at g5
  obtain ⟨b0, e0, _, w0⟩ := DataW.trod_int h0 (show DataW.trod enc P W 0 (fun _ => true) true n' f0.type [u0] = some y0 from g0)
  obtain ⟨b1, e1, _, w1⟩ := DataW.trod_int h1 (show DataW.trod enc P W 0 (fun _ => true) true n' f1.type [u1] = some y1 from g1)
  obtain ⟨b2, e2, _⟩ := DataW.trod_bool h2 (show DataW.trod enc P W 0 (fun _ => true) true n' f2.type [u2] = some y2 from g2)
  obtain ⟨b3, e3, _, w3⟩ := DataW.trod_int h3 (show DataW.trod enc P W 0 (fun _ => true) true n' f3.type [u3] = some y3 from g3)
  obtain ⟨c, hcok, e4⟩ := cel_op hsc hone q0 q1 q2 q3 q4 q5 (cs := [u4, u5, u6, u7, u8, u9]) rfl (show DataW.trod enc P W 0 (fun _ => true) true n' tc [u4, u5, u6, u7, u8, u9] = some y4 from g4)
  obtain ⟨xs, hxs⟩ := tx_op hx he hce (show DataW.trod enc P W 0 (fun _ => true) true n' tx [u10] = some y5 from g5)
  simp at e0 e1 e2 e3
  subst e0 e1 e2 e3
  simp only [Cel.cs, List.cons.injEq, and_true] at e4
  obtain ⟨rfl, rfl, rfl, rfl, rfl, rfl⟩ := e4
  obtain ⟨m, hm, rfl⟩ := byte_nat w0
  have hi := bounds_i64 w1
  refine ⟨⟨m, b1, b2, b3, c, u10, xs⟩, ⟨hm, ⟨by show _ ≤ b1; omega, by show b1 ≤ _; omega⟩, byte_u8 w3, hcok, hxs⟩, fun j hj => ?_⟩
  have h := hat j (by simpa using hj)
  rw [add_add] at h
  rw [h]
  have : j = 0 ∨ j = 1 ∨ j = 2 ∨ j = 3 ∨ j = 4 ∨ j = 5 ∨ j = 6 ∨ j = 7 ∨ j = 8 ∨ j = 9 ∨ j = 10 := by omega
  rcases this with rfl | rfl | rfl | rfl | rfl | rfl | rfl | rfl | rfl | rfl | rfl <;> rfl
set_option maxRecDepth 100000 in
/-- Acts that came in. -/
theorem open_acts {r : Reach} {b0 : Nat} {v : Value} {d : DataW H} {p : List MemPlace} (hv : Value.okWide Try.prog W r b0 22 v) (h : DataW.Trod enc Try.prog W 0 (fun _ => true) true 22 v d p) : ∃ ac, ActsIn W.heap.size W v ac := by
  obtain ⟨x, len, cap, rfl⟩ := okWide_slice Try.underlying22 hv
  obtain ⟨fuel, hf⟩ := h
  rcases open_slice Try.underlying22 hf with ⟨hcs, _⟩ | ⟨a, l, c, m, n, D, Pl, hcs, _, hl, hm, hmm, _, hi⟩
  · simp [Value.cells] at hcs
    obtain ⟨rfl, rfl, rfl⟩ := hcs
    exact ⟨[], fun i hi => absurd hi (Nat.not_lt_zero i), by simp, ⟨_, _, rfl⟩, fun x c _ i hi => absurd hi (Nat.not_lt_zero i)⟩
  · simp [Value.cells] at hcs
    obtain ⟨rfl, rfl, rfl⟩ := hcs
    have hmc : m = cap := by simpa using hmm
    rw [show Try.prog.cellsOf 79 = 11 by kernel_rfl] at hi
    have key : ∀ i, ∃ x : ActD, i < len → x.Fit W.heap.size W ∧ ∀ j, j < 11 → W.cell? (a.add (i * 11 + j)) = x.cs[j]? := fun i => by
      by_cases hlt : i < len
      · obtain ⟨cs', hc, ht⟩ := hi i (by omega)
        obtain ⟨x, hx⟩ := act_op (tc := 48) (tx := 31) Try.underlying79 (by kernel_rfl) (by kernel_rfl) (by kernel_rfl) (by kernel_rfl) (by kernel_rfl) (by kernel_rfl) (by kernel_rfl) (by kernel_rfl) (by kernel_rfl) (by kernel_rfl) (by kernel_rfl) (by kernel_rfl) (by kernel_rfl) (by kernel_rfl) (by kernel_rfl) (by kernel_rfl) rfl rfl
          Try.underlying48 (by kernel_rfl) (by kernel_rfl) (by kernel_rfl) (by kernel_rfl) (by kernel_rfl) (by kernel_rfl) (by kernel_rfl) Try.underlying31 (by kernel_rfl) (by kernel_rfl) hc ht
        exact ⟨x, fun _ => hx⟩
      · exact ⟨act0, fun h => absurd h hlt⟩
    obtain ⟨f, hf⟩ := Classical.axiomOfChoice key
    have hlen : ((List.range len).map f).length = len := by simp
    have hget : ∀ i, i < len → ((List.range len).map f).getD i act0 = f i := fun i hi => by simp [List.getD, hi]
    have hm' : cap ≤ 9223372036854775807 := hm
    refine ⟨(List.range len).map f, fun i hi' => ?_, by omega, ⟨some a, cap, by rw [hlen]⟩, fun x c hx i hi' => ?_⟩
    · rw [hlen] at hi'
      rw [hget i hi']
      exact (hf i hi').1
    · rw [hlen] at hi' hx
      injection hx with hx1 hx2 hx3
      rw [hget i hi']
      have hh := (hf i hi').2
      have c0 := hh 0 (by omega)
      obtain ⟨g, off, spot⟩ := a
      have cz : W.cell? ((⟨g, off, spot⟩ : Addr).add (0 * 11 + 0)) = some (.int .u8 (f 0).k) := (hf 0 (by omega)).2 0 (by omega)
      obtain rfl : spot = none := by simpa [Addr.add] using World.cell?_spot cz
      have c1 : W.cell? ((⟨g, off, none⟩ : Addr).add (i * 11 + 0)) = some (.int .u8 (f i).k) := c0
      rw [addr_addS] at c1
      refine ⟨g, off, hx1.symm, World.block_lt_of_cell? W _ c1, fun j hj => ?_⟩
      have c2 := hh j hj
      rw [addr_addS] at c2
      rw [Nat.add_assoc]
      exact c2
end
end Go.Proofs.Ytlhaefgchmakfaa
