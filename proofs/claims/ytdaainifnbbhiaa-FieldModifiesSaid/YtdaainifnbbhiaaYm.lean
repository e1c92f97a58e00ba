/-
  Is a space formatted; the reference's attributes; lists that are the same.
-/
import Derived.Test.YtdaainifnbbhiaaYl
import Derived.Deep.QuietTactic
import Derived.BigQuiet
namespace Go.Proofs.Ytdaainifnbbhiaa
open Go.RowKit Go.Lib Go.Shelf

theorem below_dN {B : Nat} {a w : World} (h : Below B a w) (n : Nat) : Below B a (w.drewN n) := h.trans ⟨rfl, rfl, rfl, Nat.le_refl _, fun _ _ => rfl⟩
section
attribute [local go_sem] Oper.semAt_some
set_option maxRecDepth 100000 in
set_option maxHeartbeats 4000000 in
theorem formatted_in (n : Nat) (hn : 6 ≤ n) (b g : Nat) (s : Spc) (w : World) (h : SpM w b g s) :
    CallsIn Fence.wide n Try.prog 27 #[.pointer (some ⟨b, 0, none⟩)] w fun e w' => e = .returned (.bool (decide (0 < s.A.length))) ∧ Below w.heap.size w w' := by
  have hN := h.ok.pos.2
  have HSP := hid (show ∀ V, Below w.heap.size w V → SpM V b g s from fun V hV => h.below hV)
  clear h
  refine callsIn_of_wp_marks Try.func27 rfl trivial ?_ rfl
  simp only [Try.ntmps27, List.size_toArray, List.length_cons, List.length_nil, Nat.reduceAdd, Nat.reduceSub, Array.replicate_succ, Array.replicate_zero, List.push_toArray, List.append_toArray, List.nil_append, List.cons_append]
  gi_wp2
  refine ⟨trivial, fun _ => (by omega), ?_⟩
  refine (callsIn_wide.2 (attrsIt_any b _)).mono ?_
  rintro e w1 ⟨bs, rfl, hbs, hcs, hb1⟩
  have o1 : w1.cell? ⟨w.heap.size, 0, none⟩ = some (.bool false) := keepc hb1 (by simp [go_sem])
  have f1 : w1.frozen? ⟨w.heap.size, 0, none⟩ = false := (hb1.frozen (p := ⟨w.heap.size, 0, none⟩) (by simp)).trans (by simp [go_sem])
  have hb2 : Below w.heap.size w w1 := blw hb1
  have hz1' : w.heap.size + 1 ≤ w1.heap.size := by have := hb1.size; simp at this; omega
  have hbs' : w.heap.size + 1 ≤ bs := by simp at hbs; omega
  have HI0 := hid (show w1.cell? ⟨bs, 0, none⟩ = some (.pointer (some ⟨b, 0, none⟩)) ∧ w1.cell? ⟨w.heap.size, 0, none⟩ = some (.bool false) ∧ w1.frozen? ⟨w.heap.size, 0, none⟩ = false ∧ Below w.heap.size w w1 from ⟨hcs, o1, f1, hb2⟩)
  have hlz : w.heap.size ≤ w1.heap.size := by omega
  clear hb1 hb2 hcs o1 f1
  gi_wp2
  refine rangeFunc_seq (n := n) (w := w1) rfl (by omega) (gf := 93) (lb := #[.pointer (some ⟨bs, 0, none⟩)]) rfl trivial (enters_of Try.func93 (by kernel_rfl) rfl)
    (encs := encI) (fun _ => rfl) (el := fun k x _ => s.A[k]? = some x) (N := s.A.length) (R := RP bs b s.L.length s.P)
    (fun k _ V => V.cell? ⟨bs, 0, none⟩ = some (.pointer (some ⟨b, 0, none⟩)) ∧ V.cell? ⟨w.heap.size, 0, none⟩ = some (.bool false) ∧ V.frozen? ⟨w.heap.size, 0, none⟩ = false ∧ Below w.heap.size w V ∧ k = 0)
    (fun c _ _ V => c = .ret ∧ V.cell? ⟨w.heap.size, 0, none⟩ = some (.bool true) ∧ Below w.heap.size w V) ?hI ?hIx ?hR ⟨HI0.out.1, HI0.out.2.1, HI0.out.2.2.1, HI0.out.2.2.2, rfl⟩
    (fun _ _ x a V => V.cell? ⟨w.heap.size, 0, none⟩ = some (.bool false) ∧ V.frozen? ⟨w.heap.size, 0, none⟩ = false ∧ Below w.heap.size w V ∧ a = { tmps := #[.pointer (some ⟨b, 0, none⟩), undef, .pointer (some ⟨w.heap.size, 0, none⟩), .pointer (some ⟨b, 0, none⟩), .func (.func 93) #[] #[.pointer (some ⟨bs, 0, none⟩)], .int .i64 x], defers := [] }) ?hAx ?assign ?body ?iter ?done ?stop
  case hI => exact fun k S A C hg ⟨h1, h2, h3, h4, h5⟩ => ⟨cell_grow hg h1, cell_grow hg h2, frozen_grow hg h2 h3, below_grow h4 hg hlz (Nat.le_refl _), h5⟩
  case hIx => exact fun c k S A C hg ⟨h1, h2, h3⟩ => ⟨h1, cell_grow hg h2, below_grow h3 hg hlz (Nat.le_refl _)⟩
  case hR => exact fun k S V h => ⟨h.1, (HSP.out V h.2.2.2.1).spP⟩
  case hAx => exact fun k S x a A C hg ⟨h2, h3, h4, h5⟩ => ⟨cell_grow hg h2, frozen_grow hg h2 h3, below_grow h4 hg hlz (Nat.le_refl _), h5⟩
  case iter => exact fun o1 o2 _ _ => attrs_seq (n - 1) (by omega) bs b s.L.length s.P hN _
  case assign =>
    rintro l' k x S V KK hk hx1 hi hsz hK
    have HK := hid hK
    have HI := hid hi
    clear hK hi
    gi_wp2
    exact HK.out _ _ (Touch.refl _ _ _) ⟨HI.out.2.1, HI.out.2.2.1, HI.out.2.2.2.1, by simp⟩
  case body =>
    rintro l' k x S a' V hk ⟨h2, h3, h4, rfl⟩ hsz
    have hlt := World.block_lt_of_cell? V _ h2
    have HB := hid h4
    have H2 := hid h2
    clear h4
    gi_wp2
    exact ⟨S, Touch.set V ⟨w.heap.size, 0, none⟩ _ (.inl hz1'), rfl, sc_same H2.out, HB.out.sc _ _ _ (Nat.le_refl _)⟩
  case done =>
    rintro D S V hD ⟨_, h2, h3, h4, h5⟩ hK
    have hlt := World.block_lt_of_cell? V _ h2
    have HK := hid hK
    have HB := hid h4
    have HN := hid h5
    clear hK h4 h5
    gi_wp2
    refine ⟨by simp, .inl ⟨_, _, rfl, run_takeDeferred ((Go.heap_setCell_other V ⟨w.heap.size, 0, none⟩ D _ (by simp; omega)).trans HK.out), ?_⟩⟩
    have e1 : (V.setCell ⟨w.heap.size, 0, none⟩ (.bool false)).heap[D]? = V.heap[D]? := Go.heap_setCell_other V _ D _ (by simp; omega)
    have hg := Grow.put (m := w1.heap.size) (.deferred none) hD (e1.trans HK.out) rfl
    have e2 := cell_grow hg (sc_same (v := .bool false) h2)
    have hN0 : ¬ 0 < s.A.length := by have := HN.out; omega
    exact ⟨.bool false, by simp [results, Try.f27, go_sem, e2], by rw [show decide (0 < s.A.length) = false from decide_eq_false hN0], below_grow (HB.out.sc _ _ _ (Nat.le_refl _)) hg hlz (Nat.le_refl _)⟩
  case stop =>
    rintro D k c S V hD hk ⟨rfl, h2, h4⟩ hK
    have hlt := World.block_lt_of_cell? V _ h2
    have HK := hid hK
    have HB := hid h4
    clear hK h4
    gi_wp2
    refine ⟨by simp, .inl ⟨_, _, rfl, run_takeDeferred HK.out, ?_⟩⟩
    have hg := Grow.put (m := w1.heap.size) (.deferred none) hD HK.out rfl
    have e2 := cell_grow hg h2
    exact ⟨.bool true, by simp [results, Try.f27, go_sem, e2], by rw [show decide (0 < s.A.length) = true from decide_eq_true (by omega)], below_grow HB.out hg hlz (Nat.le_refl _)⟩
end
set_option maxRecDepth 100000 in
set_option maxHeartbeats 4000000 in
theorem rattrs_any (b g : Nat) (s : Spc) (w : World) (h : RfM w b g s) : Calls Try.prog 31 #[.pointer (some ⟨b, 0, none⟩)] w (ListD 3 1 (s.iA s.A.length) s.A.length w) := by
  obtain ⟨i0, hi, hz0, hz1, hz2⟩ := info_parts infoI
  have hN := h.ok.pos.2
  have h4 := h.h4
  have hlt := h.lt.1
  have HD := hid (show ∀ V, Below w.heap.size w V → RfM V b g s from fun V hV => h.below hV)
  clear h
  obtain ⟨N, hNN⟩ : ∃ N, N = s.L.length := ⟨_, rfl⟩
  have HN := hid hNN
  rw [← hNN] at hN h4
  have hA : ∀ k, (attP s.P k).length ≤ k := attP_len s.P
  have HF := hid (show attP s.P N = s.A by rw [HN.out]; rfl)
  clear hNN
  go_enter Try.func31, Try.ntmps31
  go_wp2
  go_loopw [3, 11] (fun o i W => ∃ k : Nat, k ≤ N ∧ i = .int .i64 k ∧ Hid (W.ownsRow 0 3 1 o (attP s.P k).length (intsV ((attP s.P k).map Int.ofNat))) ∧ Hid (∀ q ∈ blkV o, w.heap.size ≤ q) ∧ Hid (Below w.heap.size w W)) (fun _ i _ => N - (intOf i).toNat)
  case atStart => exact ⟨0, by omega, rfl, World.ownsRow_nil _ _ _ _, fun q hq => (by cases hq), Below.refl _ _⟩
  case round =>
    obtain ⟨k, hk, rfl, HR, HBk, HB⟩ := hrel
    obtain ⟨y, cc, rfl⟩ := row_any HR.out
    by_cases hlt2 : k < N
    · have hki : (k : Int) < N := by omega
      have hD := HD.out _ HB.out
      have hgl := hD.lt.2
      obtain ⟨a0, a1, a2, a3, a4, a5⟩ := hD.row.six k (by rw [← HN.out]; exact hlt2) (s.cel k) rfl
      have hat : (s.cel k).at_ = s.P k := rfl
      generalize s.cel k = c at a0 a1 a2 a3 a4 a5 hat
      obtain ⟨x0, x1, x2, x3, x4, x5⟩ := c
      dsimp only at a0 a1 a2 a3 a4 a5 hat
      subst hat
      clear hD
      cases hp : s.P k
      · rw [hp] at a1
        have hn := hid (show attP s.P (k + 1) = attP s.P k by rw [attP_succ, if_neg (by rw [hp]; decide), List.append_nil])
        go_wp2
        go_roundw
        case rel => exact ⟨k + 1, by omega, by go_num, by rw [hn.out]; exact HR.out.alloc _, HBk.out, HB.out.al (Nat.le_refl _) _⟩
        case measure => simp [intOf]; omega
      · rw [hp] at a1
        have hn := hid (show attP s.P (k + 1) = attP s.P k ++ [k] by rw [attP_succ, if_pos hp])
        have hAk := hA k
        go_wp2_with (first | (at_builtin; refine wpList_append_blk _ rfl _ _ 56 rfl 3 i0 _ 1 8 Try.underlying56 hi hz0 hz1 hz2 rfl (by decide) _ _ _ rfl ((HR.out.alloc _).alloc _) ⟨wr.heap.size + 1, 0, none⟩ 1 1 [.int .i64 k] rfl rfl (one_new _ _ _ _ (by simp)) (by simp [Value.oneCell']) (by unfold maxLen; omega) (by omega) ?_; intro v' W1 hown' hgrow _ hb'; obtain ⟨g', cap', rfl⟩ := row_any hown'; have H1 := hid hown'; have H2 := hid hgrow; have H3 := hid hb'; clear hown' hgrow hb') | fail)
        go_roundw
        case rel =>
          refine ⟨k + 1, by omega, by go_num, ?_, fun q hq => ?_, ?_⟩
          · have h1 := H1.out
            rw [hn.out, List.length_append, List.map_append]
            unfold intsV at h1 ⊢
            rw [List.map_append]
            exact h1
          · rcases H3.out q hq with h | h
            · exact HBk.out q h
            · have := HB.out.size
              simp at h
              omega
          · exact ((HB.out.al (Nat.le_refl _) _).al (Nat.le_refl _) _).grown H2.out (by have := HB.out.size; simp; omega) (fun q e => HBk.out q (mem_blkV.2 e))
        case measure => simp [intOf]; omega
    · obtain rfl : k = N := by omega
      have hF := HF.out
      go_wp2
      go_ret
      refine ⟨.slice y (attP s.P k).length cc, rfl, ?_, HBk.out, HB.out⟩
      have e : s.iA s.A.length = intsV (s.A.map Int.ofNat) := by unfold Spc.iA; rw [List.take_length]
      rw [e, ← HF.out]
      exact HR.out
set_option maxRecDepth 100000 in
set_option maxHeartbeats 2000000 in
theorem equalI_row (g o g' o' n c c' : Nat) (xs : List Int) (hn : n = xs.length) (nb : n ≤ 1000000) (w : World) (h1 : ∀ i, i < xs.length → w.cell? ⟨g, o + i, none⟩ = some (.int .i64 (xs.getD i 0))) (h2 : ∀ i, i < xs.length → w.cell? ⟨g', o' + i, none⟩ = some (.int .i64 (xs.getD i 0))) : Calls Try.prog 33 #[.slice (some ⟨g, o, none⟩) n c, .slice (some ⟨g', o', none⟩) n c'] w fun e w' => e = .returned (.bool true) ∧ Below w.heap.size w w' := by
  have H1 := hid (fun i (h : i < n) => h1 i (hn ▸ h))
  have H2 := hid (fun i (h : i < n) => h2 i (hn ▸ h))
  clear h1 h2 hn
  go_enter Try.func33, Try.ntmps33
  go_wp2
  go_loopw [13] (fun i W => ∃ k : Nat, k ≤ n ∧ i = .int .i64 k ∧ Hid (Below w.heap.size w W)) (fun i _ => n - (intOf i).toNat)
  case atStart => exact ⟨0, by omega, rfl, Below.refl _ _⟩
  case round =>
    obtain ⟨k, hk, rfl, HB⟩ := hrel
    by_cases hlt : k < n
    · have hki : (k : Int) < n := by omega
      have c1 := keepc HB.out (H1.out k hlt)
      have c2 := keepc HB.out (H2.out k hlt)
      generalize xs.getD k 0 = X at c1 c2
      go_wp2_with fail
      go_quiet (fail)
      go_wp2
      go_roundw
      case rel => exact ⟨k + 1, by omega, by go_num, below_dN HB.out _⟩
      case measure => simp [intOf]; omega
    · obtain rfl : k = n := by omega
      go_wp2
      go_ret
      exact ⟨rfl, HB.out⟩
set_option maxRecDepth 100000 in
set_option maxHeartbeats 1000000 in
theorem equalI_nil (x y : Option Addr) (c d : Nat) (w : World) : Calls Try.prog 33 #[.slice x 0 c, .slice y 0 d] w fun e w' => e = .returned (.bool true) ∧ Below w.heap.size w w' := by
  go_enter Try.func33, Try.ntmps33
  go_wp2
  go_loopw [13] (fun i W => i = .int .i64 0 ∧ W = w) (fun _ _ => 0)
  case atStart => exact ⟨rfl, rfl⟩
  case round =>
    obtain ⟨rfl, rfl⟩ := hrel
    go_wp2
    go_ret
    exact ⟨rfl, Below.refl _ _⟩
theorem ints_cells {w : World} {v : Value} {xs : List Int} (h : w.ownsRow 0 3 1 v xs.length (intsV xs)) : (∃ x c, v = .slice x 0 c ∧ xs = []) ∨ ∃ g c, v = .slice (some ⟨g, 0, none⟩) xs.length c ∧ ∀ i, i < xs.length → w.cell? ⟨g, 0 + i, none⟩ = some (.int .i64 (xs.getD i 0)) := by
  rcases h.2 with ⟨rfl, e⟩ | ⟨g, cap, cur, rfl, hb, hh, h1, h2, h3, h4⟩
  · exact .inl ⟨none, 0, by rw [], List.length_eq_zero_iff.1 e⟩
  · refine .inr ⟨g, cap, rfl, fun i hi => ?_⟩
    rw [Nat.zero_add, World.ownsRow.cellAt h i (by omega), intsV, List.getElem?_map, List.getD, List.getElem?_eq_getElem hi]
    rfl
theorem equalI_any (u v : Value) (xs : List Int) (w : World) (hu : w.ownsRow 0 3 1 u xs.length (intsV xs)) (hv : w.ownsRow 0 3 1 v xs.length (intsV xs)) (hl : xs.length ≤ 1000000) : Calls Try.prog 33 #[u, v] w fun e w' => e = .returned (.bool true) ∧ Below w.heap.size w w' := by
  rcases ints_cells hu with ⟨x, c, rfl, rfl⟩ | ⟨g, c, rfl, hc⟩
  · rcases ints_cells hv with ⟨y, d, rfl, _⟩ | ⟨g', c', rfl, _⟩
    · exact equalI_nil x y c d w
    · exact equalI_nil x _ c c' w
  · rcases ints_cells hv with ⟨y, d, rfl, e⟩ | ⟨g', c', rfl, hc'⟩
    · subst e
      exact equalI_nil _ y c d w
    · exact equalI_row g 0 g' 0 xs.length c c' xs rfl hl w hc hc'
set_option maxRecDepth 100000 in
set_option maxHeartbeats 2000000 in
theorem equalC_row (g g' n c c' : Nat) (L : List Cel) (hn : n = L.length) (nb : n ≤ 1000000) (w : World) (h1 : ∀ i, i < L.length → ∀ j, j < 6 → w.cell? ⟨g, i * 6 + j, none⟩ = (L.getD i cel0).cs[j]?) (h2 : ∀ i, i < L.length → ∀ j, j < 6 → w.cell? ⟨g', i * 6 + j, none⟩ = (L.getD i cel0).cs[j]?) : Calls Try.prog 32 #[.slice (some ⟨g, 0, none⟩) n c, .slice (some ⟨g', 0, none⟩) n c'] w fun e w' => e = .returned (.bool true) ∧ Below w.heap.size w w' := by
  have H1 := hid (fun i (h : i < n) => h1 i (hn ▸ h))
  have H2 := hid (fun i (h : i < n) => h2 i (hn ▸ h))
  clear h1 h2 hn
  go_enter Try.func32, Try.ntmps32
  go_wp2
  go_loopw [13] (fun i W => ∃ k : Nat, k ≤ n ∧ i = .int .i64 k ∧ Hid (Below w.heap.size w W)) (fun i _ => n - (intOf i).toNat)
  case atStart => exact ⟨0, by omega, rfl, Below.refl _ _⟩
  case round =>
    obtain ⟨k, hk, rfl, HB⟩ := hrel
    by_cases hlt : k < n
    · have hki : (k : Int) < n := by omega
      have p1 := H1.out k hlt
      have p2 := H2.out k hlt
      generalize L.getD k cel0 = X at p1 p2
      obtain ⟨x0, x1, x2, x3, x4, x5⟩ := X
      have a0 := keepc HB.out (p1 0 (by decide))
      have a1 := keepc HB.out (p1 1 (by decide))
      have a2 := keepc HB.out (p1 2 (by decide))
      have a3 := keepc HB.out (p1 3 (by decide))
      have a4 := keepc HB.out (p1 4 (by decide))
      have a5 := keepc HB.out (p1 5 (by decide))
      have b0 := keepc HB.out (p2 0 (by decide))
      have b1 := keepc HB.out (p2 1 (by decide))
      have b2 := keepc HB.out (p2 2 (by decide))
      have b3 := keepc HB.out (p2 3 (by decide))
      have b4 := keepc HB.out (p2 4 (by decide))
      have b5 := keepc HB.out (p2 5 (by decide))
      simp only [Nat.add_zero] at a0 b0
      clear p1 p2
      go_wp2_with fail
      go_quiet (fail)
      go_wp2
      go_roundw
      case rel => exact ⟨k + 1, by omega, by go_num, below_dN HB.out _⟩
      case measure => simp [intOf]; omega
    · obtain rfl : k = n := by omega
      go_wp2
      go_ret
      exact ⟨rfl, HB.out⟩
end Go.Proofs.Ytdaainifnbbhiaa
