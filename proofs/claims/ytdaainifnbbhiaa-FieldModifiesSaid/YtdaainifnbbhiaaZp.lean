/-
  A field's length; the document's example.
-/
import Derived.Test.YtdaainifnbbhiaaYz
namespace Go.Proofs.Ytdaainifnbbhiaa
open Go.RowKit Go.Lib Go.Deep

set_option maxRecDepth 100000 in
set_option maxHeartbeats 4000000 in
theorem placesIt (o : Option Addr) (n : Int) (w : World) : Calls Try.prog 49 #[.pointer o, .int .i64 n] w fun e w' => ∃ bx by_, e = .returned (.func (.func 83) #[] #[.pointer (some ⟨bx, 0, none⟩), .pointer (some ⟨by_, 0, none⟩)]) ∧ w.heap.size ≤ bx ∧ w.heap.size ≤ by_ ∧ w'.cell? ⟨bx, 0, none⟩ = some (.pointer o) ∧ w'.cell? ⟨by_, 0, none⟩ = some (.int .i64 n) ∧ Below w.heap.size w w' := by
  obtain ⟨w0, hw0⟩ : ∃ w0, w.alloc (.cells #[.pointer o] 24) = w0 := ⟨_, rfl⟩
  have hz : w0.heap.size = w.heap.size + 1 := by rw [← hw0]; simp
  have hb0 : Below w.heap.size w w0 := by rw [← hw0]; exact bal (Below.refl _ _) _
  have hc0 : w0.cell? ⟨w.heap.size, 0, none⟩ = some (.pointer o) := by rw [← hw0]; simp [go_sem]
  have H := hid (And.intro hz (And.intro hb0 (And.intro hc0 hw0)))
  clear hz hb0 hc0 hw0
  go_enter Try.func49, Try.ntmps49
  go_wp2
  go_ret
  simp only [H.out.2.2.2]
  refine ⟨w.heap.size, w0.heap.size, ?_, Nat.le_refl _, by rw [H.out.1]; omega, keepc (bal (Below.refl _ _) _) H.out.2.2.1, by simp [go_sem], below_t H.out.2.1 (bal (Below.refl _ _) _)⟩
  first
    | rfl
    | (rw [H.out.1]; rfl)
section
attribute [local go_sem] Oper.semAt_some
set_option maxRecDepth 100000 in
set_option maxHeartbeats 4000000 in
theorem length_in (m : Nat) (hm : 6 ≤ m) (b g : Nat) (s : Spc) (n : Int) (hn : I64 n) (w : World) (h : SpM w b g s) :
    CallsIn Fence.wide m Try.prog 51 #[.pointer (some ⟨b, 0, none⟩), .int .i64 n] w fun e w' => e = .returned (.int .i64 ((plL s.P s.L.length (s.wr n)).length : Nat)) ∧ Below w.heap.size w w' := by
  have hN := h.ok.pos.2
  have HSP := hid (show ∀ V, Below w.heap.size w V → SpM V b g s from fun V hV => h.below hV)
  have HKB := hid (show (plL s.P s.L.length (s.wr n)).length ≤ 4000 by
    unfold plL
    split
    · have := plF_len s.P s.L.length (s.wr n) (s.L.length - 1) 0
      omega
    · simp)
  have HSQ := hid (fun bx by_ V => (show SeqF Fence.wide (m - 1) Try.prog 83 #[.pointer (some ⟨bx, 0, none⟩), .pointer (some ⟨by_, 0, none⟩)] encI (fun k x _ => (plL s.P s.L.length (s.wr n))[k]? = some x) (plL s.P s.L.length (s.wr n)).length (RPl bx by_ b s.L.length n s.P) V from places_seq (m - 1) (by omega) bx by_ b s.L.length n hn s.P V))
  generalize plL s.P s.L.length (s.wr n) = pl at HSQ HKB ⊢
  clear h hn
  refine callsIn_of_wp_marks Try.func51 rfl trivial ?_ rfl
  simp only [Try.ntmps51, List.size_toArray, List.length_cons, List.length_nil, Nat.reduceAdd, Nat.reduceSub, Array.replicate_succ, Array.replicate_zero, List.push_toArray, List.append_toArray, List.nil_append, List.cons_append]
  gi_wp2
  refine ⟨trivial, fun _ => (by omega), ?_⟩
  refine (callsIn_wide.2 (placesIt (some ⟨b, 0, none⟩) n _)).mono ?_
  rintro e w1 ⟨bx, by_, rfl, hbx, hby, hcx, hcy, hb1⟩
  have o1 : w1.cell? ⟨w.heap.size, 0, none⟩ = some (.int .i64 0) := keepc hb1 (by simp [go_sem])
  have f1 : w1.frozen? ⟨w.heap.size, 0, none⟩ = false := (hb1.frozen (p := ⟨w.heap.size, 0, none⟩) (by simp)).trans (by simp [go_sem])
  have hb2 : Below w.heap.size w w1 := blw hb1
  have hz1' : w.heap.size + 1 ≤ w1.heap.size := by have := hb1.size; simp at this; omega
  have hbx' : w.heap.size + 1 ≤ bx := by simp at hbx; omega
  have hby' : w.heap.size + 1 ≤ by_ := by simp at hby; omega
  have HI0 := hid (show w1.cell? ⟨bx, 0, none⟩ = some (.pointer (some ⟨b, 0, none⟩)) ∧ w1.cell? ⟨by_, 0, none⟩ = some (.int .i64 n) ∧ w1.cell? ⟨w.heap.size, 0, none⟩ = some (.int .i64 (0 : Nat)) ∧ w1.frozen? ⟨w.heap.size, 0, none⟩ = false ∧ Below w.heap.size w w1 from ⟨hcx, hcy, o1, f1, hb2⟩)
  have hlz : w.heap.size ≤ w1.heap.size := by omega
  clear hb1 hb2 hcx hcy o1 f1
  gi_wp2
  refine rangeFunc_seq (n := m) (w := w1) rfl (by omega) (gf := 83) (lb := #[.pointer (some ⟨bx, 0, none⟩), .pointer (some ⟨by_, 0, none⟩)]) rfl trivial (enters_of Try.func83 (by kernel_rfl) rfl)
    (encs := encI) (fun _ => rfl) (el := fun k x _ => pl[k]? = some x) (N := pl.length) (R := RPl bx by_ b s.L.length n s.P)
    (fun k _ V => V.cell? ⟨bx, 0, none⟩ = some (.pointer (some ⟨b, 0, none⟩)) ∧ V.cell? ⟨by_, 0, none⟩ = some (.int .i64 n) ∧ V.cell? ⟨w.heap.size, 0, none⟩ = some (.int .i64 (k : Nat)) ∧ V.frozen? ⟨w.heap.size, 0, none⟩ = false ∧ Below w.heap.size w V)
    (fun _ _ _ _ => False) ?hI ?hIx ?hR HI0.out
    (fun k _ x a V => (V.cell? ⟨bx, 0, none⟩ = some (.pointer (some ⟨b, 0, none⟩)) ∧ V.cell? ⟨by_, 0, none⟩ = some (.int .i64 n) ∧ V.cell? ⟨w.heap.size, 0, none⟩ = some (.int .i64 (k : Nat)) ∧ V.frozen? ⟨w.heap.size, 0, none⟩ = false ∧ Below w.heap.size w V) ∧ a = { tmps := #[.pointer (some ⟨b, 0, none⟩), .int .i64 n, undef, undef, .int .i64 0, .pointer (some ⟨w.heap.size, 0, none⟩), .pointer (some ⟨b, 0, none⟩), .int .i64 n, .func (.func 83) #[] #[.pointer (some ⟨bx, 0, none⟩), .pointer (some ⟨by_, 0, none⟩)], .int .i64 (x : Nat), undef, undef, undef], defers := [] }) ?hAx ?assign ?body ?iter ?done ?stop
  case hI => exact fun k S A C hg ⟨h1, h2, h3, h4, h5⟩ => ⟨cell_grow hg h1, cell_grow hg h2, cell_grow hg h3, frozen_grow hg h3 h4, below_grow h5 hg hlz (Nat.le_refl _)⟩
  case hIx => exact fun c k S A C hg h => h.elim
  case hR => exact fun k S V h => ⟨h.1, h.2.1, (HSP.out V h.2.2.2.2).spP⟩
  case hAx => exact fun k S x a A C hg ⟨⟨h1, h2, h3, h4, h5⟩, h6⟩ => ⟨⟨cell_grow hg h1, cell_grow hg h2, cell_grow hg h3, frozen_grow hg h3 h4, below_grow h5 hg hlz (Nat.le_refl _)⟩, h6⟩
  case iter => exact fun o1 o2 _ _ => HSQ.out bx by_ _
  case assign =>
    rintro l' k x S V KK hk hx1 hi hsz hK
    have HK := hid hK
    have HI := hid hi
    clear hK hi
    gi_wp2
    exact HK.out _ _ (Touch.refl _ _ _) ⟨HI.out, by simp⟩
  case body =>
    rintro l' k x S a' V hk ⟨⟨h1, h2, h3, h4, h5⟩, rfl⟩ hsz
    have hlt := World.block_lt_of_cell? V _ h3
    have hkb : k < 4000 := by have := HKB.out; omega
    have H := hid (And.intro h1 (And.intro h2 (And.intro h3 (And.intro h4 h5))))
    clear h1 h2 h5
    have hw : IntKind.i64.wrap ((k : Int) + 1) = (k : Int) + 1 := wrapI (i64_small (by omega) (by omega))
    gi_wp2
    obtain ⟨h1, h2, h3, h4, h5⟩ := H.out
    refine ⟨S, Touch.set V ⟨w.heap.size, 0, none⟩ _ (.inl hz1'), (World.cell?_setCell_far V ⟨w.heap.size, 0, none⟩ ⟨bx, 0, none⟩ _ (by simp; omega)).trans h1, (World.cell?_setCell_far V ⟨w.heap.size, 0, none⟩ ⟨by_, 0, none⟩ _ (by simp; omega)).trans h2, (sc_same h3).trans (by push_cast; rfl), by simp [h4], h5.sc _ _ _ (Nat.le_refl _)⟩
  case done =>
    rintro D S V hD ⟨_, _, h3, h4, h5⟩ hK
    have hlt := World.block_lt_of_cell? V _ h3
    have HK := hid hK
    have HB := hid h5
    clear hK h5
    gi_wp2
    refine ⟨by simp, .inl ⟨_, _, rfl, run_takeDeferred HK.out, ?_⟩⟩
    have hg := Grow.put (m := w1.heap.size) (.deferred none) hD HK.out rfl
    exact ⟨.int .i64 (pl.length : Nat), by simp [results, Try.f51, go_sem], rfl, below_grow HB.out hg hlz (Nat.le_refl _)⟩
  case stop => exact fun _ _ _ _ _ _ _ h => h.elim
end
/-- The example's space. -/
def actA : ActD := ⟨3, 2, false, 32, cel0, .slice none 0 0, []⟩
def actB : ActD := ⟨3, 5, false, 0, cel0, .slice none 0 0, []⟩
def exS : Spc := runS (clearS (2 + ((0 % 4 : Nat) : Int)) false) [actA, actB] 2
theorem exS_eq : exS = ((clearS 2 false).setC 2 ⟨0, true, 32, 0, 0, 0⟩).setC 5 ⟨0, true, 0, 0, 0, 0⟩ := rfl
theorem exS_len : exS.L.length = 1920 := by rw [exS_eq, setC_len, setC_len]; unfold clearS; rw [List.length_replicate]; rfl
theorem exS_cel (i : Nat) : exS.cel i = if i = 5 then ⟨0, true, 0, 0, 0, 0⟩ else if i = 2 then ⟨0, true, 32, 0, 0, 0⟩ else cel0 := by
  have hl : (clearS 2 false).L.length = 1920 := by unfold clearS; rw [List.length_replicate]; rfl
  rw [exS_eq]
  unfold Spc.setC
  rw [Spc.put1_cel, Spc.put1_cel, clear_cel]
  have e1 : ((clearS 2 false).put1 ((clearS 2 false).wr 2) (fit ⟨0, true, 32, 0, 0, 0⟩)).wr 5 = 5 := by
    unfold Spc.wr
    rw [Spc.put1_len, hl]
    rfl
  have e2 : (clearS 2 false).wr 2 = 2 := by
    unfold Spc.wr
    rw [hl]
    rfl
  rw [e1, e2, Spc.put1_len, hl]
  have f1 : fit ⟨0, true, 0, 0, 0, 0⟩ = ⟨0, true, 0, 0, 0, 0⟩ := by decide +kernel
  have f2 : fit ⟨0, true, 32, 0, 0, 0⟩ = ⟨0, true, 32, 0, 0, 0⟩ := by decide +kernel
  rw [f1, f2]
  by_cases h5 : i = 5
  · rw [if_pos ⟨h5, by omega⟩, if_pos h5]
  · rw [if_neg (fun q => h5 q.1), if_neg h5]
    by_cases h2 : i = 2
    · rw [if_pos ⟨h2, by omega⟩, if_pos h2]
    · rw [if_neg (fun q => h2 q.1), if_neg h2]
theorem exS_P (i : Nat) : exS.P i = (i == 5 || i == 2) := by
  unfold Spc.P
  rw [exS_cel]
  by_cases h5 : i = 5
  · rw [if_pos h5]; simp [h5]
  · rw [if_neg h5]
    by_cases h2 : i = 2
    · rw [if_pos h2]; simp [h2]
    · rw [if_neg h2]; simp [h5, h2, cel0]
theorem exS_P_no {i : Nat} (h5 : i ≠ 5) (h2 : i ≠ 2) : exS.P i = false := by rw [exS_P]; simp [h5, h2]
theorem exS_P_yes {i : Nat} (h : exS.P i = true) : i = 5 ∨ i = 2 := by rw [exS_P] at h; simpa using h
theorem exS_wr {i : Nat} (h : i < 1920) : exS.wr (i : Int) = i := wr_nat (by rw [exS_len]; exact h)
theorem exS_start : stF exS.P exS.L.length (exS.wr 1) = 5 := by
  rw [show (1 : Int) = ((1 : Nat) : Int) from rfl, exS_wr (by decide), exS_len]
  have := stF_found (P := exS.P) (N := 1920) (p := 1) (q := 1916) (by decide) (fun j hj => by
    unfold bk
    split
    · exact exS_P_no (by omega) (by omega)
    · exact exS_P_no (by omega) (by omega)) (by
    rw [show bk 1920 1 1916 = 5 from rfl, exS_P]
    rfl)
  rw [this]
  rfl
theorem exS_plen : (plL exS.P exS.L.length (exS.wr 5)).length = 1916 := by
  rw [show (5 : Int) = ((5 : Nat) : Int) from rfl, exS_wr (by decide), exS_len]
  unfold plL
  rw [if_pos (by rw [exS_P]; rfl)]
  have h1 := plF_len exS.P 1920 5 (1920 - 1) 0
  by_cases h : (plF exS.P 1920 5 (1920 - 1) 0).length < 1920 - 1
  · have := exS_P_yes (plF_stop exS.P 1920 5 (1920 - 1) 0 h)
    omega
  · have := (plF_get exS.P 1920 5 (1920 - 1) 0 1916 (by omega)).2
    rw [exS_P] at this
    cases this
theorem exS_first (n : Nat) (h1 : 1 ≤ n) (h2 : n ≤ 1919) : firstB exS (n : Int) = decide (n = 6) := by
  unfold firstB Spc.atC
  rw [show (n : Int) - 1 = ((n - 1 : Nat) : Int) by omega, exS_wr (by omega), exS_wr (by omega), exS_cel, exS_cel]
  by_cases h6 : n = 6
  · subst h6
    decide +kernel
  · by_cases h3 : n = 3
    · subst h3
      decide +kernel
    · rw [if_neg (show ¬ n - 1 = 5 by omega), if_neg (show ¬ n - 1 = 2 by omega)]
      simp [cel0, h6]
theorem exS_next {r : Int} (h : SeekR exS (exS.wr 0) 1 r) : r = 6 := by
  rw [show exS.wr 0 = 0 from exS_wr (i := 0) (by decide)] at h
  unfold SeekR at h
  rw [exS_len] at h
  have e : ∀ j : Nat, ((0 : Nat) : Int) + 1 * ((j : Int) + 1) = ((j + 1 : Nat) : Int) := fun j => by push_cast; omega
  have h6 := exS_first 6 (by decide) (by decide)
  rcases h with ⟨k, h1, h2, h3, h4⟩ | ⟨h1, _⟩
  · have hk : ¬ 5 < k := fun q => by
      have := h3 5 q
      rw [e 5, h6] at this
      cases this
    rw [e k, exS_first (k + 1) (by omega) (by omega)] at h2
    have hk5 : k + 1 = 6 := by simpa using h2
    rw [h4, e k, hk5]
    exact congrArg _ (exS_wr (i := 6) (by decide))
  · have := h1 5 (by decide)
    rw [e 5, h6] at this
    cases this
set_option maxRecDepth 100000 in
set_option maxHeartbeats 4000000 in
theorem awake13 (w : World) : Calls Try.prog 38 #[] w fun e w' => e = .returned (.bool true) ∧ Below w.heap.size w w' := by
  obtain ⟨W1, hW1⟩ : ∃ W1, w.alloc (.cells #[.int .u8 3, .int .i64 2, .bool false, .int .u8 32, .int .u8 0, .bool false, .int .u8 0, .int .u8 0, .int .u8 0, .int .u8 0, .slice none 0 0, .int .u8 3, .int .i64 5, .bool false, .int .u8 0, .int .u8 0, .bool false, .int .u8 0, .int .u8 0, .int .u8 0, .int .u8 0, .slice none 0 0] 34) = W1 := ⟨_, rfl⟩
  have hb0 : Below w.heap.size w W1 := by rw [← hW1]; exact bal (Below.refl _ _) _
  have hz : W1.heap.size = w.heap.size + 1 := by rw [← hW1]; simp
  have hacts : ActsIn (w.heap.size + 1) W1 (.slice (some ⟨w.heap.size, 0, none⟩) 2 2) [actA, actB] := by
    refine ⟨fun i hi => ?_, by simp, ⟨_, _, rfl⟩, fun x c hx i hi => ?_⟩
    · have tx : TxIn (w.heap.size + 1) W1 (.slice none 0 0) [] := ⟨fun x hx => (by cases hx), by simp, ⟨_, _, rfl⟩, fun x c _ i hi => absurd hi (Nat.not_lt_zero i)⟩
      have : i = 0 ∨ i = 1 := by simp at hi; omega
      rcases this with rfl | rfl
      · exact ⟨by decide, ⟨by decide, by decide⟩, ⟨by decide, by decide⟩, cel0_ok, tx⟩
      · exact ⟨by decide, ⟨by decide, by decide⟩, ⟨by decide, by decide⟩, cel0_ok, tx⟩
    · injection hx with hx1 hx2 hx3
      refine ⟨w.heap.size, 0, hx1.symm, by omega, fun j hj => ?_⟩
      rw [← hW1]
      have h1 : i = 0 ∨ i = 1 := by simp at hi; omega
      have h2 : j = 0 ∨ j = 1 ∨ j = 2 ∨ j = 3 ∨ j = 4 ∨ j = 5 ∨ j = 6 ∨ j = 7 ∨ j = 8 ∨ j = 9 ∨ j = 10 := by omega
      rcases h1 with rfl | rfl <;> rcases h2 with rfl | rfl | rfl | rfl | rfl | rfl | rfl | rfl | rfl | rfl | rfl <;> simp [go_sem, actA, actB, ActD.cs, cel0]
  have HL := hid (show Calls Try.prog 39 #[.int .u8 0, .slice (some ⟨w.heap.size, 0, none⟩) 2 2] W1 _ from lay_any 0 (by decide) (.slice (some ⟨w.heap.size, 0, none⟩) 2 2) [actA, actB] (w.heap.size + 1) W1 (by omega) hacts)
  have HB0 := hid hb0
  have HW := hid hW1
  have HST := hid (fun b g W h => start_any (b := b) (g := g) (s := exS) 1 ⟨by decide, by decide⟩ W h)
  rw [exS_start] at HST
  have HNX := hid (fun b g W h => next_any (b := b) (g := g) (s := exS) 0 ⟨by decide, by decide⟩ W h)
  have HLN := hid (fun b g W h => callsIn_wide.1 (length_in 8 (by omega) b g exS 5 ⟨by decide, by decide⟩ W h))
  rw [exS_plen] at HLN
  have HLM := hid (fun b g W (h : SpM W b g exS) => (show Calls Try.prog 51 #[.pointer (some ⟨b, 0, none⟩), .int .i64 5] W fun e w' => e = .returned (.int .i64 1916) ∧ Below W.heap.size W w' from HLN.out b g W h))
  clear HLN
  clear hb0 hz hacts hW1
  go_enter Try.func38, Try.ntmps38
  go_wp2_with fail
  rw [HW.out]
  with_reducible refine HL.out.mono ?_
  rintro e w1 ⟨b1, g1, b2, g2, rfl, hd, -⟩
  have HD := hid (show SpM w1 b1 g1 exS ∧ Below w.heap.size w w1 from ⟨hd.sp, below_t HB0.out hd.bel⟩)
  clear hd
  go_wp2_with fail
  with_reducible refine (HST.out b1 g1 _ HD.out.1).mono ?_
  rintro e w2 ⟨rfl, hb2⟩
  have HD2 := hid (show SpM w2 b1 g1 exS ∧ Below w.heap.size w w2 from ⟨HD.out.1.below hb2, below_t HD.out.2 hb2⟩)
  clear hb2 HD
  go_wp2_with fail
  with_reducible refine (HNX.out b1 g1 _ HD2.out.1).mono ?_
  rintro e w3 ⟨⟨r, rfl, hr⟩, hb3⟩
  obtain rfl := exS_next hr
  have HD3 := hid (show SpM w3 b1 g1 exS ∧ Below w.heap.size w w3 from ⟨HD2.out.1.below hb3, below_t HD2.out.2 hb3⟩)
  clear hb3 HD2 hr
  go_wp2_with fail
  with_reducible refine (HLM.out b1 g1 _ HD3.out.1).mono ?_
  rintro e w4 ⟨rfl, hb4⟩
  have HD4 := hid (below_t HD3.out.2 hb4)
  clear hb4 HD3
  go_wp2
  go_ret
  exact ⟨rfl, HD4.out⟩
end Go.Proofs.Ytdaainifnbbhiaa
