/-
  What differs from a nil space: nothing. A plain walk inside the widest fence.
-/
import Derived.Test.YtdaainifnbbhiaaYt
namespace Go.Proofs.Ytdaainifnbbhiaa
open Go.RowKit Go.Lib Go.Deep

/-- The widest fence, no round: a plain walk serves. -/
theorem wpIn_of_wp {n : Nat} {P : Program} {c : Code} {Q : Exit → Act → World → Prop} {a : Act} {w : World} (h : c.wp P Q a w) : c.wpIn Fence.wide n P Q a w := fun b k cs hro _ _ => by
  have hro : b.roundOf = none := hro
  obtain ⟨e, a', w', q, r⟩ := h b k cs
  refine ⟨e, a', w', q, ?_⟩
  rw [Frame.atR_of_none hro]
  cases e with
  | normal => show StepsIn _ _ _ _; rw [Frame.atR_of_none hro]; exact stepsIn_wide.2 r
  | exit id => exact ⟨fun k' hk => by rw [Frame.atR_of_none hro]; exact stepsIn_wide.2 (r k' hk), fun h => by rw [hro] at h; cases h⟩
  | goto l => exact ⟨fun k' hk => by rw [Frame.atR_of_none hro]; exact stepsIn_wide.2 (r k' hk), fun h => by rw [hro] at h; cases h⟩
  | ret =>
    obtain ⟨todo, hs⟩ := r
    exact ⟨fun _ => ⟨todo, by rw [Frame.atR_of_none hro]; exact stepsIn_wide.2 hs⟩, fun h => by rw [hro] at h; cases h⟩
  | panic chain =>
    obtain ⟨todo, hs⟩ := r
    exact ⟨todo, by rw [Frame.atR_of_none hro]; exact stepsIn_wide.2 hs⟩
  | outgrown => exact r
def OnlyN (Q : Exit → Act → World → Prop) : Exit → Act → World → Prop
  | .normal, a, w => Q .normal a w
  | _, _, _ => False
theorem wpIn_of_wpN {n : Nat} {P : Program} {c : Code} {Q : Exit → Act → World → Prop} {a : Act} {w : World} (h : c.wp P (OnlyN Q) a w) : c.wpIn Fence.wide n P Q a w :=
  wpIn_of_wp (wp_mono h (fun e a w q => by cases e <;> first | exact q | exact q.elim))
set_option maxRecDepth 100000 in
set_option maxHeartbeats 4000000 in
theorem diff_nil (n : Nat) (hn : 6 ≤ n)  (w : World) (HSO : ∀ W, Below w.heap.size w W → Calls Try.prog 24 #[.pointer none] W fun e w' => e = .returned (sizeV 0 0) ∧ Below W.heap.size W w') :
    CallsIn Fence.wide n Try.prog 30 #[.pointer none, .pointer none] w fun e w' => e = .returned (.slice none 0 0) ∧ Below w.heap.size w w' := by
  have HSZ := hid HSO
  have HSN := hid (fun W => size_nil W)
  clear HSO
  refine callsIn_of_wp_marks Try.func30 rfl trivial ?_ rfl
  simp only [Try.ntmps30, List.size_toArray, List.length_cons, List.length_nil, Nat.reduceAdd, Nat.reduceSub, Array.replicate_succ, Array.replicate_zero, List.push_toArray, List.append_toArray, List.nil_append, List.cons_append]
  gi_wp2
  obtain ⟨w0, hw0⟩ : ∃ w0, w.alloc (.cells #[.pointer none] 24) = w0 := ⟨_, rfl⟩
  have hz : w0.heap.size = w.heap.size + 1 := by rw [← hw0]; simp
  have hb0 : Below w.heap.size w w0 := by rw [← hw0]; exact bal (Below.refl _ _) _
  have hc0 : w0.cell? ⟨w.heap.size, 0, none⟩ = some (.pointer none) := by rw [← hw0]; simp [go_sem]
  rw [hw0]
  have HC := hid hc0
  have HB0 := hid hb0
  have HZ := hid hz
  have hl0 : w.heap.size < w0.heap.size := World.block_lt_of_cell? w0 _ hc0
  clear hz hb0 hw0 hc0
  refine wpIn_of_wpN ?_
  refine wp_region_held_drew (S := fun V => V.cell? ⟨w.heap.size, 0, none⟩ = some (.pointer none) ∧ Below w0.heap.size w0 V) (by kernel_rfl) ?_ (fun hHeld => ?_)
  · have hdr : Below w0.heap.size w0 w0.drew := (Below.refl _ _).drew
    exact ⟨keepc hdr HC.out, hdr⟩
  refine takeD (i := 0) (v := ?_) 9 rfl rfl (by kernel_rfl) (by kernel_rfl) (by kernel_rfl) (fun _ _ _ h => h) (by assumption) (Or.inl ⟨by rfl, ?_⟩) ?_
  rotate_left
  · intro w hSw
    (try dsimp only at hSw)
    go_simp
    try with_reducible rfl
  simp only [List.setIfInBounds_toArray, List.set_cons_zero, List.set_cons_succ]
  refine takeD (i := 2) (v := ?_) 11 rfl rfl (by kernel_rfl) (by kernel_rfl) (by kernel_rfl) (fun _ _ _ h => h) (by assumption) (Or.inl ⟨by rfl, ?_⟩) ?_
  rotate_left
  · intro w hSw
    (try dsimp only at hSw)
    go_simp
    try with_reducible rfl
  simp only [List.setIfInBounds_toArray, List.set_cons_zero, List.set_cons_succ]
  refine wpAnyH_ready (rs := [1, 5]) (by kernel_rfl) (by simp) ?_
  refine AllReadyH.cons (by simp only [List.getElem?_toArray, List.getElem?_cons_succ, List.getElem?_cons_zero]; rfl) (fun K hK => ?_) <| AllReadyH.cons (by simp only [List.getElem?_toArray, List.getElem?_cons_succ, List.getElem?_cons_zero]; rfl) (fun K hK => ?_) <| AllReadyH.nil
  · go_simp
    go_at_call 24; (with_reducible refine (HSN.out _).mono ?_); rintro e w1 ⟨rfl, hb1⟩
    refine hK.out _ _ ?_ (fun hHeldN => ?_)
    · exact ⟨keepc hb1 hHeld.1, below_t hHeld.2 hb1⟩
    clear hK K hHeld
    have hHeld := hHeldN
    clear hHeldN
    (try simp only [Act.put, List.setIfInBounds_toArray, List.set_cons_zero, List.set_cons_succ])
    have hs1 : w0.heap.size ≤ w1.heap.size := hHeld.2.size
    refine wpAnyH_ready (rs := [3, 5]) (by kernel_rfl) (by simp) ?_
    refine AllReadyH.cons (by simp only [List.getElem?_toArray, List.getElem?_cons_succ, List.getElem?_cons_zero]; rfl) (fun K hK => ?_) <| AllReadyH.cons (by simp only [List.getElem?_toArray, List.getElem?_cons_succ, List.getElem?_cons_zero]; rfl) (fun K hK => ?_) <| AllReadyH.nil
    · go_simp
      go_at_call 24; (with_reducible refine (HSZ.out _ (below_t HB0.out hHeld.2)).mono ?_); rintro e w2 ⟨rfl, hb2⟩
      refine hK.out _ _ ?_ (fun hHeldN => ?_)
      · exact ⟨keepc hb2 hHeld.1, below_t hHeld.2 hb2⟩
      clear hK K hHeld
      have hHeld := hHeldN
      clear hHeldN
      (try simp only [Act.put, List.setIfInBounds_toArray, List.set_cons_zero, List.set_cons_succ])
      refine takeD (i := 4) (v := ?_) 13 rfl rfl (by kernel_rfl) (by kernel_rfl) (by kernel_rfl) (fun _ _ _ h => h) (by assumption) (Or.inl ⟨by rfl, ?_⟩) ?_
      rotate_left
      · intro w hSw
        (try dsimp only at hSw)
        go_simp
        try with_reducible rfl
      simp only [List.setIfInBounds_toArray, List.set_cons_zero, List.set_cons_succ]
      refine wpAnyH_ready (rs := [5]) (by kernel_rfl) (by simp) ?_
      refine AllReadyH.cons (by simp only [List.getElem?_toArray, List.getElem?_cons_succ, List.getElem?_cons_zero]; rfl) (fun K hK => ?_) <| AllReadyH.nil
      have hH0 := hHeld
      go_simp
      refine hK.out _ _ ?_ (fun hHeldN => ?_)
      · exact ⟨keepc (bal (Below.refl _ _) _) hHeld.1, bal hHeld.2 _⟩
      clear hK K hHeld
      have hHeld := hHeldN
      clear hHeldN
      (try simp only [Act.put, List.setIfInBounds_toArray, List.set_cons_zero, List.set_cons_succ])
      have hA : (w2.alloc (.cells #[.bool false] 4)).cell? ⟨w2.heap.size, 0, none⟩ = some (.bool false) := by simp [go_sem]
      have hlA := World.block_lt_of_cell? _ _ hA
      have hF : (w2.alloc (.cells #[.bool false] 4)).frozen? ⟨w2.heap.size, 0, none⟩ = false := by simp [go_sem]
      refine wpAnyH_ready (rs := [6]) (by kernel_rfl) (by simp) ?_
      refine AllReadyH.cons (by simp only [List.getElem?_toArray, List.getElem?_cons_succ, List.getElem?_cons_zero]; rfl) (fun K hK => ?_) AllReadyH.nil
      go_simp
      refine hK.out _ _ ?_ (fun hHeldN => ?_)
      · exact ⟨keepc (bal (Below.refl _ _) _) hH0.1, bal hH0.2 _⟩
      clear hK K hHeld
      have hHeld := hHeldN
      clear hHeldN
      (try simp only [Act.put, List.setIfInBounds_toArray, List.set_cons_zero, List.set_cons_succ])
      refine wpAnyH_done (by kernel_rfl) ?_ _
      have HE := hid hHeld
      clear hHeld
      dsimp only [OnlyN]
      generalize (w2.alloc (.cells #[.bool false] 4)) = X at HE ⊢
      have HX := hid (show Below w.heap.size w X from HB0.out.trans (HE.out.2.mono HB0.out.size))
      clear HE
      gi_wp2
      refine ⟨trivial, fun _ => (by omega), ?_⟩
      refine (callsIn_wide.2 (all_nil _)).mono ?_
      rintro e w3 ⟨bs, rfl, hbs, hcs, hb3⟩
      have o1 : w3.cell? ⟨X.heap.size, 0, none⟩ = some (.slice none 0 0) := keepc hb3 (by simp [go_sem])
      have hb4 : Below X.heap.size X w3 := blw hb3
      have HI0 := hid (show RN bs w3 ∧ w3.cell? ⟨X.heap.size, 0, none⟩ = some (.slice none 0 0) ∧ Below w.heap.size w w3 from ⟨hcs, o1, below_t HX.out hb4⟩)
      have hlz : w.heap.size ≤ w3.heap.size := HI0.out.2.2.size
      clear hb3 hb4 hcs o1 hbs
      gi_wp2
      refine rangeFunc_none (n := n) (w := w3) rfl (by omega) (gf := 94) (lb := #[.pointer (some ⟨bs, 0, none⟩)]) rfl trivial (enters_of Try.func94 (by kernel_rfl) rfl)
        (encs := encA) (fun _ => rfl) (R := RN bs) (fun V => RN bs V ∧ V.cell? ⟨X.heap.size, 0, none⟩ = some (.slice none 0 0) ∧ Below w.heap.size w V) (fun A C hg h => ⟨cell_grow hg h.1, cell_grow hg h.2.1, below_grow h.2.2 hg hlz (Nat.le_refl _)⟩) (fun V h => h.1) HI0.out (fun V => all_nil_seq (n - 1) (by omega) bs V) ?done
      case done =>
        rintro D V hD ⟨_, h2, h3⟩ hK
        have hlt := World.block_lt_of_cell? V _ h2
        have HK := hid hK
        have HB := hid h3
        clear hK h3
        gi_wp2
        refine ⟨by simp, .inl ⟨_, _, rfl, run_takeDeferred HK.out, ?_⟩⟩
        have hg := Grow.put (m := w3.heap.size) (.deferred none) hD HK.out rfl
        exact ⟨.slice none 0 0, by simp [results, Try.f30, go_sem], rfl, below_grow HB.out hg hlz (Nat.le_refl _)⟩
    · go_simp
      refine hK.out _ _ ?_ (fun hHeldN => ?_)
      · exact ⟨keepc (bal (Below.refl _ _) _) hHeld.1, bal hHeld.2 _⟩
      clear hK K hHeld
      have hHeld := hHeldN
      clear hHeldN
      (try simp only [Act.put, List.setIfInBounds_toArray, List.set_cons_zero, List.set_cons_succ])
      have hA : (w1.alloc (.cells #[.bool false] 4)).cell? ⟨w1.heap.size, 0, none⟩ = some (.bool false) := by simp [go_sem]
      have hlA := World.block_lt_of_cell? _ _ hA
      have hF : (w1.alloc (.cells #[.bool false] 4)).frozen? ⟨w1.heap.size, 0, none⟩ = false := by simp [go_sem]
      refine wpAnyH_ready (rs := [3]) (by kernel_rfl) (by simp) ?_
      refine AllReadyH.cons (by simp only [List.getElem?_toArray, List.getElem?_cons_succ, List.getElem?_cons_zero]; rfl) (fun K hK => ?_) <| AllReadyH.nil
      go_simp
      go_at_call 24; (with_reducible refine (HSZ.out _ (below_t HB0.out hHeld.2)).mono ?_); rintro e w2 ⟨rfl, hb2⟩
      refine hK.out _ _ ?_ (fun hHeldN => ?_)
      · exact ⟨keepc hb2 hHeld.1, below_t hHeld.2 hb2⟩
      clear hK K hHeld
      have hHeld := hHeldN
      clear hHeldN
      (try simp only [Act.put, List.setIfInBounds_toArray, List.set_cons_zero, List.set_cons_succ])
      have hA2 := keepc hb2 hA
      have hF2 := (hb2.frozen hlA).trans hF
      clear hA hF
      have hl2 := World.block_lt_of_cell? _ _ hA2
      refine takeD (i := 4) (v := ?_) 13 rfl rfl (by kernel_rfl) (by kernel_rfl) (by kernel_rfl) (fun _ _ _ h => h) (by assumption) (Or.inl ⟨by rfl, ?_⟩) ?_
      rotate_left
      · intro w hSw
        (try dsimp only at hSw)
        go_simp
        try with_reducible rfl
      simp only [List.setIfInBounds_toArray, List.set_cons_zero, List.set_cons_succ]
      refine wpAnyH_ready (rs := [6]) (by kernel_rfl) (by simp) ?_
      refine AllReadyH.cons (by simp only [List.getElem?_toArray, List.getElem?_cons_succ, List.getElem?_cons_zero]; rfl) (fun K hK => ?_) AllReadyH.nil
      go_simp
      refine hK.out _ _ ?_ (fun hHeldN => ?_)
      · exact ⟨(World.cell?_setCell_far _ _ _ _ (by simp; omega)).trans hHeld.1, hHeld.2.sc _ _ _ (by omega)⟩
      clear hK K hHeld
      have hHeld := hHeldN
      clear hHeldN
      (try simp only [Act.put, List.setIfInBounds_toArray, List.set_cons_zero, List.set_cons_succ])
      refine wpAnyH_done (by kernel_rfl) ?_ _
      have HE := hid hHeld
      clear hHeld
      dsimp only [OnlyN]
      generalize (w2.setCell ⟨w1.heap.size, 0, none⟩ (.bool false)) = X at HE ⊢
      have HX := hid (show Below w.heap.size w X from HB0.out.trans (HE.out.2.mono HB0.out.size))
      clear HE
      gi_wp2
      refine ⟨trivial, fun _ => (by omega), ?_⟩
      refine (callsIn_wide.2 (all_nil _)).mono ?_
      rintro e w3 ⟨bs, rfl, hbs, hcs, hb3⟩
      have o1 : w3.cell? ⟨X.heap.size, 0, none⟩ = some (.slice none 0 0) := keepc hb3 (by simp [go_sem])
      have hb4 : Below X.heap.size X w3 := blw hb3
      have HI0 := hid (show RN bs w3 ∧ w3.cell? ⟨X.heap.size, 0, none⟩ = some (.slice none 0 0) ∧ Below w.heap.size w w3 from ⟨hcs, o1, below_t HX.out hb4⟩)
      have hlz : w.heap.size ≤ w3.heap.size := HI0.out.2.2.size
      clear hb3 hb4 hcs o1 hbs
      gi_wp2
      refine rangeFunc_none (n := n) (w := w3) rfl (by omega) (gf := 94) (lb := #[.pointer (some ⟨bs, 0, none⟩)]) rfl trivial (enters_of Try.func94 (by kernel_rfl) rfl)
        (encs := encA) (fun _ => rfl) (R := RN bs) (fun V => RN bs V ∧ V.cell? ⟨X.heap.size, 0, none⟩ = some (.slice none 0 0) ∧ Below w.heap.size w V) (fun A C hg h => ⟨cell_grow hg h.1, cell_grow hg h.2.1, below_grow h.2.2 hg hlz (Nat.le_refl _)⟩) (fun V h => h.1) HI0.out (fun V => all_nil_seq (n - 1) (by omega) bs V) ?done
      case done =>
        rintro D V hD ⟨_, h2, h3⟩ hK
        have hlt := World.block_lt_of_cell? V _ h2
        have HK := hid hK
        have HB := hid h3
        clear hK h3
        gi_wp2
        refine ⟨by simp, .inl ⟨_, _, rfl, run_takeDeferred HK.out, ?_⟩⟩
        have hg := Grow.put (m := w3.heap.size) (.deferred none) hD HK.out rfl
        exact ⟨.slice none 0 0, by simp [results, Try.f30, go_sem], rfl, below_grow HB.out hg hlz (Nat.le_refl _)⟩
  · go_simp
    refine hK.out _ _ ?_ (fun hHeldN => ?_)
    · exact ⟨keepc (bal (Below.refl _ _) _) hHeld.1, bal hHeld.2 _⟩
    clear hK K hHeld
    have hHeld := hHeldN
    clear hHeldN
    (try simp only [Act.put, List.setIfInBounds_toArray, List.set_cons_zero, List.set_cons_succ])
    have hA : (w0.drew.alloc (.cells #[.bool false] 4)).cell? ⟨w0.heap.size, 0, none⟩ = some (.bool false) := by simp [go_sem]
    have hlA := World.block_lt_of_cell? _ _ hA
    have hF : (w0.drew.alloc (.cells #[.bool false] 4)).frozen? ⟨w0.heap.size, 0, none⟩ = false := by simp [go_sem]
    refine wpAnyH_ready (rs := [1]) (by kernel_rfl) (by simp) ?_
    refine AllReadyH.cons (by simp only [List.getElem?_toArray, List.getElem?_cons_succ, List.getElem?_cons_zero]; rfl) (fun K hK => ?_) <| AllReadyH.nil
    go_simp
    go_at_call 24; (with_reducible refine (HSN.out _).mono ?_); rintro e w1 ⟨rfl, hb1⟩
    refine hK.out _ _ ?_ (fun hHeldN => ?_)
    · exact ⟨keepc hb1 hHeld.1, below_t hHeld.2 hb1⟩
    clear hK K hHeld
    have hHeld := hHeldN
    clear hHeldN
    (try simp only [Act.put, List.setIfInBounds_toArray, List.set_cons_zero, List.set_cons_succ])
    have hs1 : w0.heap.size ≤ w1.heap.size := hHeld.2.size
    have hA1 := keepc hb1 hA
    have hF1 := (hb1.frozen hlA).trans hF
    have hl1 := World.block_lt_of_cell? _ _ hA1
    clear hA hF
    refine wpAnyH_ready (rs := [3]) (by kernel_rfl) (by simp) ?_
    refine AllReadyH.cons (by simp only [List.getElem?_toArray, List.getElem?_cons_succ, List.getElem?_cons_zero]; rfl) (fun K hK => ?_) <| AllReadyH.nil
    go_simp
    go_at_call 24; (with_reducible refine (HSZ.out _ (below_t HB0.out hHeld.2)).mono ?_); rintro e w2 ⟨rfl, hb2⟩
    refine hK.out _ _ ?_ (fun hHeldN => ?_)
    · exact ⟨keepc hb2 hHeld.1, below_t hHeld.2 hb2⟩
    clear hK K hHeld
    have hHeld := hHeldN
    clear hHeldN
    (try simp only [Act.put, List.setIfInBounds_toArray, List.set_cons_zero, List.set_cons_succ])
    have hA2 := keepc hb2 hA1
    have hF2 := (hb2.frozen hl1).trans hF1
    clear hA1 hF1
    have hl2 := World.block_lt_of_cell? _ _ hA2
    refine takeD (i := 4) (v := ?_) 13 rfl rfl (by kernel_rfl) (by kernel_rfl) (by kernel_rfl) (fun _ _ _ h => h) (by assumption) (Or.inl ⟨by rfl, ?_⟩) ?_
    rotate_left
    · intro w hSw
      (try dsimp only at hSw)
      go_simp
      try with_reducible rfl
    simp only [List.setIfInBounds_toArray, List.set_cons_zero, List.set_cons_succ]
    refine wpAnyH_ready (rs := [6]) (by kernel_rfl) (by simp) ?_
    refine AllReadyH.cons (by simp only [List.getElem?_toArray, List.getElem?_cons_succ, List.getElem?_cons_zero]; rfl) (fun K hK => ?_) AllReadyH.nil
    go_simp
    refine hK.out _ _ ?_ (fun hHeldN => ?_)
    · exact ⟨(World.cell?_setCell_far _ _ _ _ (by simp; omega)).trans hHeld.1, hHeld.2.sc _ _ _ (by omega)⟩
    clear hK K hHeld
    have hHeld := hHeldN
    clear hHeldN
    (try simp only [Act.put, List.setIfInBounds_toArray, List.set_cons_zero, List.set_cons_succ])
    refine wpAnyH_done (by kernel_rfl) ?_ _
    have HE := hid hHeld
    clear hHeld
    dsimp only [OnlyN]
    generalize (w2.setCell ⟨w0.heap.size, 0, none⟩ (.bool false)) = X at HE ⊢
    have HX := hid (show Below w.heap.size w X from HB0.out.trans (HE.out.2.mono HB0.out.size))
    clear HE
    gi_wp2
    refine ⟨trivial, fun _ => (by omega), ?_⟩
    refine (callsIn_wide.2 (all_nil _)).mono ?_
    rintro e w3 ⟨bs, rfl, hbs, hcs, hb3⟩
    have o1 : w3.cell? ⟨X.heap.size, 0, none⟩ = some (.slice none 0 0) := keepc hb3 (by simp [go_sem])
    have hb4 : Below X.heap.size X w3 := blw hb3
    have HI0 := hid (show RN bs w3 ∧ w3.cell? ⟨X.heap.size, 0, none⟩ = some (.slice none 0 0) ∧ Below w.heap.size w w3 from ⟨hcs, o1, below_t HX.out hb4⟩)
    have hlz : w.heap.size ≤ w3.heap.size := HI0.out.2.2.size
    clear hb3 hb4 hcs o1 hbs
    gi_wp2
    refine rangeFunc_none (n := n) (w := w3) rfl (by omega) (gf := 94) (lb := #[.pointer (some ⟨bs, 0, none⟩)]) rfl trivial (enters_of Try.func94 (by kernel_rfl) rfl)
      (encs := encA) (fun _ => rfl) (R := RN bs) (fun V => RN bs V ∧ V.cell? ⟨X.heap.size, 0, none⟩ = some (.slice none 0 0) ∧ Below w.heap.size w V) (fun A C hg h => ⟨cell_grow hg h.1, cell_grow hg h.2.1, below_grow h.2.2 hg hlz (Nat.le_refl _)⟩) (fun V h => h.1) HI0.out (fun V => all_nil_seq (n - 1) (by omega) bs V) ?done
    case done =>
      rintro D V hD ⟨_, h2, h3⟩ hK
      have hlt := World.block_lt_of_cell? V _ h2
      have HK := hid hK
      have HB := hid h3
      clear hK h3
      gi_wp2
      refine ⟨by simp, .inl ⟨_, _, rfl, run_takeDeferred HK.out, ?_⟩⟩
      have hg := Grow.put (m := w3.heap.size) (.deferred none) hD HK.out rfl
      exact ⟨.slice none 0 0, by simp [results, Try.f30, go_sem], rfl, below_grow HB.out hg hlz (Nat.le_refl _)⟩
set_option maxRecDepth 100000 in
set_option maxHeartbeats 4000000 in
theorem diff_nil2 (n : Nat) (hn : 6 ≤ n) (o : Option Addr) (r c : Int) (hr : ¬ (0 : Int) = r) (w : World) (HSO : ∀ W, Below w.heap.size w W → Calls Try.prog 24 #[.pointer o] W fun e w' => e = .returned (sizeV r c) ∧ Below W.heap.size W w') :
    CallsIn Fence.wide n Try.prog 30 #[.pointer none, .pointer o] w fun e w' => e = .returned (.slice none 0 0) ∧ Below w.heap.size w w' := by
  have HSZ := hid HSO
  have HSN := hid (fun W => size_nil W)
  clear HSO
  refine callsIn_of_wp_marks Try.func30 rfl trivial ?_ rfl
  simp only [Try.ntmps30, List.size_toArray, List.length_cons, List.length_nil, Nat.reduceAdd, Nat.reduceSub, Array.replicate_succ, Array.replicate_zero, List.push_toArray, List.append_toArray, List.nil_append, List.cons_append]
  gi_wp2
  obtain ⟨w0, hw0⟩ : ∃ w0, w.alloc (.cells #[.pointer o] 24) = w0 := ⟨_, rfl⟩
  have hz : w0.heap.size = w.heap.size + 1 := by rw [← hw0]; simp
  have hb0 : Below w.heap.size w w0 := by rw [← hw0]; exact bal (Below.refl _ _) _
  have hc0 : w0.cell? ⟨w.heap.size, 0, none⟩ = some (.pointer o) := by rw [← hw0]; simp [go_sem]
  rw [hw0]
  have HC := hid hc0
  have HB0 := hid hb0
  have HZ := hid hz
  have hl0 : w.heap.size < w0.heap.size := World.block_lt_of_cell? w0 _ hc0
  clear hz hb0 hw0 hc0
  refine wpIn_of_wpN ?_
  refine wp_region_held_drew (S := fun V => V.cell? ⟨w.heap.size, 0, none⟩ = some (.pointer o) ∧ Below w0.heap.size w0 V) (by kernel_rfl) ?_ (fun hHeld => ?_)
  · have hdr : Below w0.heap.size w0 w0.drew := (Below.refl _ _).drew
    exact ⟨keepc hdr HC.out, hdr⟩
  refine takeD (i := 0) (v := ?_) 9 rfl rfl (by kernel_rfl) (by kernel_rfl) (by kernel_rfl) (fun _ _ _ h => h) (by assumption) (Or.inl ⟨by rfl, ?_⟩) ?_
  rotate_left
  · intro w hSw
    (try dsimp only at hSw)
    go_simp
    try with_reducible rfl
  simp only [List.setIfInBounds_toArray, List.set_cons_zero, List.set_cons_succ]
  refine takeD (i := 2) (v := ?_) 11 rfl rfl (by kernel_rfl) (by kernel_rfl) (by kernel_rfl) (fun _ _ _ h => h) (by assumption) (Or.inl ⟨by rfl, ?_⟩) ?_
  rotate_left
  · intro w hSw
    (try dsimp only at hSw)
    go_simp
    try with_reducible rfl
  simp only [List.setIfInBounds_toArray, List.set_cons_zero, List.set_cons_succ]
  refine wpAnyH_ready (rs := [1, 5]) (by kernel_rfl) (by simp) ?_
  refine AllReadyH.cons (by simp only [List.getElem?_toArray, List.getElem?_cons_succ, List.getElem?_cons_zero]; rfl) (fun K hK => ?_) <| AllReadyH.cons (by simp only [List.getElem?_toArray, List.getElem?_cons_succ, List.getElem?_cons_zero]; rfl) (fun K hK => ?_) <| AllReadyH.nil
  · go_simp
    go_at_call 24; (with_reducible refine (HSN.out _).mono ?_); rintro e w1 ⟨rfl, hb1⟩
    refine hK.out _ _ ?_ (fun hHeldN => ?_)
    · exact ⟨keepc hb1 hHeld.1, below_t hHeld.2 hb1⟩
    clear hK K hHeld
    have hHeld := hHeldN
    clear hHeldN
    (try simp only [Act.put, List.setIfInBounds_toArray, List.set_cons_zero, List.set_cons_succ])
    have hs1 : w0.heap.size ≤ w1.heap.size := hHeld.2.size
    refine wpAnyH_ready (rs := [3, 5]) (by kernel_rfl) (by simp) ?_
    refine AllReadyH.cons (by simp only [List.getElem?_toArray, List.getElem?_cons_succ, List.getElem?_cons_zero]; rfl) (fun K hK => ?_) <| AllReadyH.cons (by simp only [List.getElem?_toArray, List.getElem?_cons_succ, List.getElem?_cons_zero]; rfl) (fun K hK => ?_) <| AllReadyH.nil
    · go_simp
      go_at_call 24; (with_reducible refine (HSZ.out _ (below_t HB0.out hHeld.2)).mono ?_); rintro e w2 ⟨rfl, hb2⟩
      refine hK.out _ _ ?_ (fun hHeldN => ?_)
      · exact ⟨keepc hb2 hHeld.1, below_t hHeld.2 hb2⟩
      clear hK K hHeld
      have hHeld := hHeldN
      clear hHeldN
      (try simp only [Act.put, List.setIfInBounds_toArray, List.set_cons_zero, List.set_cons_succ])
      refine takeD (i := 4) (v := ?_) 13 rfl rfl (by kernel_rfl) (by kernel_rfl) (by kernel_rfl) (fun _ _ _ h => h) (by assumption) (Or.inl ⟨by rfl, ?_⟩) ?_
      rotate_left
      · intro w hSw
        (try dsimp only at hSw)
        go_simp
        try with_reducible rfl
      simp only [List.setIfInBounds_toArray, List.set_cons_zero, List.set_cons_succ]
      refine wpAnyH_ready (rs := [5]) (by kernel_rfl) (by simp) ?_
      refine AllReadyH.cons (by simp only [List.getElem?_toArray, List.getElem?_cons_succ, List.getElem?_cons_zero]; rfl) (fun K hK => ?_) <| AllReadyH.nil
      have hH0 := hHeld
      go_simp
      refine hK.out _ _ ?_ (fun hHeldN => ?_)
      · exact ⟨keepc (bal (Below.refl _ _) _) hHeld.1, bal hHeld.2 _⟩
      clear hK K hHeld
      have hHeld := hHeldN
      clear hHeldN
      (try simp only [Act.put, List.setIfInBounds_toArray, List.set_cons_zero, List.set_cons_succ])
      have hA : (w2.alloc (.cells #[.bool false] 4)).cell? ⟨w2.heap.size, 0, none⟩ = some (.bool false) := by simp [go_sem]
      have hlA := World.block_lt_of_cell? _ _ hA
      have hF : (w2.alloc (.cells #[.bool false] 4)).frozen? ⟨w2.heap.size, 0, none⟩ = false := by simp [go_sem]
      refine wpAnyH_ready (rs := [6]) (by kernel_rfl) (by simp) ?_
      refine AllReadyH.cons (by simp only [List.getElem?_toArray, List.getElem?_cons_succ, List.getElem?_cons_zero]; rfl) (fun K hK => ?_) AllReadyH.nil
      go_simp
      refine hK.out _ _ ?_ (fun hHeldN => ?_)
      · exact ⟨keepc (bal (Below.refl _ _) _) hH0.1, bal hH0.2 _⟩
      clear hK K hHeld
      have hHeld := hHeldN
      clear hHeldN
      (try simp only [Act.put, List.setIfInBounds_toArray, List.set_cons_zero, List.set_cons_succ])
      refine wpAnyH_done (by kernel_rfl) ?_ _
      have HE := hid hHeld
      clear hHeld
      dsimp only [OnlyN]
      generalize (w2.alloc (.cells #[.bool true] 4)) = X at HE ⊢
      have HX := hid (show Below w.heap.size w X from HB0.out.trans (HE.out.2.mono HB0.out.size))
      clear HE
      gi_wp2
      refine ⟨trivial, fun _ => (by omega), ?_⟩
      refine (callsIn_wide.2 (all_nil _)).mono ?_
      rintro e w3 ⟨bs, rfl, hbs, hcs, hb3⟩
      have o1 : w3.cell? ⟨X.heap.size, 0, none⟩ = some (.slice none 0 0) := keepc hb3 (by simp [go_sem])
      have hb4 : Below X.heap.size X w3 := blw hb3
      have HI0 := hid (show RN bs w3 ∧ w3.cell? ⟨X.heap.size, 0, none⟩ = some (.slice none 0 0) ∧ Below w.heap.size w w3 from ⟨hcs, o1, below_t HX.out hb4⟩)
      have hlz : w.heap.size ≤ w3.heap.size := HI0.out.2.2.size
      clear hb3 hb4 hcs o1 hbs
      gi_wp2
      refine rangeFunc_none (n := n) (w := w3) rfl (by omega) (gf := 94) (lb := #[.pointer (some ⟨bs, 0, none⟩)]) rfl trivial (enters_of Try.func94 (by kernel_rfl) rfl)
        (encs := encA) (fun _ => rfl) (R := RN bs) (fun V => RN bs V ∧ V.cell? ⟨X.heap.size, 0, none⟩ = some (.slice none 0 0) ∧ Below w.heap.size w V) (fun A C hg h => ⟨cell_grow hg h.1, cell_grow hg h.2.1, below_grow h.2.2 hg hlz (Nat.le_refl _)⟩) (fun V h => h.1) HI0.out (fun V => all_nil_seq (n - 1) (by omega) bs V) ?done
      case done =>
        rintro D V hD ⟨_, h2, h3⟩ hK
        have hlt := World.block_lt_of_cell? V _ h2
        have HK := hid hK
        have HB := hid h3
        clear hK h3
        gi_wp2
        refine ⟨by simp, .inl ⟨_, _, rfl, run_takeDeferred HK.out, ?_⟩⟩
        have hg := Grow.put (m := w3.heap.size) (.deferred none) hD HK.out rfl
        exact ⟨.slice none 0 0, by simp [results, Try.f30, go_sem], rfl, below_grow HB.out hg hlz (Nat.le_refl _)⟩
    · go_simp
      refine hK.out _ _ ?_ (fun hHeldN => ?_)
      · exact ⟨keepc (bal (Below.refl _ _) _) hHeld.1, bal hHeld.2 _⟩
      clear hK K hHeld
      have hHeld := hHeldN
      clear hHeldN
      (try simp only [Act.put, List.setIfInBounds_toArray, List.set_cons_zero, List.set_cons_succ])
      have hA : (w1.alloc (.cells #[.bool false] 4)).cell? ⟨w1.heap.size, 0, none⟩ = some (.bool false) := by simp [go_sem]
      have hlA := World.block_lt_of_cell? _ _ hA
      have hF : (w1.alloc (.cells #[.bool false] 4)).frozen? ⟨w1.heap.size, 0, none⟩ = false := by simp [go_sem]
      refine wpAnyH_ready (rs := [3]) (by kernel_rfl) (by simp) ?_
      refine AllReadyH.cons (by simp only [List.getElem?_toArray, List.getElem?_cons_succ, List.getElem?_cons_zero]; rfl) (fun K hK => ?_) <| AllReadyH.nil
      go_simp
      go_at_call 24; (with_reducible refine (HSZ.out _ (below_t HB0.out hHeld.2)).mono ?_); rintro e w2 ⟨rfl, hb2⟩
      refine hK.out _ _ ?_ (fun hHeldN => ?_)
      · exact ⟨keepc hb2 hHeld.1, below_t hHeld.2 hb2⟩
      clear hK K hHeld
      have hHeld := hHeldN
      clear hHeldN
      (try simp only [Act.put, List.setIfInBounds_toArray, List.set_cons_zero, List.set_cons_succ])
      have hA2 := keepc hb2 hA
      have hF2 := (hb2.frozen hlA).trans hF
      clear hA hF
      have hl2 := World.block_lt_of_cell? _ _ hA2
      refine takeD (i := 4) (v := ?_) 13 rfl rfl (by kernel_rfl) (by kernel_rfl) (by kernel_rfl) (fun _ _ _ h => h) (by assumption) (Or.inl ⟨by rfl, ?_⟩) ?_
      rotate_left
      · intro w hSw
        (try dsimp only at hSw)
        go_simp
        try with_reducible rfl
      simp only [List.setIfInBounds_toArray, List.set_cons_zero, List.set_cons_succ]
      refine wpAnyH_ready (rs := [6]) (by kernel_rfl) (by simp) ?_
      refine AllReadyH.cons (by simp only [List.getElem?_toArray, List.getElem?_cons_succ, List.getElem?_cons_zero]; rfl) (fun K hK => ?_) AllReadyH.nil
      go_simp
      refine hK.out _ _ ?_ (fun hHeldN => ?_)
      · exact ⟨(World.cell?_setCell_far _ _ _ _ (by simp; omega)).trans hHeld.1, hHeld.2.sc _ _ _ (by omega)⟩
      clear hK K hHeld
      have hHeld := hHeldN
      clear hHeldN
      (try simp only [Act.put, List.setIfInBounds_toArray, List.set_cons_zero, List.set_cons_succ])
      refine wpAnyH_done (by kernel_rfl) ?_ _
      have HE := hid hHeld
      clear hHeld
      dsimp only [OnlyN]
      generalize (w2.setCell ⟨w1.heap.size, 0, none⟩ (.bool true)) = X at HE ⊢
      have HX := hid (show Below w.heap.size w X from HB0.out.trans (HE.out.2.mono HB0.out.size))
      clear HE
      gi_wp2
      refine ⟨trivial, fun _ => (by omega), ?_⟩
      refine (callsIn_wide.2 (all_nil _)).mono ?_
      rintro e w3 ⟨bs, rfl, hbs, hcs, hb3⟩
      have o1 : w3.cell? ⟨X.heap.size, 0, none⟩ = some (.slice none 0 0) := keepc hb3 (by simp [go_sem])
      have hb4 : Below X.heap.size X w3 := blw hb3
      have HI0 := hid (show RN bs w3 ∧ w3.cell? ⟨X.heap.size, 0, none⟩ = some (.slice none 0 0) ∧ Below w.heap.size w w3 from ⟨hcs, o1, below_t HX.out hb4⟩)
      have hlz : w.heap.size ≤ w3.heap.size := HI0.out.2.2.size
      clear hb3 hb4 hcs o1 hbs
      gi_wp2
      refine rangeFunc_none (n := n) (w := w3) rfl (by omega) (gf := 94) (lb := #[.pointer (some ⟨bs, 0, none⟩)]) rfl trivial (enters_of Try.func94 (by kernel_rfl) rfl)
        (encs := encA) (fun _ => rfl) (R := RN bs) (fun V => RN bs V ∧ V.cell? ⟨X.heap.size, 0, none⟩ = some (.slice none 0 0) ∧ Below w.heap.size w V) (fun A C hg h => ⟨cell_grow hg h.1, cell_grow hg h.2.1, below_grow h.2.2 hg hlz (Nat.le_refl _)⟩) (fun V h => h.1) HI0.out (fun V => all_nil_seq (n - 1) (by omega) bs V) ?done
      case done =>
        rintro D V hD ⟨_, h2, h3⟩ hK
        have hlt := World.block_lt_of_cell? V _ h2
        have HK := hid hK
        have HB := hid h3
        clear hK h3
        gi_wp2
        refine ⟨by simp, .inl ⟨_, _, rfl, run_takeDeferred HK.out, ?_⟩⟩
        have hg := Grow.put (m := w3.heap.size) (.deferred none) hD HK.out rfl
        exact ⟨.slice none 0 0, by simp [results, Try.f30, go_sem], rfl, below_grow HB.out hg hlz (Nat.le_refl _)⟩
  · go_simp
    refine hK.out _ _ ?_ (fun hHeldN => ?_)
    · exact ⟨keepc (bal (Below.refl _ _) _) hHeld.1, bal hHeld.2 _⟩
    clear hK K hHeld
    have hHeld := hHeldN
    clear hHeldN
    (try simp only [Act.put, List.setIfInBounds_toArray, List.set_cons_zero, List.set_cons_succ])
    have hA : (w0.drew.alloc (.cells #[.bool false] 4)).cell? ⟨w0.heap.size, 0, none⟩ = some (.bool false) := by simp [go_sem]
    have hlA := World.block_lt_of_cell? _ _ hA
    have hF : (w0.drew.alloc (.cells #[.bool false] 4)).frozen? ⟨w0.heap.size, 0, none⟩ = false := by simp [go_sem]
    refine wpAnyH_ready (rs := [1]) (by kernel_rfl) (by simp) ?_
    refine AllReadyH.cons (by simp only [List.getElem?_toArray, List.getElem?_cons_succ, List.getElem?_cons_zero]; rfl) (fun K hK => ?_) <| AllReadyH.nil
    go_simp
    go_at_call 24; (with_reducible refine (HSN.out _).mono ?_); rintro e w1 ⟨rfl, hb1⟩
    refine hK.out _ _ ?_ (fun hHeldN => ?_)
    · exact ⟨keepc hb1 hHeld.1, below_t hHeld.2 hb1⟩
    clear hK K hHeld
    have hHeld := hHeldN
    clear hHeldN
    (try simp only [Act.put, List.setIfInBounds_toArray, List.set_cons_zero, List.set_cons_succ])
    have hs1 : w0.heap.size ≤ w1.heap.size := hHeld.2.size
    have hA1 := keepc hb1 hA
    have hF1 := (hb1.frozen hlA).trans hF
    have hl1 := World.block_lt_of_cell? _ _ hA1
    clear hA hF
    refine wpAnyH_ready (rs := [3]) (by kernel_rfl) (by simp) ?_
    refine AllReadyH.cons (by simp only [List.getElem?_toArray, List.getElem?_cons_succ, List.getElem?_cons_zero]; rfl) (fun K hK => ?_) <| AllReadyH.nil
    go_simp
    go_at_call 24; (with_reducible refine (HSZ.out _ (below_t HB0.out hHeld.2)).mono ?_); rintro e w2 ⟨rfl, hb2⟩
    refine hK.out _ _ ?_ (fun hHeldN => ?_)
    · exact ⟨keepc hb2 hHeld.1, below_t hHeld.2 hb2⟩
    clear hK K hHeld
    have hHeld := hHeldN
    clear hHeldN
    (try simp only [Act.put, List.setIfInBounds_toArray, List.set_cons_zero, List.set_cons_succ])
    have hA2 := keepc hb2 hA1
    have hF2 := (hb2.frozen hl1).trans hF1
    clear hA1 hF1
    have hl2 := World.block_lt_of_cell? _ _ hA2
    refine takeD (i := 4) (v := ?_) 13 rfl rfl (by kernel_rfl) (by kernel_rfl) (by kernel_rfl) (fun _ _ _ h => h) (by assumption) (Or.inl ⟨by rfl, ?_⟩) ?_
    rotate_left
    · intro w hSw
      (try dsimp only at hSw)
      go_simp
      try with_reducible rfl
    simp only [List.setIfInBounds_toArray, List.set_cons_zero, List.set_cons_succ]
    refine wpAnyH_ready (rs := [6]) (by kernel_rfl) (by simp) ?_
    refine AllReadyH.cons (by simp only [List.getElem?_toArray, List.getElem?_cons_succ, List.getElem?_cons_zero]; rfl) (fun K hK => ?_) AllReadyH.nil
    go_simp
    refine hK.out _ _ ?_ (fun hHeldN => ?_)
    · exact ⟨(World.cell?_setCell_far _ _ _ _ (by simp; omega)).trans hHeld.1, hHeld.2.sc _ _ _ (by omega)⟩
    clear hK K hHeld
    have hHeld := hHeldN
    clear hHeldN
    (try simp only [Act.put, List.setIfInBounds_toArray, List.set_cons_zero, List.set_cons_succ])
    refine wpAnyH_done (by kernel_rfl) ?_ _
    have HE := hid hHeld
    clear hHeld
    dsimp only [OnlyN]
    generalize (w2.setCell ⟨w0.heap.size, 0, none⟩ (.bool true)) = X at HE ⊢
    have HX := hid (show Below w.heap.size w X from HB0.out.trans (HE.out.2.mono HB0.out.size))
    clear HE
    gi_wp2
    refine ⟨trivial, fun _ => (by omega), ?_⟩
    refine (callsIn_wide.2 (all_nil _)).mono ?_
    rintro e w3 ⟨bs, rfl, hbs, hcs, hb3⟩
    have o1 : w3.cell? ⟨X.heap.size, 0, none⟩ = some (.slice none 0 0) := keepc hb3 (by simp [go_sem])
    have hb4 : Below X.heap.size X w3 := blw hb3
    have HI0 := hid (show RN bs w3 ∧ w3.cell? ⟨X.heap.size, 0, none⟩ = some (.slice none 0 0) ∧ Below w.heap.size w w3 from ⟨hcs, o1, below_t HX.out hb4⟩)
    have hlz : w.heap.size ≤ w3.heap.size := HI0.out.2.2.size
    clear hb3 hb4 hcs o1 hbs
    gi_wp2
    refine rangeFunc_none (n := n) (w := w3) rfl (by omega) (gf := 94) (lb := #[.pointer (some ⟨bs, 0, none⟩)]) rfl trivial (enters_of Try.func94 (by kernel_rfl) rfl)
      (encs := encA) (fun _ => rfl) (R := RN bs) (fun V => RN bs V ∧ V.cell? ⟨X.heap.size, 0, none⟩ = some (.slice none 0 0) ∧ Below w.heap.size w V) (fun A C hg h => ⟨cell_grow hg h.1, cell_grow hg h.2.1, below_grow h.2.2 hg hlz (Nat.le_refl _)⟩) (fun V h => h.1) HI0.out (fun V => all_nil_seq (n - 1) (by omega) bs V) ?done
    case done =>
      rintro D V hD ⟨_, h2, h3⟩ hK
      have hlt := World.block_lt_of_cell? V _ h2
      have HK := hid hK
      have HB := hid h3
      clear hK h3
      gi_wp2
      refine ⟨by simp, .inl ⟨_, _, rfl, run_takeDeferred HK.out, ?_⟩⟩
      have hg := Grow.put (m := w3.heap.size) (.deferred none) hD HK.out rfl
      exact ⟨.slice none 0 0, by simp [results, Try.f30, go_sem], rfl, below_grow HB.out hg hlz (Nat.le_refl _)⟩
end Go.Proofs.Ytdaainifnbbhiaa
