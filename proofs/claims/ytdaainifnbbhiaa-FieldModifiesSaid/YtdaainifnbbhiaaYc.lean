/-
  Places and cells: asked.
-/
import Derived.Test.YtdaainifnbbhiaaYb
import Derived.Deep.DeepCutAuto
namespace Go.Proofs.Ytdaainifnbbhiaa
open Go.RowKit Go.Lib

section
variable {P : Program} {ops : Array Oper} {Q : Exit → Act → World → Prop} {md : Region.Mode} {S : World → Prop}
/-- An operation is taken first: its slot is written. -/
theorem takeD {i : Nat} {oi : Oper} {v : Value} (d : Tmp) {fuel : Nat} {listed : Array Bool} {ts : Array Value} {ds : List Deferred} {w : World} (hi : ops[i]? = some oi) (hd : oi.dst = some d)
    (hs : Region.noSelect ops = true) (hf : Region.free md ops listed i = true) (hr : (Region.ready md ops listed).contains i = true)
    (hQ : ∀ c a w, Q (.panic c) (a.put oi.dst v) w → Q (.panic c) a w) (hS : S w) (hy : YieldsIf P ops S oi v ⟨ts, ds⟩)
    (h : wpAnyH P md ops Q S fuel (listed.setIfInBounds i true) ⟨ts.setIfInBounds d v, ds⟩ w) : wpAnyH P md ops Q S (fuel + 1) listed ⟨ts, ds⟩ w :=
  wpAnyH_take hi hs hf hr hQ hy hS (by rw [hd]; exact h)
end
set_option maxRecDepth 100000 in
set_option maxHeartbeats 1000000 in
theorem pos_any {b g : Nat} {s : Spc} (n : Int) (hn : I64 n) (w : World) (h : SpM w b g s) : Calls Try.prog 72 #[.pointer (some ⟨b, 0, none⟩), .int .i64 n] w fun e w' => e = .returned (.int .i64 (s.wr n)) ∧ Below w.heap.size w w' := by
  have h2 := h.h2
  have hlt := h.lt.1
  have hz := h.ok.sz
  have hlen := h.ok.len
  have hp := h.ok.pos
  have hwr := h.ok.wr_eq n
  have HS := hid (fun w h => size_any (b := b) (g := g) (s := s) w h)
  have HW := hid (fun w => wrap_ok s.r s.c n hz hn w)
  rw [← hlen, ← hwr] at HW
  have HH := hid h
  generalize s.wr n = q at *
  generalize s.r = R at *
  generalize s.c = C at *
  clear h hz hlen
  by_cases h0 : 0 ≤ n
  · by_cases h1 : n < s.L.length
    · have : (q : Int) = n := by rw [hwr]; exact Int.emod_eq_of_lt h0 h1
      rw [this]
      clear HS HW hwr this
      go_enter Try.func72, Try.ntmps72
      go_wp2
      go_ret
      exact ⟨rfl, Below.refl _ _⟩
    · clear hwr
      go_enter Try.func72, Try.ntmps72
      go_wp2_with fail
      with_reducible refine (HS.out _ HH.out).mono ?_
      rintro e w1 ⟨rfl, hb⟩
      have HB := hid hb
      clear hb
      go_wp2_with fail
      with_reducible refine (HW.out _).mono ?_
      rintro e w2 ⟨rfl, hb2⟩
      have HB2 := hid hb2
      clear hb2
      go_wp2
      go_ret
      exact ⟨rfl, below_t HB.out HB2.out⟩
  · clear hwr
    go_enter Try.func72, Try.ntmps72
    go_wp2_with fail
    with_reducible refine (HS.out _ HH.out).mono ?_
    rintro e w1 ⟨rfl, hb⟩
    have HB := hid hb
    clear hb
    go_wp2_with fail
    with_reducible refine (HW.out _).mono ?_
    rintro e w2 ⟨rfl, hb2⟩
    have HB2 := hid hb2
    clear hb2
    go_wp2
    go_ret
    exact ⟨rfl, below_t HB.out HB2.out⟩
set_option maxRecDepth 100000 in
set_option maxHeartbeats 1000000 in
theorem at_any {b g : Nat} {s : Spc} (n : Int) (hn : I64 n) (w : World) (h : SpM w b g s) : Calls Try.prog 15 #[.pointer (some ⟨b, 0, none⟩), .int .i64 n] w fun e w' => e = .returned (s.atC n).v ∧ Below w.heap.size w w' := by
  have h2 := h.h2
  have hlt := h.lt.1
  have hgt := h.lt.2
  have hw := h.ok.wr_lt n
  have HP := hid (fun w h => pos_any (b := b) (g := g) (s := s) n hn w h)
  obtain ⟨c, hc⟩ : ∃ c, s.L.getD (s.wr n) cel0 = c := ⟨_, rfl⟩
  have e : s.atC n = c := hc
  rw [e]
  obtain ⟨a0, a1, a2, a3, a4, a5⟩ := h.row.six _ hw c hc
  have HH := hid h
  have hp := h.ok.pos
  generalize s.wr n = q at *
  obtain ⟨x0, x1, x2, x3, x4, x5⟩ := c
  dsimp only at a0 a1 a2 a3 a4 a5
  clear h hc e
  go_enter Try.func15, Try.ntmps15
  go_wp2_with fail
  generalize hW : w.alloc (.cells #[.int .u8 0, .bool false, .int .u8 0, .int .u8 0, .int .u8 0, .int .u8 0] 31) = W
  have hb0 : Below w.heap.size w W := by rw [← hW]; exact bal (Below.refl _ _) _
  have hz : W.heap.size = w.heap.size + 1 := by rw [← hW]; simp
  have HZ := hid (fun (V : World) (hV : Below W.heap.size W V) => box6 (w := w) (w1 := V) (by rw [hW]; exact hV))
  have HB := hid hb0
  have HS := hid (fun (V : World) (k : Below w.heap.size w V) => show V.cell? ⟨b, 2, none⟩ = some (.slice (some ⟨g, 0, none⟩) s.L.length (s.L.length + s.ex)) ∧ (V.cell? ⟨g, q * 6, none⟩ = some (.int .u8 x0) ∧ V.cell? ⟨g, q * 6 + 1, none⟩ = some (.bool x1) ∧ V.cell? ⟨g, q * 6 + 2, none⟩ = some (.int .u8 x2) ∧ V.cell? ⟨g, q * 6 + 3, none⟩ = some (.int .u8 x3) ∧ V.cell? ⟨g, q * 6 + 4, none⟩ = some (.int .u8 x4) ∧ V.cell? ⟨g, q * 6 + 5, none⟩ = some (.int .u8 x5)) ∧ Below w.heap.size w V from ⟨keepc k h2, ⟨keepc k a0, keepc k a1, keepc k a2, keepc k a3, keepc k a4, keepc k a5⟩, k⟩)
  have HD := hid (show SpM W b g s from HH.out.below hb0)
  clear h2 a0 a1 a2 a3 a4 a5 hb0
  refine wp_region_held_drew (S := fun V => V.cell? ⟨b, 2, none⟩ = some (.slice (some ⟨g, 0, none⟩) s.L.length (s.L.length + s.ex)) ∧ (V.cell? ⟨g, q * 6, none⟩ = some (.int .u8 x0) ∧ V.cell? ⟨g, q * 6 + 1, none⟩ = some (.bool x1) ∧ V.cell? ⟨g, q * 6 + 2, none⟩ = some (.int .u8 x2) ∧ V.cell? ⟨g, q * 6 + 3, none⟩ = some (.int .u8 x3) ∧ V.cell? ⟨g, q * 6 + 4, none⟩ = some (.int .u8 x4) ∧ V.cell? ⟨g, q * 6 + 5, none⟩ = some (.int .u8 x5)) ∧ Below w.heap.size w V) (by kernel_rfl) ?_ (fun hHeld => ?_)
  · exact HS.out _ HB.out.drew
  refine takeD (i := 0) (v := ?_) 8 rfl rfl (by kernel_rfl) (by kernel_rfl) (by kernel_rfl) (fun _ _ _ h => h) (by assumption) (Or.inl ⟨by rfl, ?_⟩) ?_
  rotate_left
  · intro w hSw
    (try dsimp only at hSw)
    go_simp
    try with_reducible rfl
  simp only [List.setIfInBounds_toArray, List.set_cons_zero, List.set_cons_succ]
  refine takeD (i := 1) (v := ?_) 9 rfl rfl (by kernel_rfl) (by kernel_rfl) (by kernel_rfl) (fun _ _ _ h => h) (by assumption) (Or.inl ⟨by rfl, ?_⟩) ?_
  rotate_left
  · intro w hSw
    (try dsimp only at hSw)
    go_simp
    try with_reducible rfl
  simp only [List.setIfInBounds_toArray, List.set_cons_zero, List.set_cons_succ]
  refine takeD (i := 2) (v := ?_) 10 rfl rfl (by kernel_rfl) (by kernel_rfl) (by kernel_rfl) (fun _ _ _ h => h) (by assumption) (Or.inl ⟨by rfl, ?_⟩) ?_
  rotate_left
  · intro w hSw
    (try dsimp only at hSw)
    go_simp
    try with_reducible rfl
  simp only [List.setIfInBounds_toArray, List.set_cons_zero, List.set_cons_succ]
  refine takeD (i := 3) (v := ?_) 11 rfl rfl (by kernel_rfl) (by kernel_rfl) (by kernel_rfl) (fun _ _ _ h => h) (by assumption) (Or.inl ⟨by rfl, ?_⟩) ?_
  rotate_left
  · intro w hSw
    (try dsimp only at hSw)
    go_simp
    try with_reducible rfl
  simp only [List.setIfInBounds_toArray, List.set_cons_zero, List.set_cons_succ]
  refine takeD (i := 4) (v := ?_) 12 rfl rfl (by kernel_rfl) (by kernel_rfl) (by kernel_rfl) (fun _ _ _ h => h) (by assumption) (Or.inl ⟨by rfl, ?_⟩) ?_
  rotate_left
  · intro w hSw
    (try dsimp only at hSw)
    go_simp
    try with_reducible rfl
  simp only [List.setIfInBounds_toArray, List.set_cons_zero, List.set_cons_succ]
  refine takeD (i := 5) (v := ?_) 13 rfl rfl (by kernel_rfl) (by kernel_rfl) (by kernel_rfl) (fun _ _ _ h => h) (by assumption) (Or.inl ⟨by rfl, ?_⟩) ?_
  rotate_left
  · intro w hSw
    (try dsimp only at hSw)
    go_simp
    try with_reducible rfl
  simp only [List.setIfInBounds_toArray, List.set_cons_zero, List.set_cons_succ]
  refine wpAnyH_ready (rs := [6]) (by kernel_rfl) (by simp) ?_
  refine AllReadyH.cons (by simp only [List.getElem?_toArray, List.getElem?_cons_succ, List.getElem?_cons_zero]; rfl) (fun K hK => ?_) AllReadyH.nil
  go_simp
  go_at_call 72; (with_reducible refine (HP.out _ (HD.out.below (Below.refl _ _).drew)).mono ?_); rintro e w2 ⟨rfl, hb2⟩; have hb3 := below_t (Below.refl W.heap.size W).drew hb2; obtain ⟨⟨z0, z1, z2, z3, z4, z5⟩, ⟨y0, y1, y2, y3, y4, y5⟩, hs⟩ := HZ.out _ hb3; have H3 := hid (below_t HB.out hb3); clear hb2 hb3
  refine hK.out _ _ ?_ (fun hHeldN => ?_)
  · exact HS.out _ H3.out
  clear hK K hHeld
  have hHeld := hHeldN
  clear hHeldN
  (try simp only [Act.put, List.setIfInBounds_toArray, List.set_cons_zero, List.set_cons_succ])
  refine takeD (i := 7) (v := ?_) 15 rfl rfl (by kernel_rfl) (by kernel_rfl) (by kernel_rfl) (fun _ _ _ h => h) (by assumption) (Or.inl ⟨by rfl, ?_⟩) ?_
  rotate_left
  · intro w hSw
    (try dsimp only at hSw)
    go_simp
    try with_reducible rfl
  simp only [List.setIfInBounds_toArray, List.set_cons_zero, List.set_cons_succ]
  refine takeD (i := 8) (v := ?_) 16 rfl rfl (by kernel_rfl) (by kernel_rfl) (by kernel_rfl) (fun _ _ _ h => h) (by assumption) (Or.inl ⟨by rfl, ?_⟩) ?_
  rotate_left
  · intro w hSw
    (try dsimp only at hSw)
    go_simp
    try with_reducible rfl
  simp only [List.setIfInBounds_toArray, List.set_cons_zero, List.set_cons_succ]
  refine wpAnyH_ready (rs := [9]) (by kernel_rfl) (by simp) ?_
  refine AllReadyH.cons (by simp only [List.getElem?_toArray, List.getElem?_cons_succ, List.getElem?_cons_zero]; rfl) (fun K hK => ?_) AllReadyH.nil
  go_simp
  refine hK.out _ _ ?_ (fun hHeldN => ?_)
  · exact HS.out _ (((((((H3.out.sc _ _ _ (Nat.le_refl _)).sc _ _ _ (Nat.le_refl _)).sc _ _ _ (Nat.le_refl _)).sc _ _ _ (Nat.le_refl _)).sc _ _ _ (Nat.le_refl _)).sc _ _ _ (Nat.le_refl _)))
  clear hK K hHeld
  have hHeld := hHeldN
  clear hHeldN
  (try simp only [Act.put, List.setIfInBounds_toArray, List.set_cons_zero, List.set_cons_succ])
  refine wpAnyH_done (by kernel_rfl) ?_ _
  clear hHeld
  go_wp2
  exact bodyPost_ret (v := .agg #[.int .u8 x0, .bool x1, .int .u8 x2, .int .u8 x3, .int .u8 x4, .int .u8 x5]) (by simp [results, Try.results15, go_sem, z0, z1, z2, z3, z4, z5]) rfl ⟨rfl, ((((((H3.out.sc _ _ _ (Nat.le_refl _)).sc _ _ _ (Nat.le_refl _)).sc _ _ _ (Nat.le_refl _)).sc _ _ _ (Nat.le_refl _)).sc _ _ _ (Nat.le_refl _)).sc _ _ _ (Nat.le_refl _))⟩
end Go.Proofs.Ytdaainifnbbhiaa
