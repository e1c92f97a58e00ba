/-
  The law's example; a space that is the document's.
  A copy; two that are the same; what a nil space answers.
  What a nil space answers.
  What differs from a nil space: nothing. A plain walk inside the widest fence.
-/
import Derived.Test.YtlhaefgchmakfaaFe
import Derived.Lib.LazyBuf
namespace Go.Proofs.Ytlhaefgchmakfaa
open Go.RowKit Go.Lib Go.Deep

theorem fld0 (x y : Int) (w : World) : (Instr.field 104 (.agg #[.int .i64 x, .int .i64 y]) 0).run Try.prog w = .ok (.int .i64 x) w := by kernel_rfl
theorem fld1 (x y : Int) (w : World) : (Instr.field 104 (.agg #[.int .i64 x, .int .i64 y]) 1).run Try.prog w = .ok (.int .i64 y) w := by kernel_rfl
theorem cellsV_at : ∀ (L : List Cel) (i j : Nat), i < L.length → j < 6 → (cellsV L)[i * 6 + j]? = (L.getD i cel0).cs[j]?
  | [], i, _, hi, _ => absurd hi (Nat.not_lt_zero i)
  | c :: L, 0, j, _, hj => by
    show (c.cs ++ cellsV L)[0 * 6 + j]? = _
    rw [Nat.zero_mul, Nat.zero_add, List.getElem?_append_left (by simpa [Cel.cs] using hj)]
    rfl
  | c :: L, i + 1, j, hi, hj => by
    show (c.cs ++ cellsV L)[(i + 1) * 6 + j]? = _
    have e : c.cs.length = 6 := rfl
    rw [List.getElem?_append_right (by omega), show (i + 1) * 6 + j - c.cs.length = i * 6 + j by omega, cellsV_at L i j (by simpa using hi) hj]
    rfl
theorem own_below {A B : World} {t : TypeId} {sz n : Nat} {v : Value} {cs : List Value} (h : A.ownsRow 0 t sz v n cs) (hb : Below A.heap.size A B) : B.ownsRow 0 t sz v n cs := own_grow h (Grow.below hb 0)
/-- Of a list of cells, made: what lies there. -/
theorem cells_row {w : World} {v : Value} {L : List Cel} (h : w.ownsRow 0 48 6 v L.length (cellsV L)) (hl : 0 < L.length) : ∃ g c, v = .slice (some ⟨g, 0, none⟩) L.length c ∧ ∀ i, i < L.length → ∀ j, j < 6 → w.cell? ⟨g, i * 6 + j, none⟩ = (L.getD i cel0).cs[j]? := by
  rcases h.2 with ⟨rfl, e⟩ | ⟨g, cap, cur, rfl, hb, hh, h1, h2, h3, h4⟩
  · omega
  · refine ⟨g, cap, rfl, fun i hi j hj => ?_⟩
    rw [World.ownsRow.cellAt h (i * 6 + j) (by omega), cellsV_at L i j hi hj]
end Go.Proofs.Ytlhaefgchmakfaa
namespace Go.Proofs.Ytlhaefgchmakfaa
open Go.RowKit Go.Lib Go.Deep

theorem cellsV_len (L : List Cel) : (cellsV L).length = L.length * 6 := by
  induction L with
  | nil => rfl
  | cons c L ih =>
    show (c.cs ++ cellsV L).length = _
    rw [List.length_append, ih, List.length_cons]
    show 6 + _ = _
    omega
theorem cellsV_one (L : List Cel) : ∀ u ∈ cellsV L, u.oneCell' = true := fun u hu => by
  obtain ⟨c, _, hc⟩ := List.mem_flatMap.1 hu
  simp only [Cel.cs, List.mem_cons, List.not_mem_nil, or_false] at hc
  rcases hc with rfl | rfl | rfl | rfl | rfl | rfl <;> rfl
theorem cells_src {w : World} {g : Nat} {L : List Cel} (h : CellsM w g L) : ∀ j u, (cellsV L)[j]? = some u → w.cell? ((⟨g, 0, none⟩ : Addr).add j) = some u := fun j u hu => by
  have hj : j < L.length * 6 := by
    have := (List.getElem?_eq_some_iff.1 hu).1
    rwa [cellsV_len] at this
  have e : j = j / 6 * 6 + j % 6 := by omega
  have h6 : j % 6 < 6 := Nat.mod_lt _ (by omega)
  have hq : j / 6 < L.length := by omega
  rw [addr_addS, Nat.zero_add]
  rw [e] at hu ⊢
  rw [cellsV_at L _ _ hq h6] at hu
  rw [h.at_ _ hq _ h6]
  exact hu
/-- Cells that were made are cells that lie there. -/
theorem cells_own {w : World} {b : Nat} {v : Value} {L : List Cel} (h : w.ownsRow b 48 6 v L.length (cellsV L)) (hl : 0 < L.length) : ∃ g ex, v = .slice (some ⟨g, 0, none⟩) L.length (L.length + ex) ∧ b ≤ g ∧ CellsM w g L := by
  have hr := h
  rcases h.2 with ⟨rfl, e⟩ | ⟨g, cap, cur, rfl, hb, hh, h1, h2, h3, h4⟩
  · omega
  · refine ⟨g, cap - L.length, by rw [Nat.add_sub_cancel' h1], hb, fun i hi j hj => ?_, fun o => frozen_of_heap hh, (Array.getElem?_eq_some_iff.1 hh).1⟩
    rw [World.ownsRow.cellAt hr (i * 6 + j) (by omega), cellsV_at L i j hi hj]
def CopyD (s : Spc) (w : World) (e : Ending) (w' : World) : Prop := ∃ b' g' ex, e = .returned (.pointer (some ⟨b', 0, none⟩)) ∧ w.heap.size ≤ b' ∧ w.heap.size ≤ g' ∧ SpM w' b' g' { s with ex := ex } ∧ Below w.heap.size w w'
end Go.Proofs.Ytlhaefgchmakfaa
namespace Go.Proofs.Ytlhaefgchmakfaa
open Go.RowKit Go.Lib Go.Deep

section
variable {F : Fence} {n : Nat} {P : Program}
/-- A loop over an iterator that tells nothing. -/
theorem rangeFunc_none {α : Type} {g : Operand} {ps : Array Tmp} {assign body : Code} {Q : Exit → Act → World → Prop} {a : Act} {w : World}
    (hro : F.round = none) (h1 : 1 ≤ n) {gf : Nat} {lb : Array Value} (hg : a.eval g = .func (.func gf) #[] lb) (hFg : F.fn gf) (eg : ∀ args w, (callFunc gf args).run P w = .ok (.enter gf args) w)
    {encs : α → Array Value} (hps : ∀ x, (encs x).size = ps.size) {R : World → Prop} (J : World → Prop) (hJ : Abides w.heap.size J) (hR : ∀ V, J V → R V) (h0 : J w)
    (hiter : ∀ W, SeqF F (n - 1) P gf lb encs (fun _ _ _ => False) 0 R W)
    (hdone : ∀ (D : Nat) (W : World), w.heap.size ≤ D → J W → W.heap[D]? = some (.deferred (some [])) → Q .normal { a with defers := { target := .collected D, args := #[] } :: a.defers } W) :
    (Code.rangeFunc g ps assign body).wpIn F n P Q a w :=
  rangeFunc_seq hro h1 hg hFg eg hps (fun _ _ => J) (fun _ _ _ _ => False) (fun _ _ => hJ) (fun _ _ _ _ _ _ h => h.elim) (fun _ _ V h => hR V h) h0 (fun _ _ _ _ _ => False) (fun _ _ _ _ _ _ _ h => h.elim)
    (fun _ _ _ _ _ _ h => absurd h (Nat.not_lt_zero _)) (fun _ _ _ _ _ _ h => absurd h (Nat.not_lt_zero _)) (fun _ _ _ _ => hiter _) (fun D _ W hD h hK => hdone D W hD h hK) (fun _ _ _ _ _ _ h => absurd h (Nat.not_lt_zero _))
end
set_option maxRecDepth 100000 in
set_option maxHeartbeats 4000000 in
theorem all_nil (w : World) : Calls Try.prog 50 #[.pointer none] w fun e w' => ∃ bx, e = .returned (.func (.func 81) #[] #[.pointer (some ⟨bx, 0, none⟩)]) ∧ w.heap.size ≤ bx ∧ w'.cell? ⟨bx, 0, none⟩ = some (.pointer none) ∧ Below w.heap.size w w' := by
  go_enter Try.func50, Try.ntmps50
  go_wp2
  go_ret
  exact ⟨w.heap.size, rfl, Nat.le_refl _, by simp [go_sem], (Below.refl _ _).al (Nat.le_refl _) _⟩
set_option maxRecDepth 100000 in
set_option maxHeartbeats 4000000 in
theorem attrsIt_nil (w : World) : Calls Try.prog 75 #[.pointer none] w fun e w' => ∃ bx, e = .returned (.func (.func 97) #[] #[.pointer (some ⟨bx, 0, none⟩)]) ∧ w.heap.size ≤ bx ∧ w'.cell? ⟨bx, 0, none⟩ = some (.pointer none) ∧ Below w.heap.size w w' := by
  go_enter Try.func75, Try.ntmps75
  go_wp2
  go_ret
  exact ⟨w.heap.size, rfl, Nat.le_refl _, by simp [go_sem], (Below.refl _ _).al (Nat.le_refl _) _⟩
set_option maxRecDepth 100000 in
set_option maxHeartbeats 4000000 in
theorem cursor_nil (w : World) : Calls Try.prog 74 #[.pointer none] w fun e w' => e = .returned (.int .i64 0) ∧ Below w.heap.size w w' := by
  go_enter Try.func74, Try.ntmps74
  go_wp2
  go_ret
  exact ⟨rfl, Below.refl _ _⟩
set_option maxRecDepth 100000 in
set_option maxHeartbeats 4000000 in
theorem size_nil (w : World) : Calls Try.prog 54 #[.pointer none] w fun e w' => e = .returned (sizeV 0 0) ∧ Below w.heap.size w w' := by
  go_enter Try.func54, Try.ntmps54
  go_wp2
  exact bodyPost_ret (v := sizeV 0 0) (by simp [results, Try.results54, go_sem]) rfl ⟨rfl, (Below.refl _ _).al (Nat.le_refl _) _⟩
set_option maxRecDepth 100000 in
set_option maxHeartbeats 4000000 in
theorem at_nil (n : Int) (w : World) : Calls Try.prog 80 #[.pointer none, .int .i64 n] w fun e w' => e = .returned cel0.v ∧ Below w.heap.size w w' := by
  go_enter Try.func80, Try.ntmps80
  go_wp2
  exact bodyPost_ret (v := cel0.v) (by simp [results, Try.results80, go_sem, cel0]) rfl ⟨rfl, (Below.refl _ _).al (Nat.le_refl _) _⟩
set_option maxRecDepth 100000 in
set_option maxHeartbeats 4000000 in
theorem set_nil (n : Int) (c : Cel) (w : World) : Calls Try.prog 37 #[.pointer none, .int .i64 n, c.v] w fun e w' => (∃ v, e = .returned v) ∧ Below w.heap.size w w' := by
  obtain ⟨x0, x1, x2, x3, x4, x5⟩ := c
  go_enter Try.func37, Try.ntmps37
  go_wp2
  exact bodyPost_ret (results_none rfl _ _ _) rfl ⟨⟨_, rfl⟩, (Below.refl _ _).al (Nat.le_refl _) _⟩
set_option maxRecDepth 100000 in
set_option maxHeartbeats 4000000 in
theorem place_nil (n : Int) (w : World) : Calls Try.prog 38 #[.pointer none, .int .i64 n] w fun e w' => (∃ v, e = .returned v) ∧ Below w.heap.size w w' := by
  go_enter Try.func38, Try.ntmps38
  go_wp2
  go_end0
  exact ⟨⟨_, rfl⟩, Below.refl _ _⟩
set_option maxRecDepth 100000 in
set_option maxHeartbeats 4000000 in
theorem clear_nil (al : Bool) (w : World) : Calls Try.prog 36 #[.pointer none, .bool al] w fun e w' => (∃ v, e = .returned v) ∧ Below w.heap.size w w' := by
  go_enter Try.func36, Try.ntmps36
  go_wp2
  exact bodyPost_ret (results_none rfl _ _ _) rfl ⟨⟨_, rfl⟩, Below.refl _ _⟩
def RN (bx : Nat) (V : World) : Prop := V.cell? ⟨bx, 0, none⟩ = some (.pointer none)
set_option maxRecDepth 100000 in
set_option maxHeartbeats 4000000 in
theorem all_nil_seq (n : Nat) (_hn : 1 ≤ n) (bx : Nat) (W : World) : SeqF Fence.wide n Try.prog 81 #[.pointer (some ⟨bx, 0, none⟩)] encA (fun _ _ _ => False) 0 (RN bx) W := fun l I Ix _ _ hR h0 hY => by
  have hb : W.cell? ⟨bx, 0, none⟩ = some (.pointer none) := hR _ _ _ h0
  have hlt : bx < W.heap.size := World.block_lt_of_cell? W _ hb
  have H0 := hid h0
  clear hY hR h0
  refine callsIn_of_wp Try.func81 rfl trivial ?_ rfl
  simp only [Try.ntmps81, List.size_toArray, List.length_cons, List.length_nil, Nat.reduceAdd, Nat.reduceSub, Array.replicate_succ, Array.replicate_zero, List.push_toArray, List.append_toArray, List.nil_append, List.cons_append]
  gi_wp2
  refine bodyPost_ret (results_none rfl _ _ _) rfl ?_
  exact ⟨⟨_, rfl⟩, .inl ⟨_, H0.out⟩⟩
set_option maxRecDepth 100000 in
set_option maxHeartbeats 4000000 in
theorem attrs_nil_seq (n : Nat) (hn : 4 ≤ n) (bx : Nat) (W : World) : SeqF Fence.wide n Try.prog 97 #[.pointer (some ⟨bx, 0, none⟩)] encI (fun _ _ _ => False) 0 (RN bx) W := fun l I Ix hI hIx hR h0 hY => by
  have hb : W.cell? ⟨bx, 0, none⟩ = some (.pointer none) := hR _ _ _ h0
  have hlt : bx < W.heap.size := World.block_lt_of_cell? W _ hb
  have H0 := hid h0
  clear hY hR h0
  refine callsIn_of_wp_marks Try.func97 rfl trivial ?_ rfl
  simp only [Try.ntmps97, List.size_toArray, List.length_cons, List.length_nil, Nat.reduceAdd, Nat.reduceSub, Array.replicate_succ, Array.replicate_zero, List.push_toArray, List.append_toArray, List.nil_append, List.cons_append]
  gi_wp2
  refine ⟨trivial, fun _ => (by omega), ?_⟩
  refine (callsIn_wide.2 (all_nil _)).mono ?_
  rintro e w1 ⟨bs, rfl, hbs, hcs, hb1⟩
  have hg1 : Grow W.heap.size W w1 := (Grow.alloc W _ _).trans (Grow.below hb1 _)
  have hz1 : W.heap.size ≤ w1.heap.size := hg1.size
  have HI0 := hid (show I 0 [] w1 ∧ RN bs w1 from ⟨hI _ _ _ _ hg1 H0.out, hcs⟩)
  clear hb1 hg1 hcs hbs hb hlt
  gi_wp2
  refine rangeFunc_none (n := n) (w := w1) rfl (by omega) (gf := 81) (lb := #[.pointer (some ⟨bs, 0, none⟩)]) rfl trivial (enters_of Try.func81 (by kernel_rfl) rfl)
    (encs := encA) (fun _ => rfl) (R := RN bs) (fun V => I 0 [] V ∧ RN bs V) (fun A C hg h => ⟨hI _ _ _ _ (hg.mono hz1) h.1, cell_grow hg h.2⟩) (fun V h => h.2) HI0.out (fun V => all_nil_seq (n - 1) (by omega) bs V) ?done
  case done =>
    rintro D V hD hi hK
    have HK := hid hK
    have HI := hid hi
    clear hi hK
    gi_wp2
    refine ⟨by simp, .inl ⟨_, _, rfl, run_takeDeferred HK.out, ?_⟩⟩
    exact ⟨_, results_none rfl _ _ _, ⟨_, rfl⟩, .inl ⟨[], hI _ _ _ _ (Grow.put _ (by omega) HK.out rfl) HI.out.1⟩⟩
section
attribute [local go_sem] Oper.semAt_some
set_option maxRecDepth 100000 in
set_option maxHeartbeats 4000000 in
theorem formatted_nil (n : Nat) (hn : 6 ≤ n) (w : World) :
    CallsIn Fence.wide n Try.prog 48 #[.pointer none] w fun e w' => e = .returned (.bool false) ∧ Below w.heap.size w w' := by
  refine callsIn_of_wp_marks Try.func48 rfl trivial ?_ rfl
  simp only [Try.ntmps48, List.size_toArray, List.length_cons, List.length_nil, Nat.reduceAdd, Nat.reduceSub, Array.replicate_succ, Array.replicate_zero, List.push_toArray, List.append_toArray, List.nil_append, List.cons_append]
  gi_wp2
  refine ⟨trivial, fun _ => (by omega), ?_⟩
  refine (callsIn_wide.2 (attrsIt_nil _)).mono ?_
  rintro e w1 ⟨bs, rfl, hbs, hcs, hb1⟩
  have o1 : w1.cell? ⟨w.heap.size, 0, none⟩ = some (.bool false) := keepc hb1 (by simp [go_sem])
  have f1 : w1.frozen? ⟨w.heap.size, 0, none⟩ = false := (hb1.frozen (p := ⟨w.heap.size, 0, none⟩) (by simp)).trans (by simp [go_sem])
  have hb2 : Below w.heap.size w w1 := blw hb1
  have HI0 := hid (show RN bs w1 ∧ w1.cell? ⟨w.heap.size, 0, none⟩ = some (.bool false) ∧ w1.frozen? ⟨w.heap.size, 0, none⟩ = false ∧ Below w.heap.size w w1 from ⟨hcs, o1, f1, hb2⟩)
  have hlz : w.heap.size ≤ w1.heap.size := hb2.size
  have hlz' : w.heap.size + 1 ≤ w1.heap.size := by have := hb1.size; simp at this; omega
  clear hb1 hb2 hcs o1 f1
  gi_wp2
  refine rangeFunc_none (n := n) (w := w1) rfl (by omega) (gf := 97) (lb := #[.pointer (some ⟨bs, 0, none⟩)]) rfl trivial (enters_of Try.func97 (by kernel_rfl) rfl)
    (encs := encI) (fun _ => rfl) (R := RN bs) (fun V => RN bs V ∧ V.cell? ⟨w.heap.size, 0, none⟩ = some (.bool false) ∧ V.frozen? ⟨w.heap.size, 0, none⟩ = false ∧ Below w.heap.size w V) (fun A C hg h => ⟨cell_grow hg h.1, cell_grow hg h.2.1, frozen_grow hg h.2.1 h.2.2.1, below_grow h.2.2.2 hg hlz (Nat.le_refl _)⟩) (fun V h => h.1) HI0.out (fun V => attrs_nil_seq (n - 1) (by omega) bs V) ?done
  case done =>
    rintro D V hD ⟨_, h2, h3, h4⟩ hK
    have hlt := World.block_lt_of_cell? V _ h2
    have HK := hid hK
    have HB := hid h4
    clear hK h4
    gi_wp2
    refine ⟨by simp, .inl ⟨_, _, rfl, run_takeDeferred ((Go.heap_setCell_other V ⟨w.heap.size, 0, none⟩ D _ (by simp; omega)).trans HK.out), ?_⟩⟩
    have e1 : (V.setCell ⟨w.heap.size, 0, none⟩ (.bool false)).heap[D]? = V.heap[D]? := Go.heap_setCell_other V _ D _ (by simp; omega)
    have hg := Grow.put (m := w1.heap.size) (.deferred none) hD (e1.trans HK.out) rfl
    have e2 := cell_grow hg (sc_same (v := .bool false) h2)
    exact ⟨.bool false, by simp [results, Try.f48, go_sem, e2], rfl, below_grow (HB.out.sc _ _ _ (Nat.le_refl _)) hg hlz (Nat.le_refl _)⟩
end
end Go.Proofs.Ytlhaefgchmakfaa
namespace Go.Proofs.Ytlhaefgchmakfaa
open Go.RowKit Go.Lib Go.Deep

/-- The widest fence, no round: a plain walk serves. -/
theorem wpIn_of_wp {n : Nat} {P : Program} {c : Code} {Q : Exit → Act → World → Prop} {a : Act} {w : World} (h : c.wp P Q a w) : c.wpIn Fence.wide n P Q a w := fun b k cs hro _ _ => by
  have hro : b.roundOf = none := hro
  obtain ⟨e, a', w', q, r⟩ := h b k cs
  refine ⟨e, a', w', q, ?_⟩
  rw [Frame.atR_of_none hro]
  cases e with
  | normal => show StepsIn _ _ _ _; rw [Frame.atR_of_none hro]; exact stepsIn_wide.2 r
  | exit id => exact ⟨fun k' hk => by rw [Frame.atR_of_none hro]; exact stepsIn_wide.2 (r k' hk), fun h => by rw [hro] at h; cases h⟩
  | goto l => exact ⟨fun k' hk => by rw [Frame.atR_of_none hro]; exact stepsIn_wide.2 (r k' hk), fun h => by rw [hro] at h; cases h⟩
  | ret =>
    obtain ⟨todo, hs⟩ := r
    exact ⟨fun _ => ⟨todo, by rw [Frame.atR_of_none hro]; exact stepsIn_wide.2 hs⟩, fun h => by rw [hro] at h; cases h⟩
  | panic chain =>
    obtain ⟨todo, hs⟩ := r
    exact ⟨todo, by rw [Frame.atR_of_none hro]; exact stepsIn_wide.2 hs⟩
  | outgrown => exact r
def OnlyN (Q : Exit → Act → World → Prop) : Exit → Act → World → Prop
  | .normal, a, w => Q .normal a w
  | _, _, _ => False
theorem wpIn_of_wpN {n : Nat} {P : Program} {c : Code} {Q : Exit → Act → World → Prop} {a : Act} {w : World} (h : c.wp P (OnlyN Q) a w) : c.wpIn Fence.wide n P Q a w :=
  wpIn_of_wp (wp_mono h (fun e a w q => by cases e <;> first | exact q | exact q.elim))
end Go.Proofs.Ytlhaefgchmakfaa
