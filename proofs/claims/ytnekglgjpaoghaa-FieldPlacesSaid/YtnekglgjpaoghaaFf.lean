/-
  The law's example; a space that is the document's.
  SpacePlays: the law's own walk.
  A copy; two that are the same; what a nil space answers.
  SpaceRound: the law's own walk.
  What a nil space answers.
  What differs from a nil space: nothing. A plain walk inside the widest fence.
  SpaceTold: the law's own walk.
-/
import Derived.Test.YtnekglgjpaoghaaFe
import Derived.Lib.LazyBuf
namespace Go.Proofs.Ytnekglgjpaoghaa
open Go.RowKit Go.Lib Go.Deep

theorem fld0 (x y : Int) (w : World) : (Instr.field 74 (.agg #[.int .i64 x, .int .i64 y]) 0).run Try.prog w = .ok (.int .i64 x) w := by kernel_rfl
theorem fld1 (x y : Int) (w : World) : (Instr.field 74 (.agg #[.int .i64 x, .int .i64 y]) 1).run Try.prog w = .ok (.int .i64 y) w := by kernel_rfl
theorem cellsV_at : ∀ (L : List Cel) (i j : Nat), i < L.length → j < 6 → (cellsV L)[i * 6 + j]? = (L.getD i cel0).cs[j]?
  | [], i, _, hi, _ => absurd hi (Nat.not_lt_zero i)
  | c :: L, 0, j, _, hj => by
    show (c.cs ++ cellsV L)[0 * 6 + j]? = _
    rw [Nat.zero_mul, Nat.zero_add, List.getElem?_append_left (by simpa [Cel.cs] using hj)]
    rfl
  | c :: L, i + 1, j, hi, hj => by
    show (c.cs ++ cellsV L)[(i + 1) * 6 + j]? = _
    have e : c.cs.length = 6 := rfl
    rw [List.getElem?_append_right (by omega), show (i + 1) * 6 + j - c.cs.length = i * 6 + j by omega, cellsV_at L i j (by simpa using hi) hj]
    rfl
theorem own_below {A B : World} {t : TypeId} {sz n : Nat} {v : Value} {cs : List Value} (h : A.ownsRow 0 t sz v n cs) (hb : Below A.heap.size A B) : B.ownsRow 0 t sz v n cs := own_grow h (Grow.below hb 0)
/-- Of a list of cells, made: what lies there. -/
theorem cells_row {w : World} {v : Value} {L : List Cel} (h : w.ownsRow 0 57 6 v L.length (cellsV L)) (hl : 0 < L.length) : ∃ g c, v = .slice (some ⟨g, 0, none⟩) L.length c ∧ ∀ i, i < L.length → ∀ j, j < 6 → w.cell? ⟨g, i * 6 + j, none⟩ = (L.getD i cel0).cs[j]? := by
  rcases h.2 with ⟨rfl, e⟩ | ⟨g, cap, cur, rfl, hb, hh, h1, h2, h3, h4⟩
  · omega
  · refine ⟨g, cap, rfl, fun i hi j hj => ?_⟩
    rw [World.ownsRow.cellAt h (i * 6 + j) (by omega), cellsV_at L i j hi hj]
/-- slices.Collect over the attributes. -/
theorem collectA (b g : Nat) (s : Spc) (bx : Nat) (w : World) (h : SpM w b g s) (hb : w.cell? ⟨bx, 0, none⟩ = some (.pointer (some ⟨b, 0, none⟩))) : Calls Try.prog 9 #[.func (.func 47) #[] #[.pointer (some ⟨bx, 0, none⟩)]] w (ListD 3 1 (s.iA s.A.length) s.A.length w) := by
  have hN := h.ok.pos.2
  have hA : s.A.length ≤ 3564 := Nat.le_trans (attP_len _ _) hN
  have e1 : s.iA s.A.length = intsV (s.A.map Int.ofNat) := by unfold Spc.iA; rw [List.take_length]
  have e2 : (s.A.map Int.ofNat).length = s.A.length := by simp
  have q := collect_any 47 #[.pointer (some ⟨bx, 0, none⟩)] s.A (by omega) (RP bx b s.L.length s.P) (enters_of Try.func47 (by kernel_rfl) rfl)
    (fun V => attrs_seq 7 (by omega) bx b s.L.length s.P hN V) w (fun V hV => ⟨keepc hV hb, (h.below hV).spP⟩)
  unfold IntsD at q
  rw [e2, ← e1] at q
  exact q
theorem equalA (s : Spc) (hA : s.A.length ≤ 3564) (u v : Value) (w : World) (hu : w.ownsRow 0 3 1 u s.A.length (s.iA s.A.length)) (hv : w.ownsRow 0 3 1 v s.A.length (s.iA s.A.length)) : Calls Try.prog 11 #[u, v] w fun e w' => e = .returned (.bool true) ∧ Below w.heap.size w w' := by
  have e1 : s.iA s.A.length = intsV (s.A.map Int.ofNat) := by unfold Spc.iA; rw [List.take_length]
  have e2 : (s.A.map Int.ofNat).length = s.A.length := by simp
  exact equalI_any u v (s.A.map Int.ofNat) w (by rw [e2, ← e1]; exact hu) (by rw [e2, ← e1]; exact hv) (by omega)
end Go.Proofs.Ytnekglgjpaoghaa
namespace Go.Proofs.Ytnekglgjpaoghaa
open Go.RowKit Go.Lib Go.Deep

/-- What a round begins with: two that are alike, made here. -/
structure Pair (w W : World) (b1 b2 : Nat) (g1 g2 : Nat) (s : Spc) : Prop where
  two : Two W b1 g1 b2 g2 s
  bel : Below w.heap.size w W
  lb : ∀ k ∈ [b1, g1, b2, g2], w.heap.size ≤ k
theorem Pair.below {w A C : World} {b1 b2 g1 g2 : Nat} {s : Spc} (h : Pair w A b1 b2 g1 g2 s) (hb : Below A.heap.size A C) : Pair w C b1 b2 g1 g2 s := ⟨h.two.below hb, below_t h.bel hb, h.lb⟩
theorem Pair.step {w A C : World} {b1 b2 g1 g2 g1' g2' : Nat} {s s' : Spc} (h : Pair w A b1 b2 g1 g2 s) (ht : Two C b1 g1' b2 g2' s') (m : Moved A C [b1, g1, b2, g2] [b1, g1', b2, g2']) : Pair w C b1 b2 g1' g2' s' :=
  ⟨ht, h.bel.trans (m.toBelow h.bel.size h.lb), fun k hk => by
    rcases m.from' k hk with q | q
    · exact h.lb k q
    · exact Nat.le_trans h.bel.size q⟩
theorem Pair.lt {w W : World} {b1 b2 g1 g2 : Nat} {s : Spc} (h : Pair w W b1 b2 g1 g2 s) : ∀ k ∈ [b1, g1, b2, g2], k < W.heap.size := fun k hk => by
  have h1 := h.two.sp.lt
  have h2 := h.two.rf.lt
  simp at hk
  omega
end Go.Proofs.Ytnekglgjpaoghaa
namespace Go.Proofs.Ytnekglgjpaoghaa
open Go.RowKit Go.Lib Go.Deep

theorem cellsV_len (L : List Cel) : (cellsV L).length = L.length * 6 := by
  induction L with
  | nil => rfl
  | cons c L ih =>
    show (c.cs ++ cellsV L).length = _
    rw [List.length_append, ih, List.length_cons]
    show 6 + _ = _
    omega
theorem cellsV_one (L : List Cel) : ∀ u ∈ cellsV L, u.oneCell' = true := fun u hu => by
  obtain ⟨c, _, hc⟩ := List.mem_flatMap.1 hu
  simp only [Cel.cs, List.mem_cons, List.not_mem_nil, or_false] at hc
  rcases hc with rfl | rfl | rfl | rfl | rfl | rfl <;> rfl
theorem cells_src {w : World} {g : Nat} {L : List Cel} (h : CellsM w g L) : ∀ j u, (cellsV L)[j]? = some u → w.cell? ((⟨g, 0, none⟩ : Addr).add j) = some u := fun j u hu => by
  have hj : j < L.length * 6 := by
    have := (List.getElem?_eq_some_iff.1 hu).1
    rwa [cellsV_len] at this
  have e : j = j / 6 * 6 + j % 6 := by omega
  have h6 : j % 6 < 6 := Nat.mod_lt _ (by omega)
  have hq : j / 6 < L.length := by omega
  rw [addr_addS, Nat.zero_add]
  rw [e] at hu ⊢
  rw [cellsV_at L _ _ hq h6] at hu
  rw [h.at_ _ hq _ h6]
  exact hu
/-- Cells that were made are cells that lie there. -/
theorem cells_own {w : World} {b : Nat} {v : Value} {L : List Cel} (h : w.ownsRow b 57 6 v L.length (cellsV L)) (hl : 0 < L.length) : ∃ g ex, v = .slice (some ⟨g, 0, none⟩) L.length (L.length + ex) ∧ b ≤ g ∧ CellsM w g L := by
  have hr := h
  rcases h.2 with ⟨rfl, e⟩ | ⟨g, cap, cur, rfl, hb, hh, h1, h2, h3, h4⟩
  · omega
  · refine ⟨g, cap - L.length, by rw [Nat.add_sub_cancel' h1], hb, fun i hi j hj => ?_, fun o => frozen_of_heap hh, (Array.getElem?_eq_some_iff.1 hh).1⟩
    rw [World.ownsRow.cellAt hr (i * 6 + j) (by omega), cellsV_at L i j hi hj]
def CopyD (s : Spc) (w : World) (e : Ending) (w' : World) : Prop := ∃ b' g' ex, e = .returned (.pointer (some ⟨b', 0, none⟩)) ∧ w.heap.size ≤ b' ∧ w.heap.size ≤ g' ∧ SpM w' b' g' { s with ex := ex } ∧ Below w.heap.size w w'
end Go.Proofs.Ytnekglgjpaoghaa
namespace Go.Proofs.Ytnekglgjpaoghaa
open Go.RowKit Go.Lib Go.Deep

theorem fit_again {c : Cel} (h : (fit c).at_ = false) : fit { fit c with ch := c.ch } = fit c := by
  by_cases hc : c.at_ = true
  · have e : fit c = { c with ch := 0, fa := sixB c.fa } := by unfold fit; rw [if_pos hc]
    rw [e] at h
    exact absurd h (by rw [show ({ c with ch := 0, fa := sixB c.fa } : Cel).at_ = true from hc]; simp)
  · have hc' : c.at_ = false := by simpa using hc
    have e : fit c = { c with fa := 0 } := by unfold fit; rw [if_neg hc]
    rw [e]
    unfold fit
    rw [if_neg (by simp [hc'])]
/-- What a cell's own character does behind the cell: nothing. -/
theorem round_put {s : Spc} (h : s.OK) (far : Int) (c : Cel) (ex : Nat) : ({ ((s.setC far c).place far) with ex := ex } : Spc).putC far c.ch = { ((s.setC far c).place far) with ex := ex } := by
  have hl := h.wr_lt far
  have hwr : ({ ((s.setC far c).place far) with ex := ex } : Spc).wr far = s.wr far := by
    show (far % (((s.setC far c).L.length : Nat) : Int)).toNat = _
    rw [setC_len]
    rfl
  have hat : ({ ((s.setC far c).place far) with ex := ex } : Spc).atC far = fit c := by
    unfold Spc.atC
    rw [hwr]
    show (s.put1 (s.wr far) (fit c)).cel (s.wr far) = _
    rw [Spc.put1_cel, if_pos ⟨rfl, hl⟩]
  unfold Spc.putC
  rw [hat]
  by_cases ha : (fit c).at_ = true
  · rw [if_pos ha]
  · rw [if_neg ha]
    show ({ ((s.setC far c).place far) with ex := ex } : Spc).put1 (({ ((s.setC far c).place far) with ex := ex } : Spc).wr far) (fit { fit c with ch := c.ch }) = _
    rw [hwr, fit_again (by simpa using ha)]
    show ({ ((s.setC far c).place far) with ex := ex, L := ((s.L.set (s.wr far) (fit c))).set (s.wr far) (fit c) } : Spc) = _
    rw [List.set_set]
    rfl
theorem round_at {s : Spc} (h : s.OK) (far n : Int) (c : Cel) (e : s.wr n = s.wr far) : ((s.setC far c).place far).atC n = fit c := by
  have hwr : ((s.setC far c).place far).wr n = s.wr far := by
    rw [← e]
    show (n % (((s.setC far c).L.length : Nat) : Int)).toNat = _
    rw [setC_len]
    rfl
  unfold Spc.atC
  rw [hwr]
  show (s.put1 (s.wr far) (fit c)).cel (s.wr far) = _
  rw [Spc.put1_cel, if_pos ⟨rfl, h.wr_lt far⟩]
end Go.Proofs.Ytnekglgjpaoghaa
namespace Go.Proofs.Ytnekglgjpaoghaa
open Go.RowKit Go.Lib Go.Deep

section
variable {F : Fence} {n : Nat} {P : Program}
/-- A loop over an iterator that tells nothing. -/
theorem rangeFunc_none {α : Type} {g : Operand} {ps : Array Tmp} {assign body : Code} {Q : Exit → Act → World → Prop} {a : Act} {w : World}
    (hro : F.round = none) (h1 : 1 ≤ n) {gf : Nat} {lb : Array Value} (hg : a.eval g = .func (.func gf) #[] lb) (hFg : F.fn gf) (eg : ∀ args w, (callFunc gf args).run P w = .ok (.enter gf args) w)
    {encs : α → Array Value} (hps : ∀ x, (encs x).size = ps.size) {R : World → Prop} (J : World → Prop) (hJ : Abides w.heap.size J) (hR : ∀ V, J V → R V) (h0 : J w)
    (hiter : ∀ W, SeqF F (n - 1) P gf lb encs (fun _ _ _ => False) 0 R W)
    (hdone : ∀ (D : Nat) (W : World), w.heap.size ≤ D → J W → W.heap[D]? = some (.deferred (some [])) → Q .normal { a with defers := { target := .collected D, args := #[] } :: a.defers } W) :
    (Code.rangeFunc g ps assign body).wpIn F n P Q a w :=
  rangeFunc_seq hro h1 hg hFg eg hps (fun _ _ => J) (fun _ _ _ _ => False) (fun _ _ => hJ) (fun _ _ _ _ _ _ h => h.elim) (fun _ _ V h => hR V h) h0 (fun _ _ _ _ _ => False) (fun _ _ _ _ _ _ _ h => h.elim)
    (fun _ _ _ _ _ _ h => absurd h (Nat.not_lt_zero _)) (fun _ _ _ _ _ _ h => absurd h (Nat.not_lt_zero _)) (fun _ _ _ _ => hiter _) (fun D _ W hD h hK => hdone D W hD h hK) (fun _ _ _ _ _ _ h => absurd h (Nat.not_lt_zero _))
end
set_option maxRecDepth 100000 in
set_option maxHeartbeats 4000000 in
theorem all_nil (w : World) : Calls Try.prog 48 #[.pointer none] w fun e w' => ∃ bx, e = .returned (.func (.func 57) #[] #[.pointer (some ⟨bx, 0, none⟩)]) ∧ w.heap.size ≤ bx ∧ w'.cell? ⟨bx, 0, none⟩ = some (.pointer none) ∧ Below w.heap.size w w' := by
  go_enter Try.func48, Try.ntmps48
  go_wp2
  go_ret
  exact ⟨w.heap.size, rfl, Nat.le_refl _, by simp [go_sem], (Below.refl _ _).al (Nat.le_refl _) _⟩
set_option maxRecDepth 100000 in
set_option maxHeartbeats 4000000 in
theorem attrsIt_nil (w : World) : Calls Try.prog 28 #[.pointer none] w fun e w' => ∃ bx, e = .returned (.func (.func 47) #[] #[.pointer (some ⟨bx, 0, none⟩)]) ∧ w.heap.size ≤ bx ∧ w'.cell? ⟨bx, 0, none⟩ = some (.pointer none) ∧ Below w.heap.size w w' := by
  go_enter Try.func28, Try.ntmps28
  go_wp2
  go_ret
  exact ⟨w.heap.size, rfl, Nat.le_refl _, by simp [go_sem], (Below.refl _ _).al (Nat.le_refl _) _⟩
set_option maxRecDepth 100000 in
set_option maxHeartbeats 4000000 in
theorem size_nil (w : World) : Calls Try.prog 33 #[.pointer none] w fun e w' => e = .returned (sizeV 0 0) ∧ Below w.heap.size w w' := by
  go_enter Try.func33, Try.ntmps33
  go_wp2
  exact bodyPost_ret (v := sizeV 0 0) (by simp [results, Try.results33, go_sem]) rfl ⟨rfl, (Below.refl _ _).al (Nat.le_refl _) _⟩
set_option maxRecDepth 100000 in
set_option maxHeartbeats 4000000 in
theorem at_nil (n : Int) (w : World) : Calls Try.prog 36 #[.pointer none, .int .i64 n] w fun e w' => e = .returned cel0.v ∧ Below w.heap.size w w' := by
  go_enter Try.func36, Try.ntmps36
  go_wp2
  exact bodyPost_ret (v := cel0.v) (by simp [results, Try.results36, go_sem, cel0]) rfl ⟨rfl, (Below.refl _ _).al (Nat.le_refl _) _⟩
set_option maxRecDepth 100000 in
set_option maxHeartbeats 4000000 in
theorem set_nil (n : Int) (c : Cel) (w : World) : Calls Try.prog 25 #[.pointer none, .int .i64 n, c.v] w fun e w' => (∃ v, e = .returned v) ∧ Below w.heap.size w w' := by
  obtain ⟨x0, x1, x2, x3, x4, x5⟩ := c
  go_enter Try.func25, Try.ntmps25
  go_wp2
  exact bodyPost_ret (results_none rfl _ _ _) rfl ⟨⟨_, rfl⟩, (Below.refl _ _).al (Nat.le_refl _) _⟩
set_option maxRecDepth 100000 in
set_option maxHeartbeats 4000000 in
theorem place_nil (n : Int) (w : World) : Calls Try.prog 26 #[.pointer none, .int .i64 n] w fun e w' => (∃ v, e = .returned v) ∧ Below w.heap.size w w' := by
  go_enter Try.func26, Try.ntmps26
  go_wp2
  go_end0
  exact ⟨⟨_, rfl⟩, Below.refl _ _⟩
set_option maxRecDepth 100000 in
set_option maxHeartbeats 4000000 in
theorem clear_nil (al : Bool) (w : World) : Calls Try.prog 24 #[.pointer none, .bool al] w fun e w' => (∃ v, e = .returned v) ∧ Below w.heap.size w w' := by
  go_enter Try.func24, Try.ntmps24
  go_wp2
  exact bodyPost_ret (results_none rfl _ _ _) rfl ⟨⟨_, rfl⟩, Below.refl _ _⟩
def RN (bx : Nat) (V : World) : Prop := V.cell? ⟨bx, 0, none⟩ = some (.pointer none)
set_option maxRecDepth 100000 in
set_option maxHeartbeats 4000000 in
theorem all_nil_seq (n : Nat) (_hn : 1 ≤ n) (bx : Nat) (W : World) : SeqF Fence.wide n Try.prog 57 #[.pointer (some ⟨bx, 0, none⟩)] encA (fun _ _ _ => False) 0 (RN bx) W := fun l I Ix _ _ hR h0 hY => by
  have hb : W.cell? ⟨bx, 0, none⟩ = some (.pointer none) := hR _ _ _ h0
  have hlt : bx < W.heap.size := World.block_lt_of_cell? W _ hb
  have H0 := hid h0
  clear hY hR h0
  refine callsIn_of_wp Try.func57 rfl trivial ?_ rfl
  simp only [Try.ntmps57, List.size_toArray, List.length_cons, List.length_nil, Nat.reduceAdd, Nat.reduceSub, Array.replicate_succ, Array.replicate_zero, List.push_toArray, List.append_toArray, List.nil_append, List.cons_append]
  gi_wp2
  refine bodyPost_ret (results_none rfl _ _ _) rfl ?_
  exact ⟨⟨_, rfl⟩, .inl ⟨_, H0.out⟩⟩
set_option maxRecDepth 100000 in
set_option maxHeartbeats 4000000 in
theorem attrs_nil_seq (n : Nat) (hn : 4 ≤ n) (bx : Nat) (W : World) : SeqF Fence.wide n Try.prog 47 #[.pointer (some ⟨bx, 0, none⟩)] encI (fun _ _ _ => False) 0 (RN bx) W := fun l I Ix hI hIx hR h0 hY => by
  have hb : W.cell? ⟨bx, 0, none⟩ = some (.pointer none) := hR _ _ _ h0
  have hlt : bx < W.heap.size := World.block_lt_of_cell? W _ hb
  have H0 := hid h0
  clear hY hR h0
  refine callsIn_of_wp_marks Try.func47 rfl trivial ?_ rfl
  simp only [Try.ntmps47, List.size_toArray, List.length_cons, List.length_nil, Nat.reduceAdd, Nat.reduceSub, Array.replicate_succ, Array.replicate_zero, List.push_toArray, List.append_toArray, List.nil_append, List.cons_append]
  gi_wp2
  refine ⟨trivial, fun _ => (by omega), ?_⟩
  refine (callsIn_wide.2 (all_nil _)).mono ?_
  rintro e w1 ⟨bs, rfl, hbs, hcs, hb1⟩
  have hg1 : Grow W.heap.size W w1 := (Grow.alloc W _ _).trans (Grow.below hb1 _)
  have hz1 : W.heap.size ≤ w1.heap.size := hg1.size
  have HI0 := hid (show I 0 [] w1 ∧ RN bs w1 from ⟨hI _ _ _ _ hg1 H0.out, hcs⟩)
  clear hb1 hg1 hcs hbs hb hlt
  gi_wp2
  refine rangeFunc_none (n := n) (w := w1) rfl (by omega) (gf := 57) (lb := #[.pointer (some ⟨bs, 0, none⟩)]) rfl trivial (enters_of Try.func57 (by kernel_rfl) rfl)
    (encs := encA) (fun _ => rfl) (R := RN bs) (fun V => I 0 [] V ∧ RN bs V) (fun A C hg h => ⟨hI _ _ _ _ (hg.mono hz1) h.1, cell_grow hg h.2⟩) (fun V h => h.2) HI0.out (fun V => all_nil_seq (n - 1) (by omega) bs V) ?done
  case done =>
    rintro D V hD hi hK
    have HK := hid hK
    have HI := hid hi
    clear hi hK
    gi_wp2
    refine ⟨by simp, .inl ⟨_, _, rfl, run_takeDeferred HK.out, ?_⟩⟩
    exact ⟨_, results_none rfl _ _ _, ⟨_, rfl⟩, .inl ⟨[], hI _ _ _ _ (Grow.put _ (by omega) HK.out rfl) HI.out.1⟩⟩
section
attribute [local go_sem] Oper.semAt_some
end
end Go.Proofs.Ytnekglgjpaoghaa
namespace Go.Proofs.Ytnekglgjpaoghaa
open Go.RowKit Go.Lib Go.Deep

/-- The widest fence, no round: a plain walk serves. -/
theorem wpIn_of_wp {n : Nat} {P : Program} {c : Code} {Q : Exit → Act → World → Prop} {a : Act} {w : World} (h : c.wp P Q a w) : c.wpIn Fence.wide n P Q a w := fun b k cs hro _ _ => by
  have hro : b.roundOf = none := hro
  obtain ⟨e, a', w', q, r⟩ := h b k cs
  refine ⟨e, a', w', q, ?_⟩
  rw [Frame.atR_of_none hro]
  cases e with
  | normal => show StepsIn _ _ _ _; rw [Frame.atR_of_none hro]; exact stepsIn_wide.2 r
  | exit id => exact ⟨fun k' hk => by rw [Frame.atR_of_none hro]; exact stepsIn_wide.2 (r k' hk), fun h => by rw [hro] at h; cases h⟩
  | goto l => exact ⟨fun k' hk => by rw [Frame.atR_of_none hro]; exact stepsIn_wide.2 (r k' hk), fun h => by rw [hro] at h; cases h⟩
  | ret =>
    obtain ⟨todo, hs⟩ := r
    exact ⟨fun _ => ⟨todo, by rw [Frame.atR_of_none hro]; exact stepsIn_wide.2 hs⟩, fun h => by rw [hro] at h; cases h⟩
  | panic chain =>
    obtain ⟨todo, hs⟩ := r
    exact ⟨todo, by rw [Frame.atR_of_none hro]; exact stepsIn_wide.2 hs⟩
  | outgrown => exact r
def OnlyN (Q : Exit → Act → World → Prop) : Exit → Act → World → Prop
  | .normal, a, w => Q .normal a w
  | _, _, _ => False
theorem wpIn_of_wpN {n : Nat} {P : Program} {c : Code} {Q : Exit → Act → World → Prop} {a : Act} {w : World} (h : c.wp P (OnlyN Q) a w) : c.wpIn Fence.wide n P Q a w :=
  wpIn_of_wp (wp_mono h (fun e a w q => by cases e <;> first | exact q | exact q.elim))
end Go.Proofs.Ytnekglgjpaoghaa
namespace Go.Proofs.Ytnekglgjpaoghaa
open Go.RowKit Go.Lib Go.Deep

/-- A part of a list of cells, at its head. -/
theorem take_at {g : Nat} {L : List Cel} {w : World} (h : CellsM w g L) (KS : Nat) : ∀ i, i < (L.take KS).length → ∀ j, j < 6 → w.cell? ⟨g, i * 6 + j, none⟩ = ((L.take KS).getD i cel0).cs[j]? := fun i hi j hj => by
  have h1 : i < L.length := by rw [List.length_take] at hi; omega
  have h2 : i < KS := by rw [List.length_take] at hi; omega
  rw [h.at_ i h1 j hj]
  congr 2
  simp [List.getD, h2]
/-- Ints that are the same, at the head of a list. -/
theorem equalI_pre (u : Value) (ga c : Nat) (xs ys : List Int) (w : World) (hu : w.ownsRow 0 3 1 u xs.length (intsV xs)) (hy : ∀ i, i < ys.length → w.cell? ⟨ga, 0 + i, none⟩ = some (.int .i64 (ys.getD i 0))) (hp : ∀ i, i < xs.length → xs.getD i 0 = ys.getD i 0) (hl : xs.length ≤ ys.length) (hm : ys.length ≤ 1000000) : Calls Try.prog 11 #[u, .slice (some ⟨ga, 0, none⟩) xs.length c] w fun e w' => e = .returned (.bool true) ∧ Below w.heap.size w w' := by
  rcases ints_cells hu with ⟨x, d, rfl, rfl⟩ | ⟨g, d, rfl, hc⟩
  · exact equalI_nil x _ d c w
  · exact equalI_row g 0 ga 0 xs.length d c xs rfl (by omega) w hc (fun i hi => by rw [hy i (by omega), hp i hi])
end Go.Proofs.Ytnekglgjpaoghaa
