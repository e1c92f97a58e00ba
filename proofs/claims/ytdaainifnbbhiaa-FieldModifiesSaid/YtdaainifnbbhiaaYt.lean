/-
  What a nil space answers.
-/
import Derived.Test.YtdaainifnbbhiaaYs
namespace Go.Proofs.Ytdaainifnbbhiaa
open Go.RowKit Go.Lib Go.Deep

section
variable {F : Fence} {n : Nat} {P : Program}
/-- A loop over an iterator that tells nothing. -/
theorem rangeFunc_none {α : Type} {g : Operand} {ps : Array Tmp} {assign body : Code} {Q : Exit → Act → World → Prop} {a : Act} {w : World}
    (hro : F.round = none) (h1 : 1 ≤ n) {gf : Nat} {lb : Array Value} (hg : a.eval g = .func (.func gf) #[] lb) (hFg : F.fn gf) (eg : ∀ args w, (callFunc gf args).run P w = .ok (.enter gf args) w)
    {encs : α → Array Value} (hps : ∀ x, (encs x).size = ps.size) {R : World → Prop} (J : World → Prop) (hJ : Abides w.heap.size J) (hR : ∀ V, J V → R V) (h0 : J w)
    (hiter : ∀ W, SeqF F (n - 1) P gf lb encs (fun _ _ _ => False) 0 R W)
    (hdone : ∀ (D : Nat) (W : World), w.heap.size ≤ D → J W → W.heap[D]? = some (.deferred (some [])) → Q .normal { a with defers := { target := .collected D, args := #[] } :: a.defers } W) :
    (Code.rangeFunc g ps assign body).wpIn F n P Q a w :=
  rangeFunc_seq hro h1 hg hFg eg hps (fun _ _ => J) (fun _ _ _ _ => False) (fun _ _ => hJ) (fun _ _ _ _ _ _ h => h.elim) (fun _ _ V h => hR V h) h0 (fun _ _ _ _ _ => False) (fun _ _ _ _ _ _ _ h => h.elim)
    (fun _ _ _ _ _ _ h => absurd h (Nat.not_lt_zero _)) (fun _ _ _ _ _ _ h => absurd h (Nat.not_lt_zero _)) (fun _ _ _ _ => hiter _) (fun D _ W hD h hK => hdone D W hD h hK) (fun _ _ _ _ _ _ h => absurd h (Nat.not_lt_zero _))
end
set_option maxRecDepth 100000 in
set_option maxHeartbeats 4000000 in
theorem all_nil (w : World) : Calls Try.prog 74 #[.pointer none] w fun e w' => ∃ bx, e = .returned (.func (.func 94) #[] #[.pointer (some ⟨bx, 0, none⟩)]) ∧ w.heap.size ≤ bx ∧ w'.cell? ⟨bx, 0, none⟩ = some (.pointer none) ∧ Below w.heap.size w w' := by
  go_enter Try.func74, Try.ntmps74
  go_wp2
  go_ret
  exact ⟨w.heap.size, rfl, Nat.le_refl _, by simp [go_sem], (Below.refl _ _).al (Nat.le_refl _) _⟩
set_option maxRecDepth 100000 in
set_option maxHeartbeats 4000000 in
theorem attrsIt_nil (w : World) : Calls Try.prog 73 #[.pointer none] w fun e w' => ∃ bx, e = .returned (.func (.func 93) #[] #[.pointer (some ⟨bx, 0, none⟩)]) ∧ w.heap.size ≤ bx ∧ w'.cell? ⟨bx, 0, none⟩ = some (.pointer none) ∧ Below w.heap.size w w' := by
  go_enter Try.func73, Try.ntmps73
  go_wp2
  go_ret
  exact ⟨w.heap.size, rfl, Nat.le_refl _, by simp [go_sem], (Below.refl _ _).al (Nat.le_refl _) _⟩
set_option maxRecDepth 100000 in
set_option maxHeartbeats 4000000 in
theorem smodel_nil (w : World) : Calls Try.prog 25 #[.pointer none] w fun e w' => e = .returned (.int .i64 0) ∧ Below w.heap.size w w' := by
  go_enter Try.func25, Try.ntmps25
  go_wp2
  go_ret
  exact ⟨rfl, Below.refl _ _⟩
set_option maxRecDepth 100000 in
set_option maxHeartbeats 4000000 in
theorem cursor_nil (w : World) : Calls Try.prog 17 #[.pointer none] w fun e w' => e = .returned (.int .i64 0) ∧ Below w.heap.size w w' := by
  go_enter Try.func17, Try.ntmps17
  go_wp2
  go_ret
  exact ⟨rfl, Below.refl _ _⟩
set_option maxRecDepth 100000 in
set_option maxHeartbeats 4000000 in
theorem alternate_nil (w : World) : Calls Try.prog 26 #[.pointer none] w fun e w' => e = .returned (.bool false) ∧ Below w.heap.size w w' := by
  go_enter Try.func26, Try.ntmps26
  go_wp2
  go_ret
  exact ⟨rfl, Below.refl _ _⟩
set_option maxRecDepth 100000 in
set_option maxHeartbeats 4000000 in
theorem copy_nil (w : World) : Calls Try.prog 28 #[.pointer none] w fun e w' => e = .returned (.pointer none) ∧ Below w.heap.size w w' := by
  go_enter Try.func28, Try.ntmps28
  go_wp2
  go_ret
  exact ⟨rfl, Below.refl _ _⟩
set_option maxRecDepth 100000 in
set_option maxHeartbeats 4000000 in
theorem size_nil (w : World) : Calls Try.prog 24 #[.pointer none] w fun e w' => e = .returned (sizeV 0 0) ∧ Below w.heap.size w w' := by
  go_enter Try.func24, Try.ntmps24
  go_wp2
  exact bodyPost_ret (v := sizeV 0 0) (by simp [results, Try.results24, go_sem]) rfl ⟨rfl, (Below.refl _ _).al (Nat.le_refl _) _⟩
set_option maxRecDepth 100000 in
set_option maxHeartbeats 4000000 in
theorem at_nil (n : Int) (w : World) : Calls Try.prog 15 #[.pointer none, .int .i64 n] w fun e w' => e = .returned cel0.v ∧ Below w.heap.size w w' := by
  go_enter Try.func15, Try.ntmps15
  go_wp2
  exact bodyPost_ret (v := cel0.v) (by simp [results, Try.results15, go_sem, cel0]) rfl ⟨rfl, (Below.refl _ _).al (Nat.le_refl _) _⟩
set_option maxRecDepth 100000 in
set_option maxHeartbeats 4000000 in
theorem set_nil (n : Int) (c : Cel) (w : World) : Calls Try.prog 19 #[.pointer none, .int .i64 n, c.v] w fun e w' => (∃ v, e = .returned v) ∧ Below w.heap.size w w' := by
  obtain ⟨x0, x1, x2, x3, x4, x5⟩ := c
  go_enter Try.func19, Try.ntmps19
  go_wp2
  exact bodyPost_ret (results_none rfl _ _ _) rfl ⟨⟨_, rfl⟩, (Below.refl _ _).al (Nat.le_refl _) _⟩
set_option maxRecDepth 100000 in
set_option maxHeartbeats 4000000 in
theorem place_nil (n : Int) (w : World) : Calls Try.prog 21 #[.pointer none, .int .i64 n] w fun e w' => (∃ v, e = .returned v) ∧ Below w.heap.size w w' := by
  go_enter Try.func21, Try.ntmps21
  go_wp2
  go_end0
  exact ⟨⟨_, rfl⟩, Below.refl _ _⟩
set_option maxRecDepth 100000 in
set_option maxHeartbeats 4000000 in
theorem clear_nil (al : Bool) (w : World) : Calls Try.prog 22 #[.pointer none, .bool al] w fun e w' => (∃ v, e = .returned v) ∧ Below w.heap.size w w' := by
  go_enter Try.func22, Try.ntmps22
  go_wp2
  exact bodyPost_ret (results_none rfl _ _ _) rfl ⟨⟨_, rfl⟩, Below.refl _ _⟩
set_option maxRecDepth 100000 in
set_option maxHeartbeats 4000000 in
theorem put_nil (n : Int) (k : Int) (w : World) : Calls Try.prog 20 #[.pointer none, .int .i64 n, .int .u8 k] w fun e w' => (∃ v, e = .returned v) ∧ Below w.heap.size w w' := by
  have HA := hid (fun W => at_nil n W)
  have HS := hid (fun W => (show Calls Try.prog 19 #[.pointer none, .int .i64 n, .agg #[.int .u8 k, .bool false, .int .u8 0, .int .u8 0, .int .u8 0, .int .u8 0]] W _ from set_nil n ⟨k, false, 0, 0, 0, 0⟩ W))
  go_enter Try.func20, Try.ntmps20
  go_wp2_with fail
  with_reducible refine (HA.out _).mono ?_
  rintro e w1 ⟨rfl, hb1⟩
  have HB1 := hid hb1
  clear hb1
  rw [show cel0.v = .agg #[.int .u8 0, .bool false, .int .u8 0, .int .u8 0, .int .u8 0, .int .u8 0] from rfl]
  go_wp2_with fail
  with_reducible refine (HS.out _).mono ?_
  rintro e w2 ⟨⟨v, rfl⟩, hb2⟩
  have HB2 := hid hb2
  clear hb2
  go_wp2
  go_end0
  refine ⟨⟨_, rfl⟩, ?_⟩
  exact below_t (below_t HB1.out ((Below.refl _ _).al (Nat.le_refl _) _)) HB2.out
def RN (bx : Nat) (V : World) : Prop := V.cell? ⟨bx, 0, none⟩ = some (.pointer none)
set_option maxRecDepth 100000 in
set_option maxHeartbeats 4000000 in
theorem all_nil_seq (n : Nat) (_hn : 1 ≤ n) (bx : Nat) (W : World) : SeqF Fence.wide n Try.prog 94 #[.pointer (some ⟨bx, 0, none⟩)] encA (fun _ _ _ => False) 0 (RN bx) W := fun l I Ix _ _ hR h0 hY => by
  have hb : W.cell? ⟨bx, 0, none⟩ = some (.pointer none) := hR _ _ _ h0
  have hlt : bx < W.heap.size := World.block_lt_of_cell? W _ hb
  have H0 := hid h0
  clear hY hR h0
  refine callsIn_of_wp Try.func94 rfl trivial ?_ rfl
  simp only [Try.ntmps94, List.size_toArray, List.length_cons, List.length_nil, Nat.reduceAdd, Nat.reduceSub, Array.replicate_succ, Array.replicate_zero, List.push_toArray, List.append_toArray, List.nil_append, List.cons_append]
  gi_wp2
  refine bodyPost_ret (results_none rfl _ _ _) rfl ?_
  exact ⟨⟨_, rfl⟩, .inl ⟨_, H0.out⟩⟩
set_option maxRecDepth 100000 in
set_option maxHeartbeats 4000000 in
theorem attrs_nil_seq (n : Nat) (hn : 4 ≤ n) (bx : Nat) (W : World) : SeqF Fence.wide n Try.prog 93 #[.pointer (some ⟨bx, 0, none⟩)] encI (fun _ _ _ => False) 0 (RN bx) W := fun l I Ix hI hIx hR h0 hY => by
  have hb : W.cell? ⟨bx, 0, none⟩ = some (.pointer none) := hR _ _ _ h0
  have hlt : bx < W.heap.size := World.block_lt_of_cell? W _ hb
  have H0 := hid h0
  clear hY hR h0
  refine callsIn_of_wp_marks Try.func93 rfl trivial ?_ rfl
  simp only [Try.ntmps93, List.size_toArray, List.length_cons, List.length_nil, Nat.reduceAdd, Nat.reduceSub, Array.replicate_succ, Array.replicate_zero, List.push_toArray, List.append_toArray, List.nil_append, List.cons_append]
  gi_wp2
  refine ⟨trivial, fun _ => (by omega), ?_⟩
  refine (callsIn_wide.2 (all_nil _)).mono ?_
  rintro e w1 ⟨bs, rfl, hbs, hcs, hb1⟩
  have hg1 : Grow W.heap.size W w1 := (Grow.alloc W _ _).trans (Grow.below hb1 _)
  have hz1 : W.heap.size ≤ w1.heap.size := hg1.size
  have HI0 := hid (show I 0 [] w1 ∧ RN bs w1 from ⟨hI _ _ _ _ hg1 H0.out, hcs⟩)
  clear hb1 hg1 hcs hbs hb hlt
  gi_wp2
  refine rangeFunc_none (n := n) (w := w1) rfl (by omega) (gf := 94) (lb := #[.pointer (some ⟨bs, 0, none⟩)]) rfl trivial (enters_of Try.func94 (by kernel_rfl) rfl)
    (encs := encA) (fun _ => rfl) (R := RN bs) (fun V => I 0 [] V ∧ RN bs V) (fun A C hg h => ⟨hI _ _ _ _ (hg.mono hz1) h.1, cell_grow hg h.2⟩) (fun V h => h.2) HI0.out (fun V => all_nil_seq (n - 1) (by omega) bs V) ?done
  case done =>
    rintro D V hD hi hK
    have HK := hid hK
    have HI := hid hi
    clear hi hK
    gi_wp2
    refine ⟨by simp, .inl ⟨_, _, rfl, run_takeDeferred HK.out, ?_⟩⟩
    exact ⟨_, results_none rfl _ _ _, ⟨_, rfl⟩, .inl ⟨[], hI _ _ _ _ (Grow.put _ (by omega) HK.out rfl) HI.out.1⟩⟩
set_option maxRecDepth 100000 in
set_option maxHeartbeats 4000000 in
theorem cells_nil (n : Nat) (hn : 6 ≤ n) (K : Int) (w : World) :
    CallsIn Fence.wide n Try.prog 23 #[.pointer none, .int .i64 K] w fun e w' => e = .returned (.slice none 0 0) ∧ Below w.heap.size w w' := by
  refine callsIn_of_wp_marks Try.func23 rfl trivial ?_ rfl
  simp only [Try.ntmps23, List.size_toArray, List.length_cons, List.length_nil, Nat.reduceAdd, Nat.reduceSub, Array.replicate_succ, Array.replicate_zero, List.push_toArray, List.append_toArray, List.nil_append, List.cons_append]
  gi_wp2
  refine ⟨trivial, fun _ => (by omega), ?_⟩
  refine (callsIn_wide.2 (all_nil _)).mono ?_
  obtain ⟨w0, hw0⟩ : ∃ w0, w.alloc (.cells #[.int .i64 K] 3) = w0 := ⟨_, rfl⟩
  have hz : w0.heap.size = w.heap.size + 1 := by rw [← hw0]; simp
  have hb0 : Below w.heap.size w w0 := by rw [← hw0]; exact bal (Below.refl _ _) _
  rw [hw0]
  rintro e w1 ⟨bs, rfl, hbs, hcs, hb1⟩
  have o1 : w1.cell? ⟨w.heap.size + 1, 0, none⟩ = some (.slice none 0 0) := keepc hb1 (by rw [← hz]; simp [go_sem])
  have hb2 : Below w0.heap.size w0 w1 := (bal (Below.refl _ w0) _).trans (hb1.mono (by simp))
  have HI0 := hid (show RN bs w1 ∧ w1.cell? ⟨w.heap.size + 1, 0, none⟩ = some (.slice none 0 0) ∧ Below w.heap.size w w1 from ⟨hcs, o1, hb0.trans (hb2.mono hb0.size)⟩)
  have hlz : w.heap.size ≤ w1.heap.size := HI0.out.2.2.size
  clear hb1 hb2 hb0 hcs o1 hw0 hz
  gi_wp2
  refine rangeFunc_none (n := n) (w := w1) rfl (by omega) (gf := 94) (lb := #[.pointer (some ⟨bs, 0, none⟩)]) rfl trivial (enters_of Try.func94 (by kernel_rfl) rfl)
    (encs := encA) (fun _ => rfl) (R := RN bs) (fun V => RN bs V ∧ V.cell? ⟨w.heap.size + 1, 0, none⟩ = some (.slice none 0 0) ∧ Below w.heap.size w V) (fun A C hg h => ⟨cell_grow hg h.1, cell_grow hg h.2.1, below_grow h.2.2 hg hlz (Nat.le_refl _)⟩) (fun V h => h.1) HI0.out (fun V => all_nil_seq (n - 1) (by omega) bs V) ?done
  case done =>
    rintro D V hD ⟨_, h2, h3⟩ hK
    have hlt := World.block_lt_of_cell? V _ h2
    have HK := hid hK
    have HB := hid h3
    clear hK h3
    gi_wp2
    refine ⟨by simp, .inl ⟨_, _, rfl, run_takeDeferred HK.out, ?_⟩⟩
    have hg := Grow.put (m := w1.heap.size) (.deferred none) hD HK.out rfl
    exact ⟨.slice none 0 0, by simp [results, Try.f23, go_sem], rfl, below_grow HB.out hg hlz (Nat.le_refl _)⟩
section
attribute [local go_sem] Oper.semAt_some
set_option maxRecDepth 100000 in
set_option maxHeartbeats 4000000 in
theorem formatted_nil (n : Nat) (hn : 6 ≤ n) (w : World) :
    CallsIn Fence.wide n Try.prog 27 #[.pointer none] w fun e w' => e = .returned (.bool false) ∧ Below w.heap.size w w' := by
  refine callsIn_of_wp_marks Try.func27 rfl trivial ?_ rfl
  simp only [Try.ntmps27, List.size_toArray, List.length_cons, List.length_nil, Nat.reduceAdd, Nat.reduceSub, Array.replicate_succ, Array.replicate_zero, List.push_toArray, List.append_toArray, List.nil_append, List.cons_append]
  gi_wp2
  refine ⟨trivial, fun _ => (by omega), ?_⟩
  refine (callsIn_wide.2 (attrsIt_nil _)).mono ?_
  rintro e w1 ⟨bs, rfl, hbs, hcs, hb1⟩
  have o1 : w1.cell? ⟨w.heap.size, 0, none⟩ = some (.bool false) := keepc hb1 (by simp [go_sem])
  have f1 : w1.frozen? ⟨w.heap.size, 0, none⟩ = false := (hb1.frozen (p := ⟨w.heap.size, 0, none⟩) (by simp)).trans (by simp [go_sem])
  have hb2 : Below w.heap.size w w1 := blw hb1
  have HI0 := hid (show RN bs w1 ∧ w1.cell? ⟨w.heap.size, 0, none⟩ = some (.bool false) ∧ w1.frozen? ⟨w.heap.size, 0, none⟩ = false ∧ Below w.heap.size w w1 from ⟨hcs, o1, f1, hb2⟩)
  have hlz : w.heap.size ≤ w1.heap.size := hb2.size
  have hlz' : w.heap.size + 1 ≤ w1.heap.size := by have := hb1.size; simp at this; omega
  clear hb1 hb2 hcs o1 f1
  gi_wp2
  refine rangeFunc_none (n := n) (w := w1) rfl (by omega) (gf := 93) (lb := #[.pointer (some ⟨bs, 0, none⟩)]) rfl trivial (enters_of Try.func93 (by kernel_rfl) rfl)
    (encs := encI) (fun _ => rfl) (R := RN bs) (fun V => RN bs V ∧ V.cell? ⟨w.heap.size, 0, none⟩ = some (.bool false) ∧ V.frozen? ⟨w.heap.size, 0, none⟩ = false ∧ Below w.heap.size w V) (fun A C hg h => ⟨cell_grow hg h.1, cell_grow hg h.2.1, frozen_grow hg h.2.1 h.2.2.1, below_grow h.2.2.2 hg hlz (Nat.le_refl _)⟩) (fun V h => h.1) HI0.out (fun V => attrs_nil_seq (n - 1) (by omega) bs V) ?done
  case done =>
    rintro D V hD ⟨_, h2, h3, h4⟩ hK
    have hlt := World.block_lt_of_cell? V _ h2
    have HK := hid hK
    have HB := hid h4
    clear hK h4
    gi_wp2
    refine ⟨by simp, .inl ⟨_, _, rfl, run_takeDeferred ((Go.heap_setCell_other V ⟨w.heap.size, 0, none⟩ D _ (by simp; omega)).trans HK.out), ?_⟩⟩
    have e1 : (V.setCell ⟨w.heap.size, 0, none⟩ (.bool false)).heap[D]? = V.heap[D]? := Go.heap_setCell_other V _ D _ (by simp; omega)
    have hg := Grow.put (m := w1.heap.size) (.deferred none) hD (e1.trans HK.out) rfl
    have e2 := cell_grow hg (sc_same (v := .bool false) h2)
    exact ⟨.bool false, by simp [results, Try.f27, go_sem, e2], rfl, below_grow (HB.out.sc _ _ _ (Nat.le_refl _)) hg hlz (Nat.le_refl _)⟩
end
end Go.Proofs.Ytdaainifnbbhiaa
