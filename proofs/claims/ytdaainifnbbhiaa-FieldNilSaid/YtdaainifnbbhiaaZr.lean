/-
  FieldNil: the law's own walk.
-/
import Derived.Test.YtdaainifnbbhiaaZq
namespace Go.Proofs.Ytdaainifnbbhiaa
open Go.RowKit Go.Lib Go.Deep

/-- What is kept between two calls. -/
structure NilK (w V : World) : Prop where
  bel : Below w.heap.size w V
  cell : V.cell? ⟨w.heap.size, 0, none⟩ = some (.bool false)
  fr : V.frozen? ⟨w.heap.size, 0, none⟩ = false
theorem NilK.lt {w V : World} (h : NilK w V) : w.heap.size < V.heap.size := World.block_lt_of_cell? V _ h.cell
theorem NilK.below {w A C : World} (h : NilK w A) (hb : Below A.heap.size A C) : NilK w C := ⟨below_t h.bel hb, keepc hb h.cell, (hb.frozen (p := ⟨w.heap.size, 0, none⟩) h.lt).trans h.fr⟩
theorem NilK.grow {w A C : World} {m : Nat} (h : NilK w A) (hg : Grow m A C) (hm : w.heap.size ≤ m) : NilK w C := ⟨below_grow h.bel hg hm (Nat.le_refl _), cell_grow hg h.cell, frozen_grow hg h.cell h.fr⟩
structure NilD (w V : World) (D : Nat) : Prop where
  k : NilK w V
  d : V.heap[D]? = some (.deferred (some []))
theorem NilD.below {w A C : World} {D : Nat} (h : NilD w A D) (hb : Below A.heap.size A C) : NilD w C D := ⟨h.k.below hb, (hb.block _ (Array.getElem?_eq_some_iff.1 h.d).1).trans h.d⟩
set_option maxRecDepth 100000 in
set_option maxHeartbeats 8000000 in
theorem nil_in (m : Nat) (hm : 12 ≤ m) (nz : Int) (w : World) : CallsIn Fence.wide m Try.prog 10 #[.int .i64 nz] w fun e w' => e = .returned (.bool true) ∧ Below w.heap.size w w' := by
  refine callsIn_of_wp_marks Try.func10 rfl trivial ?_ rfl
  simp only [Try.ntmps10, List.size_toArray, List.length_cons, List.length_nil, Nat.reduceAdd, Nat.reduceSub, Array.replicate_succ, Array.replicate_zero, List.push_toArray, List.append_toArray, List.nil_append, List.cons_append]
  gi_wp2
  obtain ⟨w0, hw0⟩ : ∃ w0, w.alloc (.cells #[.bool false] 4) = w0 := ⟨_, rfl⟩
  have H0 := hid (show NilK w w0 from ⟨by rw [← hw0]; exact bal (Below.refl _ _) _, by rw [← hw0]; simp [go_sem], by rw [← hw0]; simp [go_sem]⟩)
  simp only [hw0]
  clear hw0
  refine ⟨trivial, fun _ => (by omega), ?_⟩
  refine (callsIn_wide.2 (awake13 _)).mono ?_
  rintro e w1 ⟨rfl, hb1⟩
  have H1 := hid (H0.out.below hb1)
  clear hb1 H0
  gi_wp2
  refine ⟨trivial, fun _ => (by omega), ?_⟩
  refine (callsIn_wide.2 (fof_nil nz _)).mono ?_
  rintro e w2 ⟨rfl, hb2⟩
  have H2 := hid (H1.out.below hb2)
  clear hb2 H1
  gi_wp2
  obtain ⟨w3, hw3⟩ : ∃ w3, w2.alloc (.cells #[.bool false, .bool false, .int .i64 0, .bool false] 70) = w3 := ⟨_, rfl⟩
  have H3 := hid (show NilK w w3 from H2.out.below (by rw [← hw3]; exact bal (Below.refl _ _) _))
  simp only [hw3]
  clear hw3
  refine ⟨trivial, fun _ => (by omega), ?_⟩
  refine (callsIn_wide.2 (callsIn_wide.1 (unmod_nil 8 (by omega) _))).mono ?_
  rintro e w4 ⟨⟨v4, rfl⟩, hb4⟩
  have H4 := hid (H3.out.below hb4)
  clear hb4 H3 H2
  gi_wp2
  refine ⟨trivial, fun _ => (by omega), ?_⟩
  refine (callsIn_wide.2 (fieldsIt none _)).mono ?_
  rintro e w5 ⟨bs, rfl, hbs, hcs, hb5⟩
  have H5 := hid (show RN bs w5 ∧ NilK w w5 from ⟨hcs, H4.out.below hb5⟩)
  have hlz : w.heap.size ≤ w5.heap.size := H5.out.2.bel.size
  have hlz' : w.heap.size + 1 ≤ w5.heap.size := H5.out.2.lt
  clear hb5 hbs hcs H4
  gi_wp2
  refine rangeFunc_none (n := m) (w := w5) rfl (by omega) (gf := 81) (lb := #[.pointer (some ⟨bs, 0, none⟩)]) rfl trivial (enters_of Try.func81 (by kernel_rfl) rfl)
    (encs := encF) (fun _ => rfl) (R := RN bs) (fun V => RN bs V ∧ NilK w V) (fun A C hg h => ⟨cell_grow hg h.1, h.2.grow hg hlz⟩) (fun V h => h.1) H5.out (fun V => fields_nil_seq (m - 1) (by omega) bs V) ?done
  case done =>
    rintro D V hD hi hK
    have HD0 := hid (show NilD w V D from ⟨hi.2, hK⟩)
    clear hi hK H5
    gi_wp2
    refine ⟨trivial, fun _ => (by omega), ?_⟩
    refine (callsIn_wide.2 (start_nil nz _)).mono ?_
    rintro e v1 ⟨rfl, hb1⟩
    have HD1 := hid (HD0.out.below hb1)
    clear hb1 HD0
    gi_wp2
    refine ⟨trivial, fun _ => (by omega), ?_⟩
    refine (callsIn_wide.2 (callsIn_wide.1 (length_nil 8 (by omega) nz _))).mono ?_
    rintro e v2 ⟨rfl, hb2⟩
    have HD2 := hid (HD1.out.below hb2)
    clear hb2 HD1
    gi_wp2
    refine ⟨trivial, fun _ => (by omega), ?_⟩
    refine (callsIn_wide.2 (next_nil nz _)).mono ?_
    rintro e v3 ⟨rfl, hb3⟩
    have HD3 := hid (HD2.out.below hb3)
    clear hb3 HD2
    gi_wp2
    refine ⟨trivial, fun _ => (by omega), ?_⟩
    refine (callsIn_wide.2 (prev_nil nz _)).mono ?_
    rintro e v4 ⟨rfl, hb4⟩
    have HD4 := hid (HD3.out.below hb4)
    clear hb4 HD3
    gi_wp2
    refine ⟨trivial, fun _ => (by omega), ?_⟩
    refine (callsIn_wide.2 (modify_nil nz _)).mono ?_
    rintro e v5 ⟨rfl, hb5⟩
    have HD5 := hid (HD4.out.below hb5)
    clear hb5 HD4
    gi_wp2
    refine ⟨trivial, fun _ => (by omega), ?_⟩
    refine (callsIn_wide.2 (modifiedIt none _)).mono ?_
    rintro e v6 ⟨bm, rfl, hbm, hcm, hb6⟩
    have HD6 := hid (HD5.out.below hb6)
    have HCM := hid hcm
    clear hcm hbm
    clear hb6 HD5
    gi_wp2
    refine ⟨trivial, fun _ => (by omega), ?_⟩
    refine (callsIn_wide.2 (collectM_nil bm _ HCM.out)).mono ?_
    rintro e v7 ⟨⟨xm, cm, rfl⟩, hb7⟩
    have HD7 := hid (HD6.out.below hb7)
    clear hb7 HD6
    gi_wp2
    refine ⟨trivial, fun _ => (by omega), ?_⟩
    refine (callsIn_wide.2 (open_nil nz _)).mono ?_
    rintro e v8 ⟨rfl, hb8⟩
    have HD8 := hid (HD7.out.below hb8)
    clear hb8 HD7
    gi_wp2
    refine ⟨trivial, fun _ => (by omega), ?_⟩
    refine (callsIn_wide.2 (callsIn_wide.1 (text_nil 8 (by omega) nz _))).mono ?_
    rintro e v9 ⟨rfl, hb9⟩
    have HD9 := hid (HD8.out.below hb9)
    clear hb9 HD8
    gi_wp2
    refine ⟨trivial, fun _ => (by omega), ?_⟩
    refine (callsIn_wide.2 (callsIn_wide.1 (unprot_nil 8 (by omega) _))).mono ?_
    rintro e v10 ⟨rfl, hb10⟩
    have HD10 := hid (HD9.out.below hb10)
    clear hb10 HD9
    have ho := HD10.out.k.cell
    have hf := HD10.out.k.fr
    have hlo := HD10.out.k.lt
    gi_wp2
    have e1 : (v10.setCell ⟨w.heap.size, 0, none⟩ (.bool true)).heap[D]? = v10.heap[D]? := Go.heap_setCell_other v10 _ D _ (by simp; omega)
    refine ⟨by simp, .inl ⟨_, _, rfl, run_takeDeferred (e1.trans HD10.out.d), ?_⟩⟩
    have hg := Grow.put (m := w5.heap.size) (.deferred none) hD (e1.trans HD10.out.d) rfl
    have e2 := cell_grow hg (sc_same (v := .bool true) ho)
    exact ⟨.bool true, by simp [results, Try.f10, go_sem, e2], rfl, below_grow (HD10.out.k.bel.sc _ _ _ (Nat.le_refl _)) hg hlz (Nat.le_refl _)⟩
theorem fieldNil_any (nz : Int) (w : World) : Calls Try.prog 10 #[.int .i64 nz] w fun e w' => e = .returned (.bool true) ∧ Below w.heap.size w w' := callsIn_wide.1 (nil_in 12 (by omega) nz w)
end Go.Proofs.Ytdaainifnbbhiaa
