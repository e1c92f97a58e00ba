/-
  awake.
-/
import Derived.Test.YtdbjjieoohfckaaDoorGe
import Derived.Lib.SlBytesConst
namespace Go.Proofs.YtdbjjieoohfckaaDoor
open Go.RowKit Go.Lib

theorem emit_a : mergeL (emit .between [97, 255, 255, 98]) = [dat [97, 255, 98]] := by
  simp [emit, stepS, iacS, mergeL, mstep, addD, dat]
theorem emit_b : mergeL (emit .between [255, 250, 24, 1, 255, 240]) = [⟨3, 0, 24, [1], false, false⟩] := by
  simp [emit, stepS, iacS, keepS, mergeL, mstep]
theorem str_a : strOfNums [97, 255, 98] = ⟨#[97, 255, 98]⟩ := by decide +kernel
theorem str_b : strOfNums [1] = ⟨#[1]⟩ := by decide +kernel
/-- One event alone. -/
theorem one_ev {w : World} {v : Value} {xs : List (Ev × Value)} {e : Ev} (h : OwnL w v xs) (he : xs.map (·.1) = [e]) : ∃ g cap d, v = .slice (some ⟨g, 0, none⟩) 1 cap ∧ (w.cell? ⟨g, 0, none⟩ = some (.int .i64 e.kind) ∧ w.cell? ⟨g, 2, none⟩ = some (.int .u8 e.opt) ∧ w.cell? ⟨g, 3, none⟩ = some d) ∧ Reads w d e.data := by
  match xs, he with
  | [x], he =>
    have e1 : x.1 = e := by simpa using he
    subst e1
    have h' : OwnL w v ([] ++ [x]) := h
    obtain ⟨g, cap, rfl, hc, _⟩ := last_row h'
    exact ⟨g, cap, x.2, rfl, ⟨hc 0 (by omega), hc 2 (by omega), hc 3 (by omega)⟩, (h.data x (by simp)).reads⟩
theorem reads_lit (w : World) (fr : Nat × Nat) (ps : List Int) (n : Nat) (hn : ps.length = n) (hm : n ≤ 100) (hb : ∀ x ∈ ps, 0 ≤ x ∧ x < 256) : Reads (w.alloc (.cells (ps.map (Value.int .u8)).toArray 5 fr)) (.slice (some ⟨w.heap.size, 0, none⟩) n n) ps := by
  subst hn
  refine ⟨hb, .inr ⟨⟨w.heap.size, 0, none⟩, ps.length, rfl, Nat.le_refl _, by unfold maxLen; omega, fun i hi => ?_⟩⟩
  rw [addr_add, Nat.zero_add, cell_of_row _ w.heap.size i (ps.map (Value.int .u8)).toArray 5 fr (heap_alloc_new w _)]
  simp [List.getD, List.getElem?_eq_getElem hi]
theorem feed_below {R : Nat} {st : St} {ps : List Int} {w w' : World} {e : Ending} (h : FeedPost R (.slice none 0 0) st ps w e w') {B : Nat} (hB : B ≤ w.heap.size) (hR : B ≤ R) : ∃ v xs, e = .returned v ∧ OwnL w' v xs ∧ xs.map (·.1) = mergeL (emit st ps) ∧ Below B w w' := by
  obtain ⟨v, xs, d', rfl, h1, h2, h3⟩ := h
  refine ⟨v, xs, rfl, h1.evs, h2, h3.toBelow hB (fun k hk => ?_)⟩
  have : k = R := by simpa [blkV, Value.ownBlock] using hk
  omega
set_option maxRecDepth 100000 in
set_option maxHeartbeats 4000000 in
theorem awake_true (w : World) : Calls Tryd.prog 5 #[] w fun e w' => e = .returned (.bool true) ∧ Below w.heap.size w w' := by
  have hcv := fun (w : World) (C : Array Value) (n c : Nat) => Lib.run_convert_bytes_const (P := Tryd.prog) w 24 5 C n c Tryd.underlying24 Tryd.underlying5
  go_enter Tryd.func5, Tryd.ntmps5
  go_wp2_with fail
  refine (newReader_any w).mono ?_
  rintro e w1 ⟨rfl, hr1, hb1⟩
  have HR1 := hid (hr1.moved (Moved.alloc w1 (.cells #[.int .u8 97, .int .u8 255, .int .u8 255, .int .u8 98] 5 (4, 5)) []) (fun _ _ q => by cases q))
  have HB1 := hid (hb1.alloc hb1.size (.cells #[.int .u8 97, .int .u8 255, .int .u8 255, .int .u8 98] 5 (4, 5)))
  have HRL := hid hr1.lt
  have HP1 := hid (reads_lit w1 (4, 5) [97, 255, 255, 98] 4 rfl (by decide) (by decide))
  clear hr1 hb1
  go_wp2_with fail
  have HF1 := hid (feed_any w.heap.size (.slice none 0 0) _ .between [97, 255, 255, 98] _ HR1.out (nil_notin _) HP1.out (fun k hk q => by
    have e1 : k = w.heap.size := by simpa [blkV, Value.ownBlock] using q
    have e2 : k = w1.heap.size := by simpa [blkV, Value.ownBlock] using hk
    have := HRL.out
    omega) (by decide) (by decide))
  refine HF1.out.mono ?_
  intro e w2 hf
  obtain ⟨v2, xs2, rfl, ho2, hx2, hb2⟩ := feed_below hf (B := w.heap.size) (by have := HB1.out.size; omega) (Nat.le_refl _)
  rw [emit_a] at hx2
  obtain ⟨g, cap, d, rfl, hc, hrd⟩ := one_ev ho2 hx2
  have HC := hid hc
  have HRD := hid hrd
  have HB2 := hid (HB1.out.trans hb2)
  clear hf ho2 hx2 hb2 hc hrd HF1 HP1 HR1 HB1 HRL
  go_wp2_with fail
  refine (newReader_any w2).mono ?_
  rintro e w3 ⟨rfl, hr3, hb3⟩
  have HR3 := hid (hr3.moved (Moved.alloc w3 (.cells #[.int .u8 255, .int .u8 250, .int .u8 24, .int .u8 1, .int .u8 255, .int .u8 240] 5) []) (fun _ _ q => by cases q))
  have HB3 := hid (hb3.alloc hb3.size (.cells #[.int .u8 255, .int .u8 250, .int .u8 24, .int .u8 1, .int .u8 255, .int .u8 240] 5))
  have HRL := hid hr3.lt
  have HP3 := hid (reads_lit w3 (0, 0) [255, 250, 24, 1, 255, 240] 6 rfl (by decide) (by decide))
  clear hr3 hb3
  go_wp2_with fail
  have HF3 := hid (feed_any w2.heap.size (.slice none 0 0) _ .between [255, 250, 24, 1, 255, 240] _ HR3.out (nil_notin _) HP3.out (fun k hk q => by
    have e1 : k = w2.heap.size := by simpa [blkV, Value.ownBlock] using q
    have e2 : k = w3.heap.size := by simpa [blkV, Value.ownBlock] using hk
    have := HRL.out
    omega) (by decide) (by decide))
  refine HF3.out.mono ?_
  intro e w4 hf
  obtain ⟨v4, xs4, rfl, ho4, hx4, hb4⟩ := feed_below hf (B := w2.heap.size) (by have := HB3.out.size; omega) (Nat.le_refl _)
  rw [emit_b] at hx4
  obtain ⟨g', cap', d', rfl, hc', hrd'⟩ := one_ev ho4 hx4
  have hb24 := HB3.out.trans hb4
  have c3 := keepc hb24 HC.out.2.2
  have HRD4 := reads_below HRD.out hb24
  obtain ⟨xd, nd, cd, hde⟩ := reads_any_slice HRD4
  obtain ⟨xd', nd', cd', hde'⟩ := reads_any_slice hrd'
  subst hde hde'
  have e1 := reads_conv HRD4
  have e2 := reads_conv hrd'
  obtain ⟨y0, y2, y3⟩ := hc'
  dsimp only [dat] at e1 e2 y0 y2
  rw [str_a] at e1
  rw [str_b] at e2
  have HB4 := hid (below_t HB2.out hb24)
  clear hf ho4 hx4 hb4 hb24 hrd' HRD4 HRD HC HF3 HP3 HR3 HB3 HRL
  go_wp2
  go_ret
  exact ⟨rfl, HB4.out⟩
end Go.Proofs.YtdbjjieoohfckaaDoor
