/-
  Orders: RA's address and code; what is behind the byte of any order.
-/
import Derived.Test.YtjhmjjlmdmmilaaId
namespace Go.Proofs.Ytjhmjjlmdmmilaa
open Go.RowKit Go.Lib


set_option maxRecDepth 100000 in
set_option maxHeartbeats 2000000 in
theorem rep_bad (v : Value) (xs : List Int) (a er : Int) (hd : decZ 12 xs = (a, er)) (he : er ≠ 0) (w : World) (h : Reads w v xs) : Calls Try.prog 22 #[v] w (BehD (er, opZ, 0) w) := by
  have HD := hid (fun W (hb : Below w.heap.size w W) => show Calls Try.prog 21 #[.int .i64 12, v] W fun e w' => e = .returned (.tuple #[.int .i64 a, .int .i64 er]) ∧ Below W.heap.size W w' from by
    have q := decode_any 12 _ xs W (reads_below h hb)
    unfold DecDone at q
    rw [hd] at q
    exact q)
  obtain ⟨x, c, rfl⟩ := reads_sl h
  have e0 : (er == 0) = false := by simpa using he
  have e1 : (er != 0) = true := by simpa using he
  clear h hd he
  have HX0 := hid (Box7.new (v0 := .int .i64 0) (v1 := .int .i64 0) (v2 := .int .u8 0) (v3 := .bool false) (v4 := .int .u8 0) (v5 := .slice none 0 0) (v6 := .slice none 0 0) w 35)
  have HB0 := hid (bal (Below.refl w.heap.size w) (.cells #[.int .i64 0, .int .i64 0, .int .u8 0, .bool false, .int .u8 0, .slice none 0 0, .slice none 0 0] 35))
  have HC := hid (HD.out _ HB0.out)
  go_enter Try.func22, Try.ntmps22
  go_wp2_with fail
  with_reducible refine HC.out.mono ?_
  rintro e w1 ⟨rfl, hb1⟩
  have X0 := HX0.out.step hb1
  have hlt := X0.lt
  have HP := hid (X0.put (.int .i64 0) (.int .i64 0) (.int .u8 0) (.bool false) (.int .u8 0) (.slice none 0 0) (.slice none 0 0))
  have HF := hid (show BehD (er, opZ, 0) w (.returned (.tuple #[.agg #[.int .i64 0, .int .i64 0, .int .u8 0, .bool false, .int .u8 0, .slice none 0 0, .slice none 0 0], .int .i64 0, .int .i64 er])) (put7 (w1) w.heap.size (.int .i64 0) (.int .i64 0) (.int .u8 0) (.bool false) (.int .u8 0) (.slice none 0 0) (.slice none 0 0)) from beh_end (r := (er, opZ, 0)) rfl (World.ownsRow_nil _ _ _ _) (below_t HB0.out hb1) w.heap.size w.heap.size (Nat.le_refl _) (Nat.le_refl _) (fun _ q => by cases q) (moved_one _ _ _ _ _ _ _))
  obtain ⟨c0, c1, c2, c3, c4, c5, c6, fc⟩ := X0
  have f0 := fc 0 (by omega)
  have f1 := fc 1 (by omega)
  have f2 := fc 2 (by omega)
  have f3 := fc 3 (by omega)
  have f4 := fc 4 (by omega)
  have f5 := fc 5 (by omega)
  have f6 := fc 6 (by omega)
  clear fc hb1
  go_wp2
  revert HP HF
  generalize hW : put7 (w1) w.heap.size (.int .i64 0) (.int .i64 0) (.int .u8 0) (.bool false) (.int .u8 0) (.slice none 0 0) (.slice none 0 0) = Wf
  intro HP HF
  obtain ⟨k0, k1, k2, k3, k4, k5, k6, -⟩ := HP.out
  unfold put7 at hW
  rw [hW]
  clear hW
  exact bodyPost_ret (v := .tuple #[.agg #[.int .i64 0, .int .i64 0, .int .u8 0, .bool false, .int .u8 0, .slice none 0 0, .slice none 0 0], .int .i64 0, .int .i64 er]) (by simp [results, Try.results22, go_sem, k0, k1, k2, k3, k4, k5, k6]) rfl HF.out

set_option maxRecDepth 100000 in
set_option maxHeartbeats 4000000 in
theorem rep_len (w : World) (g off n c : Nat) (xs : List Int) (a er cd : Int) (h2 : n = 2) (hd : decZ 12 xs = (a, 0)) (hcd : codF (xs.drop 2) = (er, cd)) (hn : n = xs.length) (hl : n ≤ 1000000) (h : Reads w (.slice (some ⟨g, off, none⟩) n c) xs) : Calls Try.prog 22 #[.slice (some ⟨g, off, none⟩) n c] w (BehD (er, { opZ with kind := 60, addr := a, code := cd }, 3) w) := by
  have HD := hid (fun W (hb : Below w.heap.size w W) => show Calls Try.prog 21 #[.int .i64 12, .slice (some ⟨g, off, none⟩) n c] W fun e w' => e = .returned (.tuple #[.int .i64 a, .int .i64 0]) ∧ Below W.heap.size W w' from by
    have q := decode_any 12 _ xs W (reads_below h hb)
    unfold DecDone at q
    rw [hd] at q
    exact q)
  have l1 : ¬ (2 : Int) < n := by omega
  have l2 : ¬ 2 < n := by omega
  clear hl
  obtain ⟨q, hsl0, hq⟩ := run_from_all h 2 (by omega)
  have hsl : ∀ w', (Instr.sliceAt 26 (.slice (some ⟨g, off, none⟩) n c) (some (.int .i64 2)) none none).run Try.prog w' = .ok q w' := hsl0
  have HCD := hid (fun W (hb : Below w.heap.size w W) => show Calls Try.prog 26 #[q] W fun e w' => e = .returned (.tuple #[.int .u8 cd, .int .i64 er]) ∧ W = w' from by
    have q := code_any q (xs.drop 2) W (reads_below hq hb) (by rw [List.length_drop]; omega)
    rw [hcd] at q
    exact q)
  obtain ⟨xq, cq, rfl⟩ := reads_sl hq
  generalize (xs.drop 2).length = nq at hsl HCD
  clear hsl0 hq h hd hcd hn h2
  have HX0 := hid (Box7.new (v0 := .int .i64 0) (v1 := .int .i64 0) (v2 := .int .u8 0) (v3 := .bool false) (v4 := .int .u8 0) (v5 := .slice none 0 0) (v6 := .slice none 0 0) w 35)
  have HB0 := hid (bal (Below.refl w.heap.size w) (.cells #[.int .i64 0, .int .i64 0, .int .u8 0, .bool false, .int .u8 0, .slice none 0 0, .slice none 0 0] 35))
  have HC := hid (HD.out _ HB0.out)
  go_enter Try.func22, Try.ntmps22
  go_wp2_with fail
  with_reducible refine HC.out.mono ?_
  rintro e w1 ⟨rfl, hb1⟩
  have X0 := HX0.out.step hb1
  have hlt := X0.lt
  have HBW := hid (below_t HB0.out hb1)
  have HP := hid ((X0.put (.int .i64 60) (.int .i64 a) (.int .u8 cd) (.bool false) (.int .u8 0) (.slice none 0 0) (.slice none 0 0)).step (bal (Below.refl _ _) (.cells #[.int .i64 60, .int .i64 a, .int .u8 cd, .bool false, .int .u8 0, .slice none 0 0, .slice none 0 0] 35)))
  have HF := hid (show BehD (er, { opZ with kind := 60, addr := a, code := cd }, 3) w (.returned (.tuple #[.agg #[.int .i64 60, .int .i64 a, .int .u8 cd, .bool false, .int .u8 0, .slice none 0 0, .slice none 0 0], .int .i64 3, .int .i64 er])) ((put7 (w1) w.heap.size (.int .i64 60) (.int .i64 a) (.int .u8 cd) (.bool false) (.int .u8 0) (.slice none 0 0) (.slice none 0 0)).alloc (.cells #[.int .i64 60, .int .i64 a, .int .u8 cd, .bool false, .int .u8 0, .slice none 0 0, .slice none 0 0] 35)) from beh_end (r := (er, { opZ with kind := 60, addr := a, code := cd }, 3)) rfl (World.ownsRow_nil _ _ _ _) HBW.out w.heap.size w.heap.size (Nat.le_refl _) (Nat.le_refl _) (fun _ q => by cases q) ((moved_one _ _ _ _ _ _ _).trans (Moved.alloc _ _ _)))
  obtain ⟨c0, c1, c2, c3, c4, c5, c6, fc⟩ := X0
  have f0 := fc 0 (by omega)
  have f1 := fc 1 (by omega)
  have f2 := fc 2 (by omega)
  have f3 := fc 3 (by omega)
  have f4 := fc 4 (by omega)
  have f5 := fc 5 (by omega)
  have f6 := fc 6 (by omega)
  clear fc hb1
  go_wp2_with fail
  with_reducible refine (HCD.out _ (by first | exact bal HBW.out _ | exact (bal HBW.out _).setCell (by have := HBW.out.size; simp; omega) _)).mono ?_
  rintro e w2 ⟨rfl, rfl⟩
  go_wp2
  revert HP HF
  generalize hW : put7 (w1) w.heap.size (.int .i64 60) (.int .i64 a) (.int .u8 cd) (.bool false) (.int .u8 0) (.slice none 0 0) (.slice none 0 0) = Wf
  intro HP HF
  obtain ⟨k0, k1, k2, k3, k4, k5, k6, -⟩ := HP.out
  unfold put7 at hW
  rw [hW]
  clear hW
  exact bodyPost_ret (v := .tuple #[.agg #[.int .i64 60, .int .i64 a, .int .u8 cd, .bool false, .int .u8 0, .slice none 0 0, .slice none 0 0], .int .i64 3, .int .i64 er]) (by simp [results, Try.results22, go_sem, k0, k1, k2, k3, k4, k5, k6]) rfl HF.out

set_option maxRecDepth 100000 in
set_option maxHeartbeats 4000000 in
theorem rep_two (w : World) (g off n c : Nat) (xs : List Int) (a er cd : Int) (z : Nat) (hz : z ≠ 8) (h2 : 2 < n) (hc : w.cell? ⟨g, off + 2, none⟩ = some (.int .u8 z)) (hd : decZ 12 xs = (a, 0)) (hcd : codF (xs.drop 2) = (er, cd)) (hn : n = xs.length) (hl : n ≤ 1000000) (h : Reads w (.slice (some ⟨g, off, none⟩) n c) xs) : Calls Try.prog 22 #[.slice (some ⟨g, off, none⟩) n c] w (BehD (er, { opZ with kind := 60, addr := a, code := cd }, 3) w) := by
  have HD := hid (fun W (hb : Below w.heap.size w W) => show Calls Try.prog 21 #[.int .i64 12, .slice (some ⟨g, off, none⟩) n c] W fun e w' => e = .returned (.tuple #[.int .i64 a, .int .i64 0]) ∧ Below W.heap.size W w' from by
    have q := decode_any 12 _ xs W (reads_below h hb)
    unfold DecDone at q
    rw [hd] at q
    exact q)
  have l1 : (2 : Int) < n := by omega
  have e8 : ((z : Int) == 8) = false := by simpa using (show (z : Int) ≠ 8 by omega)
  have HZ2 := hid hc
  clear hc hz
  obtain ⟨q, hsl0, hq⟩ := run_from_all h 2 (by omega)
  have hsl : ∀ w', (Instr.sliceAt 26 (.slice (some ⟨g, off, none⟩) n c) (some (.int .i64 2)) none none).run Try.prog w' = .ok q w' := hsl0
  have HCD := hid (fun W (hb : Below w.heap.size w W) => show Calls Try.prog 26 #[q] W fun e w' => e = .returned (.tuple #[.int .u8 cd, .int .i64 er]) ∧ W = w' from by
    have q := code_any q (xs.drop 2) W (reads_below hq hb) (by rw [List.length_drop]; omega)
    rw [hcd] at q
    exact q)
  obtain ⟨xq, cq, rfl⟩ := reads_sl hq
  generalize (xs.drop 2).length = nq at hsl HCD
  clear hsl0 hq h hd hcd hn hl
  have HX0 := hid (Box7.new (v0 := .int .i64 0) (v1 := .int .i64 0) (v2 := .int .u8 0) (v3 := .bool false) (v4 := .int .u8 0) (v5 := .slice none 0 0) (v6 := .slice none 0 0) w 35)
  have HB0 := hid (bal (Below.refl w.heap.size w) (.cells #[.int .i64 0, .int .i64 0, .int .u8 0, .bool false, .int .u8 0, .slice none 0 0, .slice none 0 0] 35))
  have HC := hid (HD.out _ HB0.out)
  go_enter Try.func22, Try.ntmps22
  go_wp2_with fail
  with_reducible refine HC.out.mono ?_
  rintro e w1 ⟨rfl, hb1⟩
  have X0 := HX0.out.step hb1
  have hlt := X0.lt
  have HBW := hid (below_t HB0.out hb1)
  have hz2 := keepc HBW.out HZ2.out
  have hg := World.block_lt_of_cell? w1 _ hz2
  have HP := hid ((X0.put (.int .i64 60) (.int .i64 a) (.int .u8 cd) (.bool false) (.int .u8 0) (.slice none 0 0) (.slice none 0 0)).step (bal (Below.refl _ _) (.cells #[.int .i64 60, .int .i64 a, .int .u8 cd, .bool false, .int .u8 0, .slice none 0 0, .slice none 0 0] 35)))
  have HF := hid (show BehD (er, { opZ with kind := 60, addr := a, code := cd }, 3) w (.returned (.tuple #[.agg #[.int .i64 60, .int .i64 a, .int .u8 cd, .bool false, .int .u8 0, .slice none 0 0, .slice none 0 0], .int .i64 3, .int .i64 er])) ((put7 (w1) w.heap.size (.int .i64 60) (.int .i64 a) (.int .u8 cd) (.bool false) (.int .u8 0) (.slice none 0 0) (.slice none 0 0)).alloc (.cells #[.int .i64 60, .int .i64 a, .int .u8 cd, .bool false, .int .u8 0, .slice none 0 0, .slice none 0 0] 35)) from beh_end (r := (er, { opZ with kind := 60, addr := a, code := cd }, 3)) rfl (World.ownsRow_nil _ _ _ _) HBW.out w.heap.size w.heap.size (Nat.le_refl _) (Nat.le_refl _) (fun _ q => by cases q) ((moved_one _ _ _ _ _ _ _).trans (Moved.alloc _ _ _)))
  obtain ⟨c0, c1, c2, c3, c4, c5, c6, fc⟩ := X0
  have f0 := fc 0 (by omega)
  have f1 := fc 1 (by omega)
  have f2 := fc 2 (by omega)
  have f3 := fc 3 (by omega)
  have f4 := fc 4 (by omega)
  have f5 := fc 5 (by omega)
  have f6 := fc 6 (by omega)
  clear fc hb1
  go_wp2_with fail
  with_reducible refine (HCD.out _ (by first | exact bal HBW.out _ | exact (bal HBW.out _).setCell (by have := HBW.out.size; simp; omega) _)).mono ?_
  rintro e w2 ⟨rfl, rfl⟩
  go_wp2
  revert HP HF
  generalize hW : put7 (w1) w.heap.size (.int .i64 60) (.int .i64 a) (.int .u8 cd) (.bool false) (.int .u8 0) (.slice none 0 0) (.slice none 0 0) = Wf
  intro HP HF
  obtain ⟨k0, k1, k2, k3, k4, k5, k6, -⟩ := HP.out
  unfold put7 at hW
  rw [hW]
  clear hW
  exact bodyPost_ret (v := .tuple #[.agg #[.int .i64 60, .int .i64 a, .int .u8 cd, .bool false, .int .u8 0, .slice none 0 0, .slice none 0 0], .int .i64 3, .int .i64 er]) (by simp [results, Try.results22, go_sem, k0, k1, k2, k3, k4, k5, k6]) rfl HF.out

set_option maxRecDepth 100000 in
set_option maxHeartbeats 4000000 in
theorem rep_three (w : World) (g off n c : Nat) (xs : List Int) (a er cd : Int) (h2 : 2 < n) (hc : w.cell? ⟨g, off + 2, none⟩ = some (.int .u8 8)) (hd : decZ 12 xs = (a, 0)) (hcd : codF (xs.drop 3) = (er, cd)) (hn : n = xs.length) (hl : n ≤ 1000000) (h : Reads w (.slice (some ⟨g, off, none⟩) n c) xs) : Calls Try.prog 22 #[.slice (some ⟨g, off, none⟩) n c] w (BehD (er, { opZ with kind := 60, addr := a, graph := true, code := cd }, 4) w) := by
  have HD := hid (fun W (hb : Below w.heap.size w W) => show Calls Try.prog 21 #[.int .i64 12, .slice (some ⟨g, off, none⟩) n c] W fun e w' => e = .returned (.tuple #[.int .i64 a, .int .i64 0]) ∧ Below W.heap.size W w' from by
    have q := decode_any 12 _ xs W (reads_below h hb)
    unfold DecDone at q
    rw [hd] at q
    exact q)
  have l1 : (2 : Int) < n := by omega
  have HZ2 := hid hc
  clear hc
  obtain ⟨q, hsl0, hq⟩ := run_from_all h 3 (by omega)
  have hsl : ∀ w', (Instr.sliceAt 26 (.slice (some ⟨g, off, none⟩) n c) (some (.int .i64 3)) none none).run Try.prog w' = .ok q w' := hsl0
  have HCD := hid (fun W (hb : Below w.heap.size w W) => show Calls Try.prog 26 #[q] W fun e w' => e = .returned (.tuple #[.int .u8 cd, .int .i64 er]) ∧ W = w' from by
    have q := code_any q (xs.drop 3) W (reads_below hq hb) (by rw [List.length_drop]; omega)
    rw [hcd] at q
    exact q)
  obtain ⟨xq, cq, rfl⟩ := reads_sl hq
  generalize (xs.drop 3).length = nq at hsl HCD
  clear hsl0 hq h hd hcd hn hl
  have HX0 := hid (Box7.new (v0 := .int .i64 0) (v1 := .int .i64 0) (v2 := .int .u8 0) (v3 := .bool false) (v4 := .int .u8 0) (v5 := .slice none 0 0) (v6 := .slice none 0 0) w 35)
  have HB0 := hid (bal (Below.refl w.heap.size w) (.cells #[.int .i64 0, .int .i64 0, .int .u8 0, .bool false, .int .u8 0, .slice none 0 0, .slice none 0 0] 35))
  have HC := hid (HD.out _ HB0.out)
  go_enter Try.func22, Try.ntmps22
  go_wp2_with fail
  with_reducible refine HC.out.mono ?_
  rintro e w1 ⟨rfl, hb1⟩
  have X0 := HX0.out.step hb1
  have hlt := X0.lt
  have HBW := hid (below_t HB0.out hb1)
  have hz2 := keepc HBW.out HZ2.out
  have hg := World.block_lt_of_cell? w1 _ hz2
  have HP := hid ((X0.put (.int .i64 60) (.int .i64 a) (.int .u8 cd) (.bool true) (.int .u8 0) (.slice none 0 0) (.slice none 0 0)).step (bal (Below.refl _ _) (.cells #[.int .i64 60, .int .i64 a, .int .u8 cd, .bool true, .int .u8 0, .slice none 0 0, .slice none 0 0] 35)))
  have HF := hid (show BehD (er, { opZ with kind := 60, addr := a, graph := true, code := cd }, 4) w (.returned (.tuple #[.agg #[.int .i64 60, .int .i64 a, .int .u8 cd, .bool true, .int .u8 0, .slice none 0 0, .slice none 0 0], .int .i64 4, .int .i64 er])) ((put7 (w1) w.heap.size (.int .i64 60) (.int .i64 a) (.int .u8 cd) (.bool true) (.int .u8 0) (.slice none 0 0) (.slice none 0 0)).alloc (.cells #[.int .i64 60, .int .i64 a, .int .u8 cd, .bool true, .int .u8 0, .slice none 0 0, .slice none 0 0] 35)) from beh_end (r := (er, { opZ with kind := 60, addr := a, graph := true, code := cd }, 4)) rfl (World.ownsRow_nil _ _ _ _) HBW.out w.heap.size w.heap.size (Nat.le_refl _) (Nat.le_refl _) (fun _ q => by cases q) ((moved_one _ _ _ _ _ _ _).trans (Moved.alloc _ _ _)))
  obtain ⟨c0, c1, c2, c3, c4, c5, c6, fc⟩ := X0
  have f0 := fc 0 (by omega)
  have f1 := fc 1 (by omega)
  have f2 := fc 2 (by omega)
  have f3 := fc 3 (by omega)
  have f4 := fc 4 (by omega)
  have f5 := fc 5 (by omega)
  have f6 := fc 6 (by omega)
  clear fc hb1
  go_wp2_with fail
  with_reducible refine (HCD.out _ (by first | exact bal HBW.out _ | exact (bal HBW.out _).setCell (by have := HBW.out.size; simp; omega) _)).mono ?_
  rintro e w2 ⟨rfl, rfl⟩
  go_wp2
  revert HP HF
  generalize hW : put7 (w1) w.heap.size (.int .i64 60) (.int .i64 a) (.int .u8 cd) (.bool true) (.int .u8 0) (.slice none 0 0) (.slice none 0 0) = Wf
  intro HP HF
  obtain ⟨k0, k1, k2, k3, k4, k5, k6, -⟩ := HP.out
  unfold put7 at hW
  rw [hW]
  clear hW
  exact bodyPost_ret (v := .tuple #[.agg #[.int .i64 60, .int .i64 a, .int .u8 cd, .bool true, .int .u8 0, .slice none 0 0, .slice none 0 0], .int .i64 4, .int .i64 er]) (by simp [results, Try.results22, go_sem, k0, k1, k2, k3, k4, k5, k6]) rfl HF.out
end Go.Proofs.Ytjhmjjlmdmmilaa
