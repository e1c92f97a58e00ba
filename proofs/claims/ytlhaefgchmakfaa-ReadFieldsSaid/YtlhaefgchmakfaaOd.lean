/-
  Orders: RA's address and code; what is behind the byte of any order.
  Orders: what is behind the byte of any order; a text's copy.
-/
import Derived.Test.YtlhaefgchmakfaaOc
import Derived.Lib.LazyBuf
namespace Go.Proofs.Ytlhaefgchmakfaa
open Go.RowKit Go.Lib


set_option maxRecDepth 100000 in
set_option maxHeartbeats 2000000 in
theorem rep_bad (v : Value) (xs : List Int) (a er : Int) (hd : decZ 12 xs = (a, er)) (he : er ≠ 0) (w : World) (h : Reads w v xs) : Calls Try.prog 132 #[v] w (BehD (er, opZ, 0) w) := by
  have HD := hid (fun W (hb : Below w.heap.size w W) => show Calls Try.prog 89 #[.int .i64 12, v] W fun e w' => e = .returned (.tuple #[.int .i64 a, .int .i64 er]) ∧ Below W.heap.size W w' from by
    have q := decode_any 12 _ xs W (reads_below h hb)
    unfold DecDone at q
    rw [hd] at q
    exact q)
  obtain ⟨x, c, rfl⟩ := reads_sl h
  have e0 : (er == 0) = false := by simpa using he
  have e1 : (er != 0) = true := by simpa using he
  clear h hd he
  have HX0 := hid (Box7.new (v0 := .int .i64 0) (v1 := .int .i64 0) (v2 := .int .u8 0) (v3 := .bool false) (v4 := .int .u8 0) (v5 := .slice none 0 0) (v6 := .slice none 0 0) w 144)
  have HB0 := hid (bal (Below.refl w.heap.size w) (.cells #[.int .i64 0, .int .i64 0, .int .u8 0, .bool false, .int .u8 0, .slice none 0 0, .slice none 0 0] 144))
  have HC := hid (HD.out _ HB0.out)
  go_enter Try.func132, Try.ntmps132
  go_wp2_with fail
  with_reducible refine HC.out.mono ?_
  rintro e w1 ⟨rfl, hb1⟩
  have X0 := HX0.out.step hb1
  have hlt := X0.lt
  have HP := hid (X0.put (.int .i64 0) (.int .i64 0) (.int .u8 0) (.bool false) (.int .u8 0) (.slice none 0 0) (.slice none 0 0))
  have HF := hid (show BehD (er, opZ, 0) w (.returned (.tuple #[.agg #[.int .i64 0, .int .i64 0, .int .u8 0, .bool false, .int .u8 0, .slice none 0 0, .slice none 0 0], .int .i64 0, .int .i64 er])) (put7 (w1) w.heap.size (.int .i64 0) (.int .i64 0) (.int .u8 0) (.bool false) (.int .u8 0) (.slice none 0 0) (.slice none 0 0)) from beh_end (r := (er, opZ, 0)) rfl (World.ownsRow_nil _ _ _ _) (below_t HB0.out hb1) w.heap.size w.heap.size (Nat.le_refl _) (Nat.le_refl _) (fun _ q => by cases q) (moved_one _ _ _ _ _ _ _))
  obtain ⟨c0, c1, c2, c3, c4, c5, c6, fc⟩ := X0
  have f0 := fc 0 (by omega)
  have f1 := fc 1 (by omega)
  have f2 := fc 2 (by omega)
  have f3 := fc 3 (by omega)
  have f4 := fc 4 (by omega)
  have f5 := fc 5 (by omega)
  have f6 := fc 6 (by omega)
  clear fc hb1
  go_wp2
  revert HP HF
  generalize hW : put7 (w1) w.heap.size (.int .i64 0) (.int .i64 0) (.int .u8 0) (.bool false) (.int .u8 0) (.slice none 0 0) (.slice none 0 0) = Wf
  intro HP HF
  obtain ⟨k0, k1, k2, k3, k4, k5, k6, -⟩ := HP.out
  unfold put7 at hW
  rw [hW]
  clear hW
  exact bodyPost_ret (v := .tuple #[.agg #[.int .i64 0, .int .i64 0, .int .u8 0, .bool false, .int .u8 0, .slice none 0 0, .slice none 0 0], .int .i64 0, .int .i64 er]) (by simp [results, Try.results132, go_sem, k0, k1, k2, k3, k4, k5, k6]) rfl HF.out

set_option maxRecDepth 100000 in
set_option maxHeartbeats 4000000 in
theorem rep_len (w : World) (g off n c : Nat) (xs : List Int) (a er cd : Int) (h2 : n = 2) (hd : decZ 12 xs = (a, 0)) (hcd : codF (xs.drop 2) = (er, cd)) (hn : n = xs.length) (hl : n ≤ 1000000) (h : Reads w (.slice (some ⟨g, off, none⟩) n c) xs) : Calls Try.prog 132 #[.slice (some ⟨g, off, none⟩) n c] w (BehD (er, { opZ with kind := 60, addr := a, code := cd }, 3) w) := by
  have HD := hid (fun W (hb : Below w.heap.size w W) => show Calls Try.prog 89 #[.int .i64 12, .slice (some ⟨g, off, none⟩) n c] W fun e w' => e = .returned (.tuple #[.int .i64 a, .int .i64 0]) ∧ Below W.heap.size W w' from by
    have q := decode_any 12 _ xs W (reads_below h hb)
    unfold DecDone at q
    rw [hd] at q
    exact q)
  have l1 : ¬ (2 : Int) < n := by omega
  have l2 : ¬ 2 < n := by omega
  clear hl
  obtain ⟨q, hsl0, hq⟩ := run_from_all h 2 (by omega)
  have hsl : ∀ w', (Instr.sliceAt 31 (.slice (some ⟨g, off, none⟩) n c) (some (.int .i64 2)) none none).run Try.prog w' = .ok q w' := hsl0
  have HCD := hid (fun W (hb : Below w.heap.size w W) => show Calls Try.prog 136 #[q] W fun e w' => e = .returned (.tuple #[.int .u8 cd, .int .i64 er]) ∧ W = w' from by
    have q := code_any q (xs.drop 2) W (reads_below hq hb) (by rw [List.length_drop]; omega)
    rw [hcd] at q
    exact q)
  obtain ⟨xq, cq, rfl⟩ := reads_sl hq
  generalize (xs.drop 2).length = nq at hsl HCD
  clear hsl0 hq h hd hcd hn h2
  have HX0 := hid (Box7.new (v0 := .int .i64 0) (v1 := .int .i64 0) (v2 := .int .u8 0) (v3 := .bool false) (v4 := .int .u8 0) (v5 := .slice none 0 0) (v6 := .slice none 0 0) w 144)
  have HB0 := hid (bal (Below.refl w.heap.size w) (.cells #[.int .i64 0, .int .i64 0, .int .u8 0, .bool false, .int .u8 0, .slice none 0 0, .slice none 0 0] 144))
  have HC := hid (HD.out _ HB0.out)
  go_enter Try.func132, Try.ntmps132
  go_wp2_with fail
  with_reducible refine HC.out.mono ?_
  rintro e w1 ⟨rfl, hb1⟩
  have X0 := HX0.out.step hb1
  have hlt := X0.lt
  have HBW := hid (below_t HB0.out hb1)
  have HP := hid ((X0.put (.int .i64 60) (.int .i64 a) (.int .u8 cd) (.bool false) (.int .u8 0) (.slice none 0 0) (.slice none 0 0)).step (bal (Below.refl _ _) (.cells #[.int .i64 60, .int .i64 a, .int .u8 cd, .bool false, .int .u8 0, .slice none 0 0, .slice none 0 0] 144)))
  have HF := hid (show BehD (er, { opZ with kind := 60, addr := a, code := cd }, 3) w (.returned (.tuple #[.agg #[.int .i64 60, .int .i64 a, .int .u8 cd, .bool false, .int .u8 0, .slice none 0 0, .slice none 0 0], .int .i64 3, .int .i64 er])) ((put7 (w1) w.heap.size (.int .i64 60) (.int .i64 a) (.int .u8 cd) (.bool false) (.int .u8 0) (.slice none 0 0) (.slice none 0 0)).alloc (.cells #[.int .i64 60, .int .i64 a, .int .u8 cd, .bool false, .int .u8 0, .slice none 0 0, .slice none 0 0] 144)) from beh_end (r := (er, { opZ with kind := 60, addr := a, code := cd }, 3)) rfl (World.ownsRow_nil _ _ _ _) HBW.out w.heap.size w.heap.size (Nat.le_refl _) (Nat.le_refl _) (fun _ q => by cases q) ((moved_one _ _ _ _ _ _ _).trans (Moved.alloc _ _ _)))
  obtain ⟨c0, c1, c2, c3, c4, c5, c6, fc⟩ := X0
  have f0 := fc 0 (by omega)
  have f1 := fc 1 (by omega)
  have f2 := fc 2 (by omega)
  have f3 := fc 3 (by omega)
  have f4 := fc 4 (by omega)
  have f5 := fc 5 (by omega)
  have f6 := fc 6 (by omega)
  clear fc hb1
  go_wp2_with fail
  with_reducible refine (HCD.out _ (by first | exact bal HBW.out _ | exact (bal HBW.out _).setCell (by have := HBW.out.size; simp; omega) _)).mono ?_
  rintro e w2 ⟨rfl, rfl⟩
  go_wp2
  revert HP HF
  generalize hW : put7 (w1) w.heap.size (.int .i64 60) (.int .i64 a) (.int .u8 cd) (.bool false) (.int .u8 0) (.slice none 0 0) (.slice none 0 0) = Wf
  intro HP HF
  obtain ⟨k0, k1, k2, k3, k4, k5, k6, -⟩ := HP.out
  unfold put7 at hW
  rw [hW]
  clear hW
  exact bodyPost_ret (v := .tuple #[.agg #[.int .i64 60, .int .i64 a, .int .u8 cd, .bool false, .int .u8 0, .slice none 0 0, .slice none 0 0], .int .i64 3, .int .i64 er]) (by simp [results, Try.results132, go_sem, k0, k1, k2, k3, k4, k5, k6]) rfl HF.out

set_option maxRecDepth 100000 in
set_option maxHeartbeats 4000000 in
theorem rep_two (w : World) (g off n c : Nat) (xs : List Int) (a er cd : Int) (z : Nat) (hz : z ≠ 8) (h2 : 2 < n) (hc : w.cell? ⟨g, off + 2, none⟩ = some (.int .u8 z)) (hd : decZ 12 xs = (a, 0)) (hcd : codF (xs.drop 2) = (er, cd)) (hn : n = xs.length) (hl : n ≤ 1000000) (h : Reads w (.slice (some ⟨g, off, none⟩) n c) xs) : Calls Try.prog 132 #[.slice (some ⟨g, off, none⟩) n c] w (BehD (er, { opZ with kind := 60, addr := a, code := cd }, 3) w) := by
  have HD := hid (fun W (hb : Below w.heap.size w W) => show Calls Try.prog 89 #[.int .i64 12, .slice (some ⟨g, off, none⟩) n c] W fun e w' => e = .returned (.tuple #[.int .i64 a, .int .i64 0]) ∧ Below W.heap.size W w' from by
    have q := decode_any 12 _ xs W (reads_below h hb)
    unfold DecDone at q
    rw [hd] at q
    exact q)
  have l1 : (2 : Int) < n := by omega
  have e8 : ((z : Int) == 8) = false := by simpa using (show (z : Int) ≠ 8 by omega)
  have HZ2 := hid hc
  clear hc hz
  obtain ⟨q, hsl0, hq⟩ := run_from_all h 2 (by omega)
  have hsl : ∀ w', (Instr.sliceAt 31 (.slice (some ⟨g, off, none⟩) n c) (some (.int .i64 2)) none none).run Try.prog w' = .ok q w' := hsl0
  have HCD := hid (fun W (hb : Below w.heap.size w W) => show Calls Try.prog 136 #[q] W fun e w' => e = .returned (.tuple #[.int .u8 cd, .int .i64 er]) ∧ W = w' from by
    have q := code_any q (xs.drop 2) W (reads_below hq hb) (by rw [List.length_drop]; omega)
    rw [hcd] at q
    exact q)
  obtain ⟨xq, cq, rfl⟩ := reads_sl hq
  generalize (xs.drop 2).length = nq at hsl HCD
  clear hsl0 hq h hd hcd hn hl
  have HX0 := hid (Box7.new (v0 := .int .i64 0) (v1 := .int .i64 0) (v2 := .int .u8 0) (v3 := .bool false) (v4 := .int .u8 0) (v5 := .slice none 0 0) (v6 := .slice none 0 0) w 144)
  have HB0 := hid (bal (Below.refl w.heap.size w) (.cells #[.int .i64 0, .int .i64 0, .int .u8 0, .bool false, .int .u8 0, .slice none 0 0, .slice none 0 0] 144))
  have HC := hid (HD.out _ HB0.out)
  go_enter Try.func132, Try.ntmps132
  go_wp2_with fail
  with_reducible refine HC.out.mono ?_
  rintro e w1 ⟨rfl, hb1⟩
  have X0 := HX0.out.step hb1
  have hlt := X0.lt
  have HBW := hid (below_t HB0.out hb1)
  have hz2 := keepc HBW.out HZ2.out
  have hg := World.block_lt_of_cell? w1 _ hz2
  have HP := hid ((X0.put (.int .i64 60) (.int .i64 a) (.int .u8 cd) (.bool false) (.int .u8 0) (.slice none 0 0) (.slice none 0 0)).step (bal (Below.refl _ _) (.cells #[.int .i64 60, .int .i64 a, .int .u8 cd, .bool false, .int .u8 0, .slice none 0 0, .slice none 0 0] 144)))
  have HF := hid (show BehD (er, { opZ with kind := 60, addr := a, code := cd }, 3) w (.returned (.tuple #[.agg #[.int .i64 60, .int .i64 a, .int .u8 cd, .bool false, .int .u8 0, .slice none 0 0, .slice none 0 0], .int .i64 3, .int .i64 er])) ((put7 (w1) w.heap.size (.int .i64 60) (.int .i64 a) (.int .u8 cd) (.bool false) (.int .u8 0) (.slice none 0 0) (.slice none 0 0)).alloc (.cells #[.int .i64 60, .int .i64 a, .int .u8 cd, .bool false, .int .u8 0, .slice none 0 0, .slice none 0 0] 144)) from beh_end (r := (er, { opZ with kind := 60, addr := a, code := cd }, 3)) rfl (World.ownsRow_nil _ _ _ _) HBW.out w.heap.size w.heap.size (Nat.le_refl _) (Nat.le_refl _) (fun _ q => by cases q) ((moved_one _ _ _ _ _ _ _).trans (Moved.alloc _ _ _)))
  obtain ⟨c0, c1, c2, c3, c4, c5, c6, fc⟩ := X0
  have f0 := fc 0 (by omega)
  have f1 := fc 1 (by omega)
  have f2 := fc 2 (by omega)
  have f3 := fc 3 (by omega)
  have f4 := fc 4 (by omega)
  have f5 := fc 5 (by omega)
  have f6 := fc 6 (by omega)
  clear fc hb1
  go_wp2_with fail
  with_reducible refine (HCD.out _ (by first | exact bal HBW.out _ | exact (bal HBW.out _).setCell (by have := HBW.out.size; simp; omega) _)).mono ?_
  rintro e w2 ⟨rfl, rfl⟩
  go_wp2
  revert HP HF
  generalize hW : put7 (w1) w.heap.size (.int .i64 60) (.int .i64 a) (.int .u8 cd) (.bool false) (.int .u8 0) (.slice none 0 0) (.slice none 0 0) = Wf
  intro HP HF
  obtain ⟨k0, k1, k2, k3, k4, k5, k6, -⟩ := HP.out
  unfold put7 at hW
  rw [hW]
  clear hW
  exact bodyPost_ret (v := .tuple #[.agg #[.int .i64 60, .int .i64 a, .int .u8 cd, .bool false, .int .u8 0, .slice none 0 0, .slice none 0 0], .int .i64 3, .int .i64 er]) (by simp [results, Try.results132, go_sem, k0, k1, k2, k3, k4, k5, k6]) rfl HF.out

set_option maxRecDepth 100000 in
set_option maxHeartbeats 4000000 in
theorem rep_three (w : World) (g off n c : Nat) (xs : List Int) (a er cd : Int) (h2 : 2 < n) (hc : w.cell? ⟨g, off + 2, none⟩ = some (.int .u8 8)) (hd : decZ 12 xs = (a, 0)) (hcd : codF (xs.drop 3) = (er, cd)) (hn : n = xs.length) (hl : n ≤ 1000000) (h : Reads w (.slice (some ⟨g, off, none⟩) n c) xs) : Calls Try.prog 132 #[.slice (some ⟨g, off, none⟩) n c] w (BehD (er, { opZ with kind := 60, addr := a, graph := true, code := cd }, 4) w) := by
  have HD := hid (fun W (hb : Below w.heap.size w W) => show Calls Try.prog 89 #[.int .i64 12, .slice (some ⟨g, off, none⟩) n c] W fun e w' => e = .returned (.tuple #[.int .i64 a, .int .i64 0]) ∧ Below W.heap.size W w' from by
    have q := decode_any 12 _ xs W (reads_below h hb)
    unfold DecDone at q
    rw [hd] at q
    exact q)
  have l1 : (2 : Int) < n := by omega
  have HZ2 := hid hc
  clear hc
  obtain ⟨q, hsl0, hq⟩ := run_from_all h 3 (by omega)
  have hsl : ∀ w', (Instr.sliceAt 31 (.slice (some ⟨g, off, none⟩) n c) (some (.int .i64 3)) none none).run Try.prog w' = .ok q w' := hsl0
  have HCD := hid (fun W (hb : Below w.heap.size w W) => show Calls Try.prog 136 #[q] W fun e w' => e = .returned (.tuple #[.int .u8 cd, .int .i64 er]) ∧ W = w' from by
    have q := code_any q (xs.drop 3) W (reads_below hq hb) (by rw [List.length_drop]; omega)
    rw [hcd] at q
    exact q)
  obtain ⟨xq, cq, rfl⟩ := reads_sl hq
  generalize (xs.drop 3).length = nq at hsl HCD
  clear hsl0 hq h hd hcd hn hl
  have HX0 := hid (Box7.new (v0 := .int .i64 0) (v1 := .int .i64 0) (v2 := .int .u8 0) (v3 := .bool false) (v4 := .int .u8 0) (v5 := .slice none 0 0) (v6 := .slice none 0 0) w 144)
  have HB0 := hid (bal (Below.refl w.heap.size w) (.cells #[.int .i64 0, .int .i64 0, .int .u8 0, .bool false, .int .u8 0, .slice none 0 0, .slice none 0 0] 144))
  have HC := hid (HD.out _ HB0.out)
  go_enter Try.func132, Try.ntmps132
  go_wp2_with fail
  with_reducible refine HC.out.mono ?_
  rintro e w1 ⟨rfl, hb1⟩
  have X0 := HX0.out.step hb1
  have hlt := X0.lt
  have HBW := hid (below_t HB0.out hb1)
  have hz2 := keepc HBW.out HZ2.out
  have hg := World.block_lt_of_cell? w1 _ hz2
  have HP := hid ((X0.put (.int .i64 60) (.int .i64 a) (.int .u8 cd) (.bool true) (.int .u8 0) (.slice none 0 0) (.slice none 0 0)).step (bal (Below.refl _ _) (.cells #[.int .i64 60, .int .i64 a, .int .u8 cd, .bool true, .int .u8 0, .slice none 0 0, .slice none 0 0] 144)))
  have HF := hid (show BehD (er, { opZ with kind := 60, addr := a, graph := true, code := cd }, 4) w (.returned (.tuple #[.agg #[.int .i64 60, .int .i64 a, .int .u8 cd, .bool true, .int .u8 0, .slice none 0 0, .slice none 0 0], .int .i64 4, .int .i64 er])) ((put7 (w1) w.heap.size (.int .i64 60) (.int .i64 a) (.int .u8 cd) (.bool true) (.int .u8 0) (.slice none 0 0) (.slice none 0 0)).alloc (.cells #[.int .i64 60, .int .i64 a, .int .u8 cd, .bool true, .int .u8 0, .slice none 0 0, .slice none 0 0] 144)) from beh_end (r := (er, { opZ with kind := 60, addr := a, graph := true, code := cd }, 4)) rfl (World.ownsRow_nil _ _ _ _) HBW.out w.heap.size w.heap.size (Nat.le_refl _) (Nat.le_refl _) (fun _ q => by cases q) ((moved_one _ _ _ _ _ _ _).trans (Moved.alloc _ _ _)))
  obtain ⟨c0, c1, c2, c3, c4, c5, c6, fc⟩ := X0
  have f0 := fc 0 (by omega)
  have f1 := fc 1 (by omega)
  have f2 := fc 2 (by omega)
  have f3 := fc 3 (by omega)
  have f4 := fc 4 (by omega)
  have f5 := fc 5 (by omega)
  have f6 := fc 6 (by omega)
  clear fc hb1
  go_wp2_with fail
  with_reducible refine (HCD.out _ (by first | exact bal HBW.out _ | exact (bal HBW.out _).setCell (by have := HBW.out.size; simp; omega) _)).mono ?_
  rintro e w2 ⟨rfl, rfl⟩
  go_wp2
  revert HP HF
  generalize hW : put7 (w1) w.heap.size (.int .i64 60) (.int .i64 a) (.int .u8 cd) (.bool true) (.int .u8 0) (.slice none 0 0) (.slice none 0 0) = Wf
  intro HP HF
  obtain ⟨k0, k1, k2, k3, k4, k5, k6, -⟩ := HP.out
  unfold put7 at hW
  rw [hW]
  clear hW
  exact bodyPost_ret (v := .tuple #[.agg #[.int .i64 60, .int .i64 a, .int .u8 cd, .bool true, .int .u8 0, .slice none 0 0, .slice none 0 0], .int .i64 4, .int .i64 er]) (by simp [results, Try.results132, go_sem, k0, k1, k2, k3, k4, k5, k6]) rfl HF.out
end Go.Proofs.Ytlhaefgchmakfaa
namespace Go.Proofs.Ytlhaefgchmakfaa
open Go.RowKit Go.Lib


theorem rep_any (v : Value) (xs : List Int) (w : World) (h : Reads w v xs) (hl : xs.length ≤ 100000) : Calls Try.prog 132 #[v] w (BehD (repF xs) w) := by
  obtain ⟨⟨a, er⟩, hd⟩ : ∃ p, decZ 12 xs = p := ⟨_, rfl⟩
  by_cases he : er = 0
  · subst he
    have h2 : 2 ≤ xs.length := by
      refine Nat.le_of_not_lt fun q => ?_
      rw [decZ_short (by omega) q] at hd
      cases hd
    have hn : ¬ (decZ 12 xs).2 ≠ 0 := by rw [hd]; simp
    obtain ⟨⟨er, cd⟩, hc2⟩ : ∃ p, codF (xs.drop 2) = p := ⟨_, rfl⟩
    obtain ⟨⟨er3, cd3⟩, hc3⟩ : ∃ p, codF (xs.drop 3) = p := ⟨_, rfl⟩
    rcases h.2 with ⟨_, hx⟩ | ⟨y, cap, rfl, h3, h4, h5⟩
    · subst hx; simp at h2
    · have c0 := h5 0 (by omega)
      obtain ⟨g, off, spot⟩ := y
      obtain rfl : spot = none := by simpa [Addr.add] using World.cell?_spot c0
      by_cases hlen : xs.length = 2
      · have e : repF xs = (er, { opZ with kind := 60, addr := a, code := cd }, 3) := by
          unfold repF
          rw [if_neg hn, if_neg (by omega), hd, hc2]
        rw [e]
        exact rep_len w g off _ cap xs a er cd hlen hd hc2 rfl (by omega) h
      · have c2 := h5 2 (by omega)
        rw [addr_add] at c2
        obtain ⟨z, hz1, hz2, hz3⟩ := byte_at h.1 2 (by omega)
        rw [hz2] at c2
        by_cases hz : z = 8
        · subst hz
          have e : repF xs = (er3, { opZ with kind := 60, addr := a, graph := true, code := cd3 }, 4) := by
            unfold repF
            rw [if_neg hn, if_pos ⟨by omega, hz2⟩, hd, hc3]
          rw [e]
          exact rep_three w g off _ cap xs a er3 cd3 (by omega) c2 hd hc3 rfl (by omega) h
        · have e : repF xs = (er, { opZ with kind := 60, addr := a, code := cd }, 3) := by
            unfold repF
            rw [if_neg hn, if_neg (fun q => hz (by have := q.2; rw [hz2] at this; omega)), hd, hc2]
          rw [e]
          exact rep_two w g off _ cap xs a er cd z hz (by omega) c2 hd hc2 rfl (by omega) h
  · have e : repF xs = (er, opZ, 0) := by
      unfold repF
      rw [if_pos (by rw [hd]; exact he), hd]
    rw [e]
    exact rep_bad v xs a er hd he w h

set_option maxRecDepth 100000 in
set_option maxHeartbeats 2000000 in
theorem beh_60 (v : Value) (xs : List Int) (w : World) (h : Reads w v xs) (hl : xs.length ≤ 100000) : Calls Try.prog 127 #[.int .i64 60, v] w (BehD (repF xs) w) := by
  obtain ⟨⟨er, ⟨kd, ad, cd, gr, fa, ps, tx⟩, u⟩, hr⟩ : ∃ p, repF xs = p := ⟨_, rfl⟩
  have HD := hid (fun W (hb : Below w.heap.size w W) => show Calls Try.prog 132 #[v] W (BehD (er, ⟨kd, ad, cd, gr, fa, ps, tx⟩, u) W) from by
    have q := rep_any v xs W (reads_below h hb) hl
    rw [hr] at q
    exact q)
  rw [hr]
  obtain ⟨x, c, rfl⟩ := reads_sl h
  clear h hl hr
  have HB0 := hid (bal (bal (Below.refl w.heap.size w) (.cells #[.int .i64 0, .int .i64 0, .int .u8 0, .bool false, .int .u8 0, .slice none 0 0, .slice none 0 0] 144)) (.cells #[.int .i64 60, .int .i64 0, .int .u8 0, .bool false, .int .u8 0, .slice none 0 0, .slice none 0 0] 144))
  have HX0 := hid ((Box7.new (v0 := .int .i64 0) (v1 := .int .i64 0) (v2 := .int .u8 0) (v3 := .bool false) (v4 := .int .u8 0) (v5 := .slice none 0 0) (v6 := .slice none 0 0) w 144).step (bal (Below.refl _ _) (.cells #[.int .i64 60, .int .i64 0, .int .u8 0, .bool false, .int .u8 0, .slice none 0 0, .slice none 0 0] 144)))
  have HC := hid (HD.out _ HB0.out)
  go_enter Try.func127, Try.ntmps127
  go_wp2_with fail
  with_reducible refine HC.out.mono ?_
  rintro e w1 ⟨pv, rfl, ho1, hb1⟩
  dsimp only at ho1
  obtain ⟨xp, cp, rfl⟩ := row_slice ho1
  have X0 := HX0.out.step hb1
  have hlt := X0.lt
  have HP := hid (X0.put (.int .i64 kd) (.int .i64 ad) (.int .u8 cd) (.bool gr) (.int .u8 fa) (.slice xp ps.length cp) (.slice none 0 0))
  have HF := hid (show BehD (er, ⟨kd, ad, cd, gr, fa, ps, tx⟩, u) w (.returned (.tuple #[.agg #[.int .i64 kd, .int .i64 ad, .int .u8 cd, .bool gr, .int .u8 fa, .slice xp ps.length cp, .slice none 0 0], .int .i64 u, .int .i64 er])) (put7 (w1) w.heap.size (.int .i64 kd) (.int .i64 ad) (.int .u8 cd) (.bool gr) (.int .u8 fa) (.slice xp ps.length cp) (.slice none 0 0)) from beh_end (r := (er, ⟨kd, ad, cd, gr, fa, ps, tx⟩, u)) rfl (own_weak ho1 (by simp; omega)) (below_t HB0.out hb1) w.heap.size w.heap.size (Nat.le_refl _) (Nat.le_refl _) (fun k hk => by have := (ho1.lt k (mem_blkV.1 hk)).1; simp at this; omega) (moved_one _ _ _ _ _ _ _))
  obtain ⟨c0, c1, c2, c3, c4, c5, c6, fc⟩ := X0
  have f0 := fc 0 (by omega)
  have f1 := fc 1 (by omega)
  have f2 := fc 2 (by omega)
  have f3 := fc 3 (by omega)
  have f4 := fc 4 (by omega)
  have f5 := fc 5 (by omega)
  have f6 := fc 6 (by omega)
  clear fc hb1
  go_wp2
  revert HP HF
  generalize hW : put7 (w1) w.heap.size (.int .i64 kd) (.int .i64 ad) (.int .u8 cd) (.bool gr) (.int .u8 fa) (.slice xp ps.length cp) (.slice none 0 0) = Wf
  intro HP HF
  obtain ⟨k0, k1, k2, k3, k4, k5, k6, -⟩ := HP.out
  unfold put7 at hW
  rw [hW]
  clear hW
  exact bodyPost_ret (v := .tuple #[.agg #[.int .i64 kd, .int .i64 ad, .int .u8 cd, .bool gr, .int .u8 fa, .slice xp ps.length cp, .slice none 0 0], .int .i64 u, .int .i64 er]) (by simp [results, Try.results127, go_sem, k0, k1, k2, k3, k4, k5, k6]) rfl HF.out

set_option maxRecDepth 100000 in
set_option maxHeartbeats 2000000 in
theorem beh_5 (v : Value) (w : World) : Calls Try.prog 127 #[.int .i64 5, v] w (BehD (0, { opZ with kind := 5 }, 0) w) := by
  go_enter Try.func127, Try.ntmps127
  go_wp2
  refine bodyPost_ret (v := .tuple #[.agg #[.int .i64 5, .int .i64 0, .int .u8 0, .bool false, .int .u8 0, .slice none 0 0, .slice none 0 0], .int .i64 0, .int .i64 0]) (by simp [results, Try.results127, go_sem]) rfl ⟨_, rfl, World.ownsRow_nil _ _ _ _, ?_⟩
  first
    | exact bal (bal (Below.refl _ _) _) _
    | exact bal (bal ((Below.refl _ _).setCell (Nat.le_refl _) _) _) _

set_option maxRecDepth 100000 in
set_option maxHeartbeats 2000000 in
theorem beh_19 (v : Value) (w : World) : Calls Try.prog 127 #[.int .i64 19, v] w (BehD (0, { opZ with kind := 19 }, 0) w) := by
  go_enter Try.func127, Try.ntmps127
  go_wp2
  refine bodyPost_ret (v := .tuple #[.agg #[.int .i64 19, .int .i64 0, .int .u8 0, .bool false, .int .u8 0, .slice none 0 0, .slice none 0 0], .int .i64 0, .int .i64 0]) (by simp [results, Try.results127, go_sem]) rfl ⟨_, rfl, World.ownsRow_nil _ _ _ _, ?_⟩
  first
    | exact bal (bal (Below.refl _ _) _) _
    | exact bal (bal ((Below.refl _ _).setCell (Nat.le_refl _) _) _) _

theorem beh_any (k : Int) (hk : isO k = true) (v : Value) (xs : List Int) (w : World) (h : Reads w v xs) (hl : xs.length ≤ 100000) : Calls Try.prog 127 #[.int .i64 k, v] w (BehD (behF k xs) w) := by
  rcases isO_yes hk with rfl | rfl | rfl | rfl | rfl | rfl | rfl | rfl | rfl | rfl
  · exact beh_5 v w
  · exact beh_8 v xs (codF xs).2 (codF xs).1 rfl w h (by omega)
  · exact beh_17 v xs (decZ 12 xs).1 (decZ 12 xs).2 rfl w h
  · exact beh_18 v xs (decZ 12 xs).1 (decZ 12 xs).2 rfl w h
  · exact beh_19 v w
  · exact beh_29 v xs (sinF xs).2 (sinF xs).1 rfl w h (by omega)
  · exact beh_40 v xs (pairF xs).2 (pairF xs).1 rfl w h
  · exact beh_41 v xs (parF xs).2.1 (parF xs).2.2 (parF xs).1 rfl w h hl
  · exact beh_44 v xs (parF xs).2.1 (parF xs).2.2 (parF xs).1 rfl w h hl
  · exact beh_60 v xs w h hl

def CloneDone (xs : List Int) (w : World) (e : Ending) (w' : World) : Prop := ∃ v, e = .returned v ∧ OwnB w' v xs ∧ Below w.heap.size w w' ∧ ∀ k ∈ blkV v, w.heap.size ≤ k
set_option maxRecDepth 100000 in
theorem clone_any (v : Value) (xs : List Int) (w : World) (h : Reads w v xs) (hlen : xs.length ≤ 140737488355328) : Calls Try.prog 121 #[v] w (CloneDone xs w) := by
  obtain ⟨hb, ⟨rfl, rfl⟩ | ⟨a, cap, rfl, hlc, hcm, hcell⟩⟩ := h
  · clear hb hlen
    have hnil := fun w' => run_eql_slice_nil (P := Try.prog) w' 31 5 none 0 0 Try.underlying31
    go_enter Try.func121, Try.ntmps121
    go_wp2
    go_ret
    exact ⟨_, rfl, OwnB.nil w, Below.refl _ _, fun k hk => by cases hk⟩
  · obtain ⟨i0, hi, hz0, hz1, hz2⟩ := info_parts info5
    have HB := hid hb
    have HC := hid (reads_src (reads_below ⟨hb, .inr ⟨a, cap, rfl, hlc, hcm, hcell⟩⟩ ((Below.refl w.heap.size w).alloc (Nat.le_refl _) (.cells #[] 5)))).2
    have HM : Hid (0 + xs.length ≤ maxLen) := by show _ ≤ _; omega
    have HL : Hid ((0 + xs.length) * 1 ≤ 140737488355328) := by show _ ≤ _; omega
    have HLL : Hid ((xs.map (Value.int .u8)).length = xs.length * 1) := by show _ = _; rw [List.length_map]; omega
    clear hcell hb hlc hcm hlen
    obtain ⟨L, hL⟩ : ∃ L, L = xs.length := ⟨_, rfl⟩
    rw [← hL] at HM HL HLL ⊢
    have HLE := hid hL
    clear hL
    have hnil := fun w' => run_eql_slice_nil (P := Try.prog) w' 31 5 (some a) L cap Try.underlying31
    go_enter Try.func121, Try.ntmps121
    go_wp2_with (first
      | (at_builtin; refine wpList_append_own _ rfl _ _ 31 rfl w.heap.size 5 i0 (.int .u8 0) 1 1 Try.underlying31 hi hz0 hz1 hz2 rfl (by decide) _ 0 [] rfl (World.ownsRow_lit _ #[] 0 (Nat.le_refl _) (Nat.zero_le _) rfl) a L cap (xs.map (Value.int .u8)) rfl HLL.out HC.out (ints_oneCell .u8 _) HM.out HL.out (by simp) ?_; intro v1 w1 hown1 hgrow1 hnil1; have HO := hid hown1; have HG := hid hgrow1; have HNL := hid hnil1; clear hown1 hgrow1 hnil1))
    go_ret
    refine ⟨_, rfl, ⟨HB.out, ?_⟩, ((Below.refl _ _).alloc (Nat.le_refl _) _).grown HG.out (by simp) (fun k hk => by have e : w.heap.size = k := Option.some.inj hk; omega), fun k hk => (HO.out.lt k (mem_blkV.1 hk)).1⟩
    have := HO.out
    rw [Nat.zero_add, List.nil_append] at this
    rw [← HLE.out]
    exact this.mono (Nat.zero_le _)
end Go.Proofs.Ytlhaefgchmakfaa
