/-
  Orders: what is behind the byte of an order.
-/
import Derived.Test.YtjhmjjlmdmmilaaIc
namespace Go.Proofs.Ytjhmjjlmdmmilaa
open Go.RowKit Go.Lib

/-- Read: the order (without a text), how many bytes, the error. -/
def BehD (r : Int × OpD × Nat) (w : World) (e : Ending) (w' : World) : Prop := ∃ pv, e = .returned (.tuple #[.agg #[.int .i64 r.2.1.kind, .int .i64 r.2.1.addr, .int .u8 r.2.1.code, .bool r.2.1.graph, .int .u8 r.2.1.fa, pv, .slice none 0 0], .int .i64 r.2.2, .int .i64 r.1]) ∧ w'.ownsRow w.heap.size 48 2 pv r.2.1.pairs.length (cellsP r.2.1.pairs) ∧ Below w.heap.size w w'
theorem beh_end {w w1 W : World} {r : Int × OpD × Nat} {pv : Value} {u : Int} (hu : u = (r.2.2 : Int)) (ho : w1.ownsRow w.heap.size 48 2 pv r.2.1.pairs.length (cellsP r.2.1.pairs)) (hb : Below w.heap.size w w1) (b c : Nat) (hb0 : w.heap.size ≤ b) (hc0 : w.heap.size ≤ c) (hbn : ∀ k ∈ blkV pv, k ≠ b ∧ k ≠ c) (m : Moved w1 W [b, c] [b, c]) : BehD r w (.returned (.tuple #[.agg #[.int .i64 r.2.1.kind, .int .i64 r.2.1.addr, .int .u8 r.2.1.code, .bool r.2.1.graph, .int .u8 r.2.1.fa, pv, .slice none 0 0], .int .i64 u, .int .i64 r.1])) W := by
  subst hu
  refine ⟨pv, rfl, own_moved ho m (fun k hk q => ?_), hb.trans (m.toBelow hb.size (fun k hk => ?_))⟩
  · have := hbn k hk
    simp at q
    omega
  · simp at hk
    rcases hk with rfl | rfl
    · exact hb0
    · exact hc0
theorem moved_two {w : World} {b c : Nat} (i : Nat) (x : Value) (v0 v1 v2 v3 v4 v5 v6 : Value) : Moved w (put7 (w.setCell ⟨c, i, none⟩ x) b v0 v1 v2 v3 v4 v5 v6) [b, c] [b, c] :=
  ((Moved.set (a := w) (S := [c]) (g := c) (by simp) i x).sub (T := [b, c]) (T' := [b, c]) (fun k hk => by simp at hk ⊢; omega) (fun k hk => .inr hk)).trans ((put7_moved _ b v0 v1 v2 v3 v4 v5 v6).sub (T := [b, c]) (T' := [b, c]) (fun k hk => by simp at hk ⊢; omega) (fun k hk => .inr hk))
theorem moved_one {w : World} {b c : Nat} (v0 v1 v2 v3 v4 v5 v6 : Value) : Moved w (put7 w b v0 v1 v2 v3 v4 v5 v6) [b, c] [b, c] :=
  (put7_moved _ b v0 v1 v2 v3 v4 v5 v6).sub (T := [b, c]) (T' := [b, c]) (fun k hk => by simp at hk ⊢; omega) (fun k hk => .inr hk)

set_option maxRecDepth 100000 in
set_option maxHeartbeats 2000000 in
theorem beh_17 (v : Value) (xs : List Int) (a er : Int) (hd : decZ 12 xs = (a, er)) (w : World) (h : Reads w v xs) : Calls Try.prog 19 #[.int .i64 17, v] w (BehD (er, { opZ with kind := 17, addr := a }, 2) w) := by
  have HD := hid (fun W (hb : Below w.heap.size w W) => show Calls Try.prog 21 #[.int .i64 12, v] W fun e w' => e = .returned (.tuple #[.int .i64 a, .int .i64 er]) ∧ Below W.heap.size W w' from by
    have q := decode_any 12 v xs W (reads_below h hb)
    unfold DecDone at q
    rw [hd] at q
    exact q)
  obtain ⟨x, c, rfl⟩ := reads_sl h
  clear h hd
  have HB0 := hid (bal (bal (Below.refl w.heap.size w) (.cells #[.int .i64 0, .int .i64 0, .int .u8 0, .bool false, .int .u8 0, .slice none 0 0, .slice none 0 0] 35)) (.cells #[.int .i64 17, .int .i64 0, .int .u8 0, .bool false, .int .u8 0, .slice none 0 0, .slice none 0 0] 35))
  have hx0 := (Box7.new (v0 := .int .i64 0) (v1 := .int .i64 0) (v2 := .int .u8 0) (v3 := .bool false) (v4 := .int .u8 0) (v5 := .slice none 0 0) (v6 := .slice none 0 0) w 35).step (bal (Below.refl _ _) (.cells #[.int .i64 17, .int .i64 0, .int .u8 0, .bool false, .int .u8 0, .slice none 0 0, .slice none 0 0] 35))
  have hx1 := Box7.new (v0 := .int .i64 17) (v1 := .int .i64 0) (v2 := .int .u8 0) (v3 := .bool false) (v4 := .int .u8 0) (v5 := .slice none 0 0) (v6 := .slice none 0 0) (w.alloc (.cells #[.int .i64 0, .int .i64 0, .int .u8 0, .bool false, .int .u8 0, .slice none 0 0, .slice none 0 0] 35)) 35
  rw [World.size_alloc] at hx1
  have HX0 := hid hx0
  have HX1 := hid hx1
  clear hx0 hx1
  have HC := hid (HD.out _ HB0.out)
  go_enter Try.func19, Try.ntmps19
  go_wp2_with fail
  with_reducible refine HC.out.mono ?_
  rintro e w1 ⟨rfl, hb1⟩
  have X0 := HX0.out.step hb1
  have X1 := HX1.out.step hb1
  have hlt := X1.lt
  have hlt0 : w.heap.size < w1.heap.size := by omega
  have HP := hid ((X0.moved (Moved.set (a := w1) (S := [w.heap.size + 1]) (g := w.heap.size + 1) (by simp) 1 (.int .i64 a)) (by simp)).put (.int .i64 17) (.int .i64 a) (.int .u8 0) (.bool false) (.int .u8 0) (.slice none 0 0) (.slice none 0 0))
  have HF := hid (show BehD (er, { opZ with kind := 17, addr := a }, 2) w (.returned (.tuple #[.agg #[.int .i64 17, .int .i64 a, .int .u8 0, .bool false, .int .u8 0, .slice none 0 0, .slice none 0 0], .int .i64 2, .int .i64 er])) (put7 (w1.setCell ⟨w.heap.size + 1, 1, none⟩ (.int .i64 a)) w.heap.size (.int .i64 17) (.int .i64 a) (.int .u8 0) (.bool false) (.int .u8 0) (.slice none 0 0) (.slice none 0 0)) from beh_end (r := (er, { opZ with kind := 17, addr := a }, 2)) rfl (World.ownsRow_nil _ _ _ _) (below_t HB0.out hb1) w.heap.size (w.heap.size + 1) (Nat.le_refl _) (by omega) (fun _ q => by cases q) (moved_two 1 _ _ _ _ _ _ _ _))
  obtain ⟨c0, c1, c2, c3, c4, c5, c6, fc⟩ := X0
  obtain ⟨d0, d1, d2, d3, d4, d5, d6, fd⟩ := X1
  have f0 := fc 0 (by omega)
  have f1 := fc 1 (by omega)
  have f2 := fc 2 (by omega)
  have f3 := fc 3 (by omega)
  have f4 := fc 4 (by omega)
  have f5 := fc 5 (by omega)
  have f6 := fc 6 (by omega)
  have g0 := fd 1 (by omega)
  clear fc fd hb1
  go_wp2
  revert HP HF
  generalize hW : put7 (w1.setCell ⟨w.heap.size + 1, 1, none⟩ (.int .i64 a)) w.heap.size (.int .i64 17) (.int .i64 a) (.int .u8 0) (.bool false) (.int .u8 0) (.slice none 0 0) (.slice none 0 0) = Wf
  intro HP HF
  obtain ⟨k0, k1, k2, k3, k4, k5, k6, -⟩ := HP.out
  unfold put7 at hW
  rw [hW]
  clear hW
  exact bodyPost_ret (v := .tuple #[.agg #[.int .i64 17, .int .i64 a, .int .u8 0, .bool false, .int .u8 0, .slice none 0 0, .slice none 0 0], .int .i64 2, .int .i64 er]) (by simp [results, Try.results19, go_sem, k0, k1, k2, k3, k4, k5, k6]) rfl HF.out

set_option maxRecDepth 100000 in
set_option maxHeartbeats 2000000 in
theorem beh_18 (v : Value) (xs : List Int) (a er : Int) (hd : decZ 12 xs = (a, er)) (w : World) (h : Reads w v xs) : Calls Try.prog 19 #[.int .i64 18, v] w (BehD (er, { opZ with kind := 18, addr := a }, 2) w) := by
  have HD := hid (fun W (hb : Below w.heap.size w W) => show Calls Try.prog 21 #[.int .i64 12, v] W fun e w' => e = .returned (.tuple #[.int .i64 a, .int .i64 er]) ∧ Below W.heap.size W w' from by
    have q := decode_any 12 v xs W (reads_below h hb)
    unfold DecDone at q
    rw [hd] at q
    exact q)
  obtain ⟨x, c, rfl⟩ := reads_sl h
  clear h hd
  have HB0 := hid (bal (bal (Below.refl w.heap.size w) (.cells #[.int .i64 0, .int .i64 0, .int .u8 0, .bool false, .int .u8 0, .slice none 0 0, .slice none 0 0] 35)) (.cells #[.int .i64 18, .int .i64 0, .int .u8 0, .bool false, .int .u8 0, .slice none 0 0, .slice none 0 0] 35))
  have hx0 := (Box7.new (v0 := .int .i64 0) (v1 := .int .i64 0) (v2 := .int .u8 0) (v3 := .bool false) (v4 := .int .u8 0) (v5 := .slice none 0 0) (v6 := .slice none 0 0) w 35).step (bal (Below.refl _ _) (.cells #[.int .i64 18, .int .i64 0, .int .u8 0, .bool false, .int .u8 0, .slice none 0 0, .slice none 0 0] 35))
  have hx1 := Box7.new (v0 := .int .i64 18) (v1 := .int .i64 0) (v2 := .int .u8 0) (v3 := .bool false) (v4 := .int .u8 0) (v5 := .slice none 0 0) (v6 := .slice none 0 0) (w.alloc (.cells #[.int .i64 0, .int .i64 0, .int .u8 0, .bool false, .int .u8 0, .slice none 0 0, .slice none 0 0] 35)) 35
  rw [World.size_alloc] at hx1
  have HX0 := hid hx0
  have HX1 := hid hx1
  clear hx0 hx1
  have HC := hid (HD.out _ HB0.out)
  go_enter Try.func19, Try.ntmps19
  go_wp2_with fail
  with_reducible refine HC.out.mono ?_
  rintro e w1 ⟨rfl, hb1⟩
  have X0 := HX0.out.step hb1
  have X1 := HX1.out.step hb1
  have hlt := X1.lt
  have hlt0 : w.heap.size < w1.heap.size := by omega
  have HP := hid ((X0.moved (Moved.set (a := w1) (S := [w.heap.size + 1]) (g := w.heap.size + 1) (by simp) 1 (.int .i64 a)) (by simp)).put (.int .i64 18) (.int .i64 a) (.int .u8 0) (.bool false) (.int .u8 0) (.slice none 0 0) (.slice none 0 0))
  have HF := hid (show BehD (er, { opZ with kind := 18, addr := a }, 2) w (.returned (.tuple #[.agg #[.int .i64 18, .int .i64 a, .int .u8 0, .bool false, .int .u8 0, .slice none 0 0, .slice none 0 0], .int .i64 2, .int .i64 er])) (put7 (w1.setCell ⟨w.heap.size + 1, 1, none⟩ (.int .i64 a)) w.heap.size (.int .i64 18) (.int .i64 a) (.int .u8 0) (.bool false) (.int .u8 0) (.slice none 0 0) (.slice none 0 0)) from beh_end (r := (er, { opZ with kind := 18, addr := a }, 2)) rfl (World.ownsRow_nil _ _ _ _) (below_t HB0.out hb1) w.heap.size (w.heap.size + 1) (Nat.le_refl _) (by omega) (fun _ q => by cases q) (moved_two 1 _ _ _ _ _ _ _ _))
  obtain ⟨c0, c1, c2, c3, c4, c5, c6, fc⟩ := X0
  obtain ⟨d0, d1, d2, d3, d4, d5, d6, fd⟩ := X1
  have f0 := fc 0 (by omega)
  have f1 := fc 1 (by omega)
  have f2 := fc 2 (by omega)
  have f3 := fc 3 (by omega)
  have f4 := fc 4 (by omega)
  have f5 := fc 5 (by omega)
  have f6 := fc 6 (by omega)
  have g0 := fd 1 (by omega)
  clear fc fd hb1
  go_wp2
  revert HP HF
  generalize hW : put7 (w1.setCell ⟨w.heap.size + 1, 1, none⟩ (.int .i64 a)) w.heap.size (.int .i64 18) (.int .i64 a) (.int .u8 0) (.bool false) (.int .u8 0) (.slice none 0 0) (.slice none 0 0) = Wf
  intro HP HF
  obtain ⟨k0, k1, k2, k3, k4, k5, k6, -⟩ := HP.out
  unfold put7 at hW
  rw [hW]
  clear hW
  exact bodyPost_ret (v := .tuple #[.agg #[.int .i64 18, .int .i64 a, .int .u8 0, .bool false, .int .u8 0, .slice none 0 0, .slice none 0 0], .int .i64 2, .int .i64 er]) (by simp [results, Try.results19, go_sem, k0, k1, k2, k3, k4, k5, k6]) rfl HF.out

set_option maxRecDepth 100000 in
set_option maxHeartbeats 2000000 in
theorem beh_29 (v : Value) (xs : List Int) (a er : Int) (hd : sinF xs = (er, a)) (w : World) (h : Reads w v xs) (hl : xs.length ≤ 1000000) : Calls Try.prog 19 #[.int .i64 29, v] w (BehD (er, { opZ with kind := 29, fa := a }, 1) w) := by
  have HD := hid (fun W (hb : Below w.heap.size w W) => show Calls Try.prog 23 #[v] W fun e w' => e = .returned (.tuple #[.int .u8 a, .int .i64 er]) ∧ Below W.heap.size W w' from by
    have q := single_any v xs W (reads_below h hb) hl
    rw [hd] at q
    exact q.mono (fun _ _ h => ⟨h.1, h.2 ▸ Below.refl _ _⟩))
  obtain ⟨x, c, rfl⟩ := reads_sl h
  clear h hd hl
  have HB0 := hid (bal (bal (Below.refl w.heap.size w) (.cells #[.int .i64 0, .int .i64 0, .int .u8 0, .bool false, .int .u8 0, .slice none 0 0, .slice none 0 0] 35)) (.cells #[.int .i64 29, .int .i64 0, .int .u8 0, .bool false, .int .u8 0, .slice none 0 0, .slice none 0 0] 35))
  have hx0 := (Box7.new (v0 := .int .i64 0) (v1 := .int .i64 0) (v2 := .int .u8 0) (v3 := .bool false) (v4 := .int .u8 0) (v5 := .slice none 0 0) (v6 := .slice none 0 0) w 35).step (bal (Below.refl _ _) (.cells #[.int .i64 29, .int .i64 0, .int .u8 0, .bool false, .int .u8 0, .slice none 0 0, .slice none 0 0] 35))
  have hx1 := Box7.new (v0 := .int .i64 29) (v1 := .int .i64 0) (v2 := .int .u8 0) (v3 := .bool false) (v4 := .int .u8 0) (v5 := .slice none 0 0) (v6 := .slice none 0 0) (w.alloc (.cells #[.int .i64 0, .int .i64 0, .int .u8 0, .bool false, .int .u8 0, .slice none 0 0, .slice none 0 0] 35)) 35
  rw [World.size_alloc] at hx1
  have HX0 := hid hx0
  have HX1 := hid hx1
  clear hx0 hx1
  have HC := hid (HD.out _ HB0.out)
  go_enter Try.func19, Try.ntmps19
  go_wp2_with fail
  with_reducible refine HC.out.mono ?_
  rintro e w1 ⟨rfl, hb1⟩
  have X0 := HX0.out.step hb1
  have X1 := HX1.out.step hb1
  have hlt := X1.lt
  have hlt0 : w.heap.size < w1.heap.size := by omega
  have HP := hid ((X0.moved (Moved.set (a := w1) (S := [w.heap.size + 1]) (g := w.heap.size + 1) (by simp) 4 (.int .u8 a)) (by simp)).put (.int .i64 29) (.int .i64 0) (.int .u8 0) (.bool false) (.int .u8 a) (.slice none 0 0) (.slice none 0 0))
  have HF := hid (show BehD (er, { opZ with kind := 29, fa := a }, 1) w (.returned (.tuple #[.agg #[.int .i64 29, .int .i64 0, .int .u8 0, .bool false, .int .u8 a, .slice none 0 0, .slice none 0 0], .int .i64 1, .int .i64 er])) (put7 (w1.setCell ⟨w.heap.size + 1, 4, none⟩ (.int .u8 a)) w.heap.size (.int .i64 29) (.int .i64 0) (.int .u8 0) (.bool false) (.int .u8 a) (.slice none 0 0) (.slice none 0 0)) from beh_end (r := (er, { opZ with kind := 29, fa := a }, 1)) rfl (World.ownsRow_nil _ _ _ _) (below_t HB0.out hb1) w.heap.size (w.heap.size + 1) (Nat.le_refl _) (by omega) (fun _ q => by cases q) (moved_two 4 _ _ _ _ _ _ _ _))
  obtain ⟨c0, c1, c2, c3, c4, c5, c6, fc⟩ := X0
  obtain ⟨d0, d1, d2, d3, d4, d5, d6, fd⟩ := X1
  have f0 := fc 0 (by omega)
  have f1 := fc 1 (by omega)
  have f2 := fc 2 (by omega)
  have f3 := fc 3 (by omega)
  have f4 := fc 4 (by omega)
  have f5 := fc 5 (by omega)
  have f6 := fc 6 (by omega)
  have g0 := fd 4 (by omega)
  clear fc fd hb1
  go_wp2
  revert HP HF
  generalize hW : put7 (w1.setCell ⟨w.heap.size + 1, 4, none⟩ (.int .u8 a)) w.heap.size (.int .i64 29) (.int .i64 0) (.int .u8 0) (.bool false) (.int .u8 a) (.slice none 0 0) (.slice none 0 0) = Wf
  intro HP HF
  obtain ⟨k0, k1, k2, k3, k4, k5, k6, -⟩ := HP.out
  unfold put7 at hW
  rw [hW]
  clear hW
  exact bodyPost_ret (v := .tuple #[.agg #[.int .i64 29, .int .i64 0, .int .u8 0, .bool false, .int .u8 a, .slice none 0 0, .slice none 0 0], .int .i64 1, .int .i64 er]) (by simp [results, Try.results19, go_sem, k0, k1, k2, k3, k4, k5, k6]) rfl HF.out

set_option maxRecDepth 100000 in
set_option maxHeartbeats 2000000 in
theorem beh_8 (v : Value) (xs : List Int) (a er : Int) (hd : codF xs = (er, a)) (w : World) (h : Reads w v xs) (hl : xs.length ≤ 1000000) : Calls Try.prog 19 #[.int .i64 8, v] w (BehD (er, { opZ with kind := 8, code := a }, 1) w) := by
  have HD := hid (fun W (hb : Below w.heap.size w W) => show Calls Try.prog 26 #[v] W fun e w' => e = .returned (.tuple #[.int .u8 a, .int .i64 er]) ∧ Below W.heap.size W w' from by
    have q := code_any v xs W (reads_below h hb) hl
    rw [hd] at q
    exact q.mono (fun _ _ h => ⟨h.1, h.2 ▸ Below.refl _ _⟩))
  obtain ⟨x, c, rfl⟩ := reads_sl h
  clear h hd hl
  have HB0 := hid (bal (bal (Below.refl w.heap.size w) (.cells #[.int .i64 0, .int .i64 0, .int .u8 0, .bool false, .int .u8 0, .slice none 0 0, .slice none 0 0] 35)) (.cells #[.int .i64 8, .int .i64 0, .int .u8 0, .bool false, .int .u8 0, .slice none 0 0, .slice none 0 0] 35))
  have hx0 := (Box7.new (v0 := .int .i64 0) (v1 := .int .i64 0) (v2 := .int .u8 0) (v3 := .bool false) (v4 := .int .u8 0) (v5 := .slice none 0 0) (v6 := .slice none 0 0) w 35).step (bal (Below.refl _ _) (.cells #[.int .i64 8, .int .i64 0, .int .u8 0, .bool false, .int .u8 0, .slice none 0 0, .slice none 0 0] 35))
  have hx1 := Box7.new (v0 := .int .i64 8) (v1 := .int .i64 0) (v2 := .int .u8 0) (v3 := .bool false) (v4 := .int .u8 0) (v5 := .slice none 0 0) (v6 := .slice none 0 0) (w.alloc (.cells #[.int .i64 0, .int .i64 0, .int .u8 0, .bool false, .int .u8 0, .slice none 0 0, .slice none 0 0] 35)) 35
  rw [World.size_alloc] at hx1
  have HX0 := hid hx0
  have HX1 := hid hx1
  clear hx0 hx1
  have HC := hid (HD.out _ HB0.out)
  go_enter Try.func19, Try.ntmps19
  go_wp2_with fail
  with_reducible refine HC.out.mono ?_
  rintro e w1 ⟨rfl, hb1⟩
  have X0 := HX0.out.step hb1
  have X1 := HX1.out.step hb1
  have hlt := X1.lt
  have hlt0 : w.heap.size < w1.heap.size := by omega
  have HP := hid ((X0.moved (Moved.set (a := w1) (S := [w.heap.size + 1]) (g := w.heap.size + 1) (by simp) 2 (.int .u8 a)) (by simp)).put (.int .i64 8) (.int .i64 0) (.int .u8 a) (.bool false) (.int .u8 0) (.slice none 0 0) (.slice none 0 0))
  have HF := hid (show BehD (er, { opZ with kind := 8, code := a }, 1) w (.returned (.tuple #[.agg #[.int .i64 8, .int .i64 0, .int .u8 a, .bool false, .int .u8 0, .slice none 0 0, .slice none 0 0], .int .i64 1, .int .i64 er])) (put7 (w1.setCell ⟨w.heap.size + 1, 2, none⟩ (.int .u8 a)) w.heap.size (.int .i64 8) (.int .i64 0) (.int .u8 a) (.bool false) (.int .u8 0) (.slice none 0 0) (.slice none 0 0)) from beh_end (r := (er, { opZ with kind := 8, code := a }, 1)) rfl (World.ownsRow_nil _ _ _ _) (below_t HB0.out hb1) w.heap.size (w.heap.size + 1) (Nat.le_refl _) (by omega) (fun _ q => by cases q) (moved_two 2 _ _ _ _ _ _ _ _))
  obtain ⟨c0, c1, c2, c3, c4, c5, c6, fc⟩ := X0
  obtain ⟨d0, d1, d2, d3, d4, d5, d6, fd⟩ := X1
  have f0 := fc 0 (by omega)
  have f1 := fc 1 (by omega)
  have f2 := fc 2 (by omega)
  have f3 := fc 3 (by omega)
  have f4 := fc 4 (by omega)
  have f5 := fc 5 (by omega)
  have f6 := fc 6 (by omega)
  have g0 := fd 2 (by omega)
  clear fc fd hb1
  go_wp2
  revert HP HF
  generalize hW : put7 (w1.setCell ⟨w.heap.size + 1, 2, none⟩ (.int .u8 a)) w.heap.size (.int .i64 8) (.int .i64 0) (.int .u8 a) (.bool false) (.int .u8 0) (.slice none 0 0) (.slice none 0 0) = Wf
  intro HP HF
  obtain ⟨k0, k1, k2, k3, k4, k5, k6, -⟩ := HP.out
  unfold put7 at hW
  rw [hW]
  clear hW
  exact bodyPost_ret (v := .tuple #[.agg #[.int .i64 8, .int .i64 0, .int .u8 a, .bool false, .int .u8 0, .slice none 0 0, .slice none 0 0], .int .i64 1, .int .i64 er]) (by simp [results, Try.results19, go_sem, k0, k1, k2, k3, k4, k5, k6]) rfl HF.out

theorem own_weak {w : World} {B B' : Nat} {t : TypeId} {m n : Nat} {v : Value} {xs : List Value} (h : w.ownsRow B t m v n xs) (hB : B' ≤ B) : w.ownsRow B' t m v n xs := by
  refine ⟨h.1, ?_⟩
  rcases h.2 with h' | ⟨g, cap, cur, rfl, hg, r⟩
  · exact .inl h'
  · exact .inr ⟨g, cap, cur, rfl, Nat.le_trans hB hg, r⟩
theorem row_slice {w : World} {B : Nat} {t : TypeId} {m n : Nat} {v : Value} {xs : List Value} (h : w.ownsRow B t m v n xs) : ∃ x c, v = .slice x n c := by
  rcases h.2 with ⟨rfl, rfl⟩ | ⟨g, cap, cur, rfl, _⟩
  · exact ⟨_, _, rfl⟩
  · exact ⟨_, _, rfl⟩
/-- Read: the pairs, how many bytes, the error. -/
def ParD (r : Int × List (Nat × Nat) × Nat) (w : World) (e : Ending) (w' : World) : Prop := ∃ pv, e = .returned (.tuple #[pv, .int .i64 r.2.2, .int .i64 r.1]) ∧ w'.ownsRow w.heap.size 48 2 pv r.2.1.length (cellsP r.2.1) ∧ Below w.heap.size w w'
theorem parse_any (v : Value) (xs : List Int) (w : World) (h : Reads w v xs) (hl : xs.length ≤ 100000) : Calls Try.prog 25 #[v] w (ParD (parF xs) w) := by
  obtain ⟨n, hn⟩ : ∃ n, (xs.getD 0 0).toNat = n := ⟨_, rfl⟩
  unfold parF
  rw [hn]
  by_cases hs : xs.length < 1 + 2 * n
  · rw [if_pos hs]
    refine (parse_short v xs hl (by rw [hn]; exact hs) w h).mono ?_
    rintro e w' ⟨rfl, hb⟩
    exact ⟨_, rfl, World.ownsRow_nil _ _ _ _, hb⟩
  · rw [if_neg hs]
    refine (parse_long v xs n hn hl hs w h).mono ?_
    rintro e w' (⟨h1, v, rfl, ho, hb⟩ | ⟨h1, rfl, hb⟩)
    · rw [if_pos h1]
      refine ⟨v, by push_cast; rfl, ?_, hb⟩
      show w'.ownsRow _ _ _ _ (pairsL xs n).length _
      rw [pairsL_length]
      exact ho
    · rw [if_neg (by rw [h1]; decide)]
      exact ⟨_, rfl, World.ownsRow_nil _ _ _ _, hb⟩

set_option maxRecDepth 100000 in
set_option maxHeartbeats 2000000 in
theorem beh_40 (v : Value) (xs : List Int) (ps : List (Nat × Nat)) (er : Int) (hd : pairF xs = (er, ps)) (w : World) (h : Reads w v xs) : Calls Try.prog 19 #[.int .i64 40, v] w (BehD (er, { opZ with kind := 40, pairs := ps }, 2) w) := by
  have HD := hid (fun W (hb : Below w.heap.size w W) => show Calls Try.prog 24 #[v] W (PairD (er, ps) W) from by
    have q := pair_any v xs W (reads_below h hb)
    rw [hd] at q
    exact q)
  obtain ⟨x, c, rfl⟩ := reads_sl h
  clear h hd
  have HB0 := hid (bal (bal (Below.refl w.heap.size w) (.cells #[.int .i64 0, .int .i64 0, .int .u8 0, .bool false, .int .u8 0, .slice none 0 0, .slice none 0 0] 35)) (.cells #[.int .i64 40, .int .i64 0, .int .u8 0, .bool false, .int .u8 0, .slice none 0 0, .slice none 0 0] 35))
  have hx0 := (Box7.new (v0 := .int .i64 0) (v1 := .int .i64 0) (v2 := .int .u8 0) (v3 := .bool false) (v4 := .int .u8 0) (v5 := .slice none 0 0) (v6 := .slice none 0 0) w 35).step (bal (Below.refl _ _) (.cells #[.int .i64 40, .int .i64 0, .int .u8 0, .bool false, .int .u8 0, .slice none 0 0, .slice none 0 0] 35))
  have hx1 := Box7.new (v0 := .int .i64 40) (v1 := .int .i64 0) (v2 := .int .u8 0) (v3 := .bool false) (v4 := .int .u8 0) (v5 := .slice none 0 0) (v6 := .slice none 0 0) (w.alloc (.cells #[.int .i64 0, .int .i64 0, .int .u8 0, .bool false, .int .u8 0, .slice none 0 0, .slice none 0 0] 35)) 35
  rw [World.size_alloc] at hx1
  have HX0 := hid hx0
  have HX1 := hid hx1
  clear hx0 hx1
  have HC := hid (HD.out _ HB0.out)
  go_enter Try.func19, Try.ntmps19
  go_wp2_with fail
  with_reducible refine HC.out.mono ?_
  rintro e w1 ⟨pv, rfl, ho1, hb1⟩
  obtain ⟨xp, cp, rfl⟩ := row_slice ho1
  have X0 := HX0.out.step hb1
  have X1 := HX1.out.step hb1
  have hlt := X1.lt
  have hlt0 : w.heap.size < w1.heap.size := by omega
  have HP := hid ((X0.moved (Moved.set (a := w1) (S := [w.heap.size + 1]) (g := w.heap.size + 1) (by simp) 5 (.slice xp ps.length cp)) (by simp)).put (.int .i64 40) (.int .i64 0) (.int .u8 0) (.bool false) (.int .u8 0) (.slice xp ps.length cp) (.slice none 0 0))
  have HF := hid (show BehD (er, { opZ with kind := 40, pairs := ps }, 2) w (.returned (.tuple #[.agg #[.int .i64 40, .int .i64 0, .int .u8 0, .bool false, .int .u8 0, .slice xp ps.length cp, .slice none 0 0], .int .i64 2, .int .i64 er])) (put7 (w1.setCell ⟨w.heap.size + 1, 5, none⟩ (.slice xp ps.length cp)) w.heap.size (.int .i64 40) (.int .i64 0) (.int .u8 0) (.bool false) (.int .u8 0) (.slice xp ps.length cp) (.slice none 0 0)) from beh_end (r := (er, { opZ with kind := 40, pairs := ps }, 2)) rfl (own_weak ho1 (by simp; omega)) (below_t HB0.out hb1) w.heap.size (w.heap.size + 1) (Nat.le_refl _) (by omega) (fun k hk => by have := (ho1.lt k (mem_blkV.1 hk)).1; simp at this; omega) (moved_two 5 _ _ _ _ _ _ _ _))
  obtain ⟨c0, c1, c2, c3, c4, c5, c6, fc⟩ := X0
  obtain ⟨d0, d1, d2, d3, d4, d5, d6, fd⟩ := X1
  have f0 := fc 0 (by omega)
  have f1 := fc 1 (by omega)
  have f2 := fc 2 (by omega)
  have f3 := fc 3 (by omega)
  have f4 := fc 4 (by omega)
  have f5 := fc 5 (by omega)
  have f6 := fc 6 (by omega)
  have g0 := fd 5 (by omega)
  clear fc fd hb1
  go_wp2
  revert HP HF
  generalize hW : put7 (w1.setCell ⟨w.heap.size + 1, 5, none⟩ (.slice xp ps.length cp)) w.heap.size (.int .i64 40) (.int .i64 0) (.int .u8 0) (.bool false) (.int .u8 0) (.slice xp ps.length cp) (.slice none 0 0) = Wf
  intro HP HF
  obtain ⟨k0, k1, k2, k3, k4, k5, k6, -⟩ := HP.out
  unfold put7 at hW
  rw [hW]
  clear hW
  exact bodyPost_ret (v := .tuple #[.agg #[.int .i64 40, .int .i64 0, .int .u8 0, .bool false, .int .u8 0, .slice xp ps.length cp, .slice none 0 0], .int .i64 2, .int .i64 er]) (by simp [results, Try.results19, go_sem, k0, k1, k2, k3, k4, k5, k6]) rfl HF.out

set_option maxRecDepth 100000 in
set_option maxHeartbeats 2000000 in
theorem beh_41 (v : Value) (xs : List Int) (ps : List (Nat × Nat)) (u : Nat) (er : Int) (hd : parF xs = (er, ps, u)) (w : World) (h : Reads w v xs) (hl : xs.length ≤ 100000) : Calls Try.prog 19 #[.int .i64 41, v] w (BehD (er, { opZ with kind := 41, pairs := ps }, u) w) := by
  have HD := hid (fun W (hb : Below w.heap.size w W) => show Calls Try.prog 25 #[v] W (ParD (er, ps, u) W) from by
    have q := parse_any v xs W (reads_below h hb) hl
    rw [hd] at q
    exact q)
  obtain ⟨x, c, rfl⟩ := reads_sl h
  clear h hd hl
  have HB0 := hid (bal (bal (Below.refl w.heap.size w) (.cells #[.int .i64 0, .int .i64 0, .int .u8 0, .bool false, .int .u8 0, .slice none 0 0, .slice none 0 0] 35)) (.cells #[.int .i64 41, .int .i64 0, .int .u8 0, .bool false, .int .u8 0, .slice none 0 0, .slice none 0 0] 35))
  have hx0 := (Box7.new (v0 := .int .i64 0) (v1 := .int .i64 0) (v2 := .int .u8 0) (v3 := .bool false) (v4 := .int .u8 0) (v5 := .slice none 0 0) (v6 := .slice none 0 0) w 35).step (bal (Below.refl _ _) (.cells #[.int .i64 41, .int .i64 0, .int .u8 0, .bool false, .int .u8 0, .slice none 0 0, .slice none 0 0] 35))
  have hx1 := Box7.new (v0 := .int .i64 41) (v1 := .int .i64 0) (v2 := .int .u8 0) (v3 := .bool false) (v4 := .int .u8 0) (v5 := .slice none 0 0) (v6 := .slice none 0 0) (w.alloc (.cells #[.int .i64 0, .int .i64 0, .int .u8 0, .bool false, .int .u8 0, .slice none 0 0, .slice none 0 0] 35)) 35
  rw [World.size_alloc] at hx1
  have HX0 := hid hx0
  have HX1 := hid hx1
  clear hx0 hx1
  have HC := hid (HD.out _ HB0.out)
  go_enter Try.func19, Try.ntmps19
  go_wp2_with fail
  with_reducible refine HC.out.mono ?_
  rintro e w1 ⟨pv, rfl, ho1, hb1⟩
  obtain ⟨xp, cp, rfl⟩ := row_slice ho1
  have X0 := HX0.out.step hb1
  have X1 := HX1.out.step hb1
  have hlt := X1.lt
  have hlt0 : w.heap.size < w1.heap.size := by omega
  have HP := hid ((X0.moved (Moved.set (a := w1) (S := [w.heap.size + 1]) (g := w.heap.size + 1) (by simp) 5 (.slice xp ps.length cp)) (by simp)).put (.int .i64 41) (.int .i64 0) (.int .u8 0) (.bool false) (.int .u8 0) (.slice xp ps.length cp) (.slice none 0 0))
  have HF := hid (show BehD (er, { opZ with kind := 41, pairs := ps }, u) w (.returned (.tuple #[.agg #[.int .i64 41, .int .i64 0, .int .u8 0, .bool false, .int .u8 0, .slice xp ps.length cp, .slice none 0 0], .int .i64 u, .int .i64 er])) (put7 (w1.setCell ⟨w.heap.size + 1, 5, none⟩ (.slice xp ps.length cp)) w.heap.size (.int .i64 41) (.int .i64 0) (.int .u8 0) (.bool false) (.int .u8 0) (.slice xp ps.length cp) (.slice none 0 0)) from beh_end (r := (er, { opZ with kind := 41, pairs := ps }, u)) rfl (own_weak ho1 (by simp; omega)) (below_t HB0.out hb1) w.heap.size (w.heap.size + 1) (Nat.le_refl _) (by omega) (fun k hk => by have := (ho1.lt k (mem_blkV.1 hk)).1; simp at this; omega) (moved_two 5 _ _ _ _ _ _ _ _))
  obtain ⟨c0, c1, c2, c3, c4, c5, c6, fc⟩ := X0
  obtain ⟨d0, d1, d2, d3, d4, d5, d6, fd⟩ := X1
  have f0 := fc 0 (by omega)
  have f1 := fc 1 (by omega)
  have f2 := fc 2 (by omega)
  have f3 := fc 3 (by omega)
  have f4 := fc 4 (by omega)
  have f5 := fc 5 (by omega)
  have f6 := fc 6 (by omega)
  have g0 := fd 5 (by omega)
  clear fc fd hb1
  go_wp2
  revert HP HF
  generalize hW : put7 (w1.setCell ⟨w.heap.size + 1, 5, none⟩ (.slice xp ps.length cp)) w.heap.size (.int .i64 41) (.int .i64 0) (.int .u8 0) (.bool false) (.int .u8 0) (.slice xp ps.length cp) (.slice none 0 0) = Wf
  intro HP HF
  obtain ⟨k0, k1, k2, k3, k4, k5, k6, -⟩ := HP.out
  unfold put7 at hW
  rw [hW]
  clear hW
  exact bodyPost_ret (v := .tuple #[.agg #[.int .i64 41, .int .i64 0, .int .u8 0, .bool false, .int .u8 0, .slice xp ps.length cp, .slice none 0 0], .int .i64 u, .int .i64 er]) (by simp [results, Try.results19, go_sem, k0, k1, k2, k3, k4, k5, k6]) rfl HF.out

set_option maxRecDepth 100000 in
set_option maxHeartbeats 2000000 in
theorem beh_44 (v : Value) (xs : List Int) (ps : List (Nat × Nat)) (u : Nat) (er : Int) (hd : parF xs = (er, ps, u)) (w : World) (h : Reads w v xs) (hl : xs.length ≤ 100000) : Calls Try.prog 19 #[.int .i64 44, v] w (BehD (er, { opZ with kind := 44, pairs := ps }, u) w) := by
  have HD := hid (fun W (hb : Below w.heap.size w W) => show Calls Try.prog 25 #[v] W (ParD (er, ps, u) W) from by
    have q := parse_any v xs W (reads_below h hb) hl
    rw [hd] at q
    exact q)
  obtain ⟨x, c, rfl⟩ := reads_sl h
  clear h hd hl
  have HB0 := hid (bal (bal (Below.refl w.heap.size w) (.cells #[.int .i64 0, .int .i64 0, .int .u8 0, .bool false, .int .u8 0, .slice none 0 0, .slice none 0 0] 35)) (.cells #[.int .i64 44, .int .i64 0, .int .u8 0, .bool false, .int .u8 0, .slice none 0 0, .slice none 0 0] 35))
  have hx0 := (Box7.new (v0 := .int .i64 0) (v1 := .int .i64 0) (v2 := .int .u8 0) (v3 := .bool false) (v4 := .int .u8 0) (v5 := .slice none 0 0) (v6 := .slice none 0 0) w 35).step (bal (Below.refl _ _) (.cells #[.int .i64 44, .int .i64 0, .int .u8 0, .bool false, .int .u8 0, .slice none 0 0, .slice none 0 0] 35))
  have hx1 := Box7.new (v0 := .int .i64 44) (v1 := .int .i64 0) (v2 := .int .u8 0) (v3 := .bool false) (v4 := .int .u8 0) (v5 := .slice none 0 0) (v6 := .slice none 0 0) (w.alloc (.cells #[.int .i64 0, .int .i64 0, .int .u8 0, .bool false, .int .u8 0, .slice none 0 0, .slice none 0 0] 35)) 35
  rw [World.size_alloc] at hx1
  have HX0 := hid hx0
  have HX1 := hid hx1
  clear hx0 hx1
  have HC := hid (HD.out _ HB0.out)
  go_enter Try.func19, Try.ntmps19
  go_wp2_with fail
  with_reducible refine HC.out.mono ?_
  rintro e w1 ⟨pv, rfl, ho1, hb1⟩
  obtain ⟨xp, cp, rfl⟩ := row_slice ho1
  have X0 := HX0.out.step hb1
  have X1 := HX1.out.step hb1
  have hlt := X1.lt
  have hlt0 : w.heap.size < w1.heap.size := by omega
  have HP := hid ((X0.moved (Moved.set (a := w1) (S := [w.heap.size + 1]) (g := w.heap.size + 1) (by simp) 5 (.slice xp ps.length cp)) (by simp)).put (.int .i64 44) (.int .i64 0) (.int .u8 0) (.bool false) (.int .u8 0) (.slice xp ps.length cp) (.slice none 0 0))
  have HF := hid (show BehD (er, { opZ with kind := 44, pairs := ps }, u) w (.returned (.tuple #[.agg #[.int .i64 44, .int .i64 0, .int .u8 0, .bool false, .int .u8 0, .slice xp ps.length cp, .slice none 0 0], .int .i64 u, .int .i64 er])) (put7 (w1.setCell ⟨w.heap.size + 1, 5, none⟩ (.slice xp ps.length cp)) w.heap.size (.int .i64 44) (.int .i64 0) (.int .u8 0) (.bool false) (.int .u8 0) (.slice xp ps.length cp) (.slice none 0 0)) from beh_end (r := (er, { opZ with kind := 44, pairs := ps }, u)) rfl (own_weak ho1 (by simp; omega)) (below_t HB0.out hb1) w.heap.size (w.heap.size + 1) (Nat.le_refl _) (by omega) (fun k hk => by have := (ho1.lt k (mem_blkV.1 hk)).1; simp at this; omega) (moved_two 5 _ _ _ _ _ _ _ _))
  obtain ⟨c0, c1, c2, c3, c4, c5, c6, fc⟩ := X0
  obtain ⟨d0, d1, d2, d3, d4, d5, d6, fd⟩ := X1
  have f0 := fc 0 (by omega)
  have f1 := fc 1 (by omega)
  have f2 := fc 2 (by omega)
  have f3 := fc 3 (by omega)
  have f4 := fc 4 (by omega)
  have f5 := fc 5 (by omega)
  have f6 := fc 6 (by omega)
  have g0 := fd 5 (by omega)
  clear fc fd hb1
  go_wp2
  revert HP HF
  generalize hW : put7 (w1.setCell ⟨w.heap.size + 1, 5, none⟩ (.slice xp ps.length cp)) w.heap.size (.int .i64 44) (.int .i64 0) (.int .u8 0) (.bool false) (.int .u8 0) (.slice xp ps.length cp) (.slice none 0 0) = Wf
  intro HP HF
  obtain ⟨k0, k1, k2, k3, k4, k5, k6, -⟩ := HP.out
  unfold put7 at hW
  rw [hW]
  clear hW
  exact bodyPost_ret (v := .tuple #[.agg #[.int .i64 44, .int .i64 0, .int .u8 0, .bool false, .int .u8 0, .slice xp ps.length cp, .slice none 0 0], .int .i64 u, .int .i64 er]) (by simp [results, Try.results19, go_sem, k0, k1, k2, k3, k4, k5, k6]) rfl HF.out
end Go.Proofs.Ytjhmjjlmdmmilaa
