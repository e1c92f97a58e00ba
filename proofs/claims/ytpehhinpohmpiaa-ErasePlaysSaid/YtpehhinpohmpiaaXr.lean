/-
  ErasePlays: a script that came in, opened; the law's own walk.
-/
import Derived.Test.YtpehhinpohmpiaaXq
namespace Go.Proofs.Ytpehhinpohmpiaa
open Go.ChangeShapes Go.WideShapes Go.ChangeAt Go.RowKit Go.Joins Go.Lib Go.Deep

/-- An act of erasing. -/
structure EdtD where
  k : Nat
  p : Int
  q : Int
  c : Cel
def EdtD.cs (a : EdtD) : List Value := [.int .u8 a.k, .int .i64 a.p, .int .i64 a.q, .int .u8 a.c.ch, .bool a.c.at_, .int .u8 a.c.fa, .int .u8 a.c.hi, .int .u8 a.c.co, .int .u8 a.c.se]
structure EdtD.Fit (a : EdtD) : Prop where
  k : a.k < 256
  p : I64 a.p
  q : I64 a.q
  c : a.c.OK
def edt0 : EdtD := ⟨0, 0, 0, ⟨0, false, 0, 0, 0, 0⟩⟩
/-- A script that lies below B. -/
structure EdtsIn (B : Nat) (w : World) (v : Value) (xs : List EdtD) : Prop where
  fit : ∀ i, i < xs.length → (xs.getD i edt0).Fit
  len : xs.length ≤ 9223372036854775807
  sl : ∃ x c, v = .slice x xs.length c
  at_ : ∀ x c, v = .slice x xs.length c → ∀ i, i < xs.length → ∃ g o, x = some ⟨g, o, none⟩ ∧ g < B ∧ ∀ j, j < 9 → w.cell? ⟨g, o + i * 9 + j, none⟩ = (xs.getD i edt0).cs[j]?
theorem EdtsIn.below {B : Nat} {A C : World} {v : Value} {xs : List EdtD} (h : EdtsIn B A v xs) (hb : Below B A C) : EdtsIn B C v xs :=
  ⟨h.fit, h.len, h.sl, fun x c e i hi => by
    obtain ⟨g, o, e1, e2, e3⟩ := h.at_ x c e i hi
    exact ⟨g, o, e1, e2, fun j hj => (hb.cell (p := ⟨g, o + i * 9 + j, none⟩) e2).trans (e3 j hj)⟩⟩
theorem elist4 {α : Type} {l : List α} (h : l.length = 4) : ∃ a b c d, l = [a, b, c, d] := by
  rcases l with _ | ⟨a, _ | ⟨b, _ | ⟨c, _ | ⟨d, _ | ⟨e, l⟩⟩⟩⟩⟩ <;> simp at h
  exact ⟨a, b, c, d, rfl⟩
theorem elist9 {α : Type} {l : List α} (h : l.length = 9) : ∃ a0 a1 a2 a3 a4 a5 a6 a7 a8, l = [a0, a1, a2, a3, a4, a5, a6, a7, a8] := by
  rcases l with _ | ⟨a0, _ | ⟨a1, _ | ⟨a2, _ | ⟨a3, _ | ⟨a4, _ | ⟨a5, _ | ⟨a6, _ | ⟨a7, _ | ⟨a8, _ | ⟨a9, l⟩⟩⟩⟩⟩⟩⟩⟩⟩⟩ <;> simp at h
  exact ⟨a0, a1, a2, a3, a4, a5, a6, a7, a8, rfl⟩
section
variable {H : Type} {enc : TypeId × Value → H} {W : World}
set_option maxRecDepth 100000 in
theorem edt_op {P : Program} {t tc : TypeId} {f0 f1 f2 f3 c0 c1 c2 c3 c4 c5 : Field} (hs : P.underlying t = some (.struct #[f0, f1, f2, f3])) (o0 : f0.offset = 0) (o1 : f1.offset = 1) (o2 : f2.offset = 2) (o3 : f3.offset = 3) (k0 : P.cellsOf f0.type = 1) (k1 : P.cellsOf f1.type = 1) (k2 : P.cellsOf f2.type = 1) (k3 : P.cellsOf f3.type = 6) (h0 : P.underlying f0.type = some (.int .u8)) (h1 : P.underlying f1.type = some (.int .i64)) (h2 : P.underlying f2.type = some (.int .i64)) (h3 : f3.type = tc)
    (hsc : P.underlying tc = some (.struct #[c0, c1, c2, c3, c4, c5])) (hone : oneCellFields P #[c0, c1, c2, c3, c4, c5] = true) (q0 : P.underlying c0.type = some (.int .u8)) (q1 : P.underlying c1.type = some .bool) (q2 : P.underlying c2.type = some (.int .u8)) (q3 : P.underlying c3.type = some (.int .u8)) (q4 : P.underlying c4.type = some (.int .u8)) (q5 : P.underlying c5.type = some (.int .u8))
    {n i : Nat} {a : Addr} {cs : List Value} {y : DataW H × List MemPlace} (hc : W.cells? 0 (a.add (i * 9)) 9 = some cs) (ht : DataW.trod enc P W 0 (fun _ => true) true n t cs = some y) :
    ∃ x : EdtD, x.Fit ∧ ∀ j, j < 9 → W.cell? (a.add (i * 9 + j)) = x.cs[j]? := by
  obtain ⟨_, hcl, hat⟩ := World.cells?_some hc
  obtain ⟨ys, n', _, _, _, hyl, hf⟩ := DataW.trod_struct hs ht
  obtain ⟨u0, u1, u2, u3, u4, u5, u6, u7, u8, rfl⟩ := elist9 hcl
  obtain ⟨y0, y1, y2, y3, rfl⟩ := elist4 (show ys.length = 4 from hyl)
  have g0 := hf 0 f0 rfl
  have g1 := hf 1 f1 rfl
  have g2 := hf 2 f2 rfl
  have g3 := hf 3 f3 rfl
  rw [o0, k0] at g0
  rw [o1, k1] at g1
  rw [o2, k2] at g2
  rw [o3, k3, h3] at g3
  obtain ⟨b0, e0, _, w0⟩ := DataW.trod_int h0 (show DataW.trod enc P W 0 (fun _ => true) true n' f0.type [u0] = some y0 from g0)
  obtain ⟨b1, e1, _, w1⟩ := DataW.trod_int h1 (show DataW.trod enc P W 0 (fun _ => true) true n' f1.type [u1] = some y1 from g1)
  obtain ⟨b2, e2, _, w2⟩ := DataW.trod_int h2 (show DataW.trod enc P W 0 (fun _ => true) true n' f2.type [u2] = some y2 from g2)
  obtain ⟨c, hcok, e4⟩ := cel_op hsc hone q0 q1 q2 q3 q4 q5 (cs := [u3, u4, u5, u6, u7, u8]) rfl (show DataW.trod enc P W 0 (fun _ => true) true n' tc [u3, u4, u5, u6, u7, u8] = some y3 from g3)
  simp at e0 e1 e2
  subst e0 e1 e2
  simp only [Cel.cs, List.cons.injEq, and_true] at e4
  obtain ⟨rfl, rfl, rfl, rfl, rfl, rfl⟩ := e4
  obtain ⟨m, hm, rfl⟩ := byte_nat w0
  have hi := bounds_i64 w1
  have hj := bounds_i64 w2
  refine ⟨⟨m, b1, b2, c⟩, ⟨hm, ⟨by show _ ≤ b1; omega, by show b1 ≤ _; omega⟩, ⟨by show _ ≤ b2; omega, by show b2 ≤ _; omega⟩, hcok⟩, fun j hj => ?_⟩
  have h := hat j (by simpa using hj)
  rw [add_add] at h
  rw [h]
  have : j = 0 ∨ j = 1 ∨ j = 2 ∨ j = 3 ∨ j = 4 ∨ j = 5 ∨ j = 6 ∨ j = 7 ∨ j = 8 := by omega
  rcases this with rfl | rfl | rfl | rfl | rfl | rfl | rfl | rfl | rfl <;> rfl
set_option maxRecDepth 100000 in
/-- A script that came in. -/
theorem open_edts {r : Reach} {b0 : Nat} {v : Value} {d : DataW H} {p : List MemPlace} (hv : Value.okWide Try.prog W r b0 23 v) (h : DataW.Trod enc Try.prog W 0 (fun _ => true) true 23 v d p) : ∃ ac, EdtsIn W.heap.size W v ac := by
  obtain ⟨x, len, cap, rfl⟩ := okWide_slice Try.underlying23 hv
  obtain ⟨fuel, hf⟩ := h
  rcases open_slice Try.underlying23 hf with ⟨hcs, _⟩ | ⟨a, l, c, m, n, D, Pl, hcs, _, hl, hm, hmm, _, hi⟩
  · simp [Value.cells] at hcs
    obtain ⟨rfl, rfl, rfl⟩ := hcs
    exact ⟨[], fun i hi => absurd hi (Nat.not_lt_zero i), by simp, ⟨_, _, rfl⟩, fun x c _ i hi => absurd hi (Nat.not_lt_zero i)⟩
  · simp [Value.cells] at hcs
    obtain ⟨rfl, rfl, rfl⟩ := hcs
    have hmc : m = cap := by simpa using hmm
    rw [show Try.prog.cellsOf 32 = 9 by kernel_rfl] at hi
    have key : ∀ i, ∃ x : EdtD, i < len → x.Fit ∧ ∀ j, j < 9 → W.cell? (a.add (i * 9 + j)) = x.cs[j]? := fun i => by
      by_cases hlt : i < len
      · obtain ⟨cs', hc, ht⟩ := hi i (by omega)
        obtain ⟨x, hx⟩ := edt_op (tc := 30) Try.underlying32 (by kernel_rfl) (by kernel_rfl) (by kernel_rfl) (by kernel_rfl) (by kernel_rfl) (by kernel_rfl) (by kernel_rfl) (by kernel_rfl) (by kernel_rfl) (by kernel_rfl) (by kernel_rfl) (by kernel_rfl) Try.underlying30 (by kernel_rfl) (by kernel_rfl) (by kernel_rfl) (by kernel_rfl) (by kernel_rfl) (by kernel_rfl) (by kernel_rfl) hc ht
        exact ⟨x, fun _ => hx⟩
      · exact ⟨edt0, fun h => absurd h hlt⟩
    obtain ⟨f, hf⟩ := Classical.axiomOfChoice key
    have hlen : ((List.range len).map f).length = len := by simp
    have hget : ∀ i, i < len → ((List.range len).map f).getD i edt0 = f i := fun i hi => by simp [List.getD, hi]
    have hm' : cap ≤ 9223372036854775807 := hm
    refine ⟨(List.range len).map f, fun i hi' => ?_, by omega, ⟨some a, cap, by rw [hlen]⟩, fun x c hx i hi' => ?_⟩
    · rw [hlen] at hi'
      rw [hget i hi']
      exact (hf i hi').1
    · rw [hlen] at hi' hx
      injection hx with hx1 hx2 hx3
      rw [hget i hi']
      have hh := (hf i hi').2
      have c0 := hh 0 (by omega)
      obtain ⟨g, off, spot⟩ := a
      have cz : W.cell? ((⟨g, off, spot⟩ : Addr).add (0 * 9 + 0)) = some (.int .u8 (f 0).k) := (hf 0 (by omega)).2 0 (by omega)
      obtain rfl : spot = none := by simpa [Addr.add] using World.cell?_spot cz
      have c1 : W.cell? ((⟨g, off, none⟩ : Addr).add (i * 9 + 0)) = some (.int .u8 (f i).k) := c0
      rw [addr_addS] at c1
      refine ⟨g, off, hx1.symm, World.block_lt_of_cell? W _ c1, fun j hj => ?_⟩
      have c2 := hh j hj
      rw [addr_addS] at c2
      rw [Nat.add_assoc]
      exact c2
end
set_option maxRecDepth 100000 in
set_option maxHeartbeats 8000000 in
theorem eplays_any (m : Nat) (hm : m < 256) (v : Value) (ac : List ActD) (u : Value) (xs : List EdtD) (w : World) (hx : ActsIn w.heap.size w v ac) (hu : EdtsIn w.heap.size w u xs) : Calls Try.prog 3 #[.int .u8 m, v, u] w fun e w' => e = .returned (.bool true) ∧ Below w.heap.size w w' := by
  have HW := hid (awake14 w)
  have HLY := hid (fun W (hb : Below w.heap.size w W) => lay_any m hm v ac w.heap.size W hb.size (hx.below hb))
  obtain ⟨x, cp, rfl⟩ := hx.sl
  obtain ⟨y, cq, rfl⟩ := hu.sl
  have HU := hid hu
  obtain ⟨M, hM⟩ : ∃ M, M = xs.length := ⟨_, rfl⟩
  have HM := hid hM
  have hML : M ≤ 9223372036854775807 := by rw [hM]; exact hu.len
  rw [← hM]
  generalize runS (clearS (2 + ((m % 4 : Nat) : Int)) false) ac ac.length = s at HLY
  clear hx hu hm hM
  go_enter Try.func3, Try.ntmps3
  go_wp2_with fail
  with_reducible refine HW.out.mono ?_
  rintro e w1 ⟨rfl, hb1⟩
  have HB1 := hid hb1
  clear hb1
  go_wp2_with fail
  with_reducible refine (HLY.out _ HB1.out).mono ?_
  rintro e w2 ⟨b1, g1, b2, g2, rfl, hd, hft⟩
  have HT := hid hd
  have HF := hid (show FitC s from hft.fit)
  clear hd hft
  have HSM := hid (fun (t : Spc) W (h : Duo w1 W b1 b2 g1 g2 t t) => same13 b1 g1 b2 g2 t W h.sp h.rf)
  go_wp2_with fail
  go_loopw [21] (fun i W => ∃ q : Nat, q ≤ M ∧ i = .int .i64 q ∧ ∃ t : Spc, Hid (Duo w1 W b1 b2 g1 g2 t t) ∧ Hid (FitC t)) (fun i _ => M - (RowKit.intOf i).toNat)
  case atStart => exact ⟨0, by omega, rfl, s, HT.out, HF.out⟩
  case round =>
    clear HT HF
    obtain ⟨q, hq, rfl, t, HT, HF⟩ := hrel
    have HBW := hid (show Below w.heap.size w wr from below_t HB1.out HT.out.bel)
    by_cases hqM : q < M
    · have hqi : (q : Int) < M := by omega
      obtain ⟨g4, o4, rfl, hg4, hcell⟩ := (HU.out.below HBW.out).at_ y cq rfl q (by rw [← HM.out]; exact hqM)
      have hfit := HU.out.fit q (by rw [← HM.out]; exact hqM)
      generalize xs.getD q edt0 = a at hcell hfit
      obtain ⟨k, p, r, x0, x1, x2, x3, x4, x5⟩ := a
      have HX := hid hfit
      have u0 : wr.cell? ⟨g4, o4 + q * 9, none⟩ = some (.int .u8 k) := hcell 0 (by omega)
      have u1 : wr.cell? ⟨g4, o4 + q * 9 + 1, none⟩ = some (.int .i64 p) := hcell 1 (by omega)
      have u2 : wr.cell? ⟨g4, o4 + q * 9 + 2, none⟩ = some (.int .i64 r) := hcell 2 (by omega)
      have u3 : wr.cell? ⟨g4, o4 + q * 9 + 3, none⟩ = some (.int .u8 x0) := hcell 3 (by omega)
      have u4 : wr.cell? ⟨g4, o4 + q * 9 + 4, none⟩ = some (.bool x1) := hcell 4 (by omega)
      have u5 : wr.cell? ⟨g4, o4 + q * 9 + 5, none⟩ = some (.int .u8 x2) := hcell 5 (by omega)
      have u6 : wr.cell? ⟨g4, o4 + q * 9 + 6, none⟩ = some (.int .u8 x3) := hcell 6 (by omega)
      have u7 : wr.cell? ⟨g4, o4 + q * 9 + 7, none⟩ = some (.int .u8 x4) := hcell 7 (by omega)
      have u8 : wr.cell? ⟨g4, o4 + q * 9 + 8, none⟩ = some (.int .u8 x5) := hcell 8 (by omega)
      have hgl := World.block_lt_of_cell? wr _ u0
      obtain ⟨W0, hW0⟩ : ∃ W0, wr.alloc (.cells #[.int .u8 k, .int .i64 p, .int .i64 r, .int .u8 x0, .bool x1, .int .u8 x2, .int .u8 x3, .int .u8 x4, .int .u8 x5] 32) = W0 := ⟨_, rfl⟩
      have hb0 : Below wr.heap.size wr W0 := by rw [← hW0]; exact bal (Below.refl _ _) _
      have HZ := hid (show (W0.cell? ⟨wr.heap.size, 0, none⟩ = some (.int .u8 k) ∧ W0.cell? ⟨wr.heap.size, 1, none⟩ = some (.int .i64 p) ∧ W0.cell? ⟨wr.heap.size, 2, none⟩ = some (.int .i64 r) ∧ W0.cell? ⟨wr.heap.size, 3, none⟩ = some (.int .u8 x0) ∧ W0.cell? ⟨wr.heap.size, 4, none⟩ = some (.bool x1) ∧ W0.cell? ⟨wr.heap.size, 5, none⟩ = some (.int .u8 x2) ∧ W0.cell? ⟨wr.heap.size, 6, none⟩ = some (.int .u8 x3) ∧ W0.cell? ⟨wr.heap.size, 7, none⟩ = some (.int .u8 x4) ∧ W0.cell? ⟨wr.heap.size, 8, none⟩ = some (.int .u8 x5)) ∧ W0.heap.size = wr.heap.size + 1 from ⟨⟨by rw [← hW0]; simp [go_sem], by rw [← hW0]; simp [go_sem], by rw [← hW0]; simp [go_sem], by rw [← hW0]; simp [go_sem], by rw [← hW0]; simp [go_sem], by rw [← hW0]; simp [go_sem], by rw [← hW0]; simp [go_sem], by rw [← hW0]; simp [go_sem], by rw [← hW0]; simp [go_sem]⟩, by rw [← hW0]; simp⟩)
      have HT1 := hid (HT.out.below hb0)
      have HW0 := hid hW0
      have HLR := hid (show ∀ k ∈ [b1, g1, b2, g2], k ≠ wr.heap.size from fun k hk => by
        have := HT.out.lt k hk
        omega)
      clear hb0 hW0 hcell hfit
      by_cases h12 : q < 12
      · have h12i : ¬ (12 : Int) ≤ q := by omega
        have HDO := hid (fun W h => dopl_any (b := b1) (g := g1) (s := t) k HX.out.k p r HX.out.p HX.out.q ⟨x0, x1, x2, x3, x4, x5⟩ HX.out.c W h)
        have HRD := hid (fun W h => rdopl_any (b := b2) (g := g2) (s := t) k HX.out.k p r HX.out.p HX.out.q ⟨x0, x1, x2, x3, x4, x5⟩ HX.out.c HF.out W h)
        have HF6 := hid (pl_fit HT.out.sp.ok HF.out k p r HX.out.c)
        dsimp only at HDO HRD HF6
        generalize plS k t p r ⟨x0, x1, x2, x3, x4, x5⟩ = t' at HDO HRD HF6
        generalize plA k t p r = pa at HDO HRD
        go_wp2_with fail
        simp only [HW0.out]
        obtain ⟨⟨z0, z1, z2, z3, z4, z5, z6, z7, z8⟩, zs⟩ := HZ.out
        have zl : wr.heap.size < W0.heap.size := by omega
        go_wp2_with fail
        clear u0 u1 u2 u3 u4 u5 u6 u7 u8
        have HTD := hid (show Duo w1 W0.drew b1 b2 g1 g2 t t from HT1.out.below (Below.refl _ _).drew)
        refine wp_region_held_drew (S := fun V => V.cell? ⟨wr.heap.size, 0, none⟩ = some (.int .u8 k) ∧ V.cell? ⟨wr.heap.size, 1, none⟩ = some (.int .i64 p) ∧ V.cell? ⟨wr.heap.size, 2, none⟩ = some (.int .i64 r) ∧ V.cell? ⟨wr.heap.size, 3, none⟩ = some (.int .u8 x0) ∧ V.cell? ⟨wr.heap.size, 4, none⟩ = some (.bool x1) ∧ V.cell? ⟨wr.heap.size, 5, none⟩ = some (.int .u8 x2) ∧ V.cell? ⟨wr.heap.size, 6, none⟩ = some (.int .u8 x3) ∧ V.cell? ⟨wr.heap.size, 7, none⟩ = some (.int .u8 x4) ∧ V.cell? ⟨wr.heap.size, 8, none⟩ = some (.int .u8 x5)) (by kernel_rfl) ?_ (fun hHeld => ?_)
        · exact ⟨keepc (Below.refl _ _).drew z0, keepc (Below.refl _ _).drew z1, keepc (Below.refl _ _).drew z2, keepc (Below.refl _ _).drew z3, keepc (Below.refl _ _).drew z4, keepc (Below.refl _ _).drew z5, keepc (Below.refl _ _).drew z6, keepc (Below.refl _ _).drew z7, keepc (Below.refl _ _).drew z8⟩
        refine takeD (i := 0) (v := ?_) 28 rfl rfl (by kernel_rfl) (by kernel_rfl) (by kernel_rfl) (fun _ _ _ h => h) (by assumption) (Or.inl ⟨by rfl, ?_⟩) ?_
        rotate_left
        · intro w hSw
          (try dsimp only at hSw)
          go_simp
          try with_reducible rfl
        simp only [List.setIfInBounds_toArray, List.set_cons_zero, List.set_cons_succ]
        refine takeD (i := 1) (v := ?_) 29 rfl rfl (by kernel_rfl) (by kernel_rfl) (by kernel_rfl) (fun _ _ _ h => h) (by assumption) (Or.inl ⟨by rfl, ?_⟩) ?_
        rotate_left
        · intro w hSw
          (try dsimp only at hSw)
          go_simp
          try with_reducible rfl
        simp only [List.setIfInBounds_toArray, List.set_cons_zero, List.set_cons_succ]
        refine takeD (i := 3) (v := ?_) 31 rfl rfl (by kernel_rfl) (by kernel_rfl) (by kernel_rfl) (fun _ _ _ h => h) (by assumption) (Or.inl ⟨by rfl, ?_⟩) ?_
        rotate_left
        · intro w hSw
          (try dsimp only at hSw)
          go_simp
          try with_reducible rfl
        simp only [List.setIfInBounds_toArray, List.set_cons_zero, List.set_cons_succ]
        refine takeD (i := 4) (v := ?_) 32 rfl rfl (by kernel_rfl) (by kernel_rfl) (by kernel_rfl) (fun _ _ _ h => h) (by assumption) (Or.inl ⟨by rfl, ?_⟩) ?_
        rotate_left
        · intro w hSw
          (try dsimp only at hSw)
          go_simp
          try with_reducible rfl
        simp only [List.setIfInBounds_toArray, List.set_cons_zero, List.set_cons_succ]
        refine wpAnyH_ready (rs := [2]) (by kernel_rfl) (by simp) ?_
        refine AllReadyH.cons (by simp only [List.getElem?_toArray, List.getElem?_cons_succ, List.getElem?_cons_zero]; rfl) (fun K hK => ?_) AllReadyH.nil
        go_simp
        go_at_call 15; (with_reducible refine (HDO.out _ HTD.out.sp).mono ?_); rintro e w5 ⟨rfl, hs, hm⟩
        have HR5 := hid (HTD.out.rf.moved hm (fun q => HTD.out.ap b2 q (by simp)) (fun q => HTD.out.ap g2 q (by simp)))
        have HP5 := hid (HTD.out.prog hs hm)
        have hnb : wr.heap.size ∉ [b1, g1] := fun q => HLR.out _ (by simp at q ⊢; omega) rfl
        have HK5 := hid (show w5.cell? ⟨wr.heap.size, 0, none⟩ = some (.int .u8 k) ∧ w5.cell? ⟨wr.heap.size, 1, none⟩ = some (.int .i64 p) ∧ w5.cell? ⟨wr.heap.size, 2, none⟩ = some (.int .i64 r) ∧ w5.cell? ⟨wr.heap.size, 3, none⟩ = some (.int .u8 x0) ∧ w5.cell? ⟨wr.heap.size, 4, none⟩ = some (.bool x1) ∧ w5.cell? ⟨wr.heap.size, 5, none⟩ = some (.int .u8 x2) ∧ w5.cell? ⟨wr.heap.size, 6, none⟩ = some (.int .u8 x3) ∧ w5.cell? ⟨wr.heap.size, 7, none⟩ = some (.int .u8 x4) ∧ w5.cell? ⟨wr.heap.size, 8, none⟩ = some (.int .u8 x5) from ⟨cell_moved hm hHeld.1 hnb, cell_moved hm hHeld.2.1 hnb, cell_moved hm hHeld.2.2.1 hnb, cell_moved hm hHeld.2.2.2.1 hnb, cell_moved hm hHeld.2.2.2.2.1 hnb, cell_moved hm hHeld.2.2.2.2.2.1 hnb, cell_moved hm hHeld.2.2.2.2.2.2.1 hnb, cell_moved hm hHeld.2.2.2.2.2.2.2.1 hnb, cell_moved hm hHeld.2.2.2.2.2.2.2.2 hnb⟩)
        have HOK5 := hid hs.ok
        clear hs hm
        refine hK.out _ _ ?_ (fun hHeldN => ?_)
        · exact HK5.out
        clear hK K hHeld
        have hHeld := hHeldN
        clear hHeldN
        (try simp only [Act.put, List.setIfInBounds_toArray, List.set_cons_zero, List.set_cons_succ])
        refine wpAnyH_ready (rs := [5]) (by kernel_rfl) (by simp) ?_
        refine AllReadyH.cons (by simp only [List.getElem?_toArray, List.getElem?_cons_succ, List.getElem?_cons_zero]; rfl) (fun K hK => ?_) AllReadyH.nil
        go_simp
        go_at_call 16; (with_reducible refine (HRD.out _ HR5.out).mono ?_); rintro e w6 ⟨rfl, hs, hm⟩
        have hnb : wr.heap.size ∉ [b2, g2] := fun q => HLR.out _ (by simp at q ⊢; omega) rfl
        have HK6 := hid (show w6.cell? ⟨wr.heap.size, 0, none⟩ = some (.int .u8 k) ∧ w6.cell? ⟨wr.heap.size, 1, none⟩ = some (.int .i64 p) ∧ w6.cell? ⟨wr.heap.size, 2, none⟩ = some (.int .i64 r) ∧ w6.cell? ⟨wr.heap.size, 3, none⟩ = some (.int .u8 x0) ∧ w6.cell? ⟨wr.heap.size, 4, none⟩ = some (.bool x1) ∧ w6.cell? ⟨wr.heap.size, 5, none⟩ = some (.int .u8 x2) ∧ w6.cell? ⟨wr.heap.size, 6, none⟩ = some (.int .u8 x3) ∧ w6.cell? ⟨wr.heap.size, 7, none⟩ = some (.int .u8 x4) ∧ w6.cell? ⟨wr.heap.size, 8, none⟩ = some (.int .u8 x5) from ⟨cell_moved hm HK5.out.1 hnb, cell_moved hm HK5.out.2.1 hnb, cell_moved hm HK5.out.2.2.1 hnb, cell_moved hm HK5.out.2.2.2.1 hnb, cell_moved hm HK5.out.2.2.2.2.1 hnb, cell_moved hm HK5.out.2.2.2.2.2.1 hnb, cell_moved hm HK5.out.2.2.2.2.2.2.1 hnb, cell_moved hm HK5.out.2.2.2.2.2.2.2.1 hnb, cell_moved hm HK5.out.2.2.2.2.2.2.2.2 hnb⟩)
        have HT6 := hid (HP5.out.ref hs hm)
        clear hs hm
        refine hK.out _ _ ?_ (fun hHeldN => ?_)
        · exact HK6.out
        clear hK K hHeld
        have hHeld := hHeldN
        clear hHeldN
        (try simp only [Act.put, List.setIfInBounds_toArray, List.set_cons_zero, List.set_cons_succ])
        refine takeD (i := 6) (v := ?_) 34 rfl rfl (by kernel_rfl) (by kernel_rfl) (by kernel_rfl) (fun _ _ _ h => h) (by assumption) (Or.inl ⟨by rfl, ?_⟩) ?_
        rotate_left
        · intro w hSw
          (try dsimp only at hSw)
          go_simp
          try with_reducible rfl
        simp only [List.setIfInBounds_toArray, List.set_cons_zero, List.set_cons_succ]
        refine wpAnyH_done (by kernel_rfl) ?_ _
        clear hHeld
        clear z0 z1 z2 z3 z4 z5 z6 z7 z8 zl zs HDO HRD HR5 HP5 HK5 HK6 HT1 HTD HZ
        go_wp2
        go_roundw
        case rel => exact ⟨q + 1, by omega, by go_num, t', HT6.out, HF6.out⟩
        case measure => simp [RowKit.intOf]; omega
      · have h12i : (12 : Int) ≤ q := by omega
        have HB0' := hid (show Below w.heap.size w W0 from below_t HB1.out HT1.out.bel)
        go_wp2_with fail
        simp only [HW0.out]
        go_wp2_with fail
        with_reducible refine (HSM.out t _ HT1.out).mono ?_
        rintro e w8 ⟨rfl, hb8⟩
        have HB8 := hid (below_t HB0'.out hb8)
        clear hb8
        go_wp2
        go_ret
        exact ⟨by simp, HB8.out⟩
    · obtain rfl : q = M := by omega
      go_wp2_with fail
      with_reducible refine (HSM.out t _ HT.out).mono ?_
      rintro e w8 ⟨rfl, hb8⟩
      have HB8 := hid (below_t HBW.out hb8)
      clear hb8
      go_wp2
      go_ret
      exact ⟨by simp, HB8.out⟩
end Go.Proofs.Ytpehhinpohmpiaa
