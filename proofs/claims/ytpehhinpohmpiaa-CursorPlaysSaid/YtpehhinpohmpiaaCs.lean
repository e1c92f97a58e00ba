/-
  CursorPlays: a script that came in, opened; the law's own walk.
-/
import Derived.Test.YtpehhinpohmpiaaCr
namespace Go.Proofs.Ytpehhinpohmpiaa
open Go.ChangeShapes Go.WideShapes Go.ChangeAt Go.RowKit Go.Joins Go.Lib Go.Deep

/-- An act of the cursor. -/
structure CurD where
  k : Nat
  p : Int
  q : Int
def CurD.cs (a : CurD) : List Value := [.int .u8 a.k, .int .i64 a.p, .int .i64 a.q]
structure CurD.Fit (a : CurD) : Prop where
  k : a.k < 256
  p : I64 a.p
  q : I64 a.q
def cur0 : CurD := ⟨0, 0, 0⟩
/-- A script that lies below B. -/
structure CursIn (B : Nat) (w : World) (v : Value) (xs : List CurD) : Prop where
  fit : ∀ i, i < xs.length → (xs.getD i cur0).Fit
  len : xs.length ≤ 9223372036854775807
  sl : ∃ x c, v = .slice x xs.length c
  at_ : ∀ x c, v = .slice x xs.length c → ∀ i, i < xs.length → ∃ g o, x = some ⟨g, o, none⟩ ∧ g < B ∧ ∀ j, j < 3 → w.cell? ⟨g, o + i * 3 + j, none⟩ = (xs.getD i cur0).cs[j]?
theorem CursIn.below {B : Nat} {A C : World} {v : Value} {xs : List CurD} (h : CursIn B A v xs) (hb : Below B A C) : CursIn B C v xs :=
  ⟨h.fit, h.len, h.sl, fun x c e i hi => by
    obtain ⟨g, o, e1, e2, e3⟩ := h.at_ x c e i hi
    exact ⟨g, o, e1, e2, fun j hj => (hb.cell (p := ⟨g, o + i * 3 + j, none⟩) e2).trans (e3 j hj)⟩⟩
theorem list3 {α : Type} {l : List α} (h : l.length = 3) : ∃ a b c, l = [a, b, c] := by
  match l, h with
  | [a, b, c], _ => exact ⟨a, b, c, rfl⟩
section
variable {H : Type} {enc : TypeId × Value → H} {W : World}
set_option maxRecDepth 100000 in
theorem cur_op {P : Program} {t : TypeId} {f0 f1 f2 : Field} (hs : P.underlying t = some (.struct #[f0, f1, f2])) (hone : oneCellFields P #[f0, f1, f2] = true) (hf0 : P.underlying f0.type = some (.int .u8)) (hf1 : P.underlying f1.type = some (.int .i64)) (hf2 : P.underlying f2.type = some (.int .i64)) {n i : Nat} {a : Addr} {cs : List Value} {y : DataW H × List MemPlace} (hc : W.cells? 0 (a.add (i * 3)) 3 = some cs) (ht : DataW.trod enc P W 0 (fun _ => true) true n t cs = some y) :
    ∃ x : CurD, x.Fit ∧ ∀ j, j < 3 → W.cell? (a.add (i * 3 + j)) = x.cs[j]? := by
  obtain ⟨_, hcl, hat⟩ := World.cells?_some hc
  obtain ⟨ys, n', _, _, _, hyl, hf⟩ := DataW.trod_struct hs ht
  obtain ⟨u0, u1, u2, rfl⟩ := list3 hcl
  obtain ⟨y0, y1, y2, rfl⟩ := list3 (show ys.length = 3 from hyl)
  obtain ⟨o0, k0⟩ := hone_of hone 0 f0 rfl
  obtain ⟨o1, k1⟩ := hone_of hone 1 f1 rfl
  obtain ⟨o2, k2⟩ := hone_of hone 2 f2 rfl
  have g0 := hf 0 f0 rfl
  have g1 := hf 1 f1 rfl
  have g2 := hf 2 f2 rfl
  rw [o0, k0] at g0
  rw [o1, k1] at g1
  rw [o2, k2] at g2
  have f0' : DataW.trod enc P W 0 (fun _ => true) true n' f0.type [u0] = some y0 := g0
  have f1' : DataW.trod enc P W 0 (fun _ => true) true n' f1.type [u1] = some y1 := g1
  have f2' : DataW.trod enc P W 0 (fun _ => true) true n' f2.type [u2] = some y2 := g2
  obtain ⟨b0, e0, _, w0⟩ := DataW.trod_int hf0 f0'
  obtain ⟨b1, e1, _, w1⟩ := DataW.trod_int hf1 f1'
  obtain ⟨b2, e2, _, w2⟩ := DataW.trod_int hf2 f2'
  simp at e0 e1 e2
  subst e0 e1 e2
  obtain ⟨m0, hm0, rfl⟩ := byte_nat w0
  have h1 := bounds_i64 w1
  have h2 := bounds_i64 w2
  refine ⟨⟨m0, b1, b2⟩, ⟨hm0, ⟨by show _ ≤ b1; omega, by show b1 ≤ _; omega⟩, ⟨by show _ ≤ b2; omega, by show b2 ≤ _; omega⟩⟩, fun j hj => ?_⟩
  have h := hat j (by simpa using hj)
  rw [add_add] at h
  rw [h]
  have : j = 0 ∨ j = 1 ∨ j = 2 := by omega
  rcases this with rfl | rfl | rfl <;> rfl
set_option maxRecDepth 100000 in
/-- A script that came in. -/
theorem open_curs {r : Reach} {b0 : Nat} {v : Value} {d : DataW H} {p : List MemPlace} (hv : Value.okWide Try.prog W r b0 72 v) (h : DataW.Trod enc Try.prog W 0 (fun _ => true) true 72 v d p) : ∃ ac, CursIn W.heap.size W v ac := by
  obtain ⟨x, len, cap, rfl⟩ := okWide_slice Try.underlying72 hv
  obtain ⟨fuel, hf⟩ := h
  rcases open_slice Try.underlying72 hf with ⟨hcs, _⟩ | ⟨a, l, c, m, n, D, Pl, hcs, _, hl, hm, hmm, _, hi⟩
  · simp [Value.cells] at hcs
    obtain ⟨rfl, rfl, rfl⟩ := hcs
    exact ⟨[], fun i hi => absurd hi (Nat.not_lt_zero i), by simp, ⟨_, _, rfl⟩, fun x c _ i hi => absurd hi (Nat.not_lt_zero i)⟩
  · simp [Value.cells] at hcs
    obtain ⟨rfl, rfl, rfl⟩ := hcs
    have hmc : m = cap := by simpa using hmm
    rw [show Try.prog.cellsOf 74 = 3 by kernel_rfl] at hi
    have key : ∀ i, ∃ x : CurD, i < len → x.Fit ∧ ∀ j, j < 3 → W.cell? (a.add (i * 3 + j)) = x.cs[j]? := fun i => by
      by_cases hlt : i < len
      · obtain ⟨cs', hc, ht⟩ := hi i (by omega)
        obtain ⟨x, hx⟩ := cur_op Try.underlying74 (by kernel_rfl) (by kernel_rfl) (by kernel_rfl) (by kernel_rfl) hc ht
        exact ⟨x, fun _ => hx⟩
      · exact ⟨cur0, fun h => absurd h hlt⟩
    obtain ⟨f, hf⟩ := Classical.axiomOfChoice key
    have hlen : ((List.range len).map f).length = len := by simp
    have hget : ∀ i, i < len → ((List.range len).map f).getD i cur0 = f i := fun i hi => by simp [List.getD, hi]
    have hm' : cap ≤ 9223372036854775807 := hm
    refine ⟨(List.range len).map f, fun i hi' => ?_, by omega, ⟨some a, cap, by rw [hlen]⟩, fun x c hx i hi' => ?_⟩
    · rw [hlen] at hi'
      rw [hget i hi']
      exact (hf i hi').1
    · rw [hlen] at hi' hx
      injection hx with hx1 hx2 hx3
      rw [hget i hi']
      have hh := (hf i hi').2
      have c0 := hh 0 (by omega)
      obtain ⟨g, off, spot⟩ := a
      have cz : W.cell? ((⟨g, off, spot⟩ : Addr).add (0 * 3 + 0)) = some (.int .u8 (f 0).k) := (hf 0 (by omega)).2 0 (by omega)
      obtain rfl : spot = none := by simpa [Addr.add] using World.cell?_spot cz
      have c1 : W.cell? ((⟨g, off, none⟩ : Addr).add (i * 3 + 0)) = some (.int .u8 (f i).k) := c0
      rw [addr_addS] at c1
      refine ⟨g, off, hx1.symm, World.block_lt_of_cell? W _ c1, fun j hj => ?_⟩
      have c2 := hh j hj
      rw [addr_addS] at c2
      rw [Nat.add_assoc]
      exact c2
end
theorem curS_cu (s : Spc) (k : Nat) (p q : Int) : ∃ v, curS s k p q = s.cuS v := by
  unfold curS
  split
  · exact ⟨_, rfl⟩
  split
  · exact ⟨_, rfl⟩
  split
  · exact ⟨_, rfl⟩
  split
  · exact ⟨_, rfl⟩
  split
  · exact ⟨_, rfl⟩
  unfold aftS
  split
  · split
    · exact ⟨_, rfl⟩
    · exact ⟨_, rfl⟩
  · exact ⟨_, rfl⟩
/-- Both are alike but for the cursor; the copy lies apart. -/
structure Trio (w V : World) (b1 b2 b3 g1 g2 g3 : Nat) (s t : Spc) (c : Int) : Prop where
  duo : Duo w V b1 b2 g1 g2 (s.cuS c) (s.cuS c)
  cp : SpM V b3 g3 t
  ap : ∀ k ∈ [b1, g1, b2, g2], k ≠ b3 ∧ k ≠ g3
theorem Trio.below {w A C : World} {b1 b2 b3 g1 g2 g3 : Nat} {s t : Spc} {c : Int} (h : Trio w A b1 b2 b3 g1 g2 g3 s t c) (hb : Below A.heap.size A C) : Trio w C b1 b2 b3 g1 g2 g3 s t c := ⟨h.duo.below hb, h.cp.below hb, h.ap⟩
set_option maxRecDepth 100000 in
set_option maxHeartbeats 8000000 in
theorem cplays_any (m : Nat) (hm : m < 256) (v : Value) (ac : List ActD) (u : Value) (xs : List CurD) (w : World) (hx : ActsIn w.heap.size w v ac) (hu : CursIn w.heap.size w u xs) : Calls Try.prog 9 #[.int .u8 m, v, u] w fun e w' => e = .returned (.bool true) ∧ Below w.heap.size w w' := by
  have HW := hid (awake15 w)
  have HLY := hid (fun W (hb : Below w.heap.size w W) => lay15_any m hm v ac w.heap.size W hb.size (hx.below hb))
  obtain ⟨x, cp, rfl⟩ := hx.sl
  obtain ⟨y, cq, rfl⟩ := hu.sl
  have HU := hid hu
  obtain ⟨M, hM⟩ : ∃ M, M = xs.length := ⟨_, rfl⟩
  have HM := hid hM
  have hML : M ≤ 9223372036854775807 := by rw [hM]; exact hu.len
  rw [← hM]
  generalize runS (clearS (2 + ((m % 4 : Nat) : Int)) false) ac ac.length = s at HLY
  have HCP := hid (fun b g W h => copy_any (b := b) (g := g) (s := s) W h)
  clear hx hu hm hM
  go_enter Try.func9, Try.ntmps9
  go_wp2_with fail
  with_reducible refine HW.out.mono ?_
  rintro e w1 ⟨rfl, hb1⟩
  have HB1 := hid hb1
  clear hb1
  go_wp2_with fail
  with_reducible refine (HLY.out _ HB1.out).mono ?_
  rintro e w2 ⟨b1, g1, b2, g2, rfl, hd, -⟩
  have HD := hid hd
  clear hd
  go_wp2_with fail
  with_reducible refine (HCP.out b1 g1 _ HD.out.sp).mono ?_
  rintro e w3 ⟨b3, g3, ex, rfl, h3b, h3g, hs3, hb3⟩
  have HT := hid (show Trio w1 w3 b1 b2 b3 g1 g2 g3 s { s with ex := ex } s.cu from ⟨HD.out.below hb3, hs3, fun k hk => by
    have := HD.out.lt k hk
    omega⟩)
  have HLT := hid (show ∀ k ∈ [b1, g1, b2, g2], k < w3.heap.size from fun k hk => HT.out.duo.lt k hk)
  clear HD hs3 h3b h3g hb3
  obtain ⟨c0, HT⟩ : ∃ c0, Hid (Trio w1 w3 b1 b2 b3 g1 g2 g3 s { s with ex := ex } c0) := ⟨_, HT⟩
  have HDF := hid (fun W c (h : SpM W b1 g1 (s.cuS c)) (h3 : SpM W b3 g3 { s with ex := ex }) => callsIn_wide.1 (diff_same 8 (by omega) b1 g1 b3 g3 (s.cuS c) { s with ex := ex } W h h3 rfl rfl rfl))
  go_wp2_with fail
  go_loopw [24] (fun i W => ∃ q : Nat, q ≤ M ∧ i = .int .i64 q ∧ ∃ c : Int, Hid (Trio w1 W b1 b2 b3 g1 g2 g3 s { s with ex := ex } c)) (fun i _ => M - (intOf i).toNat)
  case atStart => exact ⟨0, by omega, rfl, c0, HT.out⟩
  case round =>
    clear HT
    obtain ⟨q, hq, rfl, c, HT⟩ := hrel
    have HBW := hid (show Below w.heap.size w wr from below_t HB1.out HT.out.duo.bel)
    by_cases hqM : q < M
    · have hqi : (q : Int) < M := by omega
      obtain ⟨g4, o4, rfl, hg4, hcell⟩ := (HU.out.below HBW.out).at_ y cq rfl q (by rw [← HM.out]; exact hqM)
      have hfit := HU.out.fit q (by rw [← HM.out]; exact hqM)
      generalize xs.getD q cur0 = a at hcell hfit
      obtain ⟨k, p, r⟩ := a
      have HF := hid hfit
      have u0 : wr.cell? ⟨g4, o4 + q * 3, none⟩ = some (.int .u8 k) := hcell 0 (by omega)
      have u1 : wr.cell? ⟨g4, o4 + q * 3 + 1, none⟩ = some (.int .i64 p) := hcell 1 (by omega)
      have u2 : wr.cell? ⟨g4, o4 + q * 3 + 2, none⟩ = some (.int .i64 r) := hcell 2 (by omega)
      have hgl := World.block_lt_of_cell? wr _ u0
      obtain ⟨W0, hW0⟩ : ∃ W0, wr.alloc (.cells #[.int .u8 k, .int .i64 p, .int .i64 r] 74) = W0 := ⟨_, rfl⟩
      have hb0 : Below wr.heap.size wr W0 := by rw [← hW0]; exact bal (Below.refl _ _) _
      have HZ := hid (show W0.cell? ⟨wr.heap.size, 0, none⟩ = some (.int .u8 k) ∧ W0.cell? ⟨wr.heap.size, 1, none⟩ = some (.int .i64 p) ∧ W0.cell? ⟨wr.heap.size, 2, none⟩ = some (.int .i64 r) ∧ W0.heap.size = wr.heap.size + 1 from ⟨by rw [← hW0]; simp [go_sem], by rw [← hW0]; simp [go_sem], by rw [← hW0]; simp [go_sem], by rw [← hW0]; simp⟩)
      have HT0 := hid (HT.out.below hb0)
      have HW0 := hid hW0
      have HLR := hid (show ∀ k ∈ [b1, g1, b2, g2], k ≠ wr.heap.size from fun k hk => by
        have := HT.out.duo.lt k hk
        omega)
      clear hb0 hW0 hcell hfit
      by_cases h15 : q < 15
      · have h15i : ¬ (15 : Int) ≤ q := by omega
        have HDO := hid (fun W h => do15_any (b := b1) (g := g1) (s := s.cuS c) k HF.out.k p r HF.out.p HF.out.q W h)
        have HRD := hid (fun W h => rdo15_any (b := b2) (g := g2) (s := s.cuS c) k HF.out.k p r HF.out.p HF.out.q W h)
        obtain ⟨c', hc'⟩ := curS_cu (s.cuS c) k p r
        rw [hc', show (s.cuS c).cuS c' = s.cuS c' from rfl] at HDO HRD
        clear hc' HF
        go_wp2_with fail
        simp only [HW0.out]
        obtain ⟨z0, z1, z2, zs⟩ := HZ.out
        have zl : wr.heap.size < W0.heap.size := by omega
        go_wp2_with fail
        with_reducible refine (HDO.out _ HT0.out.duo.sp).mono ?_
        rintro e w5 ⟨⟨v5, rfl⟩, hs, hm⟩
        have HS5 := hid hs
        have HM5 := hid hm
        have hnb : wr.heap.size ∉ [b1, g1] := fun q => HLR.out _ (by simp at q ⊢; omega) rfl
        have z0 := cell_moved hm z0 hnb
        have z1 := cell_moved hm z1 hnb
        have z2 := cell_moved hm z2 hnb
        have zl := World.block_lt_of_cell? w5 _ z0
        have HC5 := hid (HT0.out.cp.moved hm (fun q => (HT0.out.ap b3 (by simp at q ⊢; omega)).1 rfl) (fun q => (HT0.out.ap g3 (by simp at q ⊢; omega)).2 rfl))
        have HR5 := hid (HT0.out.duo.rf.moved hm (fun q => HT0.out.duo.ap b2 q (by simp)) (fun q => HT0.out.duo.ap g2 q (by simp)))
        have HP5 := hid (HT0.out.duo.prog hs hm)
        clear hs hm HDO HZ
        go_wp2_with fail
        with_reducible refine (HRD.out _ HR5.out).mono ?_
        rintro e w6 ⟨⟨v6, rfl⟩, hs, hm⟩
        have HT6 := hid (show Trio w1 w6 b1 b2 b3 g1 g2 g3 s { s with ex := ex } c' from ⟨HP5.out.ref hs hm, HC5.out.moved hm (fun q => (HT0.out.ap b3 (by simp at q ⊢; omega)).1 rfl) (fun q => (HT0.out.ap g3 (by simp at q ⊢; omega)).2 rfl), HT0.out.ap⟩)
        clear hs hm HRD HP5 HC5 HR5 HS5 HM5 HT0 z0 z1 z2 zl zs
        have HCR := hid (fun W (h : SpM W b1 g1 (s.cuS c')) => (show Calls Try.prog 22 #[.pointer (some ⟨b1, 0, none⟩)] W fun e w' => e = .returned (.int .i64 c') ∧ Below W.heap.size W w' from cursor_any (b := b1) (g := g1) W h))
        have hc5 : w6.cell? ⟨b2, 5, none⟩ = some (.int .i64 c') := HT6.out.duo.rf.h5
        have hl5 := World.block_lt_of_cell? w6 _ hc5
        go_wp2_with fail
        refine wp_region_held_drew (S := fun V => V.cell? ⟨b2, 5, none⟩ = some (.int .i64 c') ∧ Below w6.heap.size w6 V) (by kernel_rfl) ?_ (fun hHeld => ?_)
        · have hdr : Below w6.heap.size w6 w6.drew := (Below.refl _ _).drew
          exact ⟨keepc hdr hc5, hdr⟩
        refine takeD (i := 0) (v := ?_) 37 rfl rfl (by kernel_rfl) (by kernel_rfl) (by kernel_rfl) (fun _ _ _ h => h) (by assumption) (Or.inl ⟨by rfl, ?_⟩) ?_
        rotate_left
        · intro w hSw
          (try dsimp only at hSw)
          go_simp
          try with_reducible rfl
        simp only [List.setIfInBounds_toArray, List.set_cons_zero, List.set_cons_succ]
        refine takeD (i := 2) (v := ?_) 39 rfl rfl (by kernel_rfl) (by kernel_rfl) (by kernel_rfl) (fun _ _ _ h => h) (by assumption) (Or.inl ⟨by rfl, ?_⟩) ?_
        rotate_left
        · intro w hSw
          (try dsimp only at hSw)
          go_simp
          try with_reducible rfl
        simp only [List.setIfInBounds_toArray, List.set_cons_zero, List.set_cons_succ]
        refine takeD (i := 3) (v := ?_) 40 rfl rfl (by kernel_rfl) (by kernel_rfl) (by kernel_rfl) (fun _ _ _ h => h) (by assumption) (Or.inl ⟨by rfl, ?_⟩) ?_
        rotate_left
        · intro w hSw
          (try dsimp only at hSw)
          go_simp
          try with_reducible rfl
        simp only [List.setIfInBounds_toArray, List.set_cons_zero, List.set_cons_succ]
        refine takeD (i := 4) (v := ?_) 41 rfl rfl (by kernel_rfl) (by kernel_rfl) (by kernel_rfl) (fun _ _ _ h => h) (by assumption) (Or.inl ⟨by rfl, ?_⟩) ?_
        rotate_left
        · intro w hSw
          (try dsimp only at hSw)
          go_simp
          try with_reducible rfl
        simp only [List.setIfInBounds_toArray, List.set_cons_zero, List.set_cons_succ]
        refine takeD (i := 5) (v := ?_) 42 rfl rfl (by kernel_rfl) (by kernel_rfl) (by kernel_rfl) (fun _ _ _ h => h) (by assumption) (Or.inl ⟨by rfl, ?_⟩) ?_
        rotate_left
        · intro w hSw
          (try dsimp only at hSw)
          go_simp
          try with_reducible rfl
        simp only [List.setIfInBounds_toArray, List.set_cons_zero, List.set_cons_succ]
        refine wpAnyH_ready (rs := [1]) (by kernel_rfl) (by simp) ?_
        refine AllReadyH.cons (by simp only [List.getElem?_toArray, List.getElem?_cons_succ, List.getElem?_cons_zero]; rfl) (fun K hK => ?_) AllReadyH.nil
        go_simp
        go_at_call 22; (with_reducible refine (HCR.out _ (HT6.out.duo.sp.below hHeld.2)).mono ?_); rintro e w7 ⟨rfl, hb7⟩
        refine hK.out _ _ ?_ (fun hHeldN => ?_)
        · exact ⟨keepc hb7 hHeld.1, below_t hHeld.2 hb7⟩
        clear hK K hHeld
        have hHeld := hHeldN
        clear hHeldN
        (try simp only [Act.put, List.setIfInBounds_toArray, List.set_cons_zero, List.set_cons_succ])
        refine takeD (i := 6) (v := ?_) 43 rfl rfl (by kernel_rfl) (by kernel_rfl) (by kernel_rfl) (fun _ _ _ h => h) (by assumption) (Or.inl ⟨by rfl, ?_⟩) ?_
        rotate_left
        · intro w hSw
          (try dsimp only at hSw)
          go_simp
          try with_reducible rfl
        simp only [List.setIfInBounds_toArray, List.set_cons_zero, List.set_cons_succ]
        refine wpAnyH_done (by kernel_rfl) ?_ _
        have HE := hid hHeld
        clear hHeld
        go_wp2
        go_roundw
        case rel => exact ⟨q + 1, by omega, by go_num, c', HT6.out.below HE.out.2⟩
        case measure => simp [intOf]; omega
      · have h15i : (15 : Int) ≤ q := by omega
        have HB0' := hid (show Below w.heap.size w W0 from below_t HB1.out HT0.out.duo.bel)
        go_wp2_with fail
        simp only [HW0.out]
        go_wp2_with fail
        with_reducible refine (HDF.out _ c HT0.out.duo.sp HT0.out.cp).mono ?_
        rintro e w8 ⟨rfl, hb8⟩
        have HB8 := hid (below_t HB0'.out hb8)
        clear hb8
        go_wp2
        go_ret
        exact ⟨by simp, HB8.out⟩
    · obtain rfl : q = M := by omega
      go_wp2_with fail
      with_reducible refine (HDF.out _ c HT.out.duo.sp HT.out.cp).mono ?_
      rintro e w8 ⟨rfl, hb8⟩
      have HB8 := hid (below_t HBW.out hb8)
      clear hb8
      go_wp2
      go_ret
      exact ⟨by simp, HB8.out⟩
end Go.Proofs.Ytpehhinpohmpiaa
