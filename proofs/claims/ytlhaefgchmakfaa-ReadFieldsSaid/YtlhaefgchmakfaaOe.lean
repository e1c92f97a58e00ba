/-
  Orders: what bytes begin with.
  Orders: all of what bytes say.
-/
import Derived.Test.YtlhaefgchmakfaaOd
namespace Go.Proofs.Ytlhaefgchmakfaa
open Go.RowKit Go.Lib


section
variable {P : Program} {ops : Array Oper} {Q : Exit → Act → World → Prop} {md : Region.Mode} {S : World → Prop}
/-- An operation is taken first: its slot is written. -/
theorem takeD_o {i : Nat} {oi : Oper} {v : Value} (d : Tmp) {fuel : Nat} {listed : Array Bool} {ts : Array Value} {ds : List Deferred} {w : World} (hi : ops[i]? = some oi) (hd : oi.dst = some d)
    (hs : Region.noSelect ops = true) (hf : Region.free md ops listed i = true) (hr : (Region.ready md ops listed).contains i = true)
    (hQ : ∀ c a w, Q (.panic c) (a.put oi.dst v) w → Q (.panic c) a w) (hS : S w) (hy : YieldsIf P ops S oi v ⟨ts, ds⟩)
    (h : wpAnyH P md ops Q S fuel (listed.setIfInBounds i true) ⟨ts.setIfInBounds d v, ds⟩ w) : wpAnyH P md ops Q S (fuel + 1) listed ⟨ts, ds⟩ w :=
  wpAnyH_take hi hs hf hr hQ hy hS (by rw [hd]; exact h)
end

/-- Read: the order, how many bytes, the error. -/
def FirD (r : Int × OpD × Nat) (w : World) (e : Ending) (w' : World) : Prop := ∃ pv tv, e = .returned (.tuple #[.agg #[.int .i64 r.2.1.kind, .int .i64 r.2.1.addr, .int .u8 r.2.1.code, .bool r.2.1.graph, .int .u8 r.2.1.fa, pv, tv], .int .i64 r.2.2, .int .i64 r.1]) ∧ w'.ownsRow w.heap.size 165 2 pv r.2.1.pairs.length (cellsP r.2.1.pairs) ∧ OwnB w' tv r.2.1.text ∧ (∀ k ∈ blkV tv, w.heap.size ≤ k) ∧ Below w.heap.size w w'
theorem behF_text (k : Int) (xs : List Int) : (behF k xs).2.1.text = [] := by
  unfold behF repF
  repeat (first | rfl | split)
set_option maxRecDepth 100000 in
set_option maxHeartbeats 400000 in
theorem first_text (b : Nat) (r : List Int) (hi : isO (b : Int) = false) (g off n c : Nat) (hn : n = r.length + 1) (hl : n ≤ 100000) (w : World) (h : Reads w (.slice (some ⟨g, off, none⟩) n c) ((b : Int) :: r)) (hb : b < 256) (c0 : w.cell? ⟨g, off, none⟩ = some (.int .u8 b)) : Calls Try.prog 111 #[.slice (some ⟨g, off, none⟩) n c] w (FirD (firF ((b : Int) :: r)) w) := by
  have e1 : firF ((b : Int) :: r) = (0, opT (tkO ((b : Int) :: r)), (tkO ((b : Int) :: r)).length) := by show (if isO (b : Int) = true then _ else _) = _; rw [hi]; rfl
  rw [e1]
  have hle := tkO_le ((b : Int) :: r)
  have hpf : ((b : Int) :: r).take (tkO ((b : Int) :: r)).length = tkO ((b : Int) :: r) := by
    have := List.takeWhile_prefix (p := fun b => !isO b) (l := ((b : Int) :: r))
    exact (List.prefix_iff_eq_take.1 this).symm
  have hll : ((b : Int) :: r).length = n := by rw [hn]; rfl
  obtain ⟨t, ht⟩ : ∃ t, tkO ((b : Int) :: r) = t := ⟨_, rfl⟩
  have HTL := hid (fun W (hW : Below w.heap.size w W) => tlen_any _ _ W (reads_below h hW) (by omega))
  have HIS := hid (is_one (b : Int) (by omega))
  rw [hi] at HIS
  rw [ht] at hle hpf HTL ⊢
  obtain ⟨L, hL⟩ : ∃ L, t.length = L := ⟨_, rfl⟩
  rw [hL] at hle hpf HTL ⊢
  rw [hll] at hle
  have HR := hid h
  have HPF := hid hpf
  have HLT := hid hL
  have HHL := hid hll
  have l0 : 0 < n := by omega
  have hg := World.block_lt_of_cell? w _ c0
  clear e1 hpf ht hL h hn hi hll
  have HB0 := hid (bal (Below.refl w.heap.size w) (.cells #[.int .i64 0, .int .i64 0, .int .u8 0, .bool false, .int .u8 0, .slice none 0 0, .slice none 0 0] 144))
  have HX0 := hid (Box7.new (v0 := .int .i64 0) (v1 := .int .i64 0) (v2 := .int .u8 0) (v3 := .bool false) (v4 := .int .u8 0) (v5 := .slice none 0 0) (v6 := .slice none 0 0) w 144)
  obtain ⟨q, hsl0, hq, -⟩ := run_to (reads_below HR.out HB0.out) L (by rw [HHL.out]; exact hle)
  rw [HPF.out] at hq
  have HCL := hid (clone_any q t _ hq (by rw [HLT.out]; omega))
  obtain ⟨xq, cq, rfl⟩ := reads_sl hq
  rw [HLT.out] at HCL hsl0
  clear hq
  go_enter Try.func111, Try.ntmps111
  go_wp2_with fail
  with_reducible refine (HIS.out _).mono ?_
  rintro e w1 ⟨rfl, rfl⟩
  go_wp2_with fail
  with_reducible refine (HTL.out _ HB0.out).mono ?_
  rintro e w1 ⟨rfl, rfl⟩
  go_wp2_with fail
  with_reducible refine HCL.out.mono ?_
  rintro e w1 ⟨tv, rfl, ho1, hb1, hk1⟩
  obtain ⟨xt, ct, rfl⟩ := own_len ho1 L HLT.out
  have X0 := HX0.out.step hb1
  have hlt := X0.lt
  have HP := hid (X0.put (.int .i64 0) (.int .i64 0) (.int .u8 0) (.bool false) (.int .u8 0) (.slice none 0 0) (.slice xt L ct))
  have m1 := put7_moved w1 w.heap.size (.int .i64 0) (.int .i64 0) (.int .u8 0) (.bool false) (.int .u8 0) (.slice none 0 0) (.slice xt L ct)
  have HF := hid (show FirD (0, opT t, L) w (.returned (.tuple #[.agg #[.int .i64 0, .int .i64 0, .int .u8 0, .bool false, .int .u8 0, .slice none 0 0, .slice xt L ct], .int .i64 L, .int .i64 0])) (put7 (w1) w.heap.size (.int .i64 0) (.int .i64 0) (.int .u8 0) (.bool false) (.int .u8 0) (.slice none 0 0) (.slice xt L ct)) from ⟨_, _, rfl, World.ownsRow_nil _ _ _ _, ho1.moved m1 (fun k hk q => by have := hk1 k hk; simp at this q; omega), fun k hk => by have := hk1 k hk; simp at this; omega, (below_t HB0.out hb1).trans (m1.toBelow (below_t HB0.out hb1).size (fun k hk => by simp at hk; omega))⟩)
  obtain ⟨c0, c1, c2, c3, c4, c5, c6, fc⟩ := X0
  have f0 := fc 0 (by omega)
  have f1 := fc 1 (by omega)
  have f2 := fc 2 (by omega)
  have f3 := fc 3 (by omega)
  have f4 := fc 4 (by omega)
  have f5 := fc 5 (by omega)
  have f6 := fc 6 (by omega)
  clear fc hb1 ho1 hk1 m1
  go_wp2
  revert HP HF
  generalize hW : put7 (w1) w.heap.size (.int .i64 0) (.int .i64 0) (.int .u8 0) (.bool false) (.int .u8 0) (.slice none 0 0) (.slice xt L ct) = Wf
  intro HP HF
  obtain ⟨k0, k1, k2, k3, k4, k5, k6, -⟩ := HP.out
  unfold put7 at hW
  rw [hW]
  clear hW
  exact bodyPost_ret (v := .tuple #[.agg #[.int .i64 0, .int .i64 0, .int .u8 0, .bool false, .int .u8 0, .slice none 0 0, .slice xt L ct], .int .i64 L, .int .i64 0]) (by simp [results, Try.results111, go_sem, k0, k1, k2, k3, k4, k5, k6]) rfl HF.out


theorem fir_end {w w1 W : World} {r : Int × OpD × Nat} {pv : Value} {u : Int} (hu : u = (r.2.2 : Int)) (ho : w1.ownsRow w.heap.size 165 2 pv r.2.1.pairs.length (cellsP r.2.1.pairs)) (ht : r.2.1.text = []) (hb : Below w.heap.size w w1) (b c : Nat) (hb0 : w.heap.size ≤ b) (hc0 : w.heap.size ≤ c) (hbn : ∀ k ∈ blkV pv, k ≠ b ∧ k ≠ c) (m : Moved w1 W [b, c] [b, c]) : FirD r w (.returned (.tuple #[.agg #[.int .i64 r.2.1.kind, .int .i64 r.2.1.addr, .int .u8 r.2.1.code, .bool r.2.1.graph, .int .u8 r.2.1.fa, pv, .slice none 0 0], .int .i64 u, .int .i64 r.1])) W := by
  obtain ⟨pv', h1, h2, h3⟩ := beh_end hu ho hb b c hb0 hc0 hbn m
  injection h1 with h1
  injection h1 with h1
  have h1 := congrArg (fun x => x.toList[0]?) h1
  simp at h1
  subst h1
  subst hu
  exact ⟨pv, _, rfl, h2, ht ▸ OwnB.nil _, fun k hk => (by cases hk), h3⟩

set_option maxRecDepth 100000 in
set_option maxHeartbeats 1000000 in
theorem first_ok (b : Nat) (g off n c : Nat) (kd ad cd : Int) (gr : Bool) (fa : Int) (ps : List (Nat × Nat)) (tx : List Int) (u : Nat) (hu : u ≤ 100000) (htx : tx = []) (hn : 0 < n) (q : Value) (w : World) (hb : b < 256) (hi : isO (b : Int) = true) (hl : n ≤ 100000)
    (hsl : ∀ w', (Instr.sliceAt 31 (.slice (some ⟨g, off, none⟩) n c) (some (.int .i64 1)) none none).run Try.prog w' = .ok q w')
    (hbe : ∀ W, Below w.heap.size w W → Calls Try.prog 127 #[.int .i64 b, q] W (BehD (0, OpD.mk kd ad cd gr fa ps tx, u) W))
    (c0 : w.cell? ⟨g, off, none⟩ = some (.int .u8 b)) : Calls Try.prog 111 #[.slice (some ⟨g, off, none⟩) n c] w (FirD (0, OpD.mk kd ad cd gr fa ps tx, 1 + u) w) := by
  have HIS := hid (is_one (b : Int) (by omega))
  rw [hi] at HIS
  have HBE := hid hbe
  have HTX := hid htx
  have hg := World.block_lt_of_cell? w _ c0
  have HB0 := hid (bal (Below.refl w.heap.size w) (.cells #[.int .i64 0, .int .i64 0, .int .u8 0, .bool false, .int .u8 0, .slice none 0 0, .slice none 0 0] 144))
  have HX0 := hid (Box7.new (v0 := .int .i64 0) (v1 := .int .i64 0) (v2 := .int .u8 0) (v3 := .bool false) (v4 := .int .u8 0) (v5 := .slice none 0 0) (v6 := .slice none 0 0) w 144)
  have HC0 := hid (keepc HB0.out c0)
  clear hi hbe htx
  go_enter Try.func111, Try.ntmps111
  go_wp2_with fail
  with_reducible refine (HIS.out _).mono ?_
  rintro e w1 ⟨rfl, rfl⟩
  have hz : (w.alloc (.cells #[.int .i64 0, .int .i64 0, .int .u8 0, .bool false, .int .u8 0, .slice none 0 0, .slice none 0 0] 144)).heap.size = w.heap.size + 1 := by simp
  have c0' := HC0.out
  have hwb : IntKind.i64.wrap (b : Int) = b := IntWalk.i64_in _ (by omega)
  go_wp2
  generalize w.alloc (.cells #[.int .i64 0, .int .i64 0, .int .u8 0, .bool false, .int .u8 0, .slice none 0 0, .slice none 0 0] 144) = W0 at HB0 HX0 HC0 hz c0' ⊢
  have hl0 : w.heap.size < W0.heap.size := by omega
  clear hz
  refine wp_region_held_drew (S := fun V => V.cell? ⟨g, off, none⟩ = some (.int .u8 b)) (by kernel_rfl) ?_ (fun hHeld => ?_)
  · exact keepc ((Below.refl _ _).drew) HC0.out
  refine takeD_o (i := 0) (v := ?_) 23 rfl rfl (by kernel_rfl) (by kernel_rfl) (by kernel_rfl) (fun _ _ _ h => h) (by assumption) (Or.inl ⟨by rfl, ?_⟩) ?_
  rotate_left
  · intro w hSw
    (try dsimp only at hSw)
    go_simp
    try with_reducible rfl
  simp only [List.setIfInBounds_toArray, List.set_cons_zero, List.set_cons_succ]
  refine takeD_o (i := 1) (v := ?_) 24 rfl rfl (by kernel_rfl) (by kernel_rfl) (by kernel_rfl) (fun _ _ _ h => h) (by assumption) (Or.inl ⟨by rfl, ?_⟩) ?_
  rotate_left
  · intro w hSw
    (try dsimp only at hSw)
    go_simp
    try with_reducible rfl
  simp only [List.setIfInBounds_toArray, List.set_cons_zero, List.set_cons_succ]
  refine takeD_o (i := 2) (v := ?_) 25 rfl rfl (by kernel_rfl) (by kernel_rfl) (by kernel_rfl) (fun _ _ _ h => h) (by assumption) (Or.inl ⟨by rfl, ?_⟩) ?_
  rotate_left
  · intro w hSw
    (try dsimp only at hSw)
    go_simp
    try with_reducible rfl
  simp only [List.setIfInBounds_toArray, List.set_cons_zero, List.set_cons_succ]
  refine takeD_o (i := 3) (v := ?_) 26 rfl rfl (by kernel_rfl) (by kernel_rfl) (by kernel_rfl) (fun _ _ _ h => h) (by assumption) (Or.inl ⟨by rfl, ?_⟩) ?_
  rotate_left
  · intro w hSw
    (try dsimp only at hSw)
    go_simp
    try with_reducible rfl
  simp only [List.setIfInBounds_toArray, List.set_cons_zero, List.set_cons_succ]
  refine takeD_o (i := 4) (v := ?_) 27 rfl rfl (by kernel_rfl) (by kernel_rfl) (by kernel_rfl) (fun _ _ _ h => h) (by assumption) (Or.inl ⟨by rfl, ?_⟩) ?_
  rotate_left
  · intro w hSw
    (try dsimp only at hSw)
    go_simp
    try with_reducible rfl
  simp only [List.setIfInBounds_toArray, List.set_cons_zero, List.set_cons_succ]
  refine takeD_o (i := 5) (v := ?_) 28 rfl rfl (by kernel_rfl) (by kernel_rfl) (by kernel_rfl) (fun _ _ _ h => h) (by assumption) (Or.inl ⟨by rfl, ?_⟩) ?_
  rotate_left
  · intro w hSw
    (try dsimp only at hSw)
    go_simp
    try with_reducible rfl
  simp only [List.setIfInBounds_toArray, List.set_cons_zero, List.set_cons_succ]
  refine wpAnyH_ready (rs := [6, 11]) (by kernel_rfl) (by simp) ?_
  refine AllReadyH.cons (by simp only [List.getElem?_toArray, List.getElem?_cons_succ, List.getElem?_cons_zero]; rfl) (fun K hK => ?_) (AllReadyH.cons (by simp only [List.getElem?_toArray, List.getElem?_cons_succ, List.getElem?_cons_zero]; rfl) (fun K hK => ?_) AllReadyH.nil)
  · go_simp
    with_reducible refine (HBE.out _ HB0.out.drew).mono ?_
    rintro e w2 ⟨pv, rfl, ho2, hb2⟩
    obtain ⟨xp, cp, rfl⟩ := row_slice ho2
    have HO2 := hid ho2
    have HB2 := hid hb2
    clear ho2 hb2
    (try go_wp2_with fail)
    have HG2 := hid (keepc HB2.out hHeld)
    refine hK.out _ _ ?_ (fun hHeldN => ?_)
    · exact HG2.out
    clear hK K hHeld
    have hHeld := hHeldN
    clear hHeldN
    (try simp only [Act.put, List.setIfInBounds_toArray, List.set_cons_zero, List.set_cons_succ])
    refine takeD_o (i := 7) (v := ?_) 22 rfl rfl (by kernel_rfl) (by kernel_rfl) (by kernel_rfl) (fun _ _ _ h => h) (by assumption) (Or.inl ⟨by rfl, ?_⟩) ?_
    rotate_left
    · intro w hSw
      (try dsimp only at hSw)
      go_simp
      try with_reducible rfl
    simp only [List.setIfInBounds_toArray, List.set_cons_zero, List.set_cons_succ]
    refine takeD_o (i := 8) (v := ?_) 30 rfl rfl (by kernel_rfl) (by kernel_rfl) (by kernel_rfl) (fun _ _ _ h => h) (by assumption) (Or.inl ⟨by rfl, ?_⟩) ?_
    rotate_left
    · intro w hSw
      (try dsimp only at hSw)
      go_simp
      try with_reducible rfl
    simp only [List.setIfInBounds_toArray, List.set_cons_zero, List.set_cons_succ]
    refine takeD_o (i := 9) (v := ?_) 31 rfl rfl (by kernel_rfl) (by kernel_rfl) (by kernel_rfl) (fun _ _ _ h => h) (by assumption) (Or.inl ⟨by rfl, ?_⟩) ?_
    rotate_left
    · intro w hSw
      (try dsimp only at hSw)
      go_simp
      try with_reducible rfl
    simp only [List.setIfInBounds_toArray, List.set_cons_zero, List.set_cons_succ]
    refine takeD_o (i := 10) (v := ?_) 32 rfl rfl (by kernel_rfl) (by kernel_rfl) (by kernel_rfl) (fun _ _ _ h => h) (by assumption) (Or.inl ⟨by rfl, ?_⟩) ?_
    rotate_left
    · intro w hSw
      (try dsimp only at hSw)
      go_simp
      try with_reducible rfl
    simp only [List.setIfInBounds_toArray, List.set_cons_zero, List.set_cons_succ]
    refine wpAnyH_ready (rs := [11]) (by kernel_rfl) (by simp) ?_
    refine AllReadyH.cons (by simp only [List.getElem?_toArray, List.getElem?_cons_succ, List.getElem?_cons_zero]; rfl) (fun K hK => ?_) AllReadyH.nil
    go_simp
    refine hK.out _ _ ?_ (fun hHeldN => ?_)
    · exact keepc ((Below.refl _ _).alloc (Nat.le_refl _) _) hHeld
    clear hK K hHeld
    have hHeld := hHeldN
    clear hHeldN
    (try simp only [Act.put, List.setIfInBounds_toArray, List.set_cons_zero, List.set_cons_succ])
    refine wpAnyH_ready (rs := [12]) (by kernel_rfl) (by simp) ?_
    refine AllReadyH.cons (by simp only [List.getElem?_toArray, List.getElem?_cons_succ, List.getElem?_cons_zero]; rfl) (fun K hK => ?_) AllReadyH.nil
    go_simp
    refine hK.out _ _ ?_ (fun hHeldN => ?_)
    · exact keepc (bal (Below.refl _ _) _) HG2.out
    clear hK K hHeld
    have hHeld := hHeldN
    clear hHeldN
    (try simp only [Act.put, List.setIfInBounds_toArray, List.set_cons_zero, List.set_cons_succ])
    refine takeD_o (i := 13) (v := ?_) 7 rfl rfl (by kernel_rfl) (by kernel_rfl) (by kernel_rfl) (fun _ _ _ h => h) (by assumption) (Or.inl ⟨by rfl, ?_⟩) ?_
    rotate_left
    · intro w hSw
      (try dsimp only at hSw)
      go_simp
      try with_reducible rfl
    simp only [List.setIfInBounds_toArray, List.set_cons_zero, List.set_cons_succ]
    refine takeD_o (i := 14) (v := ?_) 8 rfl rfl (by kernel_rfl) (by kernel_rfl) (by kernel_rfl) (fun _ _ _ h => h) (by assumption) (Or.inl ⟨by rfl, ?_⟩) ?_
    rotate_left
    · intro w hSw
      (try dsimp only at hSw)
      go_simp
      try with_reducible rfl
    simp only [List.setIfInBounds_toArray, List.set_cons_zero, List.set_cons_succ]
    refine wpAnyH_done (by kernel_rfl) ?_ _
    clear hHeld
    have X0 := HX0.out.step (((Below.refl _ _).drew).trans HB2.out)
    have hlt := X0.lt
    have HBW := hid (HB0.out.trans ((((Below.refl W0.heap.size W0).drew).trans HB2.out).mono HB0.out.size))
    have HP := hid ((X0.put (.int .i64 kd) (.int .i64 ad) (.int .u8 cd) (.bool gr) (.int .u8 fa) (.slice xp ps.length cp) (.slice none 0 0)).step (bal (Below.refl _ _) (.cells #[.int .i64 kd, .int .i64 ad, .int .u8 cd, .bool gr, .int .u8 fa, .slice xp ps.length cp, .slice none 0 0] 144)))
    have HF := hid (show FirD (0, OpD.mk kd ad cd gr fa ps tx, 1 + u) w (.returned (.tuple #[.agg #[.int .i64 kd, .int .i64 ad, .int .u8 cd, .bool gr, .int .u8 fa, .slice xp ps.length cp, .slice none 0 0], .int .i64 (1 + u), .int .i64 0])) ((put7 (w2) w.heap.size (.int .i64 kd) (.int .i64 ad) (.int .u8 cd) (.bool gr) (.int .u8 fa) (.slice xp ps.length cp) (.slice none 0 0)).alloc (.cells #[.int .i64 kd, .int .i64 ad, .int .u8 cd, .bool gr, .int .u8 fa, .slice xp ps.length cp, .slice none 0 0] 144)) from fir_end (r := (0, OpD.mk kd ad cd gr fa ps tx, 1 + u)) (by push_cast; rfl) (own_weak (HO2.out) (by simp; omega)) (HTX.out) HBW.out w.heap.size w.heap.size (Nat.le_refl _) (Nat.le_refl _) (fun k hk => by have := (HO2.out.lt k (mem_blkV.1 hk)).1; simp at this; omega) ((moved_one _ _ _ _ _ _ _).trans (Moved.alloc _ _ _)))
    obtain ⟨c0, c1, c2, c3, c4, c5, c6, fc⟩ := X0
    have f0 := fc 0 (by omega)
    have f1 := fc 1 (by omega)
    have f2 := fc 2 (by omega)
    have f3 := fc 3 (by omega)
    have f4 := fc 4 (by omega)
    have f5 := fc 5 (by omega)
    have f6 := fc 6 (by omega)
    clear fc
    go_wp2
    revert HP HF
    generalize hW : put7 (w2) w.heap.size (.int .i64 kd) (.int .i64 ad) (.int .u8 cd) (.bool gr) (.int .u8 fa) (.slice xp ps.length cp) (.slice none 0 0) = Wf
    intro HP HF
    obtain ⟨k0, k1, k2, k3, k4, k5, k6, -⟩ := HP.out
    unfold put7 at hW
    rw [hW]
    clear hW
    exact bodyPost_ret (v := .tuple #[.agg #[.int .i64 kd, .int .i64 ad, .int .u8 cd, .bool gr, .int .u8 fa, .slice xp ps.length cp, .slice none 0 0], .int .i64 (1 + u), .int .i64 0]) (by simp [results, Try.results111, go_sem, k0, k1, k2, k3, k4, k5, k6]) rfl HF.out
  · go_simp
    refine hK.out _ _ ?_ (fun hHeldN => ?_)
    · exact keepc ((Below.refl _ _).alloc (Nat.le_refl _) _) hHeld
    clear hK K hHeld
    have hHeld := hHeldN
    clear hHeldN
    (try simp only [Act.put, List.setIfInBounds_toArray, List.set_cons_zero, List.set_cons_succ])
    refine wpAnyH_ready (rs := [6]) (by kernel_rfl) (by simp) ?_
    refine AllReadyH.cons (by simp only [List.getElem?_toArray, List.getElem?_cons_succ, List.getElem?_cons_zero]; rfl) (fun K hK => ?_) AllReadyH.nil
    go_simp
    with_reducible refine (HBE.out _ (by first | exact bal HB0.out.drew _ | exact (bal HB0.out _).drew)).mono ?_
    rintro e w2 ⟨pv, rfl, ho2, hb2⟩
    obtain ⟨xp, cp, rfl⟩ := row_slice ho2
    have HO2 := hid ho2
    have HB2 := hid hb2
    clear ho2 hb2
    (try go_wp2_with fail)
    have hbb : Below W0.heap.size W0 (W0.alloc (.cells #[.int .i64 0, .int .i64 0, .int .u8 0, .bool false, .int .u8 0, .slice none 0 0, .slice none 0 0] 144)).drew := (bal (Below.refl W0.heap.size W0) _).drew
    have hb02 : Below W0.heap.size W0 w2 := below_t hbb HB2.out
    have HG2 := hid (keepc HB2.out hHeld)
    have X6 := ((Box7.new (v0 := .int .i64 0) (v1 := .int .i64 0) (v2 := .int .u8 0) (v3 := .bool false) (v4 := .int .u8 0) (v5 := .slice none 0 0) (v6 := .slice none 0 0) W0 144).step ((Below.refl _ _).drew)).step HB2.out
    have X0' := HX0.out.step hb02
    have hl60 := X6.lt
    obtain ⟨Wp, hWp⟩ : ∃ Wp, put7 (w2) W0.heap.size (.int .i64 kd) (.int .i64 ad) (.int .u8 cd) (.bool gr) (.int .u8 fa) (.slice xp ps.length cp) (.slice none 0 0) = Wp := ⟨_, rfl⟩
    have mp : Moved w2 Wp [W0.heap.size] [W0.heap.size] := by rw [← hWp]; exact put7_moved _ _ _ _ _ _ _ _ _
    have hgW : g < W0.heap.size := by have := World.block_lt_of_cell? W0 _ HC0.out; exact this
    have HGP := hid (cell_moved mp HG2.out (by simp; omega))
    have HXP1 := hid (show Box7 Wp W0.heap.size (.int .i64 kd) (.int .i64 ad) (.int .u8 cd) (.bool gr) (.int .u8 fa) (.slice xp ps.length cp) (.slice none 0 0) by rw [← hWp]; exact X6.put (.int .i64 kd) (.int .i64 ad) (.int .u8 cd) (.bool gr) (.int .u8 fa) (.slice xp ps.length cp) (.slice none 0 0))
    have HXP0 := hid (X0'.moved mp (by simp; omega))
    have HBP := hid (show Below w.heap.size w Wp from (HB0.out.trans (hb02.mono HB0.out.size)).trans (mp.toBelow (Nat.le_trans HB0.out.size hb02.size) (fun k hk => by simp at hk; have := HB0.out.size; omega)))
    have HLB := hid (show ∀ k ∈ blkV (.slice xp ps.length cp), k ≠ w.heap.size ∧ k ≠ w.heap.size from fun k hk => by have := (HO2.out.lt k (mem_blkV.1 hk)).1; simp at this; omega)
    have HOP := hid (show Wp.ownsRow w.heap.size 165 2 (.slice xp ps.length cp) ps.length (cellsP ps) from own_moved (own_weak HO2.out (by simp; omega)) mp (fun k hk q => by have := (HO2.out.lt k (mem_blkV.1 hk)).1; simp at this q; omega))
    unfold put7 at hWp
    obtain ⟨d0, d1, d2, d3, d4, d5, d6, fc⟩ := X6
    have HWP := hid hWp
    clear hbb hb02 X0' mp hWp
    have f0 := fc 0 (by omega)
    have f1 := fc 1 (by omega)
    have f2 := fc 2 (by omega)
    have f3 := fc 3 (by omega)
    have f4 := fc 4 (by omega)
    have f5 := fc 5 (by omega)
    have f6 := fc 6 (by omega)
    clear fc
    refine hK.out _ _ ?_ (fun hHeldN => ?_)
    · exact HG2.out
    clear hK K hHeld
    have hHeld := hHeldN
    clear hHeldN
    (try simp only [Act.put, List.setIfInBounds_toArray, List.set_cons_zero, List.set_cons_succ])
    refine takeD_o (i := 7) (v := ?_) 22 rfl rfl (by kernel_rfl) (by kernel_rfl) (by kernel_rfl) (fun _ _ _ h => h) (by assumption) (Or.inl ⟨by rfl, ?_⟩) ?_
    rotate_left
    · intro w hSw
      (try dsimp only at hSw)
      go_simp
      try with_reducible rfl
    simp only [List.setIfInBounds_toArray, List.set_cons_zero, List.set_cons_succ]
    refine takeD_o (i := 8) (v := ?_) 30 rfl rfl (by kernel_rfl) (by kernel_rfl) (by kernel_rfl) (fun _ _ _ h => h) (by assumption) (Or.inl ⟨by rfl, ?_⟩) ?_
    rotate_left
    · intro w hSw
      (try dsimp only at hSw)
      go_simp
      try with_reducible rfl
    simp only [List.setIfInBounds_toArray, List.set_cons_zero, List.set_cons_succ]
    refine takeD_o (i := 9) (v := ?_) 31 rfl rfl (by kernel_rfl) (by kernel_rfl) (by kernel_rfl) (fun _ _ _ h => h) (by assumption) (Or.inl ⟨by rfl, ?_⟩) ?_
    rotate_left
    · intro w hSw
      (try dsimp only at hSw)
      go_simp
      try with_reducible rfl
    simp only [List.setIfInBounds_toArray, List.set_cons_zero, List.set_cons_succ]
    refine takeD_o (i := 10) (v := ?_) 32 rfl rfl (by kernel_rfl) (by kernel_rfl) (by kernel_rfl) (fun _ _ _ h => h) (by assumption) (Or.inl ⟨by rfl, ?_⟩) ?_
    rotate_left
    · intro w hSw
      (try dsimp only at hSw)
      go_simp
      try with_reducible rfl
    simp only [List.setIfInBounds_toArray, List.set_cons_zero, List.set_cons_succ]
    refine wpAnyH_ready (rs := [12]) (by kernel_rfl) (by simp) ?_
    refine AllReadyH.cons (by simp only [List.getElem?_toArray, List.getElem?_cons_succ, List.getElem?_cons_zero]; rfl) (fun K hK => ?_) AllReadyH.nil
    go_simp
    rw [HWP.out]
    refine hK.out _ _ ?_ (fun hHeldN => ?_)
    · exact HGP.out
    clear hK K hHeld
    have hHeld := hHeldN
    clear hHeldN
    (try simp only [Act.put, List.setIfInBounds_toArray, List.set_cons_zero, List.set_cons_succ])
    clear d0 d1 d2 d3 d4 d5 d6 f0 f1 f2 f3 f4 f5 f6 hl60
    refine takeD_o (i := 13) (v := ?_) 7 rfl rfl (by kernel_rfl) (by kernel_rfl) (by kernel_rfl) (fun _ _ _ h => h) (by assumption) (Or.inl ⟨by rfl, ?_⟩) ?_
    rotate_left
    · intro w hSw
      (try dsimp only at hSw)
      go_simp
      try with_reducible rfl
    simp only [List.setIfInBounds_toArray, List.set_cons_zero, List.set_cons_succ]
    refine takeD_o (i := 14) (v := ?_) 8 rfl rfl (by kernel_rfl) (by kernel_rfl) (by kernel_rfl) (fun _ _ _ h => h) (by assumption) (Or.inl ⟨by rfl, ?_⟩) ?_
    rotate_left
    · intro w hSw
      (try dsimp only at hSw)
      go_simp
      try with_reducible rfl
    simp only [List.setIfInBounds_toArray, List.set_cons_zero, List.set_cons_succ]
    refine wpAnyH_done (by kernel_rfl) ?_ _
    clear hHeld
    have X0 := HXP0.out
    have hlt := X0.lt
    have HP := hid (X0.put (.int .i64 kd) (.int .i64 ad) (.int .u8 cd) (.bool gr) (.int .u8 fa) (.slice xp ps.length cp) (.slice none 0 0))
    have HF := hid (show FirD (0, OpD.mk kd ad cd gr fa ps tx, 1 + u) w (.returned (.tuple #[.agg #[.int .i64 kd, .int .i64 ad, .int .u8 cd, .bool gr, .int .u8 fa, .slice xp ps.length cp, .slice none 0 0], .int .i64 (1 + u), .int .i64 0])) (put7 (Wp) w.heap.size (.int .i64 kd) (.int .i64 ad) (.int .u8 cd) (.bool gr) (.int .u8 fa) (.slice xp ps.length cp) (.slice none 0 0)) from fir_end (r := (0, OpD.mk kd ad cd gr fa ps tx, 1 + u)) (by push_cast; rfl) (HOP.out) (HTX.out) HBP.out w.heap.size w.heap.size (Nat.le_refl _) (Nat.le_refl _) HLB.out (moved_one _ _ _ _ _ _ _))
    obtain ⟨c0, c1, c2, c3, c4, c5, c6, fc⟩ := X0
    have f0 := fc 0 (by omega)
    have f1 := fc 1 (by omega)
    have f2 := fc 2 (by omega)
    have f3 := fc 3 (by omega)
    have f4 := fc 4 (by omega)
    have f5 := fc 5 (by omega)
    have f6 := fc 6 (by omega)
    clear fc
    obtain ⟨d0, d1, d2, d3, d4, d5, d6, -⟩ := HXP1.out
    have hl6 := HXP1.out.lt
    go_wp2
    revert HP HF
    generalize hW : put7 (Wp) w.heap.size (.int .i64 kd) (.int .i64 ad) (.int .u8 cd) (.bool gr) (.int .u8 fa) (.slice xp ps.length cp) (.slice none 0 0) = Wf
    intro HP HF
    obtain ⟨k0, k1, k2, k3, k4, k5, k6, -⟩ := HP.out
    unfold put7 at hW
    rw [hW]
    clear hW
    exact bodyPost_ret (v := .tuple #[.agg #[.int .i64 kd, .int .i64 ad, .int .u8 cd, .bool gr, .int .u8 fa, .slice xp ps.length cp, .slice none 0 0], .int .i64 (1 + u), .int .i64 0]) (by simp [results, Try.results111, go_sem, k0, k1, k2, k3, k4, k5, k6]) rfl HF.out

set_option maxRecDepth 100000 in
set_option maxHeartbeats 1000000 in
theorem first_err (b : Nat) (g off n c : Nat) (er kd ad cd : Int) (gr : Bool) (fa : Int) (ps : List (Nat × Nat)) (tx : List Int) (u : Nat) (he : er ≠ 0) (htx : tx = []) (hn : 0 < n) (q : Value) (w : World) (hb : b < 256) (hi : isO (b : Int) = true) (hl : n ≤ 100000)
    (hsl : ∀ w', (Instr.sliceAt 31 (.slice (some ⟨g, off, none⟩) n c) (some (.int .i64 1)) none none).run Try.prog w' = .ok q w')
    (hbe : ∀ W, Below w.heap.size w W → Calls Try.prog 127 #[.int .i64 b, q] W (BehD (er, OpD.mk kd ad cd gr fa ps tx, u) W))
    (c0 : w.cell? ⟨g, off, none⟩ = some (.int .u8 b)) : Calls Try.prog 111 #[.slice (some ⟨g, off, none⟩) n c] w (FirD (er, opZ, 0) w) := by
  have HIS := hid (is_one (b : Int) (by omega))
  rw [hi] at HIS
  have HBE := hid hbe
  have HTX := hid htx
  have hg := World.block_lt_of_cell? w _ c0
  have HB0 := hid (bal (Below.refl w.heap.size w) (.cells #[.int .i64 0, .int .i64 0, .int .u8 0, .bool false, .int .u8 0, .slice none 0 0, .slice none 0 0] 144))
  have HX0 := hid (Box7.new (v0 := .int .i64 0) (v1 := .int .i64 0) (v2 := .int .u8 0) (v3 := .bool false) (v4 := .int .u8 0) (v5 := .slice none 0 0) (v6 := .slice none 0 0) w 144)
  have HC0 := hid (keepc HB0.out c0)
  have e0 : (er == 0) = false := by simpa using he
  have e1 : (er != 0) = true := by simpa using he
  clear he
  clear hi hbe htx
  go_enter Try.func111, Try.ntmps111
  go_wp2_with fail
  with_reducible refine (HIS.out _).mono ?_
  rintro e w1 ⟨rfl, rfl⟩
  have hz : (w.alloc (.cells #[.int .i64 0, .int .i64 0, .int .u8 0, .bool false, .int .u8 0, .slice none 0 0, .slice none 0 0] 144)).heap.size = w.heap.size + 1 := by simp
  have c0' := HC0.out
  have hwb : IntKind.i64.wrap (b : Int) = b := IntWalk.i64_in _ (by omega)
  go_wp2
  generalize w.alloc (.cells #[.int .i64 0, .int .i64 0, .int .u8 0, .bool false, .int .u8 0, .slice none 0 0, .slice none 0 0] 144) = W0 at HB0 HX0 HC0 hz c0' ⊢
  have hl0 : w.heap.size < W0.heap.size := by omega
  clear hz
  refine wp_region_held_drew (S := fun V => V.cell? ⟨g, off, none⟩ = some (.int .u8 b)) (by kernel_rfl) ?_ (fun hHeld => ?_)
  · exact keepc ((Below.refl _ _).drew) HC0.out
  refine takeD_o (i := 0) (v := ?_) 23 rfl rfl (by kernel_rfl) (by kernel_rfl) (by kernel_rfl) (fun _ _ _ h => h) (by assumption) (Or.inl ⟨by rfl, ?_⟩) ?_
  rotate_left
  · intro w hSw
    (try dsimp only at hSw)
    go_simp
    try with_reducible rfl
  simp only [List.setIfInBounds_toArray, List.set_cons_zero, List.set_cons_succ]
  refine takeD_o (i := 1) (v := ?_) 24 rfl rfl (by kernel_rfl) (by kernel_rfl) (by kernel_rfl) (fun _ _ _ h => h) (by assumption) (Or.inl ⟨by rfl, ?_⟩) ?_
  rotate_left
  · intro w hSw
    (try dsimp only at hSw)
    go_simp
    try with_reducible rfl
  simp only [List.setIfInBounds_toArray, List.set_cons_zero, List.set_cons_succ]
  refine takeD_o (i := 2) (v := ?_) 25 rfl rfl (by kernel_rfl) (by kernel_rfl) (by kernel_rfl) (fun _ _ _ h => h) (by assumption) (Or.inl ⟨by rfl, ?_⟩) ?_
  rotate_left
  · intro w hSw
    (try dsimp only at hSw)
    go_simp
    try with_reducible rfl
  simp only [List.setIfInBounds_toArray, List.set_cons_zero, List.set_cons_succ]
  refine takeD_o (i := 3) (v := ?_) 26 rfl rfl (by kernel_rfl) (by kernel_rfl) (by kernel_rfl) (fun _ _ _ h => h) (by assumption) (Or.inl ⟨by rfl, ?_⟩) ?_
  rotate_left
  · intro w hSw
    (try dsimp only at hSw)
    go_simp
    try with_reducible rfl
  simp only [List.setIfInBounds_toArray, List.set_cons_zero, List.set_cons_succ]
  refine takeD_o (i := 4) (v := ?_) 27 rfl rfl (by kernel_rfl) (by kernel_rfl) (by kernel_rfl) (fun _ _ _ h => h) (by assumption) (Or.inl ⟨by rfl, ?_⟩) ?_
  rotate_left
  · intro w hSw
    (try dsimp only at hSw)
    go_simp
    try with_reducible rfl
  simp only [List.setIfInBounds_toArray, List.set_cons_zero, List.set_cons_succ]
  refine takeD_o (i := 5) (v := ?_) 28 rfl rfl (by kernel_rfl) (by kernel_rfl) (by kernel_rfl) (fun _ _ _ h => h) (by assumption) (Or.inl ⟨by rfl, ?_⟩) ?_
  rotate_left
  · intro w hSw
    (try dsimp only at hSw)
    go_simp
    try with_reducible rfl
  simp only [List.setIfInBounds_toArray, List.set_cons_zero, List.set_cons_succ]
  refine wpAnyH_ready (rs := [6, 11]) (by kernel_rfl) (by simp) ?_
  refine AllReadyH.cons (by simp only [List.getElem?_toArray, List.getElem?_cons_succ, List.getElem?_cons_zero]; rfl) (fun K hK => ?_) (AllReadyH.cons (by simp only [List.getElem?_toArray, List.getElem?_cons_succ, List.getElem?_cons_zero]; rfl) (fun K hK => ?_) AllReadyH.nil)
  · go_simp
    with_reducible refine (HBE.out _ HB0.out.drew).mono ?_
    rintro e w2 ⟨pv, rfl, ho2, hb2⟩
    obtain ⟨xp, cp, rfl⟩ := row_slice ho2
    have HO2 := hid ho2
    have HB2 := hid hb2
    clear ho2 hb2
    (try go_wp2_with fail)
    have HG2 := hid (keepc HB2.out hHeld)
    refine hK.out _ _ ?_ (fun hHeldN => ?_)
    · exact HG2.out
    clear hK K hHeld
    have hHeld := hHeldN
    clear hHeldN
    (try simp only [Act.put, List.setIfInBounds_toArray, List.set_cons_zero, List.set_cons_succ])
    refine takeD_o (i := 7) (v := ?_) 22 rfl rfl (by kernel_rfl) (by kernel_rfl) (by kernel_rfl) (fun _ _ _ h => h) (by assumption) (Or.inl ⟨by rfl, ?_⟩) ?_
    rotate_left
    · intro w hSw
      (try dsimp only at hSw)
      go_simp
      try with_reducible rfl
    simp only [List.setIfInBounds_toArray, List.set_cons_zero, List.set_cons_succ]
    refine takeD_o (i := 8) (v := ?_) 30 rfl rfl (by kernel_rfl) (by kernel_rfl) (by kernel_rfl) (fun _ _ _ h => h) (by assumption) (Or.inl ⟨by rfl, ?_⟩) ?_
    rotate_left
    · intro w hSw
      (try dsimp only at hSw)
      go_simp
      try with_reducible rfl
    simp only [List.setIfInBounds_toArray, List.set_cons_zero, List.set_cons_succ]
    refine takeD_o (i := 9) (v := ?_) 31 rfl rfl (by kernel_rfl) (by kernel_rfl) (by kernel_rfl) (fun _ _ _ h => h) (by assumption) (Or.inl ⟨by rfl, ?_⟩) ?_
    rotate_left
    · intro w hSw
      (try dsimp only at hSw)
      go_simp
      try with_reducible rfl
    simp only [List.setIfInBounds_toArray, List.set_cons_zero, List.set_cons_succ]
    refine takeD_o (i := 10) (v := ?_) 32 rfl rfl (by kernel_rfl) (by kernel_rfl) (by kernel_rfl) (fun _ _ _ h => h) (by assumption) (Or.inl ⟨by rfl, ?_⟩) ?_
    rotate_left
    · intro w hSw
      (try dsimp only at hSw)
      go_simp
      try with_reducible rfl
    simp only [List.setIfInBounds_toArray, List.set_cons_zero, List.set_cons_succ]
    refine wpAnyH_ready (rs := [11]) (by kernel_rfl) (by simp) ?_
    refine AllReadyH.cons (by simp only [List.getElem?_toArray, List.getElem?_cons_succ, List.getElem?_cons_zero]; rfl) (fun K hK => ?_) AllReadyH.nil
    go_simp
    refine hK.out _ _ ?_ (fun hHeldN => ?_)
    · exact keepc ((Below.refl _ _).alloc (Nat.le_refl _) _) hHeld
    clear hK K hHeld
    have hHeld := hHeldN
    clear hHeldN
    (try simp only [Act.put, List.setIfInBounds_toArray, List.set_cons_zero, List.set_cons_succ])
    refine wpAnyH_ready (rs := [12]) (by kernel_rfl) (by simp) ?_
    refine AllReadyH.cons (by simp only [List.getElem?_toArray, List.getElem?_cons_succ, List.getElem?_cons_zero]; rfl) (fun K hK => ?_) AllReadyH.nil
    go_simp
    refine hK.out _ _ ?_ (fun hHeldN => ?_)
    · exact keepc (bal (Below.refl _ _) _) HG2.out
    clear hK K hHeld
    have hHeld := hHeldN
    clear hHeldN
    (try simp only [Act.put, List.setIfInBounds_toArray, List.set_cons_zero, List.set_cons_succ])
    refine takeD_o (i := 13) (v := ?_) 7 rfl rfl (by kernel_rfl) (by kernel_rfl) (by kernel_rfl) (fun _ _ _ h => h) (by assumption) (Or.inl ⟨by rfl, ?_⟩) ?_
    rotate_left
    · intro w hSw
      (try dsimp only at hSw)
      go_simp
      try with_reducible rfl
    simp only [List.setIfInBounds_toArray, List.set_cons_zero, List.set_cons_succ]
    refine takeD_o (i := 14) (v := ?_) 8 rfl rfl (by kernel_rfl) (by kernel_rfl) (by kernel_rfl) (fun _ _ _ h => h) (by assumption) (Or.inl ⟨by rfl, ?_⟩) ?_
    rotate_left
    · intro w hSw
      (try dsimp only at hSw)
      go_simp
      try with_reducible rfl
    simp only [List.setIfInBounds_toArray, List.set_cons_zero, List.set_cons_succ]
    refine wpAnyH_done (by kernel_rfl) ?_ _
    clear hHeld
    have X0 := HX0.out.step (((Below.refl _ _).drew).trans HB2.out)
    have hlt := X0.lt
    have HBW := hid (HB0.out.trans ((((Below.refl W0.heap.size W0).drew).trans HB2.out).mono HB0.out.size))
    have HP := hid ((X0.put (.int .i64 0) (.int .i64 0) (.int .u8 0) (.bool false) (.int .u8 0) (.slice none 0 0) (.slice none 0 0)).step (bal (Below.refl _ _) (.cells #[.int .i64 kd, .int .i64 ad, .int .u8 cd, .bool gr, .int .u8 fa, .slice xp ps.length cp, .slice none 0 0] 144)))
    have HF := hid (show FirD (er, opZ, 0) w (.returned (.tuple #[.agg #[.int .i64 0, .int .i64 0, .int .u8 0, .bool false, .int .u8 0, .slice none 0 0, .slice none 0 0], .int .i64 0, .int .i64 er])) ((put7 (w2) w.heap.size (.int .i64 0) (.int .i64 0) (.int .u8 0) (.bool false) (.int .u8 0) (.slice none 0 0) (.slice none 0 0)).alloc (.cells #[.int .i64 kd, .int .i64 ad, .int .u8 cd, .bool gr, .int .u8 fa, .slice xp ps.length cp, .slice none 0 0] 144)) from fir_end (r := (er, opZ, 0)) rfl (World.ownsRow_nil _ _ _ _) (rfl) HBW.out w.heap.size w.heap.size (Nat.le_refl _) (Nat.le_refl _) (fun _ q => by cases q) ((moved_one _ _ _ _ _ _ _).trans (Moved.alloc _ _ _)))
    obtain ⟨c0, c1, c2, c3, c4, c5, c6, fc⟩ := X0
    have f0 := fc 0 (by omega)
    have f1 := fc 1 (by omega)
    have f2 := fc 2 (by omega)
    have f3 := fc 3 (by omega)
    have f4 := fc 4 (by omega)
    have f5 := fc 5 (by omega)
    have f6 := fc 6 (by omega)
    clear fc
    go_wp2
    revert HP HF
    generalize hW : put7 (w2) w.heap.size (.int .i64 0) (.int .i64 0) (.int .u8 0) (.bool false) (.int .u8 0) (.slice none 0 0) (.slice none 0 0) = Wf
    intro HP HF
    obtain ⟨k0, k1, k2, k3, k4, k5, k6, -⟩ := HP.out
    unfold put7 at hW
    rw [hW]
    clear hW
    exact bodyPost_ret (v := .tuple #[.agg #[.int .i64 0, .int .i64 0, .int .u8 0, .bool false, .int .u8 0, .slice none 0 0, .slice none 0 0], .int .i64 0, .int .i64 er]) (by simp [results, Try.results111, go_sem, k0, k1, k2, k3, k4, k5, k6]) rfl HF.out
  · go_simp
    refine hK.out _ _ ?_ (fun hHeldN => ?_)
    · exact keepc ((Below.refl _ _).alloc (Nat.le_refl _) _) hHeld
    clear hK K hHeld
    have hHeld := hHeldN
    clear hHeldN
    (try simp only [Act.put, List.setIfInBounds_toArray, List.set_cons_zero, List.set_cons_succ])
    refine wpAnyH_ready (rs := [6]) (by kernel_rfl) (by simp) ?_
    refine AllReadyH.cons (by simp only [List.getElem?_toArray, List.getElem?_cons_succ, List.getElem?_cons_zero]; rfl) (fun K hK => ?_) AllReadyH.nil
    go_simp
    with_reducible refine (HBE.out _ (by first | exact bal HB0.out.drew _ | exact (bal HB0.out _).drew)).mono ?_
    rintro e w2 ⟨pv, rfl, ho2, hb2⟩
    obtain ⟨xp, cp, rfl⟩ := row_slice ho2
    have HO2 := hid ho2
    have HB2 := hid hb2
    clear ho2 hb2
    (try go_wp2_with fail)
    have hbb : Below W0.heap.size W0 (W0.alloc (.cells #[.int .i64 0, .int .i64 0, .int .u8 0, .bool false, .int .u8 0, .slice none 0 0, .slice none 0 0] 144)).drew := (bal (Below.refl W0.heap.size W0) _).drew
    have hb02 : Below W0.heap.size W0 w2 := below_t hbb HB2.out
    have HG2 := hid (keepc HB2.out hHeld)
    have X6 := ((Box7.new (v0 := .int .i64 0) (v1 := .int .i64 0) (v2 := .int .u8 0) (v3 := .bool false) (v4 := .int .u8 0) (v5 := .slice none 0 0) (v6 := .slice none 0 0) W0 144).step ((Below.refl _ _).drew)).step HB2.out
    have X0' := HX0.out.step hb02
    have hl60 := X6.lt
    obtain ⟨Wp, hWp⟩ : ∃ Wp, put7 (w2) W0.heap.size (.int .i64 kd) (.int .i64 ad) (.int .u8 cd) (.bool gr) (.int .u8 fa) (.slice xp ps.length cp) (.slice none 0 0) = Wp := ⟨_, rfl⟩
    have mp : Moved w2 Wp [W0.heap.size] [W0.heap.size] := by rw [← hWp]; exact put7_moved _ _ _ _ _ _ _ _ _
    have hgW : g < W0.heap.size := by have := World.block_lt_of_cell? W0 _ HC0.out; exact this
    have HGP := hid (cell_moved mp HG2.out (by simp; omega))
    have HXP1 := hid (show Box7 Wp W0.heap.size (.int .i64 kd) (.int .i64 ad) (.int .u8 cd) (.bool gr) (.int .u8 fa) (.slice xp ps.length cp) (.slice none 0 0) by rw [← hWp]; exact X6.put (.int .i64 kd) (.int .i64 ad) (.int .u8 cd) (.bool gr) (.int .u8 fa) (.slice xp ps.length cp) (.slice none 0 0))
    have HXP0 := hid (X0'.moved mp (by simp; omega))
    have HBP := hid (show Below w.heap.size w Wp from (HB0.out.trans (hb02.mono HB0.out.size)).trans (mp.toBelow (Nat.le_trans HB0.out.size hb02.size) (fun k hk => by simp at hk; have := HB0.out.size; omega)))
    have HLB := hid (show ∀ k ∈ blkV (.slice xp ps.length cp), k ≠ w.heap.size ∧ k ≠ w.heap.size from fun k hk => by have := (HO2.out.lt k (mem_blkV.1 hk)).1; simp at this; omega)
    have HOP := hid (show Wp.ownsRow w.heap.size 165 2 (.slice xp ps.length cp) ps.length (cellsP ps) from own_moved (own_weak HO2.out (by simp; omega)) mp (fun k hk q => by have := (HO2.out.lt k (mem_blkV.1 hk)).1; simp at this q; omega))
    unfold put7 at hWp
    obtain ⟨d0, d1, d2, d3, d4, d5, d6, fc⟩ := X6
    have HWP := hid hWp
    clear hbb hb02 X0' mp hWp
    have f0 := fc 0 (by omega)
    have f1 := fc 1 (by omega)
    have f2 := fc 2 (by omega)
    have f3 := fc 3 (by omega)
    have f4 := fc 4 (by omega)
    have f5 := fc 5 (by omega)
    have f6 := fc 6 (by omega)
    clear fc
    refine hK.out _ _ ?_ (fun hHeldN => ?_)
    · exact HG2.out
    clear hK K hHeld
    have hHeld := hHeldN
    clear hHeldN
    (try simp only [Act.put, List.setIfInBounds_toArray, List.set_cons_zero, List.set_cons_succ])
    refine takeD_o (i := 7) (v := ?_) 22 rfl rfl (by kernel_rfl) (by kernel_rfl) (by kernel_rfl) (fun _ _ _ h => h) (by assumption) (Or.inl ⟨by rfl, ?_⟩) ?_
    rotate_left
    · intro w hSw
      (try dsimp only at hSw)
      go_simp
      try with_reducible rfl
    simp only [List.setIfInBounds_toArray, List.set_cons_zero, List.set_cons_succ]
    refine takeD_o (i := 8) (v := ?_) 30 rfl rfl (by kernel_rfl) (by kernel_rfl) (by kernel_rfl) (fun _ _ _ h => h) (by assumption) (Or.inl ⟨by rfl, ?_⟩) ?_
    rotate_left
    · intro w hSw
      (try dsimp only at hSw)
      go_simp
      try with_reducible rfl
    simp only [List.setIfInBounds_toArray, List.set_cons_zero, List.set_cons_succ]
    refine takeD_o (i := 9) (v := ?_) 31 rfl rfl (by kernel_rfl) (by kernel_rfl) (by kernel_rfl) (fun _ _ _ h => h) (by assumption) (Or.inl ⟨by rfl, ?_⟩) ?_
    rotate_left
    · intro w hSw
      (try dsimp only at hSw)
      go_simp
      try with_reducible rfl
    simp only [List.setIfInBounds_toArray, List.set_cons_zero, List.set_cons_succ]
    refine takeD_o (i := 10) (v := ?_) 32 rfl rfl (by kernel_rfl) (by kernel_rfl) (by kernel_rfl) (fun _ _ _ h => h) (by assumption) (Or.inl ⟨by rfl, ?_⟩) ?_
    rotate_left
    · intro w hSw
      (try dsimp only at hSw)
      go_simp
      try with_reducible rfl
    simp only [List.setIfInBounds_toArray, List.set_cons_zero, List.set_cons_succ]
    refine wpAnyH_ready (rs := [12]) (by kernel_rfl) (by simp) ?_
    refine AllReadyH.cons (by simp only [List.getElem?_toArray, List.getElem?_cons_succ, List.getElem?_cons_zero]; rfl) (fun K hK => ?_) AllReadyH.nil
    go_simp
    rw [HWP.out]
    refine hK.out _ _ ?_ (fun hHeldN => ?_)
    · exact HGP.out
    clear hK K hHeld
    have hHeld := hHeldN
    clear hHeldN
    (try simp only [Act.put, List.setIfInBounds_toArray, List.set_cons_zero, List.set_cons_succ])
    clear d0 d1 d2 d3 d4 d5 d6 f0 f1 f2 f3 f4 f5 f6 hl60
    refine takeD_o (i := 13) (v := ?_) 7 rfl rfl (by kernel_rfl) (by kernel_rfl) (by kernel_rfl) (fun _ _ _ h => h) (by assumption) (Or.inl ⟨by rfl, ?_⟩) ?_
    rotate_left
    · intro w hSw
      (try dsimp only at hSw)
      go_simp
      try with_reducible rfl
    simp only [List.setIfInBounds_toArray, List.set_cons_zero, List.set_cons_succ]
    refine takeD_o (i := 14) (v := ?_) 8 rfl rfl (by kernel_rfl) (by kernel_rfl) (by kernel_rfl) (fun _ _ _ h => h) (by assumption) (Or.inl ⟨by rfl, ?_⟩) ?_
    rotate_left
    · intro w hSw
      (try dsimp only at hSw)
      go_simp
      try with_reducible rfl
    simp only [List.setIfInBounds_toArray, List.set_cons_zero, List.set_cons_succ]
    refine wpAnyH_done (by kernel_rfl) ?_ _
    clear hHeld
    have X0 := HXP0.out
    have hlt := X0.lt
    have HP := hid (X0.put (.int .i64 0) (.int .i64 0) (.int .u8 0) (.bool false) (.int .u8 0) (.slice none 0 0) (.slice none 0 0))
    have HF := hid (show FirD (er, opZ, 0) w (.returned (.tuple #[.agg #[.int .i64 0, .int .i64 0, .int .u8 0, .bool false, .int .u8 0, .slice none 0 0, .slice none 0 0], .int .i64 0, .int .i64 er])) (put7 (Wp) w.heap.size (.int .i64 0) (.int .i64 0) (.int .u8 0) (.bool false) (.int .u8 0) (.slice none 0 0) (.slice none 0 0)) from fir_end (r := (er, opZ, 0)) rfl (World.ownsRow_nil _ _ _ _) (rfl) HBP.out w.heap.size w.heap.size (Nat.le_refl _) (Nat.le_refl _) (fun _ q => by cases q) (moved_one _ _ _ _ _ _ _))
    obtain ⟨c0, c1, c2, c3, c4, c5, c6, fc⟩ := X0
    have f0 := fc 0 (by omega)
    have f1 := fc 1 (by omega)
    have f2 := fc 2 (by omega)
    have f3 := fc 3 (by omega)
    have f4 := fc 4 (by omega)
    have f5 := fc 5 (by omega)
    have f6 := fc 6 (by omega)
    clear fc
    obtain ⟨d0, d1, d2, d3, d4, d5, d6, -⟩ := HXP1.out
    have hl6 := HXP1.out.lt
    go_wp2
    revert HP HF
    generalize hW : put7 (Wp) w.heap.size (.int .i64 0) (.int .i64 0) (.int .u8 0) (.bool false) (.int .u8 0) (.slice none 0 0) (.slice none 0 0) = Wf
    intro HP HF
    obtain ⟨k0, k1, k2, k3, k4, k5, k6, -⟩ := HP.out
    unfold put7 at hW
    rw [hW]
    clear hW
    exact bodyPost_ret (v := .tuple #[.agg #[.int .i64 0, .int .i64 0, .int .u8 0, .bool false, .int .u8 0, .slice none 0 0, .slice none 0 0], .int .i64 0, .int .i64 er]) (by simp [results, Try.results111, go_sem, k0, k1, k2, k3, k4, k5, k6]) rfl HF.out
end Go.Proofs.Ytlhaefgchmakfaa
namespace Go.Proofs.Ytlhaefgchmakfaa
open Go.RowKit Go.Lib

theorem ofirst_any (v : Value) (xs : List Int) (w : World) (h : Reads w v xs) (hx : xs ≠ []) (hl : xs.length ≤ 100000) : Calls Try.prog 111 #[v] w (FirD (firF xs) w) := by
  rcases reads_cons h with ⟨x, c, rfl, rfl⟩ | ⟨g, o, c, r, b, hb, rfl, rfl, c0, hc, hm⟩
  · exact absurd rfl hx
  · simp only [List.length_cons] at hl
    cases hi : isO (b : Int)
    · exact first_text b r hi g o _ c rfl hl w h hb c0
    · have e1 : firF ((b : Int) :: r) = if (behF b r).1 = 0 then (0, (behF b r).2.1, 1 + (behF b r).2.2) else ((behF b r).1, opZ, 0) := by show (if isO (b : Int) = true then _ else _) = _; rw [hi]; rfl
      obtain ⟨q, hsl, hq⟩ := run_from_all h 1 (by simp)
      have hbe := fun W (hW : Below w.heap.size w W) => beh_any b hi q r W (reads_below hq hW) (by omega)
      have htx := behF_text b r
      by_cases he : (behF b r).1 = 0
      · have hu : (behF b r).2.2 ≤ r.length := by
          have q := @behF_take (b : Int) r r.length (by rw [List.take_length]; exact he)
          exact q.2.2
        rw [e1, if_pos he]
        generalize behF (b : Int) r = res at hbe he htx hu
        obtain ⟨er, ⟨kd, ad, cd, gr, fa, ps, tx⟩, u⟩ := res
        dsimp only at he htx hu
        subst he
        exact first_ok b g o _ c kd ad cd gr fa ps tx u (by omega) htx (by omega) q w hb hi hl hsl hbe c0
      · rw [e1, if_neg he]
        generalize behF (b : Int) r = res at hbe he htx
        obtain ⟨er, ⟨kd, ad, cd, gr, fa, ps, tx⟩, u⟩ := res
        exact first_err b g o _ c er kd ad cd gr fa ps tx u he htx (by omega) q w hb hi hl hsl hbe c0
/-- An order and where its pairs and its text lie. -/
structure OpV where
  d : OpD
  pv : Value
  tv : Value
def opC (x : OpV) : List Value := [.int .i64 x.d.kind, .int .i64 x.d.addr, .int .u8 x.d.code, .bool x.d.graph, .int .u8 x.d.fa, x.pv, x.tv]
def cellsO (xs : List OpV) : List Value := xs.flatMap opC
theorem cellsO_append (a b : List OpV) : cellsO (a ++ b) = cellsO a ++ cellsO b := by simp [cellsO]
theorem cellsO_length (xs : List OpV) : (cellsO xs).length = xs.length * 7 := by
  induction xs with
  | nil => rfl
  | cons p ps ih => simp [cellsO, opC] at ih ⊢; omega
theorem cellsO_at (xs : List OpV) (i : Nat) (h : i < xs.length) (j : Nat) (hj : j < 7) : (cellsO xs)[i * 7 + j]? = (opC xs[i])[j]? := by
  have e : xs = xs.take i ++ xs[i] :: xs.drop (i + 1) := by rw [List.getElem_cons_drop, List.take_append_drop]
  have hl : (cellsO (xs.take i)).length = i * 7 := by rw [cellsO_length, List.length_take]; congr 1; omega
  conv => lhs; rw [e, cellsO_append]
  rw [List.getElem?_append_right (by omega), hl, Nat.add_sub_cancel_left]
  show (opC _ ++ cellsO _)[j]? = _
  rw [List.getElem?_append_left (by simpa [opC] using hj)]
/-- Orders of one's own: a row, and apart from it their pairs and texts. -/
structure OpsM (w : World) (v : Value) (xs : List OpV) : Prop where
  row : w.ownsRow 0 144 7 v xs.length (cellsO xs)
  prs : ∀ x ∈ xs, w.ownsRow 0 165 2 x.pv x.d.pairs.length (cellsP x.d.pairs)
  txt : ∀ x ∈ xs, OwnB w x.tv x.d.text
  ap : ∀ x ∈ xs, (∀ k ∈ blkV x.pv, k ∉ blkV v) ∧ ∀ k ∈ blkV x.tv, k ∉ blkV v
theorem OpsM.nil (w : World) : OpsM w (.slice none 0 0) [] := ⟨World.ownsRow_nil _ _ _ _, fun _ h => (by cases h), fun _ h => (by cases h), fun _ h => (by cases h)⟩
theorem OpsM.step {w w' : World} {v : Value} {xs : List OpV} (h : OpsM w v xs) (hb : Below w.heap.size w w') : OpsM w' v xs :=
  ⟨own_below_o h.row hb, fun x hx => own_below_o (h.prs x hx) hb, fun x hx => (h.txt x hx).step hb, h.ap⟩
theorem OpsM.snoc {w w' : World} {v v' : Value} {xs : List OpV} {x : OpV} (h : OpsM w v xs) (hp : w.ownsRow 0 165 2 x.pv x.d.pairs.length (cellsP x.d.pairs)) (ht : OwnB w x.tv x.d.text)
    (hpa : ∀ k ∈ blkV x.pv, k ∉ blkV v) (hta : ∀ k ∈ blkV x.tv, k ∉ blkV v)
    (hrow : w'.ownsRow 0 144 7 v' (xs.length + 1) (cellsO xs ++ opC x)) (hg : w.grownBy w' v.ownBlock) (hb : ∀ k ∈ blkV v', k ∈ blkV v ∨ w.heap.size ≤ k) : OpsM w' v' (xs ++ [x]) := by
  have hm : Moved w w' (blkV v) (blkV v') := Moved.grown hg (fun k hk => mem_blkV.2 hk) hb
  have ap' : ∀ y : Value, (∀ k ∈ blkV y, k < w.heap.size) → (∀ k ∈ blkV y, k ∉ blkV v) → ∀ k ∈ blkV y, k ∉ blkV v' := fun y hl ha k hk q => by
    rcases hb k q with r | r
    · exact ha k hk r
    · have := hl k hk; omega
  refine ⟨?_, fun y hy => ?_, fun y hy => ?_, fun y hy => ?_⟩
  · rw [cellsO_append, List.length_append]
    show w'.ownsRow 0 144 7 v' (xs.length + 1) (cellsO xs ++ (opC x ++ []))
    rw [List.append_nil]
    exact hrow
  · rcases List.mem_append.1 hy with hy | hy
    · exact own_moved (h.prs y hy) hm (h.ap y hy).1
    · rw [List.mem_singleton.1 hy]; exact own_moved hp hm hpa
  · rcases List.mem_append.1 hy with hy | hy
    · exact (h.txt y hy).moved hm (h.ap y hy).2
    · rw [List.mem_singleton.1 hy]; exact ht.moved hm hta
  · rcases List.mem_append.1 hy with hy | hy
    · exact ⟨ap' _ (own_lt (h.prs y hy)) (h.ap y hy).1, ap' _ (h.txt y hy).lt (h.ap y hy).2⟩
    · rw [List.mem_singleton.1 hy]; exact ⟨ap' _ (own_lt hp) hpa, ap' _ ht.lt hta⟩
theorem one_opC (x : OpV) (hp : x.pv.oneCell' = true) (ht : x.tv.oneCell' = true) : ∀ u ∈ opC x, u.oneCell' = true := by
  intro u hu
  simp only [opC, List.mem_cons, List.not_mem_nil, or_false] at hu
  rcases hu with rfl | rfl | rfl | rfl | rfl | rfl | rfl <;> first | rfl | exact hp | exact ht
/-- What a loop over the bytes has said. -/
def AllI (zs : List Int) (k : Nat) (ds : List OpD) : Prop := ∃ f, zs.length ≤ k + f ∧ allF zs.length zs = (ds ++ (allF f (zs.drop k)).1, k + (allF f (zs.drop k)).2.1, (allF f (zs.drop k)).2.2)
theorem AllI.start (zs : List Int) : AllI zs 0 [] := ⟨zs.length, by omega, by simp⟩
theorem AllI.next {zs : List Int} {k : Nat} {ds : List OpD} (h : AllI zs k ds) (hk : k < zs.length) (he : (firF (zs.drop k)).1 = 0) : AllI zs (k + (firF (zs.drop k)).2.2) (ds ++ [(firF (zs.drop k)).2.1]) := by
  obtain ⟨f, hf, e⟩ := h
  match f, hf, e with
  | 0, hf, _ => omega
  | f + 1, hf, e =>
    have hx : zs.drop k ≠ [] := fun q => by
      have := congrArg List.length q
      rw [List.length_drop] at this
      simp at this
      omega
    have hu : 1 ≤ (firF (zs.drop k)).2.2 := by
      have q := @firF_take (zs.drop k) (zs.drop k).length (Nat.le_refl _) (by rw [List.take_length]; exact hx) (by rw [List.take_length]; exact he)
      rw [List.take_length] at q
      exact q.2.1
    rw [allF_one f _ hx he, List.drop_drop] at e
    refine ⟨f, by omega, ?_⟩
    rw [e, List.append_assoc, Nat.add_assoc]
    rfl
theorem AllI.stop {zs : List Int} {ds : List OpD} (h : AllI zs zs.length ds) : allF zs.length zs = (ds, zs.length, 0) := by
  obtain ⟨f, hf, e⟩ := h
  rw [List.drop_length, allF_nil] at e
  rw [e]
  simp
theorem AllI.bad {zs : List Int} {k : Nat} {ds : List OpD} (h : AllI zs k ds) (hk : k < zs.length) (he : (firF (zs.drop k)).1 ≠ 0) : allF zs.length zs = (ds, k, (firF (zs.drop k)).1) := by
  obtain ⟨f, hf, e⟩ := h
  match f, hf, e with
  | 0, hf, _ => omega
  | f + 1, hf, e =>
    have hx : zs.drop k ≠ [] := fun q => by
      have := congrArg List.length q
      rw [List.length_drop] at this
      simp at this
      omega
    rw [allF_bad f _ hx he] at e
    rw [e]
    simp
theorem fir_used {zs : List Int} {k : Nat} (hk : k < zs.length) (he : (firF (zs.drop k)).1 = 0) : 1 ≤ (firF (zs.drop k)).2.2 ∧ k + (firF (zs.drop k)).2.2 ≤ zs.length := by
  have hx : zs.drop k ≠ [] := fun q => by
    have := congrArg List.length q
    rw [List.length_drop] at this
    simp at this
    omega
  have q := @firF_take (zs.drop k) (zs.drop k).length (Nat.le_refl _) (by rw [List.take_length]; exact hx) (by rw [List.take_length]; exact he)
  rw [List.take_length] at q
  have := q.2.2.1
  rw [List.length_drop] at this
  exact ⟨q.2.1, by omega⟩
theorem news_seven (W : World) (x0 x1 x2 x3 x4 x5 x6 : Value) (t : TypeId) : ∀ j u, [x0, x1, x2, x3, x4, x5, x6][j]? = some u → (W.alloc (.cells #[x0, x1, x2, x3, x4, x5, x6] t)).cell? ((⟨W.heap.size, 0, none⟩ : Addr).add j) = some u := by
  intro j u hu
  rw [addr_add, Nat.zero_add, cell_of_row _ W.heap.size j #[x0, x1, x2, x3, x4, x5, x6] t (0, 0) (heap_alloc_new W _)]
  simpa using hu
theorem infoO : (Try.prog.info? 144).map (fun i => (i.zero, i.size, i.bytes)) = some (some (.agg #[.int .i64 0, .int .i64 0, .int .u8 0, .bool false, .int .u8 0, .slice none 0 0, .slice none 0 0]), 7, 72) := by kernel_rfl
/-- All of them: the orders, how many bytes, the error. -/
def AllD (zs : List Int) (w : World) (e : Ending) (w' : World) : Prop := ∃ l xs, e = .returned (.tuple #[l, .int .i64 (allF zs.length zs).2.1, .int .i64 (allF zs.length zs).2.2]) ∧ xs.map OpV.d = (allF zs.length zs).1 ∧ OpsM w' l xs ∧ Below w.heap.size w w' ∧ ∀ k ∈ blkV l, w.heap.size ≤ k
theorem all_end {zs : List Int} {w w' : World} {l : Value} {xs : List OpV} {k : Nat} {er ki : Int} (he : allF zs.length zs = (xs.map OpV.d, k, er)) (hk : ki = k) (h : OpsM w' l xs) (hb : Below w.heap.size w w') (hl : ∀ k ∈ blkV l, w.heap.size ≤ k) : AllD zs w (.returned (.tuple #[l, .int .i64 ki, .int .i64 er])) w' := by
  subst hk
  exact ⟨l, xs, by rw [he], by rw [he], h, hb, hl⟩
set_option maxRecDepth 100000 in
set_option maxHeartbeats 2000000 in
theorem all_any_o (v : Value) (zs : List Int) (w : World) (h : Reads w v zs) (hlz : zs.length ≤ 100000) : Calls Try.prog 90 #[v] w (AllD zs w) := by
  obtain ⟨i0, hi, hz0, hz1, hz2⟩ := info_parts infoO
  have HR := hid h
  obtain ⟨x, c, rfl⟩ := reads_sl h
  have HBY := hid (fun k (hk : k ≤ zs.length) => run_from_all h k hk)
  have HFA := hid (fun q k (hk : k < zs.length) W (hr : Reads W q (zs.drop k)) => ofirst_any q (zs.drop k) W hr (fun e => by have := congrArg List.length e; rw [List.length_drop] at this; simp at this; omega) (by rw [List.length_drop]; omega))
  have HNX := hid (fun k ds (hh : AllI zs k ds) (hk : k < zs.length) he => hh.next hk he)
  have HBD := hid (fun k ds (hh : AllI zs k ds) (hk : k < zs.length) he => hh.bad hk he)
  have HST := hid (fun ds (hh : AllI zs zs.length ds) => hh.stop)
  have HUS := hid (fun k (hk : k < zs.length) he => fir_used hk he)
  have HS0 := hid (AllI.start zs)
  clear h
  obtain ⟨n, hn⟩ : ∃ n, zs.length = n := ⟨_, rfl⟩
  rw [hn] at HBY HFA HNX HBD HST HUS hlz ⊢
  have HN := hid hn
  clear hn
  go_enter Try.func90, Try.ntmps90
  go_wp2_with fail
  go_loopw [5, 6] (fun l i W => ∃ (k : Nat) (xs : List OpV), k ≤ n ∧ i = .int .i64 k ∧ Hid (xs.length ≤ k) ∧ Hid (OpsM W l xs) ∧ Hid (Below w.heap.size w W) ∧ Hid (∀ b ∈ blkV l, w.heap.size ≤ b) ∧ Hid (AllI zs k (xs.map OpV.d))) (fun _ i _ => n - (intOf i).toNat)
  case atStart => exact ⟨0, [], Nat.zero_le _, rfl, Nat.le_refl _, OpsM.nil _, Below.refl _ _, fun _ q => (by cases q), HS0.out⟩
  case round =>
    obtain ⟨k, xs, hk, rfl, HXL, HO, HB, HLB, HI⟩ := hrel
    by_cases hlt : k < n
    · have hki : (k : Int) < n := by omega
      obtain ⟨q, hsl0, hq⟩ := HBY.out k hk
      have HSL := hid hsl0
      have hsl := HSL.out wr
      have HQ := hid (HFA.out q k hlt wr (reads_below hq HB.out))
      have HNX1 := hid (HNX.out k _ HI.out hlt)
      have HBD1 := hid (HBD.out k _ HI.out hlt)
      have HUS1 := hid (HUS.out k hlt)
      obtain ⟨xq, cq, rfl⟩ := reads_sl hq
      generalize (zs.drop k).length = nq at hsl HQ
      generalize firF (zs.drop k) = res at HQ HNX1 HBD1 HUS1
      obtain ⟨er, ⟨kd, ad, cd, gr, fa, ps, tx⟩, u⟩ := res
      dsimp only at HNX1 HBD1 HUS1
      clear hq hsl0
      obtain ⟨xl, nl, cl, rfl⟩ : ∃ xl nl cl, u5 = .slice xl nl cl := by
        obtain ⟨a, b, e⟩ := row_slice HO.out.row
        exact ⟨_, _, _, e⟩
      go_wp2_with fail
      with_reducible refine HQ.out.mono ?_
      rintro e w2 ⟨pv, tv, rfl, hp2, ht2, hk2, hb2⟩
      dsimp only at hp2 ht2
      obtain ⟨xp, cp, rfl⟩ := row_slice hp2
      obtain ⟨xt, nt, ct, rfl⟩ := own_slice ht2
      have HP2 := hid hp2
      have HT2 := hid ht2
      have HK2 := hid hk2
      have HO2 := hid (HO.out.step hb2)
      have HLT := hid (fun b hb => (own_lt HO.out.row b hb : b < wr.heap.size))
      have HB2 := hid (below_t HB.out hb2)
      have hsz2 := hb2.size
      have HSZ := hid (Nat.le_trans HB.out.size hb2.size)
      have hxl := HXL.out
      by_cases he : er = 0
      · subst he
        obtain ⟨hu1, hu2⟩ := HUS1.out rfl
        have HNX2 := hid (HNX1.out rfl)
        have hs1 : IntKind.i64.wrap ((k : Int) + u) = ((k + u : Nat) : Int) := by rw [IntWalk.i64_in _ (by omega)]; push_cast; rfl
        have HAP1 := hid (show ∀ j ∈ blkV (.slice xp ps.length cp), j ∉ blkV (.slice xl nl cl) from fun j hj q => by have := (hp2.lt j (mem_blkV.1 hj)).1; have := HLT.out j q; omega)
        have HAP2 := hid (show ∀ j ∈ blkV (.slice xt nt ct), j ∉ blkV (.slice xl nl cl) from fun j hj q => by have := hk2 j hj; have := HLT.out j q; omega)
        have ha2 : Below w2.heap.size w2 ((w2.alloc (.cells #[.int .i64 kd, .int .i64 ad, .int .u8 cd, .bool gr, .int .u8 fa, .slice xp ps.length cp, .slice xt nt ct] 144)).alloc (.cells #[.int .i64 kd, .int .i64 ad, .int .u8 cd, .bool gr, .int .u8 fa, .slice xp ps.length cp, .slice xt nt ct] 144)) := bal (bal (Below.refl _ _) _) _
        have HO3 := hid (HO2.out.step ha2)
        have HP3 := hid (own_below_o (own_weak hp2 (Nat.zero_le _)) ha2)
        have HT3 := hid (ht2.step ha2)
        have HB3 := hid (below_t HB2.out ha2)
        have HNS := hid (news_seven (w2.alloc (.cells #[.int .i64 kd, .int .i64 ad, .int .u8 cd, .bool gr, .int .u8 fa, .slice xp ps.length cp, .slice xt nt ct] 144)) (.int .i64 kd) (.int .i64 ad) (.int .u8 cd) (.bool gr) (.int .u8 fa) (.slice xp ps.length cp) (.slice xt nt ct) 144)
        rw [show (w2.alloc (.cells #[.int .i64 kd, .int .i64 ad, .int .u8 cd, .bool gr, .int .u8 fa, .slice xp ps.length cp, .slice xt nt ct] 144)).heap.size = w2.heap.size + 1 by simp] at HNS
        obtain rfl : nl = xs.length := by obtain ⟨_, _, e⟩ := row_slice HO.out.row; injection e
        have HL2 := hid (show xs.length ≤ 100000 by omega)
        have HRW := hid HO3.out.row
        clear hp2 ht2 hk2 hb2 ha2 HUS1 HNX1 HBD1 hxl
        go_wp2_with (first
          | (at_builtin; refine wpList_append_blk _ rfl _ _ 111 rfl 144 i0 _ 7 72 Try.underlying111 hi hz0 hz1 hz2 rfl (by decide) _ _ _ rfl HRW.out ⟨w2.heap.size + 1, 0, none⟩ 1 1 (opC ⟨⟨kd, ad, cd, gr, fa, ps, tx⟩, .slice xp ps.length cp, .slice xt nt ct⟩) rfl rfl HNS.out (one_opC _ rfl rfl) (by have := HL2.out; unfold maxLen; omega) (by have := HL2.out; omega) ?_; intro v' w3 hown hgrow _ hbl; have HO4 := hid hown; have HG4 := hid hgrow; have HBL4 := hid hbl; clear hown hgrow hbl))
        go_roundw
        case rel =>
          refine ⟨k + u, xs ++ [⟨⟨kd, ad, cd, gr, fa, ps, tx⟩, .slice xp ps.length cp, .slice xt nt ct⟩], hu2, by go_num, ?_, ?_, ?_, ?_, ?_⟩
          · show (xs ++ [_]).length ≤ k + u
            have := HXL.out
            rw [List.length_append]
            simp
            omega
          · exact OpsM.snoc HO3.out HP3.out HT3.out HAP1.out HAP2.out HO4.out HG4.out HBL4.out
          · exact HB3.out.grown HG4.out HB3.out.size (fun j hj => HLB.out j (mem_blkV.2 hj))
          · show ∀ b ∈ blkV v', w.heap.size ≤ b
            intro b hb
            rcases HBL4.out b hb with q | q
            · exact HLB.out b q
            · have := HB3.out.size; omega
          · show AllI zs (k + u) (List.map OpV.d _)
            rw [List.map_append]
            exact HNX2.out
        case measure => simp [intOf]; omega
      · have e0 : (er == 0) = false := by simpa using he
        have e1 : (er != 0) = true := by simpa using he
        have HE := hid (HBD1.out he)
        clear hp2 ht2 hk2 hb2 HUS1 HNX1 HBD1 he
        go_wp2
        go_ret3
        exact all_end (by rw [HN.out]; exact HE.out) rfl (HO2.out.step (bal (Below.refl _ _) _)) (bal HB2.out _) HLB.out
    · obtain rfl : k = n := by omega
      have HE := hid (HST.out _ HI.out)
      obtain ⟨xl, nl, cl, rfl⟩ : ∃ xl nl cl, u5 = .slice xl nl cl := by
        obtain ⟨a, b, e⟩ := row_slice HO.out.row
        exact ⟨_, _, _, e⟩
      go_wp2
      go_ret3
      exact all_end (by rw [HN.out]; exact HE.out) rfl HO.out HB.out HLB.out
end Go.Proofs.Ytlhaefgchmakfaa
