/-
  The writer that a record's orders go by: its state, how it lies in memory; a character; one cell written.
-/
import Derived.Test.YtdampfngdnicoaaDoorMa
namespace Go.Proofs.YtdampfngdnicoaaDoor
open Go.RowKit Go.Lib Go.Deep

/-- The writer's state: the screen, where one writes, how it looks, whether a text came last. -/
structure Wst where
  s : Spc
  n : Nat
  lk : Cel
  wr : Bool
/-- A character in a look. -/
def charC (lk : Cel) (code : Int) (esc : Bool) : Cel := { lk with ch := code, se := if esc then 241 else lk.se }
theorem u8_241 : U8 241 := ⟨by decide, by decide⟩
theorem charC_ok {lk : Cel} (h : lk.OK) {code : Int} (hc : U8 code) (esc : Bool) : (charC lk code esc).OK := ⟨hc, h.fa, h.hi, h.co, by
  unfold charC
  cases esc
  · exact h.se
  · exact u8_241⟩
/-- One cell written. -/
def putW (x : Wst) (c : Cel) : Wst := { x with s := x.s.setC x.n c, n := x.s.wr ((x.n : Int) + 1) }
/-- It lies in memory: block q. -/
structure WrM (w : World) (q b g : Nat) (x : Wst) : Prop where
  c0 : w.cell? ⟨q, 0, none⟩ = some (.pointer (some ⟨b, 0, none⟩))
  c1 : w.cell? ⟨q, 1, none⟩ = some (.int .i64 x.n)
  c2 : w.cell? ⟨q, 2, none⟩ = some (.int .u8 x.lk.ch)
  c3 : w.cell? ⟨q, 3, none⟩ = some (.bool x.lk.at_)
  c4 : w.cell? ⟨q, 4, none⟩ = some (.int .u8 x.lk.fa)
  c5 : w.cell? ⟨q, 5, none⟩ = some (.int .u8 x.lk.hi)
  c6 : w.cell? ⟨q, 6, none⟩ = some (.int .u8 x.lk.co)
  c7 : w.cell? ⟨q, 7, none⟩ = some (.int .u8 x.lk.se)
  c8 : w.cell? ⟨q, 8, none⟩ = some (.bool x.wr)
  fr : ∀ o, w.frozen? ⟨q, o, none⟩ = false
  sp : SpM w b g x.s
  ne : q ≠ b ∧ q ≠ g
  lt : x.n < x.s.L.length
  lk : x.lk.OK
theorem WrM.qlt {w : World} {q b g : Nat} {x : Wst} (h : WrM w q b g x) : q < w.heap.size := World.block_lt_of_cell? w _ h.c0
theorem WrM.lts {w : World} {q b g : Nat} {x : Wst} (h : WrM w q b g x) : ∀ k ∈ [q, b, g], k < w.heap.size := fun k hk => by
  have := h.qlt
  have := h.sp.lt
  simp only [List.mem_cons, List.not_mem_nil, or_false] at hk
  rcases hk with rfl | rfl | rfl <;> omega
/-- Elsewhere something has changed. -/
theorem WrM.moved {A B : World} {q b g : Nat} {x : Wst} (h : WrM A q b g x) {S S' : List Nat} (m : Moved A B S S') (hq : q ∉ S) (hb : b ∉ S) (hg : g ∉ S) : WrM B q b g x :=
  ⟨cell_moved m h.c0 hq, cell_moved m h.c1 hq, cell_moved m h.c2 hq, cell_moved m h.c3 hq, cell_moved m h.c4 hq, cell_moved m h.c5 hq, cell_moved m h.c6 hq, cell_moved m h.c7 hq, cell_moved m h.c8 hq,
    fun o => (World.frozen?_of_block (a := ⟨q, o, none⟩) (m.block q h.qlt hq)).trans (h.fr o), h.sp.moved m hb hg, h.ne, h.lt, h.lk⟩
theorem WrM.below {A B : World} {q b g : Nat} {x : Wst} (h : WrM A q b g x) (hb : Below A.heap.size A B) : WrM B q b g x := h.moved (Moved.below hb []) (by simp) (by simp) (by simp)
/-- The screen has changed. -/
theorem WrM.space {A B : World} {q b g : Nat} {x : Wst} (h : WrM A q b g x) {s' : Spc} (hs : SpM B b g s') (m : Moved A B [b, g] [b, g]) (hl : s'.L.length = x.s.L.length) : WrM B q b g { x with s := s' } := by
  have hq : q ∉ [b, g] := fun k => by
    rcases List.mem_cons.1 k with k | k
    · exact h.ne.1 k
    · rcases List.mem_cons.1 k with k | k
      · exact h.ne.2 k
      · cases k
  exact ⟨cell_moved m h.c0 hq, cell_moved m h.c1 hq, cell_moved m h.c2 hq, cell_moved m h.c3 hq, cell_moved m h.c4 hq, cell_moved m h.c5 hq, cell_moved m h.c6 hq, cell_moved m h.c7 hq, cell_moved m h.c8 hq,
    fun o => (World.frozen?_of_block (a := ⟨q, o, none⟩) (m.block q h.qlt hq)).trans (h.fr o), hs, h.ne, by rw [hl]; exact h.lt, h.lk⟩
theorem moved_bg {A B : World} {q b g : Nat} (m : Moved A B [b, g] [b, g]) : Moved A B [q, b, g] [q, b, g] := m.sub (fun k hk => List.mem_cons_of_mem _ hk) (fun k hk => .inr hk)
/-- Where one writes has changed. -/
theorem WrM.at_ {w : World} {q b g : Nat} {x : Wst} (h : WrM w q b g x) (n : Nat) (hn : n < x.s.L.length) : WrM (w.setCell ⟨q, 1, none⟩ (.int .i64 n)) q b g { x with n := n } := by
  have m : Moved w (w.setCell ⟨q, 1, none⟩ (.int .i64 n)) [q] [q] := Moved.set (List.mem_cons_self ..) 1 _
  exact ⟨(sc_other (by decide)).trans h.c0, sc_same h.c1, (sc_other (by decide)).trans h.c2, (sc_other (by decide)).trans h.c3, (sc_other (by decide)).trans h.c4, (sc_other (by decide)).trans h.c5, (sc_other (by decide)).trans h.c6, (sc_other (by decide)).trans h.c7, (sc_other (by decide)).trans h.c8,
    fun o => (World.frozen?_setCell ..).trans (h.fr o), h.sp.moved m (fun k => h.ne.1 (List.mem_singleton.1 k).symm) (fun k => h.ne.2 (List.mem_singleton.1 k).symm), h.ne, hn, h.lk⟩
/-- Whether a text came has changed. -/
theorem WrM.wr_ {w : World} {q b g : Nat} {x : Wst} (h : WrM w q b g x) (t : Bool) : WrM (w.setCell ⟨q, 8, none⟩ (.bool t)) q b g { x with wr := t } := by
  have m : Moved w (w.setCell ⟨q, 8, none⟩ (.bool t)) [q] [q] := Moved.set (List.mem_cons_self ..) 8 _
  exact ⟨(sc_other (by decide)).trans h.c0, (sc_other (by decide)).trans h.c1, (sc_other (by decide)).trans h.c2, (sc_other (by decide)).trans h.c3, (sc_other (by decide)).trans h.c4, (sc_other (by decide)).trans h.c5, (sc_other (by decide)).trans h.c6, (sc_other (by decide)).trans h.c7, sc_same h.c8,
    fun o => (World.frozen?_setCell ..).trans (h.fr o), h.sp.moved m (fun k => h.ne.1 (List.mem_singleton.1 k).symm) (fun k => h.ne.2 (List.mem_singleton.1 k).symm), h.ne, h.lt, h.lk⟩
def WrD (q b g : Nat) (x' : Wst) (w : World) (e : Ending) (w' : World) : Prop := (∃ v, e = .returned v) ∧ WrM w' q b g x' ∧ Moved w w' [q, b, g] [q, b, g]
theorem WrD.pre {q b g : Nat} {x' : Wst} {w w1 w' : World} {e : Ending} (h : WrD q b g x' w1 e w') (hb : Below w.heap.size w w1) : WrD q b g x' w e w' := ⟨h.1, h.2.1, (Moved.below hb _).trans h.2.2⟩
section
variable {q b g : Nat} {x : Wst}
set_option maxRecDepth 100000 in
set_option maxHeartbeats 1000000 in
theorem char_any (code : Int) (esc : Bool) (w : World) (h : WrM w q b g x) : Calls Tryd.prog 63 #[.pointer (some ⟨q, 0, none⟩), .int .u8 code, .bool esc] w fun e w' => e = .returned (charC x.lk code esc).v ∧ Below w.heap.size w w' := by
  have h2 := h.c2
  have h3 := h.c3
  have h4 := h.c4
  have h5 := h.c5
  have h6 := h.c6
  have h7 := h.c7
  have hq := h.qlt
  clear h
  unfold charC
  generalize x.lk = lk at h2 h3 h4 h5 h6 h7 ⊢
  obtain ⟨k0, k1, k2, k3, k4, k5⟩ := lk
  dsimp only at h2 h3 h4 h5 h6 h7 ⊢
  cases esc
  · simp only [if_false, Bool.false_eq_true]
    go_enter Tryd.func63, Tryd.ntmps63
    go_wp2
    refine bodyPost_ret (v := .agg #[.int .u8 code, .bool k1, .int .u8 k2, .int .u8 k3, .int .u8 k4, .int .u8 k5]) (by simp [results, Tryd.results63, go_sem]) rfl ⟨rfl, (((Below.refl _ _).alloc (Nat.le_refl _) _).alloc (by simp) _)⟩
  · simp only [if_true]
    go_enter Tryd.func63, Tryd.ntmps63
    go_wp2
    refine bodyPost_ret (v := .agg #[.int .u8 code, .bool k1, .int .u8 k2, .int .u8 k3, .int .u8 k4, .int .u8 241]) (by simp [results, Tryd.results63, go_sem]) rfl ⟨rfl, (((Below.refl _ _).alloc (Nat.le_refl _) _).alloc (by simp) _)⟩
theorem setC_wr (s : Spc) (n m : Int) (c : Cel) : (s.setC n c).wr m = s.wr m := by unfold Spc.wr; rw [setC_len]
set_option maxRecDepth 100000 in
set_option maxHeartbeats 1000000 in
theorem putw_any (c : Cel) (hc : c.OK) (w : World) (h : WrM w q b g x) : Calls Tryd.prog 62 #[.pointer (some ⟨q, 0, none⟩), c.v] w (WrD q b g (putW x c) w) := by
  have hok := h.sp.ok
  have hpos := hok.pos
  have hxn := h.lt
  have hwl := hok.wr_lt ((x.n : Int) + 1)
  have hn : I64 (x.n : Int) := i64_small (by omega) (by omega)
  have HST := hid (fun W h => set_any (b := b) (g := g) (s := x.s) (x.n : Int) hn c hc W h)
  have hok1 := hok.setC (x.n : Int) hc
  have HSZ := hid (fun W h => size_any (b := b) (g := g) (s := x.s.setC (x.n : Int) c) W h)
  have HWR := hid (fun W => (show Calls Tryd.prog 42 #[.agg #[.int .i64 (x.s.setC (x.n : Int) c).r, .int .i64 (x.s.setC (x.n : Int) c).c], .int .i64 ((x.n : Int) + 1)] W fun e w' => e = .returned (.int .i64 (x.s.wr ((x.n : Int) + 1) : Nat)) ∧ Below W.heap.size W w' from by
    rw [← setC_wr x.s (x.n : Int) ((x.n : Int) + 1) c, hok1.wr_eq, hok1.len]
    exact wrap_ok _ _ _ hok1.sz (i64_small (by omega) (by omega)) W))
  have hwr1 : IntKind.i64.wrap ((x.n : Int) + 1) = (x.n : Int) + 1 := wrapI (i64_small (by omega) (by omega))
  have HL := hid (setC_len x.s (x.n : Int) c)
  unfold putW
  generalize x.s.setC (x.n : Int) c = s' at HST HSZ HWR HL ⊢
  have HWL := hid hwl
  generalize x.s.wr ((x.n : Int) + 1) = n' at HWR HWL ⊢
  generalize s'.r = R at HSZ HWR
  generalize s'.c = C at HSZ HWR
  have HX := hid h
  have hql := h.qlt
  have hbl := h.sp.lt
  have hqn : q ∉ [b, g] := by
    have := h.ne
    simp only [List.mem_cons, List.not_mem_nil, or_false]
    omega
  have hwn : w.heap.size ∉ [b, g] := by
    simp only [List.mem_cons, List.not_mem_nil, or_false]
    omega
  clear h hok hok1 hpos hxn hn hwl
  obtain ⟨k0, k1, k2, k3, k4, k5⟩ := c
  go_enter Tryd.func62, Tryd.ntmps62
  go_wp2
  obtain ⟨a0, ha0⟩ : ∃ a0, w.alloc (.cells #[.int .u8 k0, .bool k1, .int .u8 k2, .int .u8 k3, .int .u8 k4, .int .u8 k5] 47) = a0 := ⟨_, rfl⟩
  have hba : Below w.heap.size w a0 := by rw [← ha0]; exact (Below.refl _ _).alloc (Nat.le_refl _) _
  have HX0 := hid (HX.out.below hba)
  have z0 : a0.cell? ⟨w.heap.size, 0, none⟩ = some (.int .u8 k0) := by rw [← ha0]; simp [go_sem]
  have z1 : a0.cell? ⟨w.heap.size, 1, none⟩ = some (.bool k1) := by rw [← ha0]; simp [go_sem]
  have z2 : a0.cell? ⟨w.heap.size, 2, none⟩ = some (.int .u8 k2) := by rw [← ha0]; simp [go_sem]
  have z3 : a0.cell? ⟨w.heap.size, 3, none⟩ = some (.int .u8 k3) := by rw [← ha0]; simp [go_sem]
  have z4 : a0.cell? ⟨w.heap.size, 4, none⟩ = some (.int .u8 k4) := by rw [← ha0]; simp [go_sem]
  have z5 : a0.cell? ⟨w.heap.size, 5, none⟩ = some (.int .u8 k5) := by rw [← ha0]; simp [go_sem]
  simp only [ha0]
  have HBA := hid hba
  clear ha0 hba
  have hdr : Below a0.heap.size a0 a0.drew := (Below.refl _ _).drew
  refine wp_region_held_drew (S := fun V => V.cell? ⟨q, 0, none⟩ = some (.pointer (some ⟨b, 0, none⟩)) ∧ V.cell? ⟨q, 1, none⟩ = some (.int .i64 x.n) ∧ V.cell? ⟨w.heap.size, 0, none⟩ = some (.int .u8 k0) ∧ V.cell? ⟨w.heap.size, 1, none⟩ = some (.bool k1) ∧ V.cell? ⟨w.heap.size, 2, none⟩ = some (.int .u8 k2) ∧ V.cell? ⟨w.heap.size, 3, none⟩ = some (.int .u8 k3) ∧ V.cell? ⟨w.heap.size, 4, none⟩ = some (.int .u8 k4) ∧ V.cell? ⟨w.heap.size, 5, none⟩ = some (.int .u8 k5)) (by kernel_rfl) ?_ (fun hHeld => ?_)
  · exact ⟨keepc hdr HX0.out.c0, keepc hdr HX0.out.c1, keepc hdr z0, keepc hdr z1, keepc hdr z2, keepc hdr z3, keepc hdr z4, keepc hdr z5⟩
  refine takeD (i := 0) (v := ?_) 4 rfl rfl (by kernel_rfl) (by kernel_rfl) (by kernel_rfl) (fun _ _ _ h => h) (by assumption) (Or.inl ⟨by rfl, ?_⟩) ?_
  rotate_left
  · intro w hSw
    (try dsimp only at hSw)
    go_simp
    try with_reducible rfl
  simp only [List.setIfInBounds_toArray, List.set_cons_zero, List.set_cons_succ]
  refine takeD (i := 1) (v := ?_) 5 rfl rfl (by kernel_rfl) (by kernel_rfl) (by kernel_rfl) (fun _ _ _ h => h) (by assumption) (Or.inl ⟨by rfl, ?_⟩) ?_
  rotate_left
  · intro w hSw
    (try dsimp only at hSw)
    go_simp
    try with_reducible rfl
  simp only [List.setIfInBounds_toArray, List.set_cons_zero, List.set_cons_succ]
  refine takeD (i := 2) (v := ?_) 6 rfl rfl (by kernel_rfl) (by kernel_rfl) (by kernel_rfl) (fun _ _ _ h => h) (by assumption) (Or.inl ⟨by rfl, ?_⟩) ?_
  rotate_left
  · intro w hSw
    (try dsimp only at hSw)
    go_simp
    try with_reducible rfl
  simp only [List.setIfInBounds_toArray, List.set_cons_zero, List.set_cons_succ]
  refine takeD (i := 3) (v := ?_) 7 rfl rfl (by kernel_rfl) (by kernel_rfl) (by kernel_rfl) (fun _ _ _ h => h) (by assumption) (Or.inl ⟨by rfl, ?_⟩) ?_
  rotate_left
  · intro w hSw
    (try dsimp only at hSw)
    go_simp
    try with_reducible rfl
  simp only [List.setIfInBounds_toArray, List.set_cons_zero, List.set_cons_succ]
  refine takeD (i := 4) (v := ?_) 8 rfl rfl (by kernel_rfl) (by kernel_rfl) (by kernel_rfl) (fun _ _ _ h => h) (by assumption) (Or.inl ⟨by rfl, ?_⟩) ?_
  rotate_left
  · intro w hSw
    (try dsimp only at hSw)
    go_simp
    try with_reducible rfl
  simp only [List.setIfInBounds_toArray, List.set_cons_zero, List.set_cons_succ]
  refine takeD (i := 5) (v := ?_) 9 rfl rfl (by kernel_rfl) (by kernel_rfl) (by kernel_rfl) (fun _ _ _ h => h) (by assumption) (Or.inl ⟨by rfl, ?_⟩) ?_
  rotate_left
  · intro w hSw
    (try dsimp only at hSw)
    go_simp
    try with_reducible rfl
  simp only [List.setIfInBounds_toArray, List.set_cons_zero, List.set_cons_succ]
  refine takeD (i := 6) (v := ?_) 10 rfl rfl (by kernel_rfl) (by kernel_rfl) (by kernel_rfl) (fun _ _ _ h => h) (by assumption) (Or.inl ⟨by rfl, ?_⟩) ?_
  rotate_left
  · intro w hSw
    (try dsimp only at hSw)
    go_simp
    try with_reducible rfl
  simp only [List.setIfInBounds_toArray, List.set_cons_zero, List.set_cons_succ]
  refine takeD (i := 7) (v := ?_) 11 rfl rfl (by kernel_rfl) (by kernel_rfl) (by kernel_rfl) (fun _ _ _ h => h) (by assumption) (Or.inl ⟨by rfl, ?_⟩) ?_
  rotate_left
  · intro w hSw
    (try dsimp only at hSw)
    go_simp
    try with_reducible rfl
  simp only [List.setIfInBounds_toArray, List.set_cons_zero, List.set_cons_succ]
  refine takeD (i := 8) (v := ?_) 12 rfl rfl (by kernel_rfl) (by kernel_rfl) (by kernel_rfl) (fun _ _ _ h => h) (by assumption) (Or.inl ⟨by rfl, ?_⟩) ?_
  rotate_left
  · intro w hSw
    (try dsimp only at hSw)
    go_simp
    try with_reducible rfl
  simp only [List.setIfInBounds_toArray, List.set_cons_zero, List.set_cons_succ]
  refine wpAnyH_ready (rs := [9]) (by kernel_rfl) (by simp) ?_
  refine AllReadyH.cons (by simp only [List.getElem?_toArray, List.getElem?_cons_succ, List.getElem?_cons_zero]; rfl) (fun K hK => ?_) AllReadyH.nil
  go_simp
  go_at_call 29; (with_reducible refine (HST.out _ (HX0.out.sp.below hdr)).mono ?_); rintro e w1 ⟨⟨v1, rfl⟩, hs1, hm1⟩
  refine hK.out _ _ ?_ (fun hHeldN => ?_)
  · exact ⟨cell_moved hm1 hHeld.1 hqn, cell_moved hm1 hHeld.2.1 hqn, cell_moved hm1 hHeld.2.2.1 hwn, cell_moved hm1 hHeld.2.2.2.1 hwn, cell_moved hm1 hHeld.2.2.2.2.1 hwn, cell_moved hm1 hHeld.2.2.2.2.2.1 hwn, cell_moved hm1 hHeld.2.2.2.2.2.2.1 hwn, cell_moved hm1 hHeld.2.2.2.2.2.2.2 hwn⟩
  have HS1 := hid hs1
  have HM1 := hid hm1
  clear hs1 hm1
  clear hK K hHeld
  have hHeld := hHeldN
  clear hHeldN
  (try simp only [Act.put, List.setIfInBounds_toArray, List.set_cons_zero, List.set_cons_succ])
  refine wpAnyH_done (by kernel_rfl) ?_ _
  clear hHeld
  have HX1 := hid ((HX0.out.below hdr).space HS1.out HM1.out HL.out)
  have HMV := hid ((Moved.below (below_t HBA.out hdr) [q, b, g]).trans (moved_bg (q := q) HM1.out))
  clear z0 z1 z2 z3 z4 z5 HS1 HM1 HX0 HX HST hdr HBA
  go_wp2
  have hdr1 : Below w1.heap.size w1 w1.drew := (Below.refl _ _).drew
  have hq0 := keepc hdr1 HX1.out.c1
  have hql1 := HX1.out.qlt
  refine wp_region_held_drew (S := fun V => V.cell? ⟨q, 0, none⟩ = some (.pointer (some ⟨b, 0, none⟩)) ∧ V.frozen? ⟨q, 1, none⟩ = false) (by kernel_rfl) ?_ (fun hHeld => ?_)
  · exact ⟨keepc hdr1 HX1.out.c0, HX1.out.fr 1⟩
  refine takeD (i := 0) (v := ?_) 14 rfl rfl (by kernel_rfl) (by kernel_rfl) (by kernel_rfl) (fun _ _ _ h => h) (by assumption) (Or.inl ⟨by rfl, ?_⟩) ?_
  rotate_left
  · intro w hSw
    (try dsimp only at hSw)
    go_simp
    try with_reducible rfl
  simp only [List.setIfInBounds_toArray, List.set_cons_zero, List.set_cons_succ]
  refine takeD (i := 1) (v := ?_) 15 rfl rfl (by kernel_rfl) (by kernel_rfl) (by kernel_rfl) (fun _ _ _ h => h) (by assumption) (Or.inl ⟨by rfl, ?_⟩) ?_
  rotate_left
  · intro w hSw
    (try dsimp only at hSw)
    go_simp
    try with_reducible rfl
  simp only [List.setIfInBounds_toArray, List.set_cons_zero, List.set_cons_succ]
  refine takeD (i := 2) (v := ?_) 16 rfl rfl (by kernel_rfl) (by kernel_rfl) (by kernel_rfl) (fun _ _ _ h => h) (by assumption) (Or.inl ⟨by rfl, ?_⟩) ?_
  rotate_left
  · intro w hSw
    (try dsimp only at hSw)
    go_simp
    try with_reducible rfl
  simp only [List.setIfInBounds_toArray, List.set_cons_zero, List.set_cons_succ]
  refine takeD (i := 3) (v := ?_) 17 rfl rfl (by kernel_rfl) (by kernel_rfl) (by kernel_rfl) (fun _ _ _ h => h) (by assumption) (Or.inl ⟨by rfl, ?_⟩) ?_
  rotate_left
  · intro w hSw
    (try dsimp only at hSw)
    go_simp
    try with_reducible rfl
  simp only [List.setIfInBounds_toArray, List.set_cons_zero, List.set_cons_succ]
  refine takeD (i := 4) (v := ?_) 18 rfl rfl (by kernel_rfl) (by kernel_rfl) (by kernel_rfl) (fun _ _ _ h => h) (by assumption) (Or.inl ⟨by rfl, ?_⟩) ?_
  rotate_left
  · intro w hSw
    (try dsimp only at hSw)
    go_simp
    try with_reducible rfl
  simp only [List.setIfInBounds_toArray, List.set_cons_zero, List.set_cons_succ]
  refine takeD (i := 6) (v := ?_) 20 rfl rfl (by kernel_rfl) (by kernel_rfl) (by kernel_rfl) (fun _ _ _ h => h) (by assumption) (Or.inl ⟨by rfl, ?_⟩) ?_
  rotate_left
  · intro w hSw
    (try dsimp only at hSw)
    go_simp
    try with_reducible rfl
  simp only [List.setIfInBounds_toArray, List.set_cons_zero, List.set_cons_succ]
  refine takeD (i := 7) (v := ?_) 21 rfl rfl (by kernel_rfl) (by kernel_rfl) (by kernel_rfl) (fun _ _ _ h => h) (by assumption) (Or.inl ⟨by rfl, ?_⟩) ?_
  rotate_left
  · intro w hSw
    (try dsimp only at hSw)
    go_simp
    try with_reducible rfl
  simp only [List.setIfInBounds_toArray, List.set_cons_zero, List.set_cons_succ]
  refine takeD (i := 8) (v := ?_) 22 rfl rfl (by kernel_rfl) (by kernel_rfl) (by kernel_rfl) (fun _ _ _ h => h) (by assumption) (Or.inl ⟨by rfl, ?_⟩) ?_
  rotate_left
  · intro w hSw
    (try dsimp only at hSw)
    go_simp
    try with_reducible rfl
  simp only [List.setIfInBounds_toArray, List.set_cons_zero, List.set_cons_succ]
  refine wpAnyH_ready (rs := [5, 9]) (by kernel_rfl) (by simp) ?_
  refine AllReadyH.cons (by simp only [List.getElem?_toArray, List.getElem?_cons_succ, List.getElem?_cons_zero]; rfl) (fun K hK => ?_) (AllReadyH.cons (by simp only [List.getElem?_toArray, List.getElem?_cons_succ, List.getElem?_cons_zero]; rfl) (fun K hK => ?_) AllReadyH.nil)
  · go_simp
    go_at_call 41; (with_reducible refine (HSZ.out _ (HX1.out.sp.below hdr1)).mono ?_); rintro e w5 ⟨rfl, hb5⟩
    refine hK.out _ _ ?_ (fun hHeldN => ?_)
    · exact ⟨keepc hb5 hHeld.1, (hb5.frozen (p := ⟨q, 1, none⟩) hql1).trans hHeld.2⟩
    have hq5 := keepc hb5 hq0
    have HB5 := hid (below_t hdr1 hb5)
    clear hb5
    clear hK K hHeld
    have hHeld := hHeldN
    clear hHeldN
    (try simp only [Act.put, List.setIfInBounds_toArray, List.set_cons_zero, List.set_cons_succ])
    refine wpAnyH_ready (rs := [9]) (by kernel_rfl) (by simp) ?_
    refine AllReadyH.cons (by simp only [List.getElem?_toArray, List.getElem?_cons_succ, List.getElem?_cons_zero]; rfl) (fun K hK => ?_) AllReadyH.nil
    go_simp
    refine hK.out _ _ ?_ (fun hHeldN => ?_)
    · exact hHeld
    clear hK K hHeld
    have hHeld := hHeldN
    clear hHeldN
    (try simp only [Act.put, List.setIfInBounds_toArray, List.set_cons_zero, List.set_cons_succ])
    refine takeD (i := 10) (v := ?_) 24 rfl rfl (by kernel_rfl) (by kernel_rfl) (by kernel_rfl) (fun _ _ _ h => h) (by assumption) (Or.inl ⟨by rfl, ?_⟩) ?_
    rotate_left
    · intro w hSw
      (try dsimp only at hSw)
      go_simp
      try with_reducible rfl
    simp only [List.setIfInBounds_toArray, List.set_cons_zero, List.set_cons_succ]
    refine wpAnyH_ready (rs := [11]) (by kernel_rfl) (by simp) ?_
    refine AllReadyH.cons (by simp only [List.getElem?_toArray, List.getElem?_cons_succ, List.getElem?_cons_zero]; rfl) (fun K hK => ?_) AllReadyH.nil
    go_simp
    go_at_call 42; (with_reducible refine (HWR.out _).mono ?_); rintro e w6 ⟨rfl, hb6⟩
    refine hK.out _ _ ?_ (fun hHeldN => ?_)
    · exact ⟨keepc hb6 hHeld.1, (hb6.frozen (p := ⟨q, 1, none⟩) (Nat.lt_of_lt_of_le hql1 HB5.out.size)).trans hHeld.2⟩
    have hq6 := keepc hb6 hq5
    have hf6 := (hb6.frozen (p := ⟨q, 1, none⟩) (Nat.lt_of_lt_of_le hql1 HB5.out.size)).trans hHeld.2
    have HB6 := hid (below_t HB5.out hb6)
    clear hb6
    clear hK K hHeld
    have hHeld := hHeldN
    clear hHeldN
    (try simp only [Act.put, List.setIfInBounds_toArray, List.set_cons_zero, List.set_cons_succ])
    refine takeD (i := 12) (v := ?_) 26 rfl rfl (by kernel_rfl) (by kernel_rfl) (by kernel_rfl) (fun _ _ _ h => h) (by assumption) (Or.inl ⟨by rfl, ?_⟩) ?_
    rotate_left
    · intro w hSw
      (try dsimp only at hSw)
      go_simp
      try with_reducible rfl
    simp only [List.setIfInBounds_toArray, List.set_cons_zero, List.set_cons_succ]
    refine takeD (i := 13) (v := ?_) 27 rfl rfl (by kernel_rfl) (by kernel_rfl) (by kernel_rfl) (fun _ _ _ h => h) (by assumption) (Or.inl ⟨by rfl, ?_⟩) ?_
    rotate_left
    · intro w hSw
      (try dsimp only at hSw)
      go_simp
      try with_reducible rfl
    simp only [List.setIfInBounds_toArray, List.set_cons_zero, List.set_cons_succ]
    refine wpAnyH_ready (rs := [14]) (by kernel_rfl) (by simp) ?_
    refine AllReadyH.cons (by simp only [List.getElem?_toArray, List.getElem?_cons_succ, List.getElem?_cons_zero]; rfl) (fun K hK => ?_) AllReadyH.nil
    go_simp
    refine hK.out _ _ ?_ (fun hHeldN => ?_)
    · exact ⟨(sc_other (by decide)).trans hHeld.1, (World.frozen?_setCell ..).trans hHeld.2⟩
    clear hK K hHeld
    have hHeld := hHeldN
    clear hHeldN
    (try simp only [Act.put, List.setIfInBounds_toArray, List.set_cons_zero, List.set_cons_succ])
    refine wpAnyH_done (by kernel_rfl) ?_ _
    clear hHeld
    go_wp2
    exact bodyPost_ret (results_none rfl _ _ _) rfl ⟨⟨_, rfl⟩, (HX1.out.below HB6.out).at_ n' (by rw [HL.out]; exact HWL.out), (HMV.out.trans (Moved.below HB6.out _)).trans (Moved.set (by simp) 1 _)⟩
  · go_simp
    refine hK.out _ _ ?_ (fun hHeldN => ?_)
    · exact hHeld
    clear hK K hHeld
    have hHeld := hHeldN
    clear hHeldN
    (try simp only [Act.put, List.setIfInBounds_toArray, List.set_cons_zero, List.set_cons_succ])
    refine takeD (i := 10) (v := ?_) 24 rfl rfl (by kernel_rfl) (by kernel_rfl) (by kernel_rfl) (fun _ _ _ h => h) (by assumption) (Or.inl ⟨by rfl, ?_⟩) ?_
    rotate_left
    · intro w hSw
      (try dsimp only at hSw)
      go_simp
      try with_reducible rfl
    simp only [List.setIfInBounds_toArray, List.set_cons_zero, List.set_cons_succ]
    refine wpAnyH_ready (rs := [5]) (by kernel_rfl) (by simp) ?_
    refine AllReadyH.cons (by simp only [List.getElem?_toArray, List.getElem?_cons_succ, List.getElem?_cons_zero]; rfl) (fun K hK => ?_) AllReadyH.nil
    go_simp
    go_at_call 41; (with_reducible refine (HSZ.out _ (HX1.out.sp.below hdr1)).mono ?_); rintro e w5 ⟨rfl, hb5⟩
    refine hK.out _ _ ?_ (fun hHeldN => ?_)
    · exact ⟨keepc hb5 hHeld.1, (hb5.frozen (p := ⟨q, 1, none⟩) hql1).trans hHeld.2⟩
    have hq5 := keepc hb5 hq0
    have HB5 := hid (below_t hdr1 hb5)
    clear hb5
    clear hK K hHeld
    have hHeld := hHeldN
    clear hHeldN
    (try simp only [Act.put, List.setIfInBounds_toArray, List.set_cons_zero, List.set_cons_succ])
    refine wpAnyH_ready (rs := [11]) (by kernel_rfl) (by simp) ?_
    refine AllReadyH.cons (by simp only [List.getElem?_toArray, List.getElem?_cons_succ, List.getElem?_cons_zero]; rfl) (fun K hK => ?_) AllReadyH.nil
    go_simp
    go_at_call 42; (with_reducible refine (HWR.out _).mono ?_); rintro e w6 ⟨rfl, hb6⟩
    refine hK.out _ _ ?_ (fun hHeldN => ?_)
    · exact ⟨keepc hb6 hHeld.1, (hb6.frozen (p := ⟨q, 1, none⟩) (Nat.lt_of_lt_of_le hql1 HB5.out.size)).trans hHeld.2⟩
    have hq6 := keepc hb6 hq5
    have hf6 := (hb6.frozen (p := ⟨q, 1, none⟩) (Nat.lt_of_lt_of_le hql1 HB5.out.size)).trans hHeld.2
    have HB6 := hid (below_t HB5.out hb6)
    clear hb6
    clear hK K hHeld
    have hHeld := hHeldN
    clear hHeldN
    (try simp only [Act.put, List.setIfInBounds_toArray, List.set_cons_zero, List.set_cons_succ])
    refine takeD (i := 12) (v := ?_) 26 rfl rfl (by kernel_rfl) (by kernel_rfl) (by kernel_rfl) (fun _ _ _ h => h) (by assumption) (Or.inl ⟨by rfl, ?_⟩) ?_
    rotate_left
    · intro w hSw
      (try dsimp only at hSw)
      go_simp
      try with_reducible rfl
    simp only [List.setIfInBounds_toArray, List.set_cons_zero, List.set_cons_succ]
    refine takeD (i := 13) (v := ?_) 27 rfl rfl (by kernel_rfl) (by kernel_rfl) (by kernel_rfl) (fun _ _ _ h => h) (by assumption) (Or.inl ⟨by rfl, ?_⟩) ?_
    rotate_left
    · intro w hSw
      (try dsimp only at hSw)
      go_simp
      try with_reducible rfl
    simp only [List.setIfInBounds_toArray, List.set_cons_zero, List.set_cons_succ]
    refine wpAnyH_ready (rs := [14]) (by kernel_rfl) (by simp) ?_
    refine AllReadyH.cons (by simp only [List.getElem?_toArray, List.getElem?_cons_succ, List.getElem?_cons_zero]; rfl) (fun K hK => ?_) AllReadyH.nil
    go_simp
    refine hK.out _ _ ?_ (fun hHeldN => ?_)
    · exact ⟨(sc_other (by decide)).trans hHeld.1, (World.frozen?_setCell ..).trans hHeld.2⟩
    clear hK K hHeld
    have hHeld := hHeldN
    clear hHeldN
    (try simp only [Act.put, List.setIfInBounds_toArray, List.set_cons_zero, List.set_cons_succ])
    refine wpAnyH_done (by kernel_rfl) ?_ _
    clear hHeld
    go_wp2
    exact bodyPost_ret (results_none rfl _ _ _) rfl ⟨⟨_, rfl⟩, (HX1.out.below HB6.out).at_ n' (by rw [HL.out]; exact HWL.out), (HMV.out.trans (Moved.below HB6.out _)).trans (Moved.set (by simp) 1 _)⟩
end
end Go.Proofs.YtdampfngdnicoaaDoor
