/-
  Erase/Write: the control character, the screen cleared, the orders.
-/
import Derived.Test.YtdampfngdnicoaaDoorMk
namespace Go.Proofs.YtdampfngdnicoaaDoor
open Go.RowKit Go.Lib Go.Deep

theorem orders_any {b g : Nat} {s : Spc} (p : Value) (zs : List Int) (n0 : Int) (hn0 : I64 n0) (hlz : zs.length ≤ 100000) (w : World) (h : SpM w b g s) (hp : Reads w p zs) :
    Calls Tryd.prog 18 #[.pointer (some ⟨b, 0, none⟩), p, .int .i64 n0] w fun e w' => e = .returned (.tuple #[.int .i64 (ordW s zs n0).1.n, .int .i64 ((ordW s zs n0).2.1 : Nat), .int .i64 (ordW s zs n0).2.2]) ∧ SpM w' b g (ordW s zs n0).1.s ∧ Moved w w' [b, g] [b, g] := callsIn_wide.1 (orders_in 12 (by decide) b g s p zs n0 hn0 hlz w h hp)
/-- What a record came to. -/
def resV (cmd : Int) (r a t : Bool) (k : Nat) : Value := .agg #[.int .i64 cmd, .bool r, .bool a, .bool t, .int .i64 k, .slice none 0 0]
def bitB (c m : Int) : Bool := bits .and .u8 c m != 0
/-- Erase/Write: what comes of a screen. -/
def ewS (mo : Int) (alt : Bool) (ps : List Int) : Wst × Nat × Int := ordW (clearS mo alt) (ps.drop 1) 0
def ewV (cmd : Int) (mo : Int) (alt : Bool) (ps : List Int) : Value := if (ewS mo alt ps).2.2 = 0 then resV cmd (bitB (ps.headD 0) 2) (bitB (ps.headD 0) 4) (bitB (ps.headD 0) 64) (ewS mo alt ps).2.1 else resV cmd false false false (ewS mo alt ps).2.1
def EwD (cmd : Int) (b : Nat) (mo : Int) (alt : Bool) (ps : List Int) (w : World) (e : Ending) (w' : World) : Prop := e = .returned (.tuple #[ewV cmd mo alt ps, .int .i64 (ewS mo alt ps).2.2]) ∧ ∃ g', w.heap.size ≤ g' ∧ SpM w' b g' (ewS mo alt ps).1.s ∧ Moved w w' [b] [b]
/-- A result's box, just made. -/
def Rz (W : World) (R : Nat) : Prop := W.cell? ⟨R, 0, none⟩ = some (.int .i64 0) ∧ W.cell? ⟨R, 1, none⟩ = some (.bool false) ∧ W.cell? ⟨R, 2, none⟩ = some (.bool false) ∧ W.cell? ⟨R, 3, none⟩ = some (.bool false) ∧ W.cell? ⟨R, 4, none⟩ = some (.int .i64 0) ∧ W.cell? ⟨R, 5, none⟩ = some (.slice none 0 0) ∧ ∀ j, W.frozen? ⟨R, j, none⟩ = false
theorem rz_new (W : World) : Rz (W.alloc (.cells #[.int .i64 0, .bool false, .bool false, .bool false, .int .i64 0, .slice none 0 0] 31)) W.heap.size := by
  refine ⟨?_, ?_, ?_, ?_, ?_, ?_, fun o => ?_⟩ <;> simp [go_sem]
theorem Rz.moved {A B : World} {R : Nat} (h : Rz A R) {S S' : List Nat} (m : Moved A B S S') (hR : R ∉ S) : Rz B R :=
  ⟨cell_moved m h.1 hR, cell_moved m h.2.1 hR, cell_moved m h.2.2.1 hR, cell_moved m h.2.2.2.1 hR, cell_moved m h.2.2.2.2.1 hR, cell_moved m h.2.2.2.2.2.1 hR, fun o => (World.frozen?_of_block (a := ⟨R, o, none⟩) (m.block R (World.block_lt_of_cell? A _ h.1) hR)).trans (h.2.2.2.2.2.2 o)⟩
theorem reads_from_kept {w w1 : World} {v q : Value} {xs : List Int} (h1 : Reads w1 v xs) {n : Nat} (hn : n ≤ xs.length) (hsl : ∀ w', (Instr.sliceAt 23 v (some (.int .i64 n)) none none).run Tryd.prog w' = .ok q w') : Reads w1 q (xs.drop n) := by
  obtain ⟨q', hsl', hq'⟩ := run_from_all h1 n hn
  have e := (hsl w).symm.trans (hsl' w)
  injection e with e1 _
  rwa [e1]
theorem put6_sp {W : World} {b g : Nat} {s : Spc} (h : SpM W b g s) {R : Nat} (hb : b ≠ R) (hg : g ≠ R) (x0 x1 x2 x3 x4 x5 : Value) : SpM (put6 W R x0 x1 x2 x3 x4 x5) b g s := by
  have st := fun (A : World) (i : Nat) (u : Value) => Moved.set (a := A) (S := [R]) (g := R) (List.mem_cons_self ..) i u
  have m : Moved W (put6 W R x0 x1 x2 x3 x4 x5) [R] [R] := (((((st _ _ _).trans (st _ _ _)).trans (st _ _ _)).trans (st _ _ _)).trans (st _ _ _)).trans (st _ _ _)
  exact h.moved m (fun q => hb (List.mem_singleton.1 q)) (fun q => hg (List.mem_singleton.1 q))
theorem put6_mv {w W : World} {S S' : List Nat} (h : Moved w W S S') {R : Nat} (hR : w.heap.size ≤ R) (x0 x1 x2 x3 x4 x5 : Value) : Moved w (put6 W R x0 x1 x2 x3 x4 x5) S S' :=
  moved_newc (moved_newc (moved_newc (moved_newc (moved_newc (moved_newc h hR 0 _) hR 1 _) hR 2 _) hR 3 _) hR 4 _) hR 5 _
section
variable {b g : Nat} {s : Spc}
theorem run_moved' {w a0 w1 w2 w3 : World} {b g1 : Nat} (h0 : Moved w a0 [b] [b]) (h1 : Moved a0 w1 [b] [b]) (h2 : Below w1.heap.size w1 w2) (h3 : Moved w2 w3 [b, g1] [b, g1]) (hg : w.heap.size + 1 ≤ g1) : Moved w w3 [b] [b] := by
  have m := h0.trans (h1.trans (Moved.below h2 [b]))
  exact ⟨h3.os.trans m.os, h3.tape.trans m.tape, h3.output.trans m.output, Nat.le_trans m.size h3.size, fun k hk hs => (h3.block k (Nat.lt_of_lt_of_le hk m.size) (fun q => by
    rcases List.mem_cons.1 q with q | q
    · exact hs (by simp [q])
    · have := List.mem_singleton.1 q; omega)).trans (m.block k hk hs), fun _ q => .inl q⟩
theorem run_moved {w w1 w2 w3 : World} {o : Obj} {b g1 : Nat} (h1 : Moved (w.alloc o) w1 [b] [b]) (h2 : Below w1.heap.size w1 w2) (h3 : Moved w2 w3 [b, g1] [b, g1]) (hg : w.heap.size + 1 ≤ g1) : Moved w w3 [b] [b] := by
  have m := (Moved.alloc w o [b]).trans (h1.trans (Moved.below h2 [b]))
  exact ⟨h3.os.trans m.os, h3.tape.trans m.tape, h3.output.trans m.output, Nat.le_trans m.size h3.size, fun k hk hs => (h3.block k (Nat.lt_of_lt_of_le hk m.size) (fun q => by
    rcases List.mem_cons.1 q with q | q
    · exact hs (by simp [q])
    · have := List.mem_singleton.1 q; omega)).trans (m.block k hk hs), fun _ q => .inl q⟩
set_option maxRecDepth 100000 in
set_option maxHeartbeats 2000000 in
theorem run_2_nil (ps : List Int) (hps : ps = []) (hl : ps.length ≤ 100000) (v : Value) (w : World) (h : SpM w b g s) (hp : Reads w v ps) (hvb : ∀ k ∈ blkV v, k ≠ b) : Calls Tryd.prog 32 #[.pointer (some ⟨b, 0, none⟩), .int .i64 2, v] w (EwD 2 b s.mo false ps w) := by
  have HCL := hid (fun W (hW : SpM W b g s) => clear_any (b := b) (g := g) (s := s) false W hW)
  have HCU := hid (fun W g' (hW : SpM W b g' (clearS s.mo false)) => (show Calls Tryd.prog 54 #[.pointer (some ⟨b, 0, none⟩)] W fun e w' => e = .returned (.int .i64 0) ∧ Below W.heap.size W w' from cursor_any (b := b) (g := g') (s := clearS s.mo false) W hW))
  have HOR := hid (fun q W g' (hW : SpM W b g' (clearS s.mo false)) (hq : Reads W q (ps.drop 1)) => orders_any (b := b) (g := g') (s := clearS s.mo false) q (ps.drop 1) 0 ⟨by decide, by decide⟩ (by rw [List.length_drop]; omega) W hW hq)
  have HH := hid h
  have HP := hid hp
  have hbl := h.lt.1
  have HVB := hid (show ∀ k ∈ blkV v, k ∉ [b] from fun k hk q => hvb k hk (List.mem_singleton.1 q))
  have HEV := hid (show ewV 2 s.mo false ps = (if (ordW (clearS s.mo false) (ps.drop 1) 0).2.2 = 0 then resV 2 (bitB (ps.headD 0) 2) (bitB (ps.headD 0) 4) (bitB (ps.headD 0) 64) (ordW (clearS s.mo false) (ps.drop 1) 0).2.1 else resV 2 false false false (ordW (clearS s.mo false) (ps.drop 1) 0).2.1) from rfl)
  have HES : Hid (ewS s.mo false ps = ordW (clearS s.mo false) (ps.drop 1) 0) := rfl
  generalize ordW (clearS s.mo false) (ps.drop 1) 0 = res at HOR HEV HES
  obtain ⟨y, kk, er⟩ := res
  dsimp only at HOR HEV
  generalize clearS s.mo false = t at HCL HCU HOR
  subst hps
  obtain ⟨x, c, rfl⟩ := reads_sl hp
  simp only [List.length_nil] at HP HVB ⊢
  clear h hp
  have hA : Below w.heap.size w (w.alloc (.cells #[.int .i64 0, .bool false, .bool false, .bool false, .int .i64 0, .slice none 0 0] 31)) := (Below.refl _ _).alloc (Nat.le_refl _) _
  have HR0 := hid (rz_new w)
  go_enter Tryd.func32, Tryd.ntmps32
  go_wp2_with fail
  with_reducible refine (HCL.out _ (HH.out.below hA)).mono ?_
  rintro e w1 ⟨⟨v1, rfl⟩, g1, hg1, hs1, hm1⟩
  have hg1' : w.heap.size + 1 ≤ g1 := by simpa using hg1
  have HS1 := hid hs1
  have HM1 := hid hm1
  have HR1 := hid (HR0.out.moved hm1 (by simp; omega))
  have HP1 := hid (reads_moved (reads_below HP.out hA) hm1 HVB.out)
  clear hs1 hm1 hg1
  go_wp2_with fail
  with_reducible refine (HCU.out _ g1 HS1.out).mono ?_
  rintro e w2 ⟨rfl, hb2⟩
  have HB2 := hid hb2
  clear hb2
  go_wp2_with fail
  with_reducible refine (HOR.out _ _ g1 (HS1.out.below HB2.out) (reads_below HP1.out HB2.out)).mono ?_
  rintro e w3 ⟨rfl, hs3, hm3⟩
  have HS3 := hid hs3
  have HM3 := hid hm3
  obtain ⟨r0, r1, r2, r3, r4, r5, rf⟩ := (HR1.out.moved (Moved.below HB2.out []) (by simp)).moved hm3 (by simp; omega)
  have f0 := rf 0
  have f1 := rf 1
  have f2 := rf 2
  have f3 := rf 3
  have f4 := rf 4
  have f5 := rf 5
  have HMV := hid (run_moved HM1.out HB2.out HM3.out hg1')
  clear hs3 hm3 rf
  by_cases he : er = 0
  · subst he
    have HEV0 := HEV.out
    rw [if_pos rfl] at HEV0
    go_wp2
    have q := put6_cells (W := w3) (g := w.heap.size) (x0 := .int .i64 2) (x1 := .bool (bits .and .u8 0 2 != 0)) (x2 := .bool (bits .and .u8 0 4 != 0)) (x3 := .bool (bits .and .u8 0 64 != 0)) (x4 := .int .i64 kk) (x5 := .slice none 0 0) r0 r1 r2 r3 r4 r5
    have HFS := hid (put6_sp HS3.out (R := w.heap.size) (by omega) (by omega) (.int .i64 2) (.bool (bits .and .u8 0 2 != 0)) (.bool (bits .and .u8 0 4 != 0)) (.bool (bits .and .u8 0 64 != 0)) (.int .i64 kk) (.slice none 0 0))
    have HFM := hid (put6_mv HMV.out (Nat.le_refl _) (.int .i64 2) (.bool (bits .and .u8 0 2 != 0)) (.bool (bits .and .u8 0 4 != 0)) (.bool (bits .and .u8 0 64 != 0)) (.int .i64 kk) (.slice none 0 0))
    unfold put6 at q HFS HFM
    refine bodyPost_ret (v := .tuple #[.agg #[.int .i64 2, .bool (bits .and .u8 0 2 != 0), .bool (bits .and .u8 0 4 != 0), .bool (bits .and .u8 0 64 != 0), .int .i64 kk, .slice none 0 0], .int .i64 0]) ?_ rfl ⟨by rw [HEV0, HES.out]; rfl, g1, by omega, by rw [HES.out]; exact HFS.out, HFM.out⟩
    clear HFS HFM r0 r1 r2 r3 r4 r5 f0 f1 f2 f3 f4 f5
    generalize World.setCell _ ⟨w.heap.size, 5, none⟩ _ = W' at q ⊢
    obtain ⟨q0, q1, q2, q3, q4, q5⟩ := q
    simp [results, Tryd.results32, go_sem, q0, q1, q2, q3, q4, q5]
  · have he' : (er == 0) = false := by simpa using he
    have HEV0 := HEV.out
    rw [if_neg he] at HEV0
    go_wp2
    have q := put6_cells (W := w3) (g := w.heap.size) (x0 := .int .i64 2) (x1 := .bool false) (x2 := .bool false) (x3 := .bool false) (x4 := .int .i64 kk) (x5 := .slice none 0 0) r0 r1 r2 r3 r4 r5
    have HFS := hid (put6_sp HS3.out (R := w.heap.size) (by omega) (by omega) (.int .i64 2) (.bool false) (.bool false) (.bool false) (.int .i64 kk) (.slice none 0 0))
    have HFM := hid (put6_mv HMV.out (Nat.le_refl _) (.int .i64 2) (.bool false) (.bool false) (.bool false) (.int .i64 kk) (.slice none 0 0))
    unfold put6 at q HFS HFM
    refine bodyPost_ret (v := .tuple #[.agg #[.int .i64 2, .bool false, .bool false, .bool false, .int .i64 kk, .slice none 0 0], .int .i64 er]) ?_ rfl ⟨by rw [HEV0, HES.out]; rfl, g1, by omega, by rw [HES.out]; exact HFS.out, HFM.out⟩
    clear HFS HFM r0 r1 r2 r3 r4 r5 f0 f1 f2 f3 f4 f5
    generalize World.setCell _ ⟨w.heap.size, 5, none⟩ _ = W' at q ⊢
    obtain ⟨q0, q1, q2, q3, q4, q5⟩ := q
    simp [results, Tryd.results32, go_sem, q0, q1, q2, q3, q4, q5]
set_option maxRecDepth 100000 in
set_option maxHeartbeats 2000000 in
theorem run_2_cons (c0 : Int) (r : List Int) (ps : List Int) (hps : ps = c0 :: r) (hl : ps.length ≤ 100000) (v : Value) (w : World) (h : SpM w b g s) (hp : Reads w v ps) (hvb : ∀ k ∈ blkV v, k ≠ b) : Calls Tryd.prog 32 #[.pointer (some ⟨b, 0, none⟩), .int .i64 2, v] w (EwD 2 b s.mo false ps w) := by
  have HCL := hid (fun W (hW : SpM W b g s) => clear_any (b := b) (g := g) (s := s) false W hW)
  have HCU := hid (fun W g' (hW : SpM W b g' (clearS s.mo false)) => (show Calls Tryd.prog 54 #[.pointer (some ⟨b, 0, none⟩)] W fun e w' => e = .returned (.int .i64 0) ∧ Below W.heap.size W w' from cursor_any (b := b) (g := g') (s := clearS s.mo false) W hW))
  have HOR := hid (fun q W g' (hW : SpM W b g' (clearS s.mo false)) (hq : Reads W q (ps.drop 1)) => orders_any (b := b) (g := g') (s := clearS s.mo false) q (ps.drop 1) 0 ⟨by decide, by decide⟩ (by rw [List.length_drop]; omega) W hW hq)
  have HH := hid h
  have HP := hid hp
  have hbl := h.lt.1
  have HVB := hid (show ∀ k ∈ blkV v, k ∉ [b] from fun k hk q => hvb k hk (List.mem_singleton.1 q))
  have HEV := hid (show ewV 2 s.mo false ps = (if (ordW (clearS s.mo false) (ps.drop 1) 0).2.2 = 0 then resV 2 (bitB (ps.headD 0) 2) (bitB (ps.headD 0) 4) (bitB (ps.headD 0) 64) (ordW (clearS s.mo false) (ps.drop 1) 0).2.1 else resV 2 false false false (ordW (clearS s.mo false) (ps.drop 1) 0).2.1) from rfl)
  have HES : Hid (ewS s.mo false ps = ordW (clearS s.mo false) (ps.drop 1) 0) := rfl
  generalize ordW (clearS s.mo false) (ps.drop 1) 0 = res at HOR HEV HES
  obtain ⟨y, kk, er⟩ := res
  dsimp only at HOR HEV
  generalize clearS s.mo false = t at HCL HCU HOR
  obtain ⟨q, hsl0, -⟩ := run_from_all hp 1 (by rw [hps]; simp)
  have HRQ := hid (fun W (hW : Reads W v ps) => reads_from_kept (w := w) hW (by rw [hps]; simp) hsl0)
  rcases reads_cons hp with ⟨x, c, rfl, e⟩ | ⟨gv, o, c, r', cb, hcb, rfl, e, hc0⟩
  · rw [hps] at e
    cases e
  rw [hps] at e
  injection e with e1 e2
  subst e1 e2
  have HC0 := hid hc0
  have hr1 : (1 : Int) ≤ (r.length : Int) + 1 := by omega
  have hq2 := hsl0 w
  simp [Instr.sliceAt, Instr.slice, run_underlying Tryd.underlying23, Instr.sliceBounds, Instr.sliceBound, asIntOf] at hq2
  rw [if_pos hr1, addr_add] at hq2
  injection hq2 with hq3 _
  subst hq3
  clear h hp
  have hA : Below w.heap.size w (w.alloc (.cells #[.int .i64 0, .bool false, .bool false, .bool false, .int .i64 0, .slice none 0 0] 31)) := (Below.refl _ _).alloc (Nat.le_refl _) _
  have HR0 := hid (rz_new w)
  go_enter Tryd.func32, Tryd.ntmps32
  have hA0 := hA
  go_wp2
  obtain ⟨a0, ha0⟩ : ∃ a0, w.alloc (.cells #[.int .i64 0, .bool false, .bool false, .bool false, .int .i64 0, .slice none 0 0] 31) = a0 := ⟨_, rfl⟩
  rw [ha0] at hA hA0
  rw [ha0] at HR0
  simp only [ha0]
  have HMW := hid (show Moved w a0 [b] [b] from by rw [← ha0]; exact Moved.alloc _ _ _)
  have hszA : a0.heap.size = w.heap.size + 1 := by rw [← ha0]; simp
  clear ha0
  have hc1 := keepc hA0 HC0.out.1
  have hdr : Below a0.heap.size a0 a0.drew := (Below.refl _ _).drew
  have hcl := HC0.out.2.1
  have hcm := HC0.out.2.2
  refine wp_region_held_drew (S := fun V => V.cell? ⟨gv, o, none⟩ = some (.int .u8 cb)) (by kernel_rfl) ?_ (fun hHeld => ?_)
  · exact keepc hdr hc1
  refine takeD (i := 0) (v := ?_) 15 rfl rfl (by kernel_rfl) (by kernel_rfl) (by kernel_rfl) (fun _ _ _ h => h) (by assumption) (Or.inl ⟨by rfl, ?_⟩) ?_
  rotate_left
  · intro w hSw
    (try dsimp only at hSw)
    go_simp
    try with_reducible rfl
  simp only [List.setIfInBounds_toArray, List.set_cons_zero, List.set_cons_succ]
  refine takeD (i := 1) (v := ?_) 16 rfl rfl (by kernel_rfl) (by kernel_rfl) (by kernel_rfl) (fun _ _ _ h => h) (by assumption) (Or.inl ⟨by rfl, ?_⟩) ?_
  rotate_left
  · intro w hSw
    (try dsimp only at hSw)
    go_simp
    try with_reducible rfl
  simp only [List.setIfInBounds_toArray, List.set_cons_zero, List.set_cons_succ]
  refine takeD (i := 2) (v := ?_) 17 rfl rfl (by kernel_rfl) (by kernel_rfl) (by kernel_rfl) (fun _ _ _ h => h) (by assumption) (Or.inl ⟨by rfl, ?_⟩) ?_
  rotate_left
  · intro w hSw
    (try dsimp only at hSw)
    go_simp
    try with_reducible rfl
  simp only [List.setIfInBounds_toArray, List.set_cons_zero, List.set_cons_succ]
  refine takeD (i := 3) (v := ?_) 18 rfl rfl (by kernel_rfl) (by kernel_rfl) (by kernel_rfl) (fun _ _ _ h => h) (by assumption) (Or.inl ⟨by rfl, ?_⟩) ?_
  rotate_left
  · intro w hSw
    (try dsimp only at hSw)
    go_simp
    try with_reducible rfl
  simp only [List.setIfInBounds_toArray, List.set_cons_zero, List.set_cons_succ]
  refine takeD (i := 4) (v := ?_) 19 rfl rfl (by kernel_rfl) (by kernel_rfl) (by kernel_rfl) (fun _ _ _ h => h) (by assumption) (Or.inl ⟨by rfl, ?_⟩) ?_
  rotate_left
  · intro w hSw
    (try dsimp only at hSw)
    go_simp
    try with_reducible rfl
  simp only [List.setIfInBounds_toArray, List.set_cons_zero, List.set_cons_succ]
  refine takeD (i := 5) (v := ?_) 8 rfl rfl (by kernel_rfl) (by kernel_rfl) (by kernel_rfl) (fun _ _ _ h => h) (by assumption) (Or.inl ⟨by rfl, ?_⟩) ?_
  rotate_left
  · intro w hSw
    (try dsimp only at hSw)
    go_simp
    try with_reducible rfl
  simp only [List.setIfInBounds_toArray, List.set_cons_zero, List.set_cons_succ]
  refine takeD (i := 6) (v := ?_) 2 rfl rfl (by kernel_rfl) (by kernel_rfl) (by kernel_rfl) (fun _ _ _ h => h) (by assumption) (Or.inl ⟨by rfl, ?_⟩) ?_
  rotate_left
  · intro w hSw
    (try dsimp only at hSw)
    go_simp
    try with_reducible rfl
  simp only [List.setIfInBounds_toArray, List.set_cons_zero, List.set_cons_succ]
  refine wpAnyH_done (by kernel_rfl) ?_ _
  clear hHeld
  generalize (if c = 1 then some (⟨gv, o, none⟩ : Addr) else some ⟨gv, o + 1, none⟩) = xq at HRQ ⊢
  have hAd : Below w.heap.size w a0.drew := below_t hA0 hdr
  go_wp2_with fail
  with_reducible refine (HCL.out _ (HH.out.below hAd)).mono ?_
  rintro e w1 ⟨⟨v1, rfl⟩, g1, hg1, hs1, hm1⟩
  have hg1' : w.heap.size + 1 ≤ g1 := by rw [← hszA]; simpa using hg1
  have HS1 := hid hs1
  have HM1 := hid ((Moved.below hdr [b]).trans hm1)
  have HR1 := hid ((HR0.out.moved (Moved.below hdr []) (by simp)).moved hm1 (by simp; omega))
  have HP1 := hid (HRQ.out _ (reads_moved (reads_below HP.out hAd) hm1 HVB.out))
  clear hs1 hm1 hg1
  go_wp2_with fail
  with_reducible refine (HCU.out _ g1 HS1.out).mono ?_
  rintro e w2 ⟨rfl, hb2⟩
  have HB2 := hid hb2
  clear hb2
  go_wp2_with fail
  with_reducible refine (HOR.out _ _ g1 (HS1.out.below HB2.out) (reads_below HP1.out HB2.out)).mono ?_
  rintro e w3 ⟨rfl, hs3, hm3⟩
  have HS3 := hid hs3
  have HM3 := hid hm3
  obtain ⟨r0, r1, r2, r3, r4, r5, rf⟩ := (HR1.out.moved (Moved.below HB2.out []) (by simp)).moved hm3 (by simp; omega)
  have f0 := rf 0
  have f1 := rf 1
  have f2 := rf 2
  have f3 := rf 3
  have f4 := rf 4
  have f5 := rf 5
  have HMV := hid (run_moved' HMW.out HM1.out HB2.out HM3.out hg1')
  clear hs3 hm3 rf
  by_cases he : er = 0
  · subst he
    have HEV0 := HEV.out
    rw [if_pos rfl] at HEV0
    go_wp2
    have q := put6_cells (W := w3) (g := w.heap.size) (x0 := .int .i64 2) (x1 := .bool (bits .and .u8 cb 2 != 0)) (x2 := .bool (bits .and .u8 cb 4 != 0)) (x3 := .bool (bits .and .u8 cb 64 != 0)) (x4 := .int .i64 kk) (x5 := .slice none 0 0) r0 r1 r2 r3 r4 r5
    have HFS := hid (put6_sp HS3.out (R := w.heap.size) (by omega) (by omega) (.int .i64 2) (.bool (bits .and .u8 cb 2 != 0)) (.bool (bits .and .u8 cb 4 != 0)) (.bool (bits .and .u8 cb 64 != 0)) (.int .i64 kk) (.slice none 0 0))
    have HFM := hid (put6_mv HMV.out (Nat.le_refl _) (.int .i64 2) (.bool (bits .and .u8 cb 2 != 0)) (.bool (bits .and .u8 cb 4 != 0)) (.bool (bits .and .u8 cb 64 != 0)) (.int .i64 kk) (.slice none 0 0))
    unfold put6 at q HFS HFM
    refine bodyPost_ret (v := .tuple #[.agg #[.int .i64 2, .bool (bits .and .u8 cb 2 != 0), .bool (bits .and .u8 cb 4 != 0), .bool (bits .and .u8 cb 64 != 0), .int .i64 kk, .slice none 0 0], .int .i64 0]) ?_ rfl ⟨by rw [HEV0, HES.out, hps]; rfl, g1, by omega, by rw [HES.out]; exact HFS.out, HFM.out⟩
    clear HFS HFM r0 r1 r2 r3 r4 r5 f0 f1 f2 f3 f4 f5
    generalize World.setCell _ ⟨w.heap.size, 5, none⟩ _ = W' at q ⊢
    obtain ⟨q0, q1, q2, q3, q4, q5⟩ := q
    simp [results, Tryd.results32, go_sem, q0, q1, q2, q3, q4, q5]
  · have he' : (er == 0) = false := by simpa using he
    have HEV0 := HEV.out
    rw [if_neg he] at HEV0
    go_wp2
    have q := put6_cells (W := w3) (g := w.heap.size) (x0 := .int .i64 2) (x1 := .bool false) (x2 := .bool false) (x3 := .bool false) (x4 := .int .i64 kk) (x5 := .slice none 0 0) r0 r1 r2 r3 r4 r5
    have HFS := hid (put6_sp HS3.out (R := w.heap.size) (by omega) (by omega) (.int .i64 2) (.bool false) (.bool false) (.bool false) (.int .i64 kk) (.slice none 0 0))
    have HFM := hid (put6_mv HMV.out (Nat.le_refl _) (.int .i64 2) (.bool false) (.bool false) (.bool false) (.int .i64 kk) (.slice none 0 0))
    unfold put6 at q HFS HFM
    refine bodyPost_ret (v := .tuple #[.agg #[.int .i64 2, .bool false, .bool false, .bool false, .int .i64 kk, .slice none 0 0], .int .i64 er]) ?_ rfl ⟨by rw [HEV0, HES.out]; rfl, g1, by omega, by rw [HES.out]; exact HFS.out, HFM.out⟩
    clear HFS HFM r0 r1 r2 r3 r4 r5 f0 f1 f2 f3 f4 f5
    generalize World.setCell _ ⟨w.heap.size, 5, none⟩ _ = W' at q ⊢
    obtain ⟨q0, q1, q2, q3, q4, q5⟩ := q
    simp [results, Tryd.results32, go_sem, q0, q1, q2, q3, q4, q5]
set_option maxRecDepth 100000 in
set_option maxHeartbeats 2000000 in
theorem run_3_nil (ps : List Int) (hps : ps = []) (hl : ps.length ≤ 100000) (v : Value) (w : World) (h : SpM w b g s) (hp : Reads w v ps) (hvb : ∀ k ∈ blkV v, k ≠ b) : Calls Tryd.prog 32 #[.pointer (some ⟨b, 0, none⟩), .int .i64 3, v] w (EwD 3 b s.mo true ps w) := by
  have HCL := hid (fun W (hW : SpM W b g s) => clear_any (b := b) (g := g) (s := s) true W hW)
  have HCU := hid (fun W g' (hW : SpM W b g' (clearS s.mo true)) => (show Calls Tryd.prog 54 #[.pointer (some ⟨b, 0, none⟩)] W fun e w' => e = .returned (.int .i64 0) ∧ Below W.heap.size W w' from cursor_any (b := b) (g := g') (s := clearS s.mo true) W hW))
  have HOR := hid (fun q W g' (hW : SpM W b g' (clearS s.mo true)) (hq : Reads W q (ps.drop 1)) => orders_any (b := b) (g := g') (s := clearS s.mo true) q (ps.drop 1) 0 ⟨by decide, by decide⟩ (by rw [List.length_drop]; omega) W hW hq)
  have HH := hid h
  have HP := hid hp
  have hbl := h.lt.1
  have HVB := hid (show ∀ k ∈ blkV v, k ∉ [b] from fun k hk q => hvb k hk (List.mem_singleton.1 q))
  have HEV := hid (show ewV 3 s.mo true ps = (if (ordW (clearS s.mo true) (ps.drop 1) 0).2.2 = 0 then resV 3 (bitB (ps.headD 0) 2) (bitB (ps.headD 0) 4) (bitB (ps.headD 0) 64) (ordW (clearS s.mo true) (ps.drop 1) 0).2.1 else resV 3 false false false (ordW (clearS s.mo true) (ps.drop 1) 0).2.1) from rfl)
  have HES : Hid (ewS s.mo true ps = ordW (clearS s.mo true) (ps.drop 1) 0) := rfl
  generalize ordW (clearS s.mo true) (ps.drop 1) 0 = res at HOR HEV HES
  obtain ⟨y, kk, er⟩ := res
  dsimp only at HOR HEV
  generalize clearS s.mo true = t at HCL HCU HOR
  subst hps
  obtain ⟨x, c, rfl⟩ := reads_sl hp
  simp only [List.length_nil] at HP HVB ⊢
  clear h hp
  have hA : Below w.heap.size w (w.alloc (.cells #[.int .i64 0, .bool false, .bool false, .bool false, .int .i64 0, .slice none 0 0] 31)) := (Below.refl _ _).alloc (Nat.le_refl _) _
  have HR0 := hid (rz_new w)
  go_enter Tryd.func32, Tryd.ntmps32
  go_wp2_with fail
  with_reducible refine (HCL.out _ (HH.out.below hA)).mono ?_
  rintro e w1 ⟨⟨v1, rfl⟩, g1, hg1, hs1, hm1⟩
  have hg1' : w.heap.size + 1 ≤ g1 := by simpa using hg1
  have HS1 := hid hs1
  have HM1 := hid hm1
  have HR1 := hid (HR0.out.moved hm1 (by simp; omega))
  have HP1 := hid (reads_moved (reads_below HP.out hA) hm1 HVB.out)
  clear hs1 hm1 hg1
  go_wp2_with fail
  with_reducible refine (HCU.out _ g1 HS1.out).mono ?_
  rintro e w2 ⟨rfl, hb2⟩
  have HB2 := hid hb2
  clear hb2
  go_wp2_with fail
  with_reducible refine (HOR.out _ _ g1 (HS1.out.below HB2.out) (reads_below HP1.out HB2.out)).mono ?_
  rintro e w3 ⟨rfl, hs3, hm3⟩
  have HS3 := hid hs3
  have HM3 := hid hm3
  obtain ⟨r0, r1, r2, r3, r4, r5, rf⟩ := (HR1.out.moved (Moved.below HB2.out []) (by simp)).moved hm3 (by simp; omega)
  have f0 := rf 0
  have f1 := rf 1
  have f2 := rf 2
  have f3 := rf 3
  have f4 := rf 4
  have f5 := rf 5
  have HMV := hid (run_moved HM1.out HB2.out HM3.out hg1')
  clear hs3 hm3 rf
  by_cases he : er = 0
  · subst he
    have HEV0 := HEV.out
    rw [if_pos rfl] at HEV0
    go_wp2
    have q := put6_cells (W := w3) (g := w.heap.size) (x0 := .int .i64 3) (x1 := .bool (bits .and .u8 0 2 != 0)) (x2 := .bool (bits .and .u8 0 4 != 0)) (x3 := .bool (bits .and .u8 0 64 != 0)) (x4 := .int .i64 kk) (x5 := .slice none 0 0) r0 r1 r2 r3 r4 r5
    have HFS := hid (put6_sp HS3.out (R := w.heap.size) (by omega) (by omega) (.int .i64 3) (.bool (bits .and .u8 0 2 != 0)) (.bool (bits .and .u8 0 4 != 0)) (.bool (bits .and .u8 0 64 != 0)) (.int .i64 kk) (.slice none 0 0))
    have HFM := hid (put6_mv HMV.out (Nat.le_refl _) (.int .i64 3) (.bool (bits .and .u8 0 2 != 0)) (.bool (bits .and .u8 0 4 != 0)) (.bool (bits .and .u8 0 64 != 0)) (.int .i64 kk) (.slice none 0 0))
    unfold put6 at q HFS HFM
    refine bodyPost_ret (v := .tuple #[.agg #[.int .i64 3, .bool (bits .and .u8 0 2 != 0), .bool (bits .and .u8 0 4 != 0), .bool (bits .and .u8 0 64 != 0), .int .i64 kk, .slice none 0 0], .int .i64 0]) ?_ rfl ⟨by rw [HEV0, HES.out]; rfl, g1, by omega, by rw [HES.out]; exact HFS.out, HFM.out⟩
    clear HFS HFM r0 r1 r2 r3 r4 r5 f0 f1 f2 f3 f4 f5
    generalize World.setCell _ ⟨w.heap.size, 5, none⟩ _ = W' at q ⊢
    obtain ⟨q0, q1, q2, q3, q4, q5⟩ := q
    simp [results, Tryd.results32, go_sem, q0, q1, q2, q3, q4, q5]
  · have he' : (er == 0) = false := by simpa using he
    have HEV0 := HEV.out
    rw [if_neg he] at HEV0
    go_wp2
    have q := put6_cells (W := w3) (g := w.heap.size) (x0 := .int .i64 3) (x1 := .bool false) (x2 := .bool false) (x3 := .bool false) (x4 := .int .i64 kk) (x5 := .slice none 0 0) r0 r1 r2 r3 r4 r5
    have HFS := hid (put6_sp HS3.out (R := w.heap.size) (by omega) (by omega) (.int .i64 3) (.bool false) (.bool false) (.bool false) (.int .i64 kk) (.slice none 0 0))
    have HFM := hid (put6_mv HMV.out (Nat.le_refl _) (.int .i64 3) (.bool false) (.bool false) (.bool false) (.int .i64 kk) (.slice none 0 0))
    unfold put6 at q HFS HFM
    refine bodyPost_ret (v := .tuple #[.agg #[.int .i64 3, .bool false, .bool false, .bool false, .int .i64 kk, .slice none 0 0], .int .i64 er]) ?_ rfl ⟨by rw [HEV0, HES.out]; rfl, g1, by omega, by rw [HES.out]; exact HFS.out, HFM.out⟩
    clear HFS HFM r0 r1 r2 r3 r4 r5 f0 f1 f2 f3 f4 f5
    generalize World.setCell _ ⟨w.heap.size, 5, none⟩ _ = W' at q ⊢
    obtain ⟨q0, q1, q2, q3, q4, q5⟩ := q
    simp [results, Tryd.results32, go_sem, q0, q1, q2, q3, q4, q5]
set_option maxRecDepth 100000 in
set_option maxHeartbeats 2000000 in
theorem run_3_cons (c0 : Int) (r : List Int) (ps : List Int) (hps : ps = c0 :: r) (hl : ps.length ≤ 100000) (v : Value) (w : World) (h : SpM w b g s) (hp : Reads w v ps) (hvb : ∀ k ∈ blkV v, k ≠ b) : Calls Tryd.prog 32 #[.pointer (some ⟨b, 0, none⟩), .int .i64 3, v] w (EwD 3 b s.mo true ps w) := by
  have HCL := hid (fun W (hW : SpM W b g s) => clear_any (b := b) (g := g) (s := s) true W hW)
  have HCU := hid (fun W g' (hW : SpM W b g' (clearS s.mo true)) => (show Calls Tryd.prog 54 #[.pointer (some ⟨b, 0, none⟩)] W fun e w' => e = .returned (.int .i64 0) ∧ Below W.heap.size W w' from cursor_any (b := b) (g := g') (s := clearS s.mo true) W hW))
  have HOR := hid (fun q W g' (hW : SpM W b g' (clearS s.mo true)) (hq : Reads W q (ps.drop 1)) => orders_any (b := b) (g := g') (s := clearS s.mo true) q (ps.drop 1) 0 ⟨by decide, by decide⟩ (by rw [List.length_drop]; omega) W hW hq)
  have HH := hid h
  have HP := hid hp
  have hbl := h.lt.1
  have HVB := hid (show ∀ k ∈ blkV v, k ∉ [b] from fun k hk q => hvb k hk (List.mem_singleton.1 q))
  have HEV := hid (show ewV 3 s.mo true ps = (if (ordW (clearS s.mo true) (ps.drop 1) 0).2.2 = 0 then resV 3 (bitB (ps.headD 0) 2) (bitB (ps.headD 0) 4) (bitB (ps.headD 0) 64) (ordW (clearS s.mo true) (ps.drop 1) 0).2.1 else resV 3 false false false (ordW (clearS s.mo true) (ps.drop 1) 0).2.1) from rfl)
  have HES : Hid (ewS s.mo true ps = ordW (clearS s.mo true) (ps.drop 1) 0) := rfl
  generalize ordW (clearS s.mo true) (ps.drop 1) 0 = res at HOR HEV HES
  obtain ⟨y, kk, er⟩ := res
  dsimp only at HOR HEV
  generalize clearS s.mo true = t at HCL HCU HOR
  obtain ⟨q, hsl0, -⟩ := run_from_all hp 1 (by rw [hps]; simp)
  have HRQ := hid (fun W (hW : Reads W v ps) => reads_from_kept (w := w) hW (by rw [hps]; simp) hsl0)
  rcases reads_cons hp with ⟨x, c, rfl, e⟩ | ⟨gv, o, c, r', cb, hcb, rfl, e, hc0⟩
  · rw [hps] at e
    cases e
  rw [hps] at e
  injection e with e1 e2
  subst e1 e2
  have HC0 := hid hc0
  have hr1 : (1 : Int) ≤ (r.length : Int) + 1 := by omega
  have hq2 := hsl0 w
  simp [Instr.sliceAt, Instr.slice, run_underlying Tryd.underlying23, Instr.sliceBounds, Instr.sliceBound, asIntOf] at hq2
  rw [if_pos hr1, addr_add] at hq2
  injection hq2 with hq3 _
  subst hq3
  clear h hp
  have hA : Below w.heap.size w (w.alloc (.cells #[.int .i64 0, .bool false, .bool false, .bool false, .int .i64 0, .slice none 0 0] 31)) := (Below.refl _ _).alloc (Nat.le_refl _) _
  have HR0 := hid (rz_new w)
  go_enter Tryd.func32, Tryd.ntmps32
  have hA0 := hA
  go_wp2
  obtain ⟨a0, ha0⟩ : ∃ a0, w.alloc (.cells #[.int .i64 0, .bool false, .bool false, .bool false, .int .i64 0, .slice none 0 0] 31) = a0 := ⟨_, rfl⟩
  rw [ha0] at hA hA0
  rw [ha0] at HR0
  simp only [ha0]
  have HMW := hid (show Moved w a0 [b] [b] from by rw [← ha0]; exact Moved.alloc _ _ _)
  have hszA : a0.heap.size = w.heap.size + 1 := by rw [← ha0]; simp
  clear ha0
  have hc1 := keepc hA0 HC0.out.1
  have hdr : Below a0.heap.size a0 a0.drew := (Below.refl _ _).drew
  have hcl := HC0.out.2.1
  have hcm := HC0.out.2.2
  refine wp_region_held_drew (S := fun V => V.cell? ⟨gv, o, none⟩ = some (.int .u8 cb)) (by kernel_rfl) ?_ (fun hHeld => ?_)
  · exact keepc hdr hc1
  refine takeD (i := 0) (v := ?_) 15 rfl rfl (by kernel_rfl) (by kernel_rfl) (by kernel_rfl) (fun _ _ _ h => h) (by assumption) (Or.inl ⟨by rfl, ?_⟩) ?_
  rotate_left
  · intro w hSw
    (try dsimp only at hSw)
    go_simp
    try with_reducible rfl
  simp only [List.setIfInBounds_toArray, List.set_cons_zero, List.set_cons_succ]
  refine takeD (i := 1) (v := ?_) 16 rfl rfl (by kernel_rfl) (by kernel_rfl) (by kernel_rfl) (fun _ _ _ h => h) (by assumption) (Or.inl ⟨by rfl, ?_⟩) ?_
  rotate_left
  · intro w hSw
    (try dsimp only at hSw)
    go_simp
    try with_reducible rfl
  simp only [List.setIfInBounds_toArray, List.set_cons_zero, List.set_cons_succ]
  refine takeD (i := 2) (v := ?_) 17 rfl rfl (by kernel_rfl) (by kernel_rfl) (by kernel_rfl) (fun _ _ _ h => h) (by assumption) (Or.inl ⟨by rfl, ?_⟩) ?_
  rotate_left
  · intro w hSw
    (try dsimp only at hSw)
    go_simp
    try with_reducible rfl
  simp only [List.setIfInBounds_toArray, List.set_cons_zero, List.set_cons_succ]
  refine takeD (i := 3) (v := ?_) 18 rfl rfl (by kernel_rfl) (by kernel_rfl) (by kernel_rfl) (fun _ _ _ h => h) (by assumption) (Or.inl ⟨by rfl, ?_⟩) ?_
  rotate_left
  · intro w hSw
    (try dsimp only at hSw)
    go_simp
    try with_reducible rfl
  simp only [List.setIfInBounds_toArray, List.set_cons_zero, List.set_cons_succ]
  refine takeD (i := 4) (v := ?_) 19 rfl rfl (by kernel_rfl) (by kernel_rfl) (by kernel_rfl) (fun _ _ _ h => h) (by assumption) (Or.inl ⟨by rfl, ?_⟩) ?_
  rotate_left
  · intro w hSw
    (try dsimp only at hSw)
    go_simp
    try with_reducible rfl
  simp only [List.setIfInBounds_toArray, List.set_cons_zero, List.set_cons_succ]
  refine takeD (i := 5) (v := ?_) 8 rfl rfl (by kernel_rfl) (by kernel_rfl) (by kernel_rfl) (fun _ _ _ h => h) (by assumption) (Or.inl ⟨by rfl, ?_⟩) ?_
  rotate_left
  · intro w hSw
    (try dsimp only at hSw)
    go_simp
    try with_reducible rfl
  simp only [List.setIfInBounds_toArray, List.set_cons_zero, List.set_cons_succ]
  refine takeD (i := 6) (v := ?_) 2 rfl rfl (by kernel_rfl) (by kernel_rfl) (by kernel_rfl) (fun _ _ _ h => h) (by assumption) (Or.inl ⟨by rfl, ?_⟩) ?_
  rotate_left
  · intro w hSw
    (try dsimp only at hSw)
    go_simp
    try with_reducible rfl
  simp only [List.setIfInBounds_toArray, List.set_cons_zero, List.set_cons_succ]
  refine wpAnyH_done (by kernel_rfl) ?_ _
  clear hHeld
  generalize (if c = 1 then some (⟨gv, o, none⟩ : Addr) else some ⟨gv, o + 1, none⟩) = xq at HRQ ⊢
  have hAd : Below w.heap.size w a0.drew := below_t hA0 hdr
  go_wp2_with fail
  with_reducible refine (HCL.out _ (HH.out.below hAd)).mono ?_
  rintro e w1 ⟨⟨v1, rfl⟩, g1, hg1, hs1, hm1⟩
  have hg1' : w.heap.size + 1 ≤ g1 := by rw [← hszA]; simpa using hg1
  have HS1 := hid hs1
  have HM1 := hid ((Moved.below hdr [b]).trans hm1)
  have HR1 := hid ((HR0.out.moved (Moved.below hdr []) (by simp)).moved hm1 (by simp; omega))
  have HP1 := hid (HRQ.out _ (reads_moved (reads_below HP.out hAd) hm1 HVB.out))
  clear hs1 hm1 hg1
  go_wp2_with fail
  with_reducible refine (HCU.out _ g1 HS1.out).mono ?_
  rintro e w2 ⟨rfl, hb2⟩
  have HB2 := hid hb2
  clear hb2
  go_wp2_with fail
  with_reducible refine (HOR.out _ _ g1 (HS1.out.below HB2.out) (reads_below HP1.out HB2.out)).mono ?_
  rintro e w3 ⟨rfl, hs3, hm3⟩
  have HS3 := hid hs3
  have HM3 := hid hm3
  obtain ⟨r0, r1, r2, r3, r4, r5, rf⟩ := (HR1.out.moved (Moved.below HB2.out []) (by simp)).moved hm3 (by simp; omega)
  have f0 := rf 0
  have f1 := rf 1
  have f2 := rf 2
  have f3 := rf 3
  have f4 := rf 4
  have f5 := rf 5
  have HMV := hid (run_moved' HMW.out HM1.out HB2.out HM3.out hg1')
  clear hs3 hm3 rf
  by_cases he : er = 0
  · subst he
    have HEV0 := HEV.out
    rw [if_pos rfl] at HEV0
    go_wp2
    have q := put6_cells (W := w3) (g := w.heap.size) (x0 := .int .i64 3) (x1 := .bool (bits .and .u8 cb 2 != 0)) (x2 := .bool (bits .and .u8 cb 4 != 0)) (x3 := .bool (bits .and .u8 cb 64 != 0)) (x4 := .int .i64 kk) (x5 := .slice none 0 0) r0 r1 r2 r3 r4 r5
    have HFS := hid (put6_sp HS3.out (R := w.heap.size) (by omega) (by omega) (.int .i64 3) (.bool (bits .and .u8 cb 2 != 0)) (.bool (bits .and .u8 cb 4 != 0)) (.bool (bits .and .u8 cb 64 != 0)) (.int .i64 kk) (.slice none 0 0))
    have HFM := hid (put6_mv HMV.out (Nat.le_refl _) (.int .i64 3) (.bool (bits .and .u8 cb 2 != 0)) (.bool (bits .and .u8 cb 4 != 0)) (.bool (bits .and .u8 cb 64 != 0)) (.int .i64 kk) (.slice none 0 0))
    unfold put6 at q HFS HFM
    refine bodyPost_ret (v := .tuple #[.agg #[.int .i64 3, .bool (bits .and .u8 cb 2 != 0), .bool (bits .and .u8 cb 4 != 0), .bool (bits .and .u8 cb 64 != 0), .int .i64 kk, .slice none 0 0], .int .i64 0]) ?_ rfl ⟨by rw [HEV0, HES.out, hps]; rfl, g1, by omega, by rw [HES.out]; exact HFS.out, HFM.out⟩
    clear HFS HFM r0 r1 r2 r3 r4 r5 f0 f1 f2 f3 f4 f5
    generalize World.setCell _ ⟨w.heap.size, 5, none⟩ _ = W' at q ⊢
    obtain ⟨q0, q1, q2, q3, q4, q5⟩ := q
    simp [results, Tryd.results32, go_sem, q0, q1, q2, q3, q4, q5]
  · have he' : (er == 0) = false := by simpa using he
    have HEV0 := HEV.out
    rw [if_neg he] at HEV0
    go_wp2
    have q := put6_cells (W := w3) (g := w.heap.size) (x0 := .int .i64 3) (x1 := .bool false) (x2 := .bool false) (x3 := .bool false) (x4 := .int .i64 kk) (x5 := .slice none 0 0) r0 r1 r2 r3 r4 r5
    have HFS := hid (put6_sp HS3.out (R := w.heap.size) (by omega) (by omega) (.int .i64 3) (.bool false) (.bool false) (.bool false) (.int .i64 kk) (.slice none 0 0))
    have HFM := hid (put6_mv HMV.out (Nat.le_refl _) (.int .i64 3) (.bool false) (.bool false) (.bool false) (.int .i64 kk) (.slice none 0 0))
    unfold put6 at q HFS HFM
    refine bodyPost_ret (v := .tuple #[.agg #[.int .i64 3, .bool false, .bool false, .bool false, .int .i64 kk, .slice none 0 0], .int .i64 er]) ?_ rfl ⟨by rw [HEV0, HES.out]; rfl, g1, by omega, by rw [HES.out]; exact HFS.out, HFM.out⟩
    clear HFS HFM r0 r1 r2 r3 r4 r5 f0 f1 f2 f3 f4 f5
    generalize World.setCell _ ⟨w.heap.size, 5, none⟩ _ = W' at q ⊢
    obtain ⟨q0, q1, q2, q3, q4, q5⟩ := q
    simp [results, Tryd.results32, go_sem, q0, q1, q2, q3, q4, q5]
end
end Go.Proofs.YtdampfngdnicoaaDoor
