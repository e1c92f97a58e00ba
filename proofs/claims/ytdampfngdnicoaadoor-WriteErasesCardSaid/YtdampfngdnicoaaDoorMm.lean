/-
  A record run: Erase/Write, and Erase All Unprotected.
-/
import Derived.Test.YtdampfngdnicoaaDoorMl
namespace Go.Proofs.YtdampfngdnicoaaDoor
open Go.RowKit Go.Lib Go.Deep

theorem ewV_is (cmd mo : Int) (alt : Bool) (ps : List Int) : ∃ r a t, ewV cmd mo alt ps = resV cmd r a t (ewS mo alt ps).2.1 := by
  unfold ewV
  split
  · exact ⟨_, _, _, rfl⟩
  · exact ⟨_, _, _, rfl⟩
section
variable {b g : Nat} {s : Spc}
theorem runc_2 (ps : List Int) (hl : ps.length ≤ 100000) (v : Value) (w : World) (h : SpM w b g s) (hp : Reads w v ps) (hvb : ∀ k ∈ blkV v, k ≠ b) : Calls Tryd.prog 32 #[.pointer (some ⟨b, 0, none⟩), .int .i64 2, v] w (EwD 2 b s.mo false ps w) := by
  cases ps with
  | nil => exact run_2_nil [] rfl hl v w h hp hvb
  | cons c r => exact run_2_cons c r (c :: r) rfl hl v w h hp hvb
theorem runc_3 (ps : List Int) (hl : ps.length ≤ 100000) (v : Value) (w : World) (h : SpM w b g s) (hp : Reads w v ps) (hvb : ∀ k ∈ blkV v, k ≠ b) : Calls Tryd.prog 32 #[.pointer (some ⟨b, 0, none⟩), .int .i64 3, v] w (EwD 3 b s.mo true ps w) := by
  cases ps with
  | nil => exact run_3_nil [] rfl hl v w h hp hvb
  | cons c r => exact run_3_cons c r (c :: r) rfl hl v w h hp hvb
set_option maxRecDepth 100000 in
set_option maxHeartbeats 2000000 in
theorem recE_2 (cb : Nat) (hcb : cb < 256) (hcmd : cmdF cb = (2, true)) (r : List Int) (hl : r.length ≤ 100000) (v : Value) (w : World) (h : SpM w b g s) (hp : Reads w v ((cb : Int) :: r)) (hvb : ∀ k ∈ blkV v, k ≠ b) (hC : Cods w) : Calls Tryd.prog 9 #[.pointer (some ⟨b, 0, none⟩), v] w (EwD 2 b s.mo false r w) := by
  obtain ⟨q, hsl0, hqr⟩ := run_from_all hp 1 (by simp)
  rcases reads_cons hp with ⟨x, c, rfl, e⟩ | ⟨gv, o, c, r', cb', hcb', rfl, e, hc0⟩
  · cases e
  injection e with e1 e2
  have e1' : cb = cb' := by omega
  subst e1' e2
  have HC0 := hid hc0
  have hr1 : (1 : Int) ≤ (r.length : Int) + 1 := by omega
  have hr0 : ((r.length : Int) + 1 == 0) = false := by simp; omega
  have hq2 := hsl0 w
  simp [Instr.sliceAt, Instr.slice, run_underlying Tryd.underlying23, Instr.sliceBounds, Instr.sliceBound, asIntOf] at hq2
  rw [if_pos hr1, addr_add] at hq2
  injection hq2 with hq3 _
  subst hq3
  rw [List.drop_succ_cons, List.drop_zero] at hqr
  have HQR := hid hqr
  have HVB := hid (show ∀ k ∈ blkV (.slice (if c = 1 then some (⟨gv, o, none⟩ : Addr) else some ⟨gv, o + 1, none⟩) r.length (c - 1)), k ≠ b from fun k hk => hvb k (by
    split at hk <;> simpa [blkV, Value.ownBlock] using hk))
  have HRN := hid (fun W (hW : SpM W b g s) q (hq : Reads W q r) (hqb : ∀ k ∈ blkV q, k ≠ b) => runc_2 r hl q W hW hq hqb)
  obtain ⟨xr, xa, xt, hev⟩ := ewV_is 2 s.mo false r
  have HEV := hid hev
  have HH := hid h
  have hbl := h.lt.1
  have hA : Below w.heap.size w (w.alloc (.cells #[.int .i64 0, .bool false, .bool false, .bool false, .int .i64 0, .slice none 0 0] 31)) := (Below.refl _ _).alloc (Nat.le_refl _) _
  have HR0 := hid (rz_new w)
  have hc1 := keepc hA HC0.out.1
  have hcl := HC0.out.2.1
  have hcm := HC0.out.2.2
  have h0w : 0 < w.heap.size := hC.2
  have HCM := hid (command_any cb hcb (w.alloc (.cells #[.int .i64 0, .bool false, .bool false, .bool false, .int .i64 0, .slice none 0 0] 31)) (hC.below h0w hA))
  rw [hcmd] at HCM
  clear h hp hqr hsl0 hev hC hvb
  by_cases hcc : c = 1
  · subst hcc
    have hrn : r = [] := List.length_eq_zero_iff.1 (by have := HC0.out.2.1; omega)
    subst hrn
    simp only [if_true, Nat.sub_self, List.length_nil] at HQR HVB
    go_enter Tryd.func9, Tryd.ntmps9
    go_wp2_with fail
    with_reducible refine HCM.out.mono ?_
    rintro e w1 ⟨rfl, hb1⟩
    have HB1 := hid (below_t hA hb1)
    have HR1 := hid (HR0.out.moved (Moved.below hb1 []) (by simp))
    clear hb1
    go_wp2_with fail
    with_reducible refine (HRN.out _ (HH.out.below HB1.out) _ (reads_below HQR.out HB1.out) HVB.out).mono ?_
    rintro e w3 ⟨rfl, g1, hg1, hs3, hm3⟩
    have HS3 := hid hs3
    have HM3 := hid hm3
    have hz1 := HB1.out.size
    have hRb : w.heap.size ∉ [b] := by simp; omega
    have hRs := World.block_lt_of_cell? w1 _ HR1.out.1
    obtain ⟨r0, r1, r2, r3, r4, r5, rf⟩ := HR1.out.moved hm3 hRb
    have f0 := rf 0
    have f1 := rf 1
    have f2 := rf 2
    have f3 := rf 3
    have f4 := rf 4
    have f5 := rf 5
    obtain ⟨er, her⟩ : ∃ er, (ewS s.mo false []).2.2 = er := ⟨_, rfl⟩
    have HER := hid her
    obtain ⟨kk, hkk⟩ : ∃ kk, (ewS s.mo false []).2.1 = kk := ⟨_, rfl⟩
    rw [hkk] at HEV
    rw [HEV.out, her]
    unfold resV
    clear hs3 hm3 rf her hkk
    go_wp2
    have q := put6_cells (W := w3) (g := w.heap.size) (x0 := .int .i64 2) (x1 := .bool xr) (x2 := .bool xa) (x3 := .bool xt) (x4 := .int .i64 kk) (x5 := .slice none 0 0) r0 r1 r2 r3 r4 r5
    have HFS := hid (put6_sp HS3.out (R := w.heap.size) (by omega) (by have : w.heap.size < w1.heap.size := hRs; omega) (.int .i64 2) (.bool xr) (.bool xa) (.bool xt) (.int .i64 kk) (.slice none 0 0))
    have HFM := hid (put6_mv ((Moved.below HB1.out [b]).trans HM3.out) (Nat.le_refl _) (.int .i64 2) (.bool xr) (.bool xa) (.bool xt) (.int .i64 kk) (.slice none 0 0))
    unfold put6 at q HFS HFM
    refine bodyPost_ret (v := .tuple #[.agg #[.int .i64 2, .bool xr, .bool xa, .bool xt, .int .i64 kk, .slice none 0 0], .int .i64 er]) ?_ rfl ⟨by rw [HEV.out, HER.out]; rfl, g1, by omega, HFS.out, HFM.out⟩
    clear HFS HFM r0 r1 r2 r3 r4 r5 f0 f1 f2 f3 f4 f5
    generalize World.setCell _ ⟨w.heap.size, 5, none⟩ _ = W' at q ⊢
    obtain ⟨q0, q1, q2, q3, q4, q5⟩ := q
    simp [results, Tryd.results9, go_sem, q0, q1, q2, q3, q4, q5]
  · rw [if_neg hcc] at HQR HVB
    go_enter Tryd.func9, Tryd.ntmps9
    go_wp2_with fail
    with_reducible refine HCM.out.mono ?_
    rintro e w1 ⟨rfl, hb1⟩
    have HB1 := hid (below_t hA hb1)
    have HR1 := hid (HR0.out.moved (Moved.below hb1 []) (by simp))
    clear hb1
    go_wp2_with fail
    with_reducible refine (HRN.out _ (HH.out.below HB1.out) _ (reads_below HQR.out HB1.out) HVB.out).mono ?_
    rintro e w3 ⟨rfl, g1, hg1, hs3, hm3⟩
    have HS3 := hid hs3
    have HM3 := hid hm3
    have hz1 := HB1.out.size
    have hRb : w.heap.size ∉ [b] := by simp; omega
    have hRs := World.block_lt_of_cell? w1 _ HR1.out.1
    obtain ⟨r0, r1, r2, r3, r4, r5, rf⟩ := HR1.out.moved hm3 hRb
    have f0 := rf 0
    have f1 := rf 1
    have f2 := rf 2
    have f3 := rf 3
    have f4 := rf 4
    have f5 := rf 5
    obtain ⟨er, her⟩ : ∃ er, (ewS s.mo false r).2.2 = er := ⟨_, rfl⟩
    have HER := hid her
    obtain ⟨kk, hkk⟩ : ∃ kk, (ewS s.mo false r).2.1 = kk := ⟨_, rfl⟩
    rw [hkk] at HEV
    rw [HEV.out, her]
    unfold resV
    clear hs3 hm3 rf her hkk
    go_wp2
    have q := put6_cells (W := w3) (g := w.heap.size) (x0 := .int .i64 2) (x1 := .bool xr) (x2 := .bool xa) (x3 := .bool xt) (x4 := .int .i64 kk) (x5 := .slice none 0 0) r0 r1 r2 r3 r4 r5
    have HFS := hid (put6_sp HS3.out (R := w.heap.size) (by omega) (by have : w.heap.size < w1.heap.size := hRs; omega) (.int .i64 2) (.bool xr) (.bool xa) (.bool xt) (.int .i64 kk) (.slice none 0 0))
    have HFM := hid (put6_mv ((Moved.below HB1.out [b]).trans HM3.out) (Nat.le_refl _) (.int .i64 2) (.bool xr) (.bool xa) (.bool xt) (.int .i64 kk) (.slice none 0 0))
    unfold put6 at q HFS HFM
    refine bodyPost_ret (v := .tuple #[.agg #[.int .i64 2, .bool xr, .bool xa, .bool xt, .int .i64 kk, .slice none 0 0], .int .i64 er]) ?_ rfl ⟨by rw [HEV.out, HER.out]; rfl, g1, by omega, HFS.out, HFM.out⟩
    clear HFS HFM r0 r1 r2 r3 r4 r5 f0 f1 f2 f3 f4 f5
    generalize World.setCell _ ⟨w.heap.size, 5, none⟩ _ = W' at q ⊢
    obtain ⟨q0, q1, q2, q3, q4, q5⟩ := q
    simp [results, Tryd.results9, go_sem, q0, q1, q2, q3, q4, q5]
set_option maxRecDepth 100000 in
set_option maxHeartbeats 2000000 in
theorem recE_3 (cb : Nat) (hcb : cb < 256) (hcmd : cmdF cb = (3, true)) (r : List Int) (hl : r.length ≤ 100000) (v : Value) (w : World) (h : SpM w b g s) (hp : Reads w v ((cb : Int) :: r)) (hvb : ∀ k ∈ blkV v, k ≠ b) (hC : Cods w) : Calls Tryd.prog 9 #[.pointer (some ⟨b, 0, none⟩), v] w (EwD 3 b s.mo true r w) := by
  obtain ⟨q, hsl0, hqr⟩ := run_from_all hp 1 (by simp)
  rcases reads_cons hp with ⟨x, c, rfl, e⟩ | ⟨gv, o, c, r', cb', hcb', rfl, e, hc0⟩
  · cases e
  injection e with e1 e2
  have e1' : cb = cb' := by omega
  subst e1' e2
  have HC0 := hid hc0
  have hr1 : (1 : Int) ≤ (r.length : Int) + 1 := by omega
  have hr0 : ((r.length : Int) + 1 == 0) = false := by simp; omega
  have hq2 := hsl0 w
  simp [Instr.sliceAt, Instr.slice, run_underlying Tryd.underlying23, Instr.sliceBounds, Instr.sliceBound, asIntOf] at hq2
  rw [if_pos hr1, addr_add] at hq2
  injection hq2 with hq3 _
  subst hq3
  rw [List.drop_succ_cons, List.drop_zero] at hqr
  have HQR := hid hqr
  have HVB := hid (show ∀ k ∈ blkV (.slice (if c = 1 then some (⟨gv, o, none⟩ : Addr) else some ⟨gv, o + 1, none⟩) r.length (c - 1)), k ≠ b from fun k hk => hvb k (by
    split at hk <;> simpa [blkV, Value.ownBlock] using hk))
  have HRN := hid (fun W (hW : SpM W b g s) q (hq : Reads W q r) (hqb : ∀ k ∈ blkV q, k ≠ b) => runc_3 r hl q W hW hq hqb)
  obtain ⟨xr, xa, xt, hev⟩ := ewV_is 3 s.mo true r
  have HEV := hid hev
  have HH := hid h
  have hbl := h.lt.1
  have hA : Below w.heap.size w (w.alloc (.cells #[.int .i64 0, .bool false, .bool false, .bool false, .int .i64 0, .slice none 0 0] 31)) := (Below.refl _ _).alloc (Nat.le_refl _) _
  have HR0 := hid (rz_new w)
  have hc1 := keepc hA HC0.out.1
  have hcl := HC0.out.2.1
  have hcm := HC0.out.2.2
  have h0w : 0 < w.heap.size := hC.2
  have HCM := hid (command_any cb hcb (w.alloc (.cells #[.int .i64 0, .bool false, .bool false, .bool false, .int .i64 0, .slice none 0 0] 31)) (hC.below h0w hA))
  rw [hcmd] at HCM
  clear h hp hqr hsl0 hev hC hvb
  by_cases hcc : c = 1
  · subst hcc
    have hrn : r = [] := List.length_eq_zero_iff.1 (by have := HC0.out.2.1; omega)
    subst hrn
    simp only [if_true, Nat.sub_self, List.length_nil] at HQR HVB
    go_enter Tryd.func9, Tryd.ntmps9
    go_wp2_with fail
    with_reducible refine HCM.out.mono ?_
    rintro e w1 ⟨rfl, hb1⟩
    have HB1 := hid (below_t hA hb1)
    have HR1 := hid (HR0.out.moved (Moved.below hb1 []) (by simp))
    clear hb1
    go_wp2_with fail
    with_reducible refine (HRN.out _ (HH.out.below HB1.out) _ (reads_below HQR.out HB1.out) HVB.out).mono ?_
    rintro e w3 ⟨rfl, g1, hg1, hs3, hm3⟩
    have HS3 := hid hs3
    have HM3 := hid hm3
    have hz1 := HB1.out.size
    have hRb : w.heap.size ∉ [b] := by simp; omega
    have hRs := World.block_lt_of_cell? w1 _ HR1.out.1
    obtain ⟨r0, r1, r2, r3, r4, r5, rf⟩ := HR1.out.moved hm3 hRb
    have f0 := rf 0
    have f1 := rf 1
    have f2 := rf 2
    have f3 := rf 3
    have f4 := rf 4
    have f5 := rf 5
    obtain ⟨er, her⟩ : ∃ er, (ewS s.mo true []).2.2 = er := ⟨_, rfl⟩
    have HER := hid her
    obtain ⟨kk, hkk⟩ : ∃ kk, (ewS s.mo true []).2.1 = kk := ⟨_, rfl⟩
    rw [hkk] at HEV
    rw [HEV.out, her]
    unfold resV
    clear hs3 hm3 rf her hkk
    go_wp2
    have q := put6_cells (W := w3) (g := w.heap.size) (x0 := .int .i64 3) (x1 := .bool xr) (x2 := .bool xa) (x3 := .bool xt) (x4 := .int .i64 kk) (x5 := .slice none 0 0) r0 r1 r2 r3 r4 r5
    have HFS := hid (put6_sp HS3.out (R := w.heap.size) (by omega) (by have : w.heap.size < w1.heap.size := hRs; omega) (.int .i64 3) (.bool xr) (.bool xa) (.bool xt) (.int .i64 kk) (.slice none 0 0))
    have HFM := hid (put6_mv ((Moved.below HB1.out [b]).trans HM3.out) (Nat.le_refl _) (.int .i64 3) (.bool xr) (.bool xa) (.bool xt) (.int .i64 kk) (.slice none 0 0))
    unfold put6 at q HFS HFM
    refine bodyPost_ret (v := .tuple #[.agg #[.int .i64 3, .bool xr, .bool xa, .bool xt, .int .i64 kk, .slice none 0 0], .int .i64 er]) ?_ rfl ⟨by rw [HEV.out, HER.out]; rfl, g1, by omega, HFS.out, HFM.out⟩
    clear HFS HFM r0 r1 r2 r3 r4 r5 f0 f1 f2 f3 f4 f5
    generalize World.setCell _ ⟨w.heap.size, 5, none⟩ _ = W' at q ⊢
    obtain ⟨q0, q1, q2, q3, q4, q5⟩ := q
    simp [results, Tryd.results9, go_sem, q0, q1, q2, q3, q4, q5]
  · rw [if_neg hcc] at HQR HVB
    go_enter Tryd.func9, Tryd.ntmps9
    go_wp2_with fail
    with_reducible refine HCM.out.mono ?_
    rintro e w1 ⟨rfl, hb1⟩
    have HB1 := hid (below_t hA hb1)
    have HR1 := hid (HR0.out.moved (Moved.below hb1 []) (by simp))
    clear hb1
    go_wp2_with fail
    with_reducible refine (HRN.out _ (HH.out.below HB1.out) _ (reads_below HQR.out HB1.out) HVB.out).mono ?_
    rintro e w3 ⟨rfl, g1, hg1, hs3, hm3⟩
    have HS3 := hid hs3
    have HM3 := hid hm3
    have hz1 := HB1.out.size
    have hRb : w.heap.size ∉ [b] := by simp; omega
    have hRs := World.block_lt_of_cell? w1 _ HR1.out.1
    obtain ⟨r0, r1, r2, r3, r4, r5, rf⟩ := HR1.out.moved hm3 hRb
    have f0 := rf 0
    have f1 := rf 1
    have f2 := rf 2
    have f3 := rf 3
    have f4 := rf 4
    have f5 := rf 5
    obtain ⟨er, her⟩ : ∃ er, (ewS s.mo true r).2.2 = er := ⟨_, rfl⟩
    have HER := hid her
    obtain ⟨kk, hkk⟩ : ∃ kk, (ewS s.mo true r).2.1 = kk := ⟨_, rfl⟩
    rw [hkk] at HEV
    rw [HEV.out, her]
    unfold resV
    clear hs3 hm3 rf her hkk
    go_wp2
    have q := put6_cells (W := w3) (g := w.heap.size) (x0 := .int .i64 3) (x1 := .bool xr) (x2 := .bool xa) (x3 := .bool xt) (x4 := .int .i64 kk) (x5 := .slice none 0 0) r0 r1 r2 r3 r4 r5
    have HFS := hid (put6_sp HS3.out (R := w.heap.size) (by omega) (by have : w.heap.size < w1.heap.size := hRs; omega) (.int .i64 3) (.bool xr) (.bool xa) (.bool xt) (.int .i64 kk) (.slice none 0 0))
    have HFM := hid (put6_mv ((Moved.below HB1.out [b]).trans HM3.out) (Nat.le_refl _) (.int .i64 3) (.bool xr) (.bool xa) (.bool xt) (.int .i64 kk) (.slice none 0 0))
    unfold put6 at q HFS HFM
    refine bodyPost_ret (v := .tuple #[.agg #[.int .i64 3, .bool xr, .bool xa, .bool xt, .int .i64 kk, .slice none 0 0], .int .i64 er]) ?_ rfl ⟨by rw [HEV.out, HER.out]; rfl, g1, by omega, HFS.out, HFM.out⟩
    clear HFS HFM r0 r1 r2 r3 r4 r5 f0 f1 f2 f3 f4 f5
    generalize World.setCell _ ⟨w.heap.size, 5, none⟩ _ = W' at q ⊢
    obtain ⟨q0, q1, q2, q3, q4, q5⟩ := q
    simp [results, Tryd.results9, go_sem, q0, q1, q2, q3, q4, q5]
set_option maxRecDepth 100000 in
set_option maxHeartbeats 2000000 in
theorem recU (cb : Nat) (hcb : cb < 256) (hcmd : cmdF cb = (4, true)) (r : List Int) (v : Value) (w : World) (h : SpM w b g s) (hp : Reads w v ((cb : Int) :: r)) (hC : Cods w) : Calls Tryd.prog 9 #[.pointer (some ⟨b, 0, none⟩), v] w fun e w' => e = .returned (.tuple #[resV 4 true false false 0, .int .i64 0]) ∧ SpM w' b g (unpS s) ∧ Moved w w' [b, g] [b, g] := by
  obtain ⟨q, hsl0, hqr⟩ := run_from_all hp 1 (by simp)
  rcases reads_cons hp with ⟨x, c, rfl, e⟩ | ⟨gv, o, c, r', cb', hcb', rfl, e, hc0⟩
  · cases e
  injection e with e1 e2
  have e1' : cb = cb' := by omega
  subst e1' e2
  have HC0 := hid hc0
  have hr1 : (1 : Int) ≤ (r.length : Int) + 1 := by omega
  have hr0 : ((r.length : Int) + 1 == 0) = false := by simp; omega
  have hq2 := hsl0 w
  simp [Instr.sliceAt, Instr.slice, run_underlying Tryd.underlying23, Instr.sliceBounds, Instr.sliceBound, asIntOf] at hq2
  rw [if_pos hr1, addr_add] at hq2
  injection hq2 with hq3 _
  subst hq3
  rw [List.drop_succ_cons, List.drop_zero] at hqr
  have HQR := hid hqr
  have hgl := h.lt.2
  have HUN := hid (fun W (hW : SpM W b g s) => unprotected_any (b := b) (g := g) (s := s) W hW)
  have HH := hid h
  have hbl := h.lt.1
  have hA : Below w.heap.size w (w.alloc (.cells #[.int .i64 0, .bool false, .bool false, .bool false, .int .i64 0, .slice none 0 0] 31)) := (Below.refl _ _).alloc (Nat.le_refl _) _
  have HR0 := hid (rz_new w)
  have hc1 := keepc hA HC0.out.1
  have hcl := HC0.out.2.1
  have hcm := HC0.out.2.2
  have h0w : 0 < w.heap.size := hC.2
  have HCM := hid (command_any cb hcb (w.alloc (.cells #[.int .i64 0, .bool false, .bool false, .bool false, .int .i64 0, .slice none 0 0] 31)) (hC.below h0w hA))
  rw [hcmd] at HCM
  clear h hp hqr hsl0 hC
  go_enter Tryd.func9, Tryd.ntmps9
  go_wp2_with fail
  with_reducible refine HCM.out.mono ?_
  rintro e w1 ⟨rfl, hb1⟩
  have HB1 := hid (below_t hA hb1)
  have HR1 := hid (HR0.out.moved (Moved.below hb1 []) (by simp))
  clear hb1
  go_wp2_with fail
  with_reducible refine (HUN.out _ (HH.out.below HB1.out)).mono ?_
  rintro e w3 ⟨⟨v3, rfl⟩, hs3, hm3⟩
  have HS3 := hid hs3
  have HM3 := hid hm3
  obtain ⟨r0, r1, r2, r3, r4, r5, rf⟩ := HR1.out.moved hm3 (by simp; omega)
  have f0 := rf 0
  have f1 := rf 1
  have f2 := rf 2
  have f3 := rf 3
  have f4 := rf 4
  have f5 := rf 5
  clear hs3 hm3 rf
  go_wp2
  have q := put6_cells (W := w3) (g := w.heap.size) (x0 := .int .i64 4) (x1 := .bool true) (x2 := .bool false) (x3 := .bool false) (x4 := .int .i64 0) (x5 := .slice none 0 0) r0 r1 r2 r3 r4 r5
  have HFS := hid (put6_sp HS3.out (R := w.heap.size) (by omega) (by omega) (.int .i64 4) (.bool true) (.bool false) (.bool false) (.int .i64 0) (.slice none 0 0))
  have HFM := hid (put6_mv ((Moved.below HB1.out [b, g]).trans HM3.out) (Nat.le_refl _) (.int .i64 4) (.bool true) (.bool false) (.bool false) (.int .i64 0) (.slice none 0 0))
  unfold put6 at q HFS HFM
  refine bodyPost_ret (v := .tuple #[.agg #[.int .i64 4, .bool true, .bool false, .bool false, .int .i64 0, .slice none 0 0], .int .i64 0]) ?_ rfl ⟨rfl, HFS.out, HFM.out⟩
  clear HFS HFM r0 r1 r2 r3 r4 r5 f0 f1 f2 f3 f4 f5
  generalize World.setCell _ ⟨w.heap.size, 5, none⟩ _ = W' at q ⊢
  obtain ⟨q0, q1, q2, q3, q4, q5⟩ := q
  simp [results, Tryd.results9, go_sem, q0, q1, q2, q3, q4, q5]
end
end Go.Proofs.YtdampfngdnicoaaDoor
