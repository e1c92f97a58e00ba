/-
  The reference's models, sizes, cells.
-/
import Derived.Test.YtlhaefgchmakfaaFb
namespace Go.Proofs.Ytlhaefgchmakfaa
open Go.RowKit Go.Lib

set_option maxRecDepth 100000 in
set_option maxHeartbeats 1000000 in
theorem rmodel_yes (m : Int) (h1 : 2 ≤ m) (h2 : m ≤ 5) (w : World) : Calls Try.prog 64 #[.int .i64 m] w fun e w' => e = .returned (.tuple #[sizeV (rowsZ m true) (colsZ m true), .bool true]) ∧ Below w.heap.size w w' := by
  have h : m = 2 ∨ m = 3 ∨ m = 4 ∨ m = 5 := by omega
  clear h1 h2
  rcases h with rfl | rfl | rfl | rfl <;> (
    go_enter Try.func64, Try.ntmps64
    go_wp2
    exact bodyPost_ret (v := .tuple #[sizeV (rowsZ _ true) (colsZ _ true), .bool true]) (by simp [results, Try.results64, go_sem, rowsZ, colsZ]) rfl ⟨rfl, (((Below.refl _ _).al (Nat.le_refl _) _)).al (Nat.le_refl _) _⟩)
set_option maxRecDepth 100000 in
set_option maxHeartbeats 1000000 in
theorem rmodel_no (m : Int) (h : m < 2 ∨ 5 < m) (w : World) : Calls Try.prog 64 #[.int .i64 m] w fun e w' => e = .returned (.tuple #[sizeV 0 0, .bool false]) ∧ Below w.heap.size w w' := by
  by_cases h2 : m < 2
  · clear h
    go_enter Try.func64, Try.ntmps64
    go_wp2
    exact bodyPost_ret (v := .tuple #[sizeV 0 0, .bool false]) (by simp [results, Try.results64, go_sem]) rfl ⟨rfl, (Below.refl _ _).al (Nat.le_refl _) _⟩
  · have h5 : 5 < m := by omega
    clear h
    go_enter Try.func64, Try.ntmps64
    go_wp2
    exact bodyPost_ret (v := .tuple #[sizeV 0 0, .bool false]) (by simp [results, Try.results64, go_sem]) rfl ⟨rfl, (Below.refl _ _).al (Nat.le_refl _) _⟩
/-- The reference's header. -/
structure RHd (w : World) (b : Nat) (mo : Int) (alt : Bool) (r c : Int) (v : Value) (cu : Int) : Prop where
  h0 : w.cell? ⟨b, 0, none⟩ = some (.int .i64 mo)
  h1 : w.cell? ⟨b, 1, none⟩ = some (.bool alt)
  h2 : w.cell? ⟨b, 2, none⟩ = some (.int .i64 r)
  h3 : w.cell? ⟨b, 3, none⟩ = some (.int .i64 c)
  h4 : w.cell? ⟨b, 4, none⟩ = some v
  h5 : w.cell? ⟨b, 5, none⟩ = some (.int .i64 cu)
  fr : ∀ o, w.frozen? ⟨b, o, none⟩ = false
section
variable {w : World} {b : Nat} {mo r c cu : Int} {alt : Bool} {v : Value}
theorem RHd.lt (h : RHd w b mo alt r c v cu) : b < w.heap.size := World.block_lt_of_cell? w _ h.h0
theorem RHd.below {B : World} (h : RHd w b mo alt r c v cu) (hb : Below w.heap.size w B) : RHd B b mo alt r c v cu :=
  ⟨keepc hb h.h0, keepc hb h.h1, keepc hb h.h2, keepc hb h.h3, keepc hb h.h4, keepc hb h.h5, fun o => (hb.frozen (p := ⟨b, o, none⟩) h.lt).trans (h.fr o)⟩
theorem RHd.s1 (h : RHd w b mo alt r c v cu) (al : Bool) : RHd (w.setCell ⟨b, 1, none⟩ (.bool al)) b mo al r c v cu :=
  ⟨(sc_other (by decide)).trans h.h0, sc_same h.h1, (sc_other (by decide)).trans h.h2, (sc_other (by decide)).trans h.h3, (sc_other (by decide)).trans h.h4, (sc_other (by decide)).trans h.h5, fun o => by rw [World.frozen?_setCell]; exact h.fr o⟩
theorem RHd.s2 (h : RHd w b mo alt r c v cu) (x : Int) : RHd (w.setCell ⟨b, 2, none⟩ (.int .i64 x)) b mo alt x c v cu :=
  ⟨(sc_other (by decide)).trans h.h0, (sc_other (by decide)).trans h.h1, sc_same h.h2, (sc_other (by decide)).trans h.h3, (sc_other (by decide)).trans h.h4, (sc_other (by decide)).trans h.h5, fun o => by rw [World.frozen?_setCell]; exact h.fr o⟩
theorem RHd.s3 (h : RHd w b mo alt r c v cu) (x : Int) : RHd (w.setCell ⟨b, 3, none⟩ (.int .i64 x)) b mo alt r x v cu :=
  ⟨(sc_other (by decide)).trans h.h0, (sc_other (by decide)).trans h.h1, (sc_other (by decide)).trans h.h2, sc_same h.h3, (sc_other (by decide)).trans h.h4, (sc_other (by decide)).trans h.h5, fun o => by rw [World.frozen?_setCell]; exact h.fr o⟩
theorem RHd.s4 (h : RHd w b mo alt r c v cu) (x : Value) : RHd (w.setCell ⟨b, 4, none⟩ (x)) b mo alt r c x cu :=
  ⟨(sc_other (by decide)).trans h.h0, (sc_other (by decide)).trans h.h1, (sc_other (by decide)).trans h.h2, (sc_other (by decide)).trans h.h3, sc_same h.h4, (sc_other (by decide)).trans h.h5, fun o => by rw [World.frozen?_setCell]; exact h.fr o⟩
theorem RHd.s5 (h : RHd w b mo alt r c v cu) (x : Int) : RHd (w.setCell ⟨b, 5, none⟩ (.int .i64 x)) b mo alt r c v x :=
  ⟨(sc_other (by decide)).trans h.h0, (sc_other (by decide)).trans h.h1, (sc_other (by decide)).trans h.h2, (sc_other (by decide)).trans h.h3, (sc_other (by decide)).trans h.h4, sc_same h.h5, fun o => by rw [World.frozen?_setCell]; exact h.fr o⟩
end
theorem RfM.of {w : World} {b g : Nat} {s : Spc} {r c : Int} (h : RHd w b s.mo s.alt r c (.slice (some ⟨g, 0, none⟩) s.L.length s.L.length) s.cu) (er : r = s.r) (ec : c = s.c) (hr : CellsM w g s.L) (hn : b ≠ g) (ok : s.OK) : RfM w b g s := by
  subst er ec
  exact ⟨h.h0, h.h1, h.h2, h.h3, h.h4, h.h5, h.fr, hr, hn, ok⟩
theorem RfM.hd {w : World} {b g : Nat} {s : Spc} (h : RfM w b g s) : RHd w b s.mo s.alt s.r s.c (.slice (some ⟨g, 0, none⟩) s.L.length s.L.length) s.cu := ⟨h.h0, h.h1, h.h2, h.h3, h.h4, h.h5, h.fr⟩
/-- It was cleared. -/
def RClD (b : Nat) (s' : Spc) (w : World) (e : Ending) (w' : World) : Prop := (∃ v, e = .returned v) ∧ ∃ g, w.heap.size ≤ g ∧ RfM w' b g s' ∧ Moved w w' [b] [b]
set_option maxRecDepth 100000 in
set_option maxHeartbeats 2000000 in
theorem rclear_raw {b : Nat} {mo r c cu : Int} {alt : Bool} {v : Value} (al : Bool) (m1 : 2 ≤ mo) (m2 : mo ≤ 5) (w : World) (h : RHd w b mo alt r c v cu) (hv : ∃ x n c, v = .slice x n c) : Calls Try.prog 65 #[.pointer (some ⟨b, 0, none⟩), .bool al] w (RClD b (clearS mo al) w) := by
  obtain ⟨x, n, cc, rfl⟩ := hv
  have h1 := h.h1
  have g1 := h.fr 1
  have hlt := h.lt
  have hz := size_ok m1 m2 al
  have hp := ok_pos hz
  obtain ⟨N, hN⟩ : ∃ N : Nat, (N : Int) = rowsZ mo al * colsZ mo al := ⟨(rowsZ mo al * colsZ mo al).toNat, by omega⟩
  have HM := hid (fun w => rmodel_yes mo m1 m2 w)
  have H2 := hid (fun w => rmodel_yes 2 (by decide) (by decide) w)
  have HC := hid (fun w => rcells_ok _ _ hz w)
  rw [← hN] at HC
  have hok := clearS_ok m1 m2 al
  have hcl : clearS mo al = ⟨mo, al, List.replicate N cel0, 0, 0⟩ := by unfold clearS; rw [← hN, Int.toNat_natCast]
  have hsr : (⟨mo, al, List.replicate N cel0, 0, 0⟩ : Spc).r = rowsZ mo al := rfl
  have hsc : (⟨mo, al, List.replicate N cel0, 0, 0⟩ : Spc).c = colsZ mo al := rfl
  rw [hcl] at hok ⊢
  rw [← hN] at hp
  have HOK := hid hok
  have HH := hid h
  have hmk := fun w => run_make_cells w N (by omega)
  have HSR := hid hsr
  have HSC := hid hsc
  clear h hok hz m1 m2 hN hcl hsr hsc
  cases al
  · have e1 : rowsZ mo false = rowsZ 2 true := rfl
    have e2 : colsZ mo false = colsZ 2 true := rfl
    rw [e1, e2] at HC
    rw [e1] at HSR
    rw [e2] at HSC
    generalize rowsZ 2 true = R2 at HC HSR H2
    generalize colsZ 2 true = C2 at HC HSC H2
    clear e1 e2 HM
    go_enter Try.func65, Try.ntmps65
    go_wp2_with fail
    have hD1 := HH.out.s1 false
    have hM1 := Moved.set (a := w) (S := [b]) (g := b) (by simp) 1 (.bool false)
    generalize w.setCell ⟨b, 1, none⟩ (.bool false) = W1 at hD1 hM1 ⊢
    have HD1 := hid hD1
    have HM1 := hid hM1
    clear hD1 hM1
    with_reducible refine (H2.out _).mono ?_
    rintro e w2 ⟨rfl, hb2⟩
    have HD2 := hid (HD1.out.below hb2)
    have HM2 := hid (HM1.out.trans (Moved.below hb2 [b]))
    have c2 := HD2.out.h2
    have c3 := HD2.out.h3
    have g2 := HD2.out.fr 2
    have g3 := HD2.out.fr 3
    have hl2 := HD2.out.lt
    have c0 := HD2.out.h0
    clear hb2
    go_wp2_with fail
    have hD3 := (HD2.out.s2 R2).s3 C2
    have hM3 := (HM2.out.trans (Moved.set (S := [b]) (g := b) (by simp) 2 (.int .i64 R2))).trans (Moved.set (S := [b]) (g := b) (by simp) 3 (.int .i64 C2))
    generalize (w2.setCell ⟨b, 2, none⟩ (.int .i64 R2)).setCell ⟨b, 3, none⟩ (.int .i64 C2) = W3 at hD3 hM3 ⊢
    have HD3 := hid hD3
    have HM3 := hid hM3
    clear hD3 hM3 c2 c3 g2 g3 c0
    have HD5 := HD3
    have HM5 := HM3
    have d2 := HD5.out.h2
    have d3 := HD5.out.h3
    have hl5 := HD5.out.lt
    go_wp2_with fail
    with_reducible refine (HC.out _).mono ?_
    rintro e w6 ⟨rfl, hb6⟩
    have HD6 := hid (HD5.out.below hb6)
    have HM6 := hid (HM5.out.trans (Moved.below hb6 [b]))
    have hs6 := HM6.out.size
    have c4 := HD6.out.h4
    have g4 := HD6.out.fr 4
    have c5 := HD6.out.h5
    have g5 := HD6.out.fr 5
    have hl6 := HD6.out.lt
    clear hb6 d2 d3
    go_wp2_with fail
    obtain ⟨V, hV⟩ : ∃ V, (w6.setCell ⟨b, 4, none⟩ (.slice (some ⟨w6.heap.size, 0, none⟩) N N)).setCell ⟨b, 5, none⟩ (.int .i64 0) = V := ⟨_, rfl⟩
    have hsz : V.heap.size = w6.heap.size := by rw [← hV]; simp [World.setCell]
    have hd : RHd V b mo false R2 C2 (.slice (some ⟨w6.heap.size, 0, none⟩) N N) 0 := by rw [← hV]; exact (HD6.out.s4 _).s5 0
    have hm : Moved w6 V [b] [b] := by rw [← hV]; exact (Moved.set (by simp) 4 _).trans (Moved.set (by simp) 5 _)
    rw [hV]
    have hc := made_cells V N 48
    rw [hsz] at hc
    refine bodyPost_ret (results_none rfl _ _ _) rfl ⟨⟨_, rfl⟩, w6.heap.size, hs6, RfM.of (r := R2) (c := C2) ?_ HSR.out.symm HSC.out.symm hc (by omega) HOK.out, (HM6.out.trans hm).trans (Moved.alloc _ _ _)⟩
    dsimp only
    rw [List.length_replicate]
    exact hd.below (bal (Below.refl _ _) _)
  · generalize rowsZ 2 true = R2 at H2
    generalize colsZ 2 true = C2 at H2
    generalize rowsZ mo true = R at HC HSR HM
    generalize colsZ mo true = C at HC HSC HM
    go_enter Try.func65, Try.ntmps65
    go_wp2_with fail
    have hD1 := HH.out.s1 true
    have hM1 := Moved.set (a := w) (S := [b]) (g := b) (by simp) 1 (.bool true)
    generalize w.setCell ⟨b, 1, none⟩ (.bool true) = W1 at hD1 hM1 ⊢
    have HD1 := hid hD1
    have HM1 := hid hM1
    clear hD1 hM1
    with_reducible refine (H2.out _).mono ?_
    rintro e w2 ⟨rfl, hb2⟩
    have HD2 := hid (HD1.out.below hb2)
    have HM2 := hid (HM1.out.trans (Moved.below hb2 [b]))
    have c2 := HD2.out.h2
    have c3 := HD2.out.h3
    have g2 := HD2.out.fr 2
    have g3 := HD2.out.fr 3
    have hl2 := HD2.out.lt
    have c0 := HD2.out.h0
    clear hb2
    go_wp2_with fail
    have hD3 := (HD2.out.s2 R2).s3 C2
    have hM3 := (HM2.out.trans (Moved.set (S := [b]) (g := b) (by simp) 2 (.int .i64 R2))).trans (Moved.set (S := [b]) (g := b) (by simp) 3 (.int .i64 C2))
    generalize (w2.setCell ⟨b, 2, none⟩ (.int .i64 R2)).setCell ⟨b, 3, none⟩ (.int .i64 C2) = W3 at hD3 hM3 ⊢
    have HD3 := hid hD3
    have HM3 := hid hM3
    clear hD3 hM3 c2 c3 g2 g3 c0
    with_reducible refine (HM.out _).mono ?_
    rintro e w4 ⟨rfl, hb4⟩
    have HD4 := hid (HD3.out.below hb4)
    have HM4 := hid (HM3.out.trans (Moved.below hb4 [b]))
    have c2 := HD4.out.h2
    have c3 := HD4.out.h3
    have g2 := HD4.out.fr 2
    have g3 := HD4.out.fr 3
    have hl4 := HD4.out.lt
    clear hb4
    go_wp2_with fail
    have hD5 := (HD4.out.s2 R).s3 C
    have hM5 := (HM4.out.trans (Moved.set (S := [b]) (g := b) (by simp) 2 (.int .i64 R))).trans (Moved.set (S := [b]) (g := b) (by simp) 3 (.int .i64 C))
    generalize (w4.setCell ⟨b, 2, none⟩ (.int .i64 R)).setCell ⟨b, 3, none⟩ (.int .i64 C) = W5 at hD5 hM5 ⊢
    have HD5 := hid hD5
    have HM5 := hid hM5
    clear hD5 hM5 c2 c3 g2 g3
    have d2 := HD5.out.h2
    have d3 := HD5.out.h3
    have hl5 := HD5.out.lt
    go_wp2_with fail
    with_reducible refine (HC.out _).mono ?_
    rintro e w6 ⟨rfl, hb6⟩
    have HD6 := hid (HD5.out.below hb6)
    have HM6 := hid (HM5.out.trans (Moved.below hb6 [b]))
    have hs6 := HM6.out.size
    have c4 := HD6.out.h4
    have g4 := HD6.out.fr 4
    have c5 := HD6.out.h5
    have g5 := HD6.out.fr 5
    have hl6 := HD6.out.lt
    clear hb6 d2 d3
    go_wp2_with fail
    obtain ⟨V, hV⟩ : ∃ V, (w6.setCell ⟨b, 4, none⟩ (.slice (some ⟨w6.heap.size, 0, none⟩) N N)).setCell ⟨b, 5, none⟩ (.int .i64 0) = V := ⟨_, rfl⟩
    have hsz : V.heap.size = w6.heap.size := by rw [← hV]; simp [World.setCell]
    have hd : RHd V b mo true R C (.slice (some ⟨w6.heap.size, 0, none⟩) N N) 0 := by rw [← hV]; exact (HD6.out.s4 _).s5 0
    have hm : Moved w6 V [b] [b] := by rw [← hV]; exact (Moved.set (by simp) 4 _).trans (Moved.set (by simp) 5 _)
    rw [hV]
    have hc := made_cells V N 48
    rw [hsz] at hc
    refine bodyPost_ret (results_none rfl _ _ _) rfl ⟨⟨_, rfl⟩, w6.heap.size, hs6, RfM.of (r := R) (c := C) ?_ HSR.out.symm HSC.out.symm hc (by omega) HOK.out, (HM6.out.trans hm).trans (Moved.alloc _ _ _)⟩
    dsimp only
    rw [List.length_replicate]
    exact hd.below (bal (Below.refl _ _) _)
theorem rclear_any {b g : Nat} {s : Spc} (al : Bool) (w : World) (h : RfM w b g s) : Calls Try.prog 65 #[.pointer (some ⟨b, 0, none⟩), .bool al] w (RClD b (clearS s.mo al) w) := rclear_raw al h.ok.m1 h.ok.m2 w h.hd ⟨_, _, _, rfl⟩
/-- A new space. -/
def RNewD (m : Int) (w : World) (e : Ending) (w' : World) : Prop := ∃ b g, e = .returned (.pointer (some ⟨b, 0, none⟩)) ∧ w.heap.size ≤ b ∧ w.heap.size ≤ g ∧ RfM w' b g (clearS m false) ∧ Below w.heap.size w w'
set_option maxRecDepth 100000 in
set_option maxHeartbeats 1000000 in
theorem rnew_yes (m : Int) (m1 : 2 ≤ m) (m2 : m ≤ 5) (w : World) : Calls Try.prog 34 #[.int .i64 m] w (RNewD m w) := by
  have HM := hid (fun w => rmodel_yes m m1 m2 w)
  have HC := hid (fun (W : World) (b : Nat) (h : RHd W b m false 0 0 (.slice none 0 0) 0) => rclear_raw false m1 m2 W h ⟨_, _, _, rfl⟩)
  generalize rowsZ m true = R at HM
  generalize colsZ m true = C at HM
  clear m1 m2
  go_enter Try.func34, Try.ntmps34
  go_wp2_with fail
  with_reducible refine (HM.out _).mono ?_
  rintro e w1 ⟨rfl, hb⟩
  have HB := hid hb
  clear hb
  go_wp2_with fail
  have hh : RHd ((w1.alloc (.cells #[.int .i64 R, .int .i64 C] 38)).alloc (.cells #[.int .i64 m, .bool false, .int .i64 0, .int .i64 0, .slice none 0 0, .int .i64 0] 41)) (w1.heap.size + 1) m false 0 0 (.slice none 0 0) 0 := by
    have hn := World.alloc_heap_new (w1.alloc (.cells #[.int .i64 R, .int .i64 C] 38)) (.cells #[.int .i64 m, .bool false, .int .i64 0, .int .i64 0, .slice none 0 0, .int .i64 0] 41)
    rw [World.size_alloc] at hn
    exact ⟨cell_of_heap hn, cell_of_heap hn, cell_of_heap hn, cell_of_heap hn, cell_of_heap hn, cell_of_heap hn, fun o => frozen_of_heap hn⟩
  have hb1 := (HB.out.al (Nat.le_refl _) (.cells #[.int .i64 R, .int .i64 C] 38)).al (Nat.le_refl _) (.cells #[.int .i64 m, .bool false, .int .i64 0, .int .i64 0, .slice none 0 0, .int .i64 0] 41)
  with_reducible refine (HC.out _ _ hh).mono ?_
  rintro e w2 ⟨⟨v, rfl⟩, g, hg, hs, hm⟩
  have HS := hid hs
  have hz := HB.out.size
  have HB2 := hid (hb1.trans (hm.toBelow hb1.size (fun k hk => by have := List.mem_singleton.1 hk; omega)))
  have HG := hid (Nat.le_trans hb1.size hg)
  clear hs hg hm hh hb1
  go_wp2
  go_ret
  exact ⟨_, _, rfl, by omega, HG.out, HS.out, HB2.out⟩
set_option maxRecDepth 100000 in
set_option maxHeartbeats 1000000 in
theorem rnew_no (m : Int) (h : m < 2 ∨ 5 < m) (w : World) : Calls Try.prog 34 #[.int .i64 m] w fun e w' => e = .returned (.pointer none) ∧ Below w.heap.size w w' := by
  have HM := hid (fun w => rmodel_no m h w)
  clear h
  go_enter Try.func34, Try.ntmps34
  go_wp2_with fail
  with_reducible refine (HM.out _).mono ?_
  rintro e w1 ⟨rfl, hb⟩
  have HB := hid hb
  clear hb
  go_wp2
  go_ret
  exact ⟨rfl, HB.out.al (Nat.le_refl _) _⟩
section
variable {b g : Nat} {s : Spc}
set_option maxRecDepth 100000 in
set_option maxHeartbeats 1000000 in
theorem rpos_any (n : Int) (hn : I64 n) (w : World) (h : RfM w b g s) : Calls Try.prog 15 #[.pointer (some ⟨b, 0, none⟩), .int .i64 n] w fun e w' => e = .returned (.int .i64 (s.wr n)) ∧ Below w.heap.size w w' := by
  have h2 := h.h2
  have h3 := h.h3
  have hlt := h.lt.1
  have HW := hid (fun w => rwrap_ok s.r s.c n h.ok.sz hn w)
  rw [← h.ok.len, ← h.ok.wr_eq n] at HW
  generalize s.wr n = q at *
  generalize s.r = R at *
  generalize s.c = C at *
  clear h
  go_enter Try.func15, Try.ntmps15
  go_wp2_with fail
  with_reducible refine (HW.out _).mono ?_
  rintro e w1 ⟨rfl, hb⟩
  have HB := hid hb
  clear hb
  go_wp2
  go_ret
  exact ⟨rfl, HB.out⟩
set_option maxRecDepth 100000 in
set_option maxHeartbeats 1000000 in
theorem rat_any (n : Int) (hn : I64 n) (w : World) (h : RfM w b g s) : Calls Try.prog 93 #[.pointer (some ⟨b, 0, none⟩), .int .i64 n] w fun e w' => e = .returned (s.atC n).v ∧ Below w.heap.size w w' := by
  have h4 := h.h4
  have hlt := h.lt.1
  have hgt := h.lt.2
  have hw := h.ok.wr_lt n
  have HP := hid (fun w h => rpos_any (b := b) (g := g) (s := s) n hn w h)
  obtain ⟨c, hc⟩ : ∃ c, s.L.getD (s.wr n) cel0 = c := ⟨_, rfl⟩
  have e : s.atC n = c := hc
  rw [e]
  obtain ⟨a0, a1, a2, a3, a4, a5⟩ := h.row.six _ hw c hc
  have HH := hid h
  have hp := h.ok.pos
  generalize s.wr n = q at *
  obtain ⟨x0, x1, x2, x3, x4, x5⟩ := c
  dsimp only at a0 a1 a2 a3 a4 a5
  clear h hc e
  go_enter Try.func93, Try.ntmps93
  go_wp2_with fail
  generalize hW : w.alloc (.cells #[.int .u8 0, .bool false, .int .u8 0, .int .u8 0, .int .u8 0, .int .u8 0] 48) = W
  have hb0 : Below w.heap.size w W := by rw [← hW]; exact bal (Below.refl _ _) _
  have hz : W.heap.size = w.heap.size + 1 := by rw [← hW]; simp
  have HZ := hid (fun (V : World) (hV : Below W.heap.size W V) => box6 (w := w) (w1 := V) (by rw [hW]; exact hV))
  have HB := hid hb0
  have HS := hid (fun (V : World) (k : Below w.heap.size w V) => show V.cell? ⟨b, 4, none⟩ = some (.slice (some ⟨g, 0, none⟩) s.L.length s.L.length) ∧ (V.cell? ⟨g, q * 6, none⟩ = some (.int .u8 x0) ∧ V.cell? ⟨g, q * 6 + 1, none⟩ = some (.bool x1) ∧ V.cell? ⟨g, q * 6 + 2, none⟩ = some (.int .u8 x2) ∧ V.cell? ⟨g, q * 6 + 3, none⟩ = some (.int .u8 x3) ∧ V.cell? ⟨g, q * 6 + 4, none⟩ = some (.int .u8 x4) ∧ V.cell? ⟨g, q * 6 + 5, none⟩ = some (.int .u8 x5)) ∧ Below w.heap.size w V from ⟨keepc k h4, ⟨keepc k a0, keepc k a1, keepc k a2, keepc k a3, keepc k a4, keepc k a5⟩, k⟩)
  have HD := hid (show RfM W b g s from HH.out.below hb0)
  clear h4 a0 a1 a2 a3 a4 a5 hb0
  refine wp_region_held_drew (S := fun V => V.cell? ⟨b, 4, none⟩ = some (.slice (some ⟨g, 0, none⟩) s.L.length s.L.length) ∧ (V.cell? ⟨g, q * 6, none⟩ = some (.int .u8 x0) ∧ V.cell? ⟨g, q * 6 + 1, none⟩ = some (.bool x1) ∧ V.cell? ⟨g, q * 6 + 2, none⟩ = some (.int .u8 x2) ∧ V.cell? ⟨g, q * 6 + 3, none⟩ = some (.int .u8 x3) ∧ V.cell? ⟨g, q * 6 + 4, none⟩ = some (.int .u8 x4) ∧ V.cell? ⟨g, q * 6 + 5, none⟩ = some (.int .u8 x5)) ∧ Below w.heap.size w V) (by kernel_rfl) ?_ (fun hHeld => ?_)
  · exact HS.out _ HB.out.drew
  refine takeD (i := 0) (v := ?_) 5 rfl rfl (by kernel_rfl) (by kernel_rfl) (by kernel_rfl) (fun _ _ _ h => h) (by assumption) (Or.inl ⟨by rfl, ?_⟩) ?_
  rotate_left
  · intro w hSw
    (try dsimp only at hSw)
    go_simp
    try with_reducible rfl
  simp only [List.setIfInBounds_toArray, List.set_cons_zero, List.set_cons_succ]
  refine takeD (i := 1) (v := ?_) 6 rfl rfl (by kernel_rfl) (by kernel_rfl) (by kernel_rfl) (fun _ _ _ h => h) (by assumption) (Or.inl ⟨by rfl, ?_⟩) ?_
  rotate_left
  · intro w hSw
    (try dsimp only at hSw)
    go_simp
    try with_reducible rfl
  simp only [List.setIfInBounds_toArray, List.set_cons_zero, List.set_cons_succ]
  refine takeD (i := 2) (v := ?_) 7 rfl rfl (by kernel_rfl) (by kernel_rfl) (by kernel_rfl) (fun _ _ _ h => h) (by assumption) (Or.inl ⟨by rfl, ?_⟩) ?_
  rotate_left
  · intro w hSw
    (try dsimp only at hSw)
    go_simp
    try with_reducible rfl
  simp only [List.setIfInBounds_toArray, List.set_cons_zero, List.set_cons_succ]
  refine takeD (i := 3) (v := ?_) 8 rfl rfl (by kernel_rfl) (by kernel_rfl) (by kernel_rfl) (fun _ _ _ h => h) (by assumption) (Or.inl ⟨by rfl, ?_⟩) ?_
  rotate_left
  · intro w hSw
    (try dsimp only at hSw)
    go_simp
    try with_reducible rfl
  simp only [List.setIfInBounds_toArray, List.set_cons_zero, List.set_cons_succ]
  refine takeD (i := 4) (v := ?_) 9 rfl rfl (by kernel_rfl) (by kernel_rfl) (by kernel_rfl) (fun _ _ _ h => h) (by assumption) (Or.inl ⟨by rfl, ?_⟩) ?_
  rotate_left
  · intro w hSw
    (try dsimp only at hSw)
    go_simp
    try with_reducible rfl
  simp only [List.setIfInBounds_toArray, List.set_cons_zero, List.set_cons_succ]
  refine takeD (i := 5) (v := ?_) 10 rfl rfl (by kernel_rfl) (by kernel_rfl) (by kernel_rfl) (fun _ _ _ h => h) (by assumption) (Or.inl ⟨by rfl, ?_⟩) ?_
  rotate_left
  · intro w hSw
    (try dsimp only at hSw)
    go_simp
    try with_reducible rfl
  simp only [List.setIfInBounds_toArray, List.set_cons_zero, List.set_cons_succ]
  refine wpAnyH_ready (rs := [6]) (by kernel_rfl) (by simp) ?_
  refine AllReadyH.cons (by simp only [List.getElem?_toArray, List.getElem?_cons_succ, List.getElem?_cons_zero]; rfl) (fun K hK => ?_) AllReadyH.nil
  go_simp
  go_at_call 15; (with_reducible refine (HP.out _ (HD.out.below (Below.refl _ _).drew)).mono ?_); rintro e w2 ⟨rfl, hb2⟩; have hb3 := below_t (Below.refl W.heap.size W).drew hb2; obtain ⟨⟨z0, z1, z2, z3, z4, z5⟩, ⟨y0, y1, y2, y3, y4, y5⟩, hs⟩ := HZ.out _ hb3; have H3 := hid (below_t HB.out hb3); clear hb2 hb3
  refine hK.out _ _ ?_ (fun hHeldN => ?_)
  · exact HS.out _ H3.out
  clear hK K hHeld
  have hHeld := hHeldN
  clear hHeldN
  (try simp only [Act.put, List.setIfInBounds_toArray, List.set_cons_zero, List.set_cons_succ])
  refine takeD (i := 7) (v := ?_) 12 rfl rfl (by kernel_rfl) (by kernel_rfl) (by kernel_rfl) (fun _ _ _ h => h) (by assumption) (Or.inl ⟨by rfl, ?_⟩) ?_
  rotate_left
  · intro w hSw
    (try dsimp only at hSw)
    go_simp
    try with_reducible rfl
  simp only [List.setIfInBounds_toArray, List.set_cons_zero, List.set_cons_succ]
  refine takeD (i := 8) (v := ?_) 13 rfl rfl (by kernel_rfl) (by kernel_rfl) (by kernel_rfl) (fun _ _ _ h => h) (by assumption) (Or.inl ⟨by rfl, ?_⟩) ?_
  rotate_left
  · intro w hSw
    (try dsimp only at hSw)
    go_simp
    try with_reducible rfl
  simp only [List.setIfInBounds_toArray, List.set_cons_zero, List.set_cons_succ]
  refine wpAnyH_ready (rs := [9]) (by kernel_rfl) (by simp) ?_
  refine AllReadyH.cons (by simp only [List.getElem?_toArray, List.getElem?_cons_succ, List.getElem?_cons_zero]; rfl) (fun K hK => ?_) AllReadyH.nil
  go_simp
  refine hK.out _ _ ?_ (fun hHeldN => ?_)
  · exact HS.out _ (((((((H3.out.sc _ _ _ (Nat.le_refl _)).sc _ _ _ (Nat.le_refl _)).sc _ _ _ (Nat.le_refl _)).sc _ _ _ (Nat.le_refl _)).sc _ _ _ (Nat.le_refl _)).sc _ _ _ (Nat.le_refl _)))
  clear hK K hHeld
  have hHeld := hHeldN
  clear hHeldN
  (try simp only [Act.put, List.setIfInBounds_toArray, List.set_cons_zero, List.set_cons_succ])
  refine wpAnyH_done (by kernel_rfl) ?_ _
  clear hHeld
  go_wp2
  exact bodyPost_ret (v := .agg #[.int .u8 x0, .bool x1, .int .u8 x2, .int .u8 x3, .int .u8 x4, .int .u8 x5]) (by simp [results, Try.results93, go_sem, z0, z1, z2, z3, z4, z5]) rfl ⟨rfl, ((((((H3.out.sc _ _ _ (Nat.le_refl _)).sc _ _ _ (Nat.le_refl _)).sc _ _ _ (Nat.le_refl _)).sc _ _ _ (Nat.le_refl _)).sc _ _ _ (Nat.le_refl _)).sc _ _ _ (Nat.le_refl _))⟩
end
set_option maxRecDepth 100000 in
set_option maxHeartbeats 1000000 in
theorem rsix_any (n : Int) (hn : U8 n) (w : World) : Calls Try.prog 113 #[.int .u8 n] w fun e w' => e = .returned (.int .u8 (sixB n)) ∧ Below w.heap.size w w' := by
  obtain ⟨m, hm, rfl⟩ := u8_nat hn
  have HO := hid (fun w => rof_any m hm w)
  have hd : 0 ≤ ofD m ∧ ofD m ≤ 3 := by unfold ofD; omega
  have HB := hid (fun w => rbits_ok (ofP m) (ofN m) (ofM m) (ofD m) hd.1 hd.2 w)
  rw [(sixB_tab m hm).2] at HB
  generalize sixB m = z at HB ⊢
  generalize ofP m = P at HO HB
  generalize ofN m = N at HO HB
  generalize ofD m = D at HO HB
  generalize ofM m = M at HO HB
  clear hn hd
  go_enter Try.func113, Try.ntmps113
  go_wp2_with fail
  with_reducible refine (HO.out _).mono ?_
  rintro e w1 ⟨rfl, hb⟩
  have H1 := hid hb
  clear hb
  go_wp2_with fail
  with_reducible refine (HB.out _).mono ?_
  rintro e w2 ⟨rfl, hb⟩
  have H2 := hid hb
  clear hb
  go_wp2
  go_ret
  exact ⟨rfl, below_t H1.out H2.out⟩
set_option maxRecDepth 100000 in
set_option maxHeartbeats 1000000 in
theorem rfit_any (c : Cel) (hc : c.OK) (w : World) : Calls Try.prog 94 #[c.v] w fun e w' => e = .returned (fit c).v ∧ Below w.heap.size w w' := by
  have HS := hid (fun w => rsix_any c.fa hc.fa w)
  unfold fit
  obtain ⟨x0, x1, x2, x3, x4, x5⟩ := c
  dsimp only at HS ⊢
  generalize sixB x2 = z at HS ⊢
  clear hc
  cases x1
  · simp only [if_false, Bool.false_eq_true]
    go_enter Try.func94, Try.ntmps94
    go_wp2
    exact bodyPost_ret (v := .agg #[.int .u8 x0, .bool false, .int .u8 0, .int .u8 x3, .int .u8 x4, .int .u8 x5]) (by simp [results, Try.results94, go_sem]) rfl ⟨rfl, (((Below.refl _ _).al (Nat.le_refl _) _)).al (Nat.le_refl _) _⟩
  · simp only [if_true]
    go_enter Try.func94, Try.ntmps94
    go_wp2_with fail
    with_reducible refine (HS.out _).mono ?_
    rintro e w1 ⟨rfl, hb⟩
    have a0 : w1.cell? ⟨w.heap.size, 0, none⟩ = some (.int .u8 x0) := keepc hb (by simp [go_sem])
    have a1 : w1.cell? ⟨w.heap.size, 1, none⟩ = some (.bool true) := keepc hb (by simp [go_sem])
    have a2 : w1.cell? ⟨w.heap.size, 2, none⟩ = some (.int .u8 x2) := keepc hb (by simp [go_sem])
    have a3 : w1.cell? ⟨w.heap.size, 3, none⟩ = some (.int .u8 x3) := keepc hb (by simp [go_sem])
    have a4 : w1.cell? ⟨w.heap.size, 4, none⟩ = some (.int .u8 x4) := keepc hb (by simp [go_sem])
    have a5 : w1.cell? ⟨w.heap.size, 5, none⟩ = some (.int .u8 x5) := keepc hb (by simp [go_sem])
    have b0 : w1.cell? ⟨w.heap.size + 1, 0, none⟩ = some (.int .u8 0) := keepc hb (by simp [go_sem])
    have b1 : w1.cell? ⟨w.heap.size + 1, 1, none⟩ = some (.bool false) := keepc hb (by simp [go_sem])
    have b2 : w1.cell? ⟨w.heap.size + 1, 2, none⟩ = some (.int .u8 0) := keepc hb (by simp [go_sem])
    have b3 : w1.cell? ⟨w.heap.size + 1, 3, none⟩ = some (.int .u8 0) := keepc hb (by simp [go_sem])
    have b4 : w1.cell? ⟨w.heap.size + 1, 4, none⟩ = some (.int .u8 0) := keepc hb (by simp [go_sem])
    have b5 : w1.cell? ⟨w.heap.size + 1, 5, none⟩ = some (.int .u8 0) := keepc hb (by simp [go_sem])
    have f0 : w1.frozen? ⟨w.heap.size, 0, none⟩ = false := (hb.frozen (p := ⟨w.heap.size, 0, none⟩) (by simp; omega)).trans (by simp [go_sem])
    have f2 : w1.frozen? ⟨w.heap.size, 2, none⟩ = false := (hb.frozen (p := ⟨w.heap.size, 2, none⟩) (by simp; omega)).trans (by simp [go_sem])
    have g0 : w1.frozen? ⟨w.heap.size + 1, 0, none⟩ = false := (hb.frozen (p := ⟨w.heap.size + 1, 0, none⟩) (by simp)).trans (by simp [go_sem])
    have g1 : w1.frozen? ⟨w.heap.size + 1, 1, none⟩ = false := (hb.frozen (p := ⟨w.heap.size + 1, 1, none⟩) (by simp)).trans (by simp [go_sem])
    have g2 : w1.frozen? ⟨w.heap.size + 1, 2, none⟩ = false := (hb.frozen (p := ⟨w.heap.size + 1, 2, none⟩) (by simp)).trans (by simp [go_sem])
    have g3 : w1.frozen? ⟨w.heap.size + 1, 3, none⟩ = false := (hb.frozen (p := ⟨w.heap.size + 1, 3, none⟩) (by simp)).trans (by simp [go_sem])
    have g4 : w1.frozen? ⟨w.heap.size + 1, 4, none⟩ = false := (hb.frozen (p := ⟨w.heap.size + 1, 4, none⟩) (by simp)).trans (by simp [go_sem])
    have g5 : w1.frozen? ⟨w.heap.size + 1, 5, none⟩ = false := (hb.frozen (p := ⟨w.heap.size + 1, 5, none⟩) (by simp)).trans (by simp [go_sem])
    have HB := hid (((Below.refl w.heap.size w).al (Nat.le_refl _) _).al (Nat.le_refl _) _ |>.trans (hb.mono (by simp; omega)))
    clear hb
    go_wp2
    exact bodyPost_ret (v := .agg #[.int .u8 0, .bool true, .int .u8 z, .int .u8 x3, .int .u8 x4, .int .u8 x5]) (by simp [results, Try.results94, go_sem, b0, b1, b2, b3, b4, b5]) rfl ⟨rfl, HB.out.sc _ _ _ (by omega) |>.sc _ _ _ (by omega) |>.sc _ _ _ (by omega) |>.sc _ _ _ (by omega) |>.sc _ _ _ (by omega) |>.sc _ _ _ (by omega) |>.sc _ _ _ (by omega) |>.sc _ _ _ (by omega)⟩
theorem st6_kept4 {A B : World} {b g n : Nat} {v u0 u1 u2 u3 u4 u5 : Value} (m : Moved A B [g] [g]) (hg : g < n) (h : A.cell? ⟨b, 4, none⟩ = some v ∧ A.cell? ⟨n, 0, none⟩ = some u0 ∧ A.cell? ⟨n, 1, none⟩ = some u1 ∧ A.cell? ⟨n, 2, none⟩ = some u2 ∧ A.cell? ⟨n, 3, none⟩ = some u3 ∧ A.cell? ⟨n, 4, none⟩ = some u4 ∧ A.cell? ⟨n, 5, none⟩ = some u5) (hbg : b ≠ g) :
    B.cell? ⟨b, 4, none⟩ = some v ∧ B.cell? ⟨n, 0, none⟩ = some u0 ∧ B.cell? ⟨n, 1, none⟩ = some u1 ∧ B.cell? ⟨n, 2, none⟩ = some u2 ∧ B.cell? ⟨n, 3, none⟩ = some u3 ∧ B.cell? ⟨n, 4, none⟩ = some u4 ∧ B.cell? ⟨n, 5, none⟩ = some u5 := by
  obtain ⟨h0, h1, h2, h3, h4, h5, h6⟩ := h
  have hn : ∀ o, (⟨n, o, none⟩ : Addr).block ∉ [g] := fun _ q => by have e : n = g := List.mem_singleton.1 q; omega
  exact ⟨cell_moved m h0 (by simpa using hbg), cell_moved m h1 (hn _), cell_moved m h2 (hn _), cell_moved m h3 (hn _), cell_moved m h4 (hn _), cell_moved m h5 (hn _), cell_moved m h6 (hn _)⟩
/-- The reference's space was changed so. -/
def RfD (b g : Nat) (s' : Spc) (w : World) (e : Ending) (w' : World) : Prop := (∃ v, e = .returned v) ∧ RfM w' b g s' ∧ Moved w w' [b, g] [b, g]
section
variable {b g : Nat} {s : Spc}
set_option maxRecDepth 100000 in
set_option maxHeartbeats 1000000 in
theorem rset_any (n : Int) (hn : I64 n) (c : Cel) (hc : c.OK) (w : World) (h : RfM w b g s) : Calls Try.prog 67 #[.pointer (some ⟨b, 0, none⟩), .int .i64 n, c.v] w (RfD b g (s.setC n c) w) := by
  have h4 := h.h4
  have hlt := h.lt.1
  have hgt := h.lt.2
  have hw := h.ok.wr_lt n
  have HP := hid (fun w h => rpos_any (b := b) (g := g) (s := s) n hn w h)
  have HFt := hid (fun w => rfit_any c hc w)
  have hf := fit_ok hc
  unfold Spc.setC
  generalize fit c = f at HFt hf ⊢
  have HH := hid h
  generalize s.wr n = q at *
  obtain ⟨x0, x1, x2, x3, x4, x5⟩ := c
  obtain ⟨y0, y1, y2, y3, y4, y5⟩ := f
  have HF := hid hf
  clear h hc hf
  go_enter Try.func67, Try.ntmps67
  go_wp2_with fail
  generalize hW : w.alloc (.cells #[.int .u8 x0, .bool x1, .int .u8 x2, .int .u8 x3, .int .u8 x4, .int .u8 x5] 48) = W
  have hb0 : Below w.heap.size w W := by rw [← hW]; exact bal (Below.refl _ _) _
  have hz : W.heap.size = w.heap.size + 1 := by rw [← hW]; simp
  have HZ := hid (fun (V : World) (hV : Below W.heap.size W V) => box6 (w := w) (w1 := V) (by rw [hW]; exact hV))
  have HB := hid hb0
  have HS := hid (fun (V : World) (k : Below W.heap.size W V) => show V.cell? ⟨b, 4, none⟩ = some (.slice (some ⟨g, 0, none⟩) s.L.length s.L.length) ∧ V.cell? ⟨w.heap.size, 0, none⟩ = some (.int .u8 x0) ∧ V.cell? ⟨w.heap.size, 1, none⟩ = some (.bool x1) ∧ V.cell? ⟨w.heap.size, 2, none⟩ = some (.int .u8 x2) ∧ V.cell? ⟨w.heap.size, 3, none⟩ = some (.int .u8 x3) ∧ V.cell? ⟨w.heap.size, 4, none⟩ = some (.int .u8 x4) ∧ V.cell? ⟨w.heap.size, 5, none⟩ = some (.int .u8 x5) from ⟨keepc (below_t hb0 k) h4, (HZ.out V k).1⟩)
  have HD := hid (show RfM W b g s from HH.out.below hb0)
  clear h4 hb0
  refine wp_region_held_drew (S := fun V => V.cell? ⟨b, 4, none⟩ = some (.slice (some ⟨g, 0, none⟩) s.L.length s.L.length) ∧ V.cell? ⟨w.heap.size, 0, none⟩ = some (.int .u8 x0) ∧ V.cell? ⟨w.heap.size, 1, none⟩ = some (.bool x1) ∧ V.cell? ⟨w.heap.size, 2, none⟩ = some (.int .u8 x2) ∧ V.cell? ⟨w.heap.size, 3, none⟩ = some (.int .u8 x3) ∧ V.cell? ⟨w.heap.size, 4, none⟩ = some (.int .u8 x4) ∧ V.cell? ⟨w.heap.size, 5, none⟩ = some (.int .u8 x5)) (by kernel_rfl) ?_ (fun hHeld => ?_)
  · exact HS.out _ (Below.refl W.heap.size W).drew
  refine takeD (i := 0) (v := ?_) 6 rfl rfl (by kernel_rfl) (by kernel_rfl) (by kernel_rfl) (fun _ _ _ h => h) (by assumption) (Or.inl ⟨by rfl, ?_⟩) ?_
  rotate_left
  · intro w hSw
    (try dsimp only at hSw)
    go_simp
    try with_reducible rfl
  simp only [List.setIfInBounds_toArray, List.set_cons_zero, List.set_cons_succ]
  refine takeD (i := 1) (v := ?_) 7 rfl rfl (by kernel_rfl) (by kernel_rfl) (by kernel_rfl) (fun _ _ _ h => h) (by assumption) (Or.inl ⟨by rfl, ?_⟩) ?_
  rotate_left
  · intro w hSw
    (try dsimp only at hSw)
    go_simp
    try with_reducible rfl
  simp only [List.setIfInBounds_toArray, List.set_cons_zero, List.set_cons_succ]
  refine takeD (i := 2) (v := ?_) 8 rfl rfl (by kernel_rfl) (by kernel_rfl) (by kernel_rfl) (fun _ _ _ h => h) (by assumption) (Or.inl ⟨by rfl, ?_⟩) ?_
  rotate_left
  · intro w hSw
    (try dsimp only at hSw)
    go_simp
    try with_reducible rfl
  simp only [List.setIfInBounds_toArray, List.set_cons_zero, List.set_cons_succ]
  refine takeD (i := 3) (v := ?_) 9 rfl rfl (by kernel_rfl) (by kernel_rfl) (by kernel_rfl) (fun _ _ _ h => h) (by assumption) (Or.inl ⟨by rfl, ?_⟩) ?_
  rotate_left
  · intro w hSw
    (try dsimp only at hSw)
    go_simp
    try with_reducible rfl
  simp only [List.setIfInBounds_toArray, List.set_cons_zero, List.set_cons_succ]
  refine takeD (i := 4) (v := ?_) 10 rfl rfl (by kernel_rfl) (by kernel_rfl) (by kernel_rfl) (fun _ _ _ h => h) (by assumption) (Or.inl ⟨by rfl, ?_⟩) ?_
  rotate_left
  · intro w hSw
    (try dsimp only at hSw)
    go_simp
    try with_reducible rfl
  simp only [List.setIfInBounds_toArray, List.set_cons_zero, List.set_cons_succ]
  refine takeD (i := 5) (v := ?_) 11 rfl rfl (by kernel_rfl) (by kernel_rfl) (by kernel_rfl) (fun _ _ _ h => h) (by assumption) (Or.inl ⟨by rfl, ?_⟩) ?_
  rotate_left
  · intro w hSw
    (try dsimp only at hSw)
    go_simp
    try with_reducible rfl
  simp only [List.setIfInBounds_toArray, List.set_cons_zero, List.set_cons_succ]
  refine takeD (i := 7) (v := ?_) 13 rfl rfl (by kernel_rfl) (by kernel_rfl) (by kernel_rfl) (fun _ _ _ h => h) (by assumption) (Or.inl ⟨by rfl, ?_⟩) ?_
  rotate_left
  · intro w hSw
    (try dsimp only at hSw)
    go_simp
    try with_reducible rfl
  simp only [List.setIfInBounds_toArray, List.set_cons_zero, List.set_cons_succ]
  refine wpAnyH_ready (rs := [6]) (by kernel_rfl) (by simp) ?_
  refine AllReadyH.cons (by simp only [List.getElem?_toArray, List.getElem?_cons_succ, List.getElem?_cons_zero]; rfl) (fun K hK => ?_) AllReadyH.nil
  go_simp
  go_at_call 15; (with_reducible refine (HP.out _ (HD.out.below (Below.refl _ _).drew)).mono ?_); rintro e w1 ⟨rfl, hb2⟩; have H1 := hid (below_t (Below.refl W.heap.size W).drew hb2); clear hb2
  refine hK.out _ _ ?_ (fun hHeldN => ?_)
  · exact HS.out _ H1.out
  clear hK K hHeld
  have hHeld := hHeldN
  clear hHeldN
  (try simp only [Act.put, List.setIfInBounds_toArray, List.set_cons_zero, List.set_cons_succ])
  refine wpAnyH_ready (rs := [8]) (by kernel_rfl) (by simp) ?_
  refine AllReadyH.cons (by simp only [List.getElem?_toArray, List.getElem?_cons_succ, List.getElem?_cons_zero]; rfl) (fun K hK => ?_) AllReadyH.nil
  go_simp
  go_at_call 94; (with_reducible refine (HFt.out _).mono ?_); rintro e w2 ⟨rfl, hb2⟩; have hb3 := below_t H1.out hb2; have hD2 := HD.out.below hb3; obtain ⟨a0, a1, a2, a3, a4, a5⟩ := hD2.row.six q hw _ rfl; have hFr := hD2.row.fr; have f0 := hFr (q * 6); have f1 := hFr (q * 6 + 1); have f2 := hFr (q * 6 + 2); have f3 := hFr (q * 6 + 3); have f4 := hFr (q * 6 + 4); have f5 := hFr (q * 6 + 5); have HD2 := hid hD2; have H3 := hid hb3; clear hD2 hFr hb2 hb3
  refine hK.out _ _ ?_ (fun hHeldN => ?_)
  · exact HS.out _ H3.out
  clear hK K hHeld
  have hHeld := hHeldN
  clear hHeldN
  (try simp only [Act.put, List.setIfInBounds_toArray, List.set_cons_zero, List.set_cons_succ])
  refine takeD (i := 9) (v := ?_) 15 rfl rfl (by kernel_rfl) (by kernel_rfl) (by kernel_rfl) (fun _ _ _ h => h) (by assumption) (Or.inl ⟨by rfl, ?_⟩) ?_
  rotate_left
  · intro w hSw
    (try dsimp only at hSw)
    go_simp
    try with_reducible rfl
  simp only [List.setIfInBounds_toArray, List.set_cons_zero, List.set_cons_succ]
  refine wpAnyH_ready (rs := [10]) (by kernel_rfl) (by simp) ?_
  refine AllReadyH.cons (by simp only [List.getElem?_toArray, List.getElem?_cons_succ, List.getElem?_cons_zero]; rfl) (fun K hK => ?_) AllReadyH.nil
  go_simp
  rw [st6_eq]; have HT := hid (st6_moved w2 g q ⟨y0, y1, y2, y3, y4, y5⟩)
  refine hK.out _ _ ?_ (fun hHeldN => ?_)
  · exact st6_kept4 HT.out hgt (HS.out _ H3.out) HD2.out.ne
  clear hK K hHeld
  have hHeld := hHeldN
  clear hHeldN
  (try simp only [Act.put, List.setIfInBounds_toArray, List.set_cons_zero, List.set_cons_succ])
  refine wpAnyH_done (by kernel_rfl) ?_ _
  clear hHeld
  exact bodyPost_ret (results_none rfl _ _ _) rfl ⟨⟨_, rfl⟩, HD2.out.stored q hw HF.out, (Moved.below HB.out [b, g]).trans ((Moved.below H3.out [b, g]).trans (moved_g HT.out))⟩
set_option maxRecDepth 100000 in
set_option maxHeartbeats 1000000 in
theorem rput_any (n : Int) (hn : I64 n) (code : Int) (hc : U8 code) (w : World) (h : RfM w b g s) : Calls Try.prog 66 #[.pointer (some ⟨b, 0, none⟩), .int .i64 n, .int .u8 code] w (RfD b g (s.putC n code) w) := by
  have HA := hid (fun w h => rat_any (b := b) (g := g) (s := s) n hn w h)
  have HT := hid (fun (c : Cel) (k : c.OK) w h => rset_any (b := b) (g := g) (s := s) n hn c k w h)
  have hok := h.ok.cel (s.wr n)
  unfold Spc.putC
  change (s.atC n).OK at hok
  generalize s.atC n = c at HA hok ⊢
  obtain ⟨x0, x1, x2, x3, x4, x5⟩ := c
  dsimp only
  have HK := hid (show (Cel.mk code x1 x2 x3 x4 x5).OK from ⟨hc, hok.fa, hok.hi, hok.co, hok.se⟩)
  have HH := hid h
  clear h hok hc
  cases x1
  · simp only [if_false, Bool.false_eq_true]
    go_enter Try.func66, Try.ntmps66
    go_wp2_with fail
    with_reducible refine (HA.out _ HH.out).mono ?_
    rintro e w1 ⟨rfl, hb⟩
    have HB := hid hb
    clear hb
    go_wp2_with fail
    with_reducible refine (HT.out _ HK.out _ (HH.out.below (HB.out.al (Nat.le_refl _) _))).mono ?_
    rintro e w2 ⟨⟨v, rfl⟩, hs, hm⟩
    have HS := hid hs
    have HM := hid hm
    clear hs hm
    go_wp2
    exact bodyPost_ret (results_none rfl _ _ _) rfl ⟨⟨_, rfl⟩, HS.out, (Moved.below (HB.out.al (Nat.le_refl _) _) [b, g]).trans HM.out⟩
  · simp only [if_true]
    go_enter Try.func66, Try.ntmps66
    go_wp2_with fail
    with_reducible refine (HA.out _ HH.out).mono ?_
    rintro e w1 ⟨rfl, hb⟩
    have HB := hid hb
    clear hb
    go_wp2
    exact bodyPost_ret (results_none rfl _ _ _) rfl ⟨⟨_, rfl⟩, HH.out.below (HB.out.al (Nat.le_refl _) _), Moved.below (HB.out.al (Nat.le_refl _) _) [b, g]⟩
theorem RfM.placed {w : World} (h : RfM w b g s) (n : Int) : RfM (w.setCell ⟨b, 5, none⟩ (.int .i64 (s.wr n))) b g (s.place n) :=
  RfM.of (h.hd.s5 _) rfl rfl (h.row.block (Go.heap_setCell_other w ⟨b, 5, none⟩ g _ (fun e => h.ne e.symm))) h.ne (h.ok.place n)
end
end Go.Proofs.Ytlhaefgchmakfaa
