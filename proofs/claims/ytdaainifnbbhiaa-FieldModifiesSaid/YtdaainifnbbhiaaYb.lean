/-
  Models, sizes, places, cells: the program's.
-/
import Derived.Test.YtdaainifnbbhiaaYa
namespace Go.Proofs.Ytdaainifnbbhiaa
open Go.RowKit Go.Lib

abbrev sizeV (r c : Int) : Value := .agg #[.int .i64 r, .int .i64 c]
set_option maxRecDepth 100000 in
set_option maxHeartbeats 1000000 in
theorem model_yes (m : Int) (h1 : 2 ≤ m) (h2 : m ≤ 5) (w : World) : Calls Try.prog 67 #[.int .i64 m] w fun e w' => e = .returned (.tuple #[sizeV (rowsZ m true) (colsZ m true), .int .i64 0]) ∧ Below w.heap.size w w' := by
  have h : m = 2 ∨ m = 3 ∨ m = 4 ∨ m = 5 := by omega
  clear h1 h2
  rcases h with rfl | rfl | rfl | rfl <;> (
    go_enter Try.func67, Try.ntmps67
    go_wp2
    exact bodyPost_ret (v := .tuple #[sizeV (rowsZ _ true) (colsZ _ true), .int .i64 0]) (by simp [results, Try.results67, go_sem, rowsZ, colsZ]) rfl ⟨rfl, (Below.refl _ _).alloc (Nat.le_refl _) _⟩)
set_option maxRecDepth 100000 in
set_option maxHeartbeats 1000000 in
theorem model_no (m : Int) (h : m < 2 ∨ 5 < m) (w : World) : Calls Try.prog 67 #[.int .i64 m] w fun e w' => e = .returned (.tuple #[sizeV 0 0, .int .i64 5]) ∧ Below w.heap.size w w' := by
  have e2 : (m == 2) = false := by simp; omega
  have e3 : (m == 3) = false := by simp; omega
  have e4 : (m == 4) = false := by simp; omega
  have e5 : (m == 5) = false := by simp; omega
  clear h
  go_enter Try.func67, Try.ntmps67
  go_wp2
  exact bodyPost_ret (v := .tuple #[sizeV 0 0, .int .i64 5]) (by simp [results, Try.results67, go_sem]) rfl ⟨rfl, (Below.refl _ _).alloc (Nat.le_refl _) _⟩
theorem blw {w w1 : World} {o : Obj} (h : Below (w.alloc o).heap.size (w.alloc o) w1) : Below w.heap.size w w1 := ((Below.refl _ _).alloc (Nat.le_refl _) _).trans (h.mono (by simp))
theorem _root_.Go.RowKit.Below.sc {B : Nat} {a w : World} (h : Below B a w) (g i : Nat) (u : Value) (hg : B ≤ g) : Below B a (w.setCell ⟨g, i, none⟩ u) := h.setCell (p := ⟨g, i, none⟩) hg u
theorem _root_.Go.RowKit.Below.al {B : Nat} {a w : World} (h : Below B a w) (hB : B ≤ a.heap.size) (o : Obj) : Below B a (w.alloc o) := h.alloc (Nat.le_trans hB h.size) o
theorem box2 {w w1 : World} {x y : Value} {t : TypeId} (hb : Below (w.alloc (.cells #[x, y] t)).heap.size (w.alloc (.cells #[x, y] t)) w1) :
    w1.cell? ⟨w.heap.size, 0, none⟩ = some x ∧ w1.cell? ⟨w.heap.size, 1, none⟩ = some y ∧ w1.frozen? ⟨w.heap.size, 0, none⟩ = false ∧ w1.frozen? ⟨w.heap.size, 1, none⟩ = false ∧ w.heap.size < w1.heap.size :=
  ⟨(hb.cell (p := ⟨w.heap.size, 0, none⟩) (by simp)).trans (by simp [go_sem]), (hb.cell (p := ⟨w.heap.size, 1, none⟩) (by simp)).trans (by simp [go_sem]), (hb.frozen (p := ⟨w.heap.size, 0, none⟩) (by simp)).trans (by simp [go_sem]), (hb.frozen (p := ⟨w.heap.size, 1, none⟩) (by simp)).trans (by simp [go_sem]), by have := hb.size; simp at this; omega⟩
theorem box6 {w w1 : World} {x0 x1 x2 x3 x4 x5 : Value} {t : TypeId} (hb : Below (w.alloc (.cells #[x0, x1, x2, x3, x4, x5] t)).heap.size (w.alloc (.cells #[x0, x1, x2, x3, x4, x5] t)) w1) :
    (w1.cell? ⟨w.heap.size, 0, none⟩ = some x0 ∧ w1.cell? ⟨w.heap.size, 1, none⟩ = some x1 ∧ w1.cell? ⟨w.heap.size, 2, none⟩ = some x2 ∧ w1.cell? ⟨w.heap.size, 3, none⟩ = some x3 ∧ w1.cell? ⟨w.heap.size, 4, none⟩ = some x4 ∧ w1.cell? ⟨w.heap.size, 5, none⟩ = some x5) ∧ (w1.frozen? ⟨w.heap.size, 0, none⟩ = false ∧ w1.frozen? ⟨w.heap.size, 1, none⟩ = false ∧ w1.frozen? ⟨w.heap.size, 2, none⟩ = false ∧ w1.frozen? ⟨w.heap.size, 3, none⟩ = false ∧ w1.frozen? ⟨w.heap.size, 4, none⟩ = false ∧ w1.frozen? ⟨w.heap.size, 5, none⟩ = false) ∧ w.heap.size < w1.heap.size :=
  ⟨⟨(hb.cell (p := ⟨w.heap.size, 0, none⟩) (by simp)).trans (by simp [go_sem]), (hb.cell (p := ⟨w.heap.size, 1, none⟩) (by simp)).trans (by simp [go_sem]), (hb.cell (p := ⟨w.heap.size, 2, none⟩) (by simp)).trans (by simp [go_sem]), (hb.cell (p := ⟨w.heap.size, 3, none⟩) (by simp)).trans (by simp [go_sem]), (hb.cell (p := ⟨w.heap.size, 4, none⟩) (by simp)).trans (by simp [go_sem]), (hb.cell (p := ⟨w.heap.size, 5, none⟩) (by simp)).trans (by simp [go_sem])⟩, ⟨(hb.frozen (p := ⟨w.heap.size, 0, none⟩) (by simp)).trans (by simp [go_sem]), (hb.frozen (p := ⟨w.heap.size, 1, none⟩) (by simp)).trans (by simp [go_sem]), (hb.frozen (p := ⟨w.heap.size, 2, none⟩) (by simp)).trans (by simp [go_sem]), (hb.frozen (p := ⟨w.heap.size, 3, none⟩) (by simp)).trans (by simp [go_sem]), (hb.frozen (p := ⟨w.heap.size, 4, none⟩) (by simp)).trans (by simp [go_sem]), (hb.frozen (p := ⟨w.heap.size, 5, none⟩) (by simp)).trans (by simp [go_sem])⟩, by have := hb.size; simp at this; omega⟩
set_option maxRecDepth 100000 in
set_option maxHeartbeats 1000000 in
theorem size_raw {b : Nat} {mo : Int} {alt : Bool} (w : World) (h0 : w.cell? ⟨b, 0, none⟩ = some (.int .i64 mo)) (h1 : w.cell? ⟨b, 1, none⟩ = some (.bool alt)) (m1 : 2 ≤ mo) (m2 : mo ≤ 5) : Calls Try.prog 24 #[.pointer (some ⟨b, 0, none⟩)] w fun e w' => e = .returned (sizeV (rowsZ mo alt) (colsZ mo alt)) ∧ Below w.heap.size w w' := by
  have hlt : b < w.heap.size := World.block_lt_of_cell? w _ h0
  have HY := fun w => model_yes mo m1 m2 w
  have H2 := fun w => model_yes 2 (by decide) (by decide) w
  rw [show rowsZ 2 true = 24 from rfl, show colsZ 2 true = 80 from rfl] at H2
  cases alt
  · rw [show rowsZ mo false = 24 from rfl, show colsZ mo false = 80 from rfl]
    have H2' := hid H2
    clear HY H2 m1 m2
    go_enter Try.func24, Try.ntmps24
    go_wp2_with fail
    with_reducible refine (H2'.out _).mono ?_
    rintro e w1 ⟨rfl, hb⟩
    obtain ⟨c0, c1, f0, f1, hs⟩ := box2 hb
    have HB := hid hb
    clear hb
    go_wp2
    exact bodyPost_ret (v := sizeV 24 80) (by simp [results, Try.results24, go_sem, hs, c0, c1]) rfl ⟨rfl, (((blw HB.out).sc _ _ _ (Nat.le_refl _)).sc _ _ _ (Nat.le_refl _)).al (Nat.le_refl _) _⟩
  · have HY' := hid HY
    generalize rowsZ mo true = R at HY' ⊢
    generalize colsZ mo true = C at HY' ⊢
    clear HY H2 m1 m2
    go_enter Try.func24, Try.ntmps24
    go_wp2_with fail
    with_reducible refine (HY'.out _).mono ?_
    rintro e w1 ⟨rfl, hb⟩
    obtain ⟨c0, c1, f0, f1, hs⟩ := box2 hb
    have HB := hid hb
    clear hb
    go_wp2
    exact bodyPost_ret (v := sizeV R C) (by simp [results, Try.results24, go_sem, hs, c0, c1]) rfl ⟨rfl, (((blw HB.out).sc _ _ _ (Nat.le_refl _)).sc _ _ _ (Nat.le_refl _)).al (Nat.le_refl _) _⟩
theorem size_any {b g : Nat} {s : Spc} (w : World) (h : SpM w b g s) : Calls Try.prog 24 #[.pointer (some ⟨b, 0, none⟩)] w fun e w' => e = .returned (sizeV s.r s.c) ∧ Below w.heap.size w w' := size_raw w h.h0 h.h1 h.ok.m1 h.ok.m2
end Go.Proofs.Ytdaainifnbbhiaa
