/-
  The first structured field of bytes.
-/
import Derived.Test.YtdpgmepblmlaaaaDoorRa
import Derived.Deep.RegionHeld3
import Derived.Laws.BitsLemmas
namespace Go.Proofs.YtdpgmepblmlaaaaDoor
open Go.RowKit Go.Lib

theorem wraps_i64 (n : Int) (h₀ : 0 ≤ n) (h₁ : n < 2 ^ 63) : IntKind.i64.wrap n = n := by simp [IntKind.wrap, IntKind.signed, IntKind.bits]; omega
theorem or256 (a b : Int) (ha : 0 ≤ a) (ha2 : a < 256) (hb : 0 ≤ b) (hb2 : b < 256) : bits .or .i64 (a * 256) b = 256 * a + b := by
  rw [bits_join .i64 63 (by decide) wraps_i64 8 (a * 256) b (by omega) (by omega) (by omega) hb (by omega) (by omega)]
  omega
theorem run_mid {w : World} {p : Value} {xs : List Int} (hr : Reads w p xs) (m n : Nat) (hm : m ≤ n) (hn : n ≤ xs.length) : ∃ x c, (∀ w', (Instr.sliceAt 22 p (some (.int .i64 m)) (some (.int .i64 n)) none).run Tryd.prog w' = .ok (.slice x (n - m) c) w') ∧ ∀ V, Reads V p xs → Reads V (.slice x (n - m) c) ((xs.take n).drop m) := by
  obtain ⟨hb, ⟨rfl, rfl⟩ | ⟨a, cap, rfl, h1, h2, h3⟩⟩ := hr
  · have : n = 0 := by simpa using hn
    subst this
    obtain rfl : m = 0 := by omega
    refine ⟨none, 0, fun w' => ?_, fun V hV => hV⟩
    simp [Instr.sliceAt, Instr.slice, run_underlying Tryd.underlying22, Instr.sliceBounds, Instr.sliceBound, asIntOf]
  · refine ⟨some (if cap = m then a else a.add m), cap - m, fun w' => ?_, fun V hV => ?_⟩
    · have hnc : n ≤ cap := by omega
      simp [Instr.sliceAt, Instr.slice, run_underlying Tryd.underlying22, Instr.sliceBounds, Instr.sliceBound, asIntOf, hm, hnc]
      split <;> rfl
    · obtain ⟨_, ⟨q, _⟩ | ⟨a', cap', q, k1, k2, k3⟩⟩ := hV
      · cases q
      · injection q with q1 _ q3
        injection q1 with q1
        subst q1 q3
        have hlen : ((xs.take n).drop m).length = n - m := by rw [List.length_drop, List.length_take]; omega
        refine ⟨fun y hy => hb y (List.mem_of_mem_take (List.mem_of_mem_drop hy)), .inr ⟨_, cap - m, by rw [hlen], by omega, by omega, fun i hi => ?_⟩⟩
        rw [hlen] at hi
        rw [if_neg (by omega)]
        have c0 := k3 0 (by omega)
        obtain ⟨g, off, spot⟩ := a
        obtain rfl : spot = none := by simpa [Addr.add] using World.cell?_spot c0
        have c := k3 (m + i) (by omega)
        rw [addr_add] at c
        rw [addr_add, addr_add, Nat.add_assoc, c, List.getD, List.getD, List.getElem?_drop, List.getElem?_take, if_pos (by omega)]
/-- The same at whatever world. -/
theorem from_all {w : World} {p : Value} {xs : List Int} (hr : Reads w p xs) (n : Nat) (hn : n ≤ xs.length) : ∃ x c, (∀ w', (Instr.sliceAt 22 p (some (.int .i64 n)) none none).run Tryd.prog w' = .ok (.slice x (xs.length - n) c) w') ∧ ∀ V, Reads V p xs → Reads V (.slice x (xs.length - n) c) (xs.drop n) := by
  obtain ⟨q, e, h⟩ := run_from_all hr n hn
  obtain ⟨x, c, rfl⟩ := reads_sl h
  rw [List.length_drop] at e
  refine ⟨x, c, e, fun V hV => ?_⟩
  obtain ⟨q', e', h'⟩ := run_from_all hV n hn
  have := (e V).symm.trans (e' V)
  injection this with this
  rw [this]
  exact h'
/-- A byte of bytes. -/
theorem reads_at {w : World} {x : Option Addr} {L cap : Nat} {xs : List Int} (h : Reads w (.slice x L cap) xs) (i : Nat) (hi : i < xs.length) : ∃ g o, x = some ⟨g, o, none⟩ ∧ w.cell? ⟨g, o + i, none⟩ = some (.int .u8 (xs.getD i 0)) ∧ xs.length ≤ cap ∧ cap ≤ maxLen := by
  rcases h.2 with ⟨e, h⟩ | ⟨a, cap', e, h1, h2, h3⟩
  · subst h
    exact absurd hi (Nat.not_lt_zero _)
  · injection e with e1 _ e3
    subst e1 e3
    have c0 := h3 0 (by omega)
    obtain ⟨g, off, spot⟩ := a
    obtain rfl : spot = none := by simpa [Addr.add] using World.cell?_spot c0
    exact ⟨g, off, rfl, by have := h3 i hi; rwa [addr_add] at this, h1, h2⟩
/-- A box of two cells. -/
structure Box2 (w : World) (b : Nat) (v0 v1 : Value) : Prop where
  c0 : w.cell? ⟨b, 0, none⟩ = some v0
  c1 : w.cell? ⟨b, 1, none⟩ = some v1
  f0 : w.frozen? ⟨b, 0, none⟩ = false
  f1 : w.frozen? ⟨b, 1, none⟩ = false
theorem Box2.new (w : World) (t : TypeId) (v0 v1 : Value) : Box2 (w.alloc (.cells #[v0, v1] t)) w.heap.size v0 v1 := ⟨by simp [go_sem], by simp [go_sem], by simp [go_sem], by simp [go_sem]⟩
theorem Box2.lt {w : World} {b : Nat} {v0 v1 : Value} (h : Box2 w b v0 v1) : b < w.heap.size := World.block_lt_of_cell? w _ h.c0
theorem Box2.step {w w' : World} {b : Nat} {v0 v1 : Value} (h : Box2 w b v0 v1) (hb : Below w.heap.size w w') : Box2 w' b v0 v1 :=
  ⟨keepc hb h.c0, keepc hb h.c1, (hb.frozen (p := ⟨b, 0, none⟩) h.lt).trans h.f0, (hb.frozen (p := ⟨b, 1, none⟩) h.lt).trans h.f1⟩
theorem Box2.put {w : World} {b : Nat} {v0 v1 : Value} (h : Box2 w b v0 v1) (u0 u1 : Value) : Box2 ((w.setCell ⟨b, 0, none⟩ u0).setCell ⟨b, 1, none⟩ u1) b u0 u1 :=
  ⟨set_o (by omega) (set_s h.c0), set_s (set_o (by omega) h.c1), by simp [h.f0], by simp [h.f1]⟩
/-- The first field is told. -/
def FstD (zs : List Int) (w : World) (e : Ending) (w' : World) : Prop := ∃ v, e = .returned (.tuple #[.agg #[.int .u8 (sF zs).2.1.id, v], .int .i64 (sF zs).2.2, .int .i64 (sF zs).1]) ∧ OwnB w' v (sF zs).2.1.data ∧ Below w.heap.size w w' ∧ ∀ k ∈ blkV v, w.heap.size ≤ k
theorem fst_no {zs : List Int} {w w' : World} (h : sF zs = (2, sfZ, 0)) (hb : Below w.heap.size w w') : FstD zs w (.returned (.tuple #[.agg #[.int .u8 0, .slice none 0 0], .int .i64 0, .int .i64 2])) w' := by
  refine ⟨.slice none 0 0, ?_, ?_, hb, fun _ q => (by cases q)⟩
  · rw [h]
    rfl
  · rw [h]
    exact OwnB.nil _
set_option maxRecDepth 100000 in
theorem first_short (x : Option Addr) (n c : Nat) (zs : List Int) (hz : zs.length = n) (w : World) (h : n < 3) : Calls Tryd.prog 70 #[.slice x n c] w (FstD zs w) := by
  have HE := hid (fun w' hb => fst_no (w := w) (w' := w') (sF_short (p := zs) (by omega)) hb)
  clear hz
  go_enter Tryd.func70, Tryd.ntmps70
  go_wp2
  refine bodyPost_ret (v := .tuple #[.agg #[.int .u8 0, .slice none 0 0], .int .i64 0, .int .i64 2]) (by simp [results, Tryd.results70, go_sem]) rfl (HE.out _ ?_)
  exact (Below.refl _ _).alloc (Nat.le_refl _) _
def Opn2 (w : World) (B : Nat) : Prop := ∃ v0 v1, Box2 w B v0 v1
/-- The bytes of a row, beside a box that may be written. -/
def Thr (w0 w : World) (g o B : Nat) (a b d : Int) : Prop := w.cell? ⟨g, o, none⟩ = some (.int .u8 a) ∧ w.cell? ⟨g, o + 1, none⟩ = some (.int .u8 b) ∧ w.cell? ⟨g, o + 2, none⟩ = some (.int .u8 d) ∧ Opn2 w B ∧ Below w0.heap.size w0 w
theorem thr_step {w0 w w' : World} {g o B : Nat} {a b d : Int} (h : w.cell? ⟨g, o, none⟩ = some (.int .u8 a) ∧ w.cell? ⟨g, o + 1, none⟩ = some (.int .u8 b) ∧ w.cell? ⟨g, o + 2, none⟩ = some (.int .u8 d) ∧ Opn2 w B ∧ Below w0.heap.size w0 w) (hb : Below w.heap.size w w') : Thr w0 w' g o B a b d := by
  obtain ⟨h1, h2, h3, ⟨v0, v1, h4⟩, h5⟩ := h
  exact ⟨keepc hb h1, keepc hb h2, keepc hb h3, ⟨v0, v1, h4.step hb⟩, below_t h5 hb⟩
theorem Thr.drew {w0 w : World} {g o B : Nat} {a b d : Int} (h : Thr w0 w g o B a b d) : Thr w0 w.drew g o B a b d := thr_step h (Below.refl _ _).drew
theorem thr_below {w0 w : World} {g o B : Nat} {a b d : Int} (h : w.cell? ⟨g, o, none⟩ = some (.int .u8 a) ∧ w.cell? ⟨g, o + 1, none⟩ = some (.int .u8 b) ∧ w.cell? ⟨g, o + 2, none⟩ = some (.int .u8 d) ∧ Opn2 w B ∧ Below w0.heap.size w0 w) : Below w0.heap.size w0 w := h.2.2.2.2
theorem thr_put {w0 w : World} {g o B : Nat} {a b d : Int} (h : w.cell? ⟨g, o, none⟩ = some (.int .u8 a) ∧ w.cell? ⟨g, o + 1, none⟩ = some (.int .u8 b) ∧ w.cell? ⟨g, o + 2, none⟩ = some (.int .u8 d) ∧ Opn2 w B ∧ Below w0.heap.size w0 w) (hB : w0.heap.size ≤ B) (hg : g < w0.heap.size) (u0 u1 : Value) : Thr w0 ((w.setCell ⟨B, 0, none⟩ u0).setCell ⟨B, 1, none⟩ u1) g o B a b d := by
  obtain ⟨h1, h2, h3, ⟨v0, v1, h4⟩, h5⟩ := h
  have n (i j : Nat) : (⟨B, i, none⟩ : Addr) ≠ ⟨g, j, none⟩ := fun e => by injection e; omega
  have c (j : Nat) : ((w.setCell ⟨B, 0, none⟩ u0).setCell ⟨B, 1, none⟩ u1).cell? ⟨g, j, none⟩ = w.cell? ⟨g, j, none⟩ := by
    rw [World.cell?_setCell_other (h := n 1 j), World.cell?_setCell_other (h := n 0 j)]
  exact ⟨(c _).trans h1, (c _).trans h2, (c _).trans h3, ⟨u0, u1, h4.put u0 u1⟩, (h5.setCell (by exact hB) _).setCell (by exact hB) _⟩
theorem thr_clone {w0 w w2 : World} {g o B : Nat} {a b d : Int} {v : Value} {xs : List Int} (ho : OwnB w2 v xs) (hb : Below w.heap.size w w2) (hk : ∀ k ∈ blkV v, w.heap.size ≤ k) (h : w.cell? ⟨g, o, none⟩ = some (.int .u8 a) ∧ w.cell? ⟨g, o + 1, none⟩ = some (.int .u8 b) ∧ w.cell? ⟨g, o + 2, none⟩ = some (.int .u8 d) ∧ Opn2 w B ∧ Below w0.heap.size w0 w) :
    OwnB w2 v xs ∧ (∀ k ∈ blkV v, B < k) ∧ Below w0.heap.size w0 w2 ∧ Opn2 w2 B := by
  obtain ⟨h1, h2, h3, ⟨v0, v1, h4⟩, h5⟩ := h
  exact ⟨ho, fun k h' => Nat.lt_of_lt_of_le h4.lt (hk k h'), below_t h5 hb, ⟨v0, v1, h4.step hb⟩⟩
theorem put2_own {w : World} {b : Nat} {v : Value} {xs : List Int} (c0 c1 : Value) (h : OwnB w v xs) (hk : ∀ k ∈ blkV v, b < k) : OwnB ((w.setCell ⟨b, 0, none⟩ c0).setCell ⟨b, 1, none⟩ c1) v xs := by
  have m : Moved w ((w.setCell ⟨b, 0, none⟩ c0).setCell ⟨b, 1, none⟩ c1) [b] [b] := (Moved.set (by simp) _ _).trans (Moved.set (by simp) _ _)
  exact h.moved m (fun k hh hm => by have := hk k hh; simp at hm; omega)
set_option maxRecDepth 100000 in
set_option maxHeartbeats 2000000 in
theorem first_bad (v : Value) (zs : List Int) (w : World) (h : Reads w v zs) (hlz : zs.length ≤ 10000000) (h3 : ¬ zs.length < 3) (hz : numS zs ≠ 0) (hbad : numS zs < 3 ∨ (zs.length : Int) < numS zs) : Calls Tryd.prog 70 #[v] w (FstD zs w) := by
  have HE := hid (fun w' hb => fst_no (w := w) (w' := w') (sF_bad (p := zs) h3 (by unfold lenS; rw [if_neg hz]; exact hbad)) hb)
  obtain ⟨x, cap, rfl⟩ := reads_sl h
  obtain ⟨g, o, rfl, c0, hlc, hcm⟩ := reads_at h 0 (by omega)
  obtain ⟨g1, o1, q1, c1, _, _⟩ := reads_at h 1 (by omega)
  obtain ⟨g2, o2, q2, c2, _, _⟩ := reads_at h 2 (by omega)
  injection q1 with q1
  injection q1 with q1 q1'
  injection q2 with q2
  injection q2 with q2 q2'
  subst q1 q1' q2 q2'
  rw [Nat.add_zero] at c0
  have b0 := BytL.getD h.1 0
  have b1 := BytL.getD h.1 1
  have hgw := World.block_lt_of_cell? w _ c0
  have HX := hid (show Thr w (w.alloc (.cells #[.int .u8 0, .slice none 0 0] 35)) g o w.heap.size (zs.getD 0 0) (zs.getD 1 0) (zs.getD 2 0) from ⟨keepc (bal (Below.refl _ _) _) c0, keepc (bal (Below.refl _ _) _) c1, keepc (bal (Below.refl _ _) _) c2, ⟨_, _, Box2.new _ _ _ _⟩, bal (Below.refl _ _) _⟩)
  have hnum : numS zs = 256 * zs.getD 0 0 + zs.getD 1 0 := rfl
  obtain ⟨n, hn⟩ : ∃ n, zs.length = n := ⟨_, rfl⟩
  rw [hn] at h3 hbad hlc hlz ⊢
  clear h hn c0 c1 c2 hgw
  generalize zs.getD 0 0 = a at HX hnum b0
  generalize zs.getD 1 0 = b at HX hnum b1
  generalize zs.getD 2 0 = d at HX 
  obtain ⟨a0, a1⟩ := b0
  obtain ⟨b0, b1⟩ := b1
  have l0 : 0 < n := by omega
  have l1 : 1 < n := by omega
  have l2 : 2 < n := by omega
  have l5 : ¬ n < 3 := by omega
  have i1 : (1 : Int) < n := by omega
  have i2 : (2 : Int) < n := by omega
  have e1 : IntKind.i64.wrap a = a := wraps_i64 a (by omega) (by omega)
  have e2 : IntKind.i64.wrap b = b := wraps_i64 b (by omega) (by omega)
  have e3 : IntKind.i64.wrap (a * 256) = a * 256 := wraps_i64 _ (by omega) (by omega)
  have e4 : bits .or .i64 (a * 256) b = 256 * a + b := or256 a b a0 a1 b0 b1
  rw [hnum] at hz hbad
  have t1 : (256 * a + b == 0) = false := by simpa using hz
  clear hnum hz h3
  by_cases hb1 : 256 * a + b < 3
  · clear hbad
    go_enter Tryd.func70, Tryd.ntmps70
    go_wp2
    go_region_held3 (fun w' => w'.cell? ⟨g, o, none⟩ = some (.int .u8 a) ∧ w'.cell? ⟨g, o + 1, none⟩ = some (.int .u8 b) ∧ w'.cell? ⟨g, o + 2, none⟩ = some (.int .u8 d) ∧ Opn2 w' w.heap.size ∧ Below w.heap.size w w') (first | exact HX.out.drew | fail) (first | fail)
    rename_i hH
    obtain ⟨d0, d1, d2, ⟨v0, v1, y0, y1, y2, y3⟩, HBL⟩ := hH
    have HB := hid HBL
    clear e1 e2 e3 e4 d0 d1 d2 HBL
    go_wp2
    refine bodyPost_ret (v := .tuple #[.agg #[.int .u8 0, .slice none 0 0], .int .i64 0, .int .i64 2]) (by simp [results, Tryd.results70, go_sem]) rfl (HE.out _ ?_)
    exact (bal (Below.refl _ _) _).drew
  · have hb2 := hbad.resolve_left hb1
    clear hbad
    go_enter Tryd.func70, Tryd.ntmps70
    go_wp2
    go_region_held3 (fun w' => w'.cell? ⟨g, o, none⟩ = some (.int .u8 a) ∧ w'.cell? ⟨g, o + 1, none⟩ = some (.int .u8 b) ∧ w'.cell? ⟨g, o + 2, none⟩ = some (.int .u8 d) ∧ Opn2 w' w.heap.size ∧ Below w.heap.size w w') (first | exact HX.out.drew | fail) (first | fail)
    rename_i hH
    obtain ⟨d0, d1, d2, ⟨v0, v1, y0, y1, y2, y3⟩, HBL⟩ := hH
    have HB := hid HBL
    clear e1 e2 e3 e4 d0 d1 d2 HBL
    go_wp2
    refine bodyPost_ret (v := .tuple #[.agg #[.int .u8 0, .slice none 0 0], .int .i64 0, .int .i64 2]) (by simp [results, Tryd.results70, go_sem]) rfl (HE.out _ ?_)
    exact (bal (Below.refl _ _) _).drew
set_option maxRecDepth 100000 in
set_option maxHeartbeats 2000000 in
theorem first_ok0 (v : Value) (zs : List Int) (w : World) (h : Reads w v zs) (hlz : zs.length ≤ 10000000) (h3 : ¬ zs.length < 3) (hz : numS zs = 0) (L : Nat) (hL : lenS zs = L) (hL3 : 3 ≤ L) (hLn : L ≤ zs.length) : Calls Tryd.prog 70 #[v] w (FstD zs w) := by
  have HE := hid (sF_ok (p := zs) h3 (by omega))
  rw [hL] at HE
  obtain ⟨x, cap, rfl⟩ := reads_sl h
  obtain ⟨g, o, rfl, c0, hlc, hcm⟩ := reads_at h 0 (by omega)
  obtain ⟨g1, o1, q1, c1, _, _⟩ := reads_at h 1 (by omega)
  obtain ⟨g2, o2, q2, c2, _, _⟩ := reads_at h 2 (by omega)
  injection q1 with q1
  injection q1 with q1 q1'
  injection q2 with q2
  injection q2 with q2 q2'
  subst q1 q1' q2 q2'
  rw [Nat.add_zero] at c0
  have b0 := BytL.getD h.1 0
  have b1 := BytL.getD h.1 1
  have hgw := World.block_lt_of_cell? w _ c0
  have HX := hid (show Thr w (w.alloc (.cells #[.int .u8 0, .slice none 0 0] 35)) g o w.heap.size (zs.getD 0 0) (zs.getD 1 0) (zs.getD 2 0) from ⟨keepc (bal (Below.refl _ _) _) c0, keepc (bal (Below.refl _ _) _) c1, keepc (bal (Below.refl _ _) _) c2, ⟨_, _, Box2.new _ _ _ _⟩, bal (Below.refl _ _) _⟩)
  have hnum : numS zs = 256 * zs.getD 0 0 + zs.getD 1 0 := rfl
  obtain ⟨xs, cs, hsl0, hrd⟩ := run_mid h 3 L hL3 hLn
  have hsl : ∀ w', (Instr.sliceAt 22 (.slice (some ⟨g, o, none⟩) zs.length cap) (some (.int .i64 3)) (some (.int .i64 L)) none).run Tryd.prog w' = .ok (.slice xs (L - 3) cs) w' := hsl0
  have HCL := hid (fun W (hW : Below w.heap.size w W) => clone_any _ _ W (hrd W (reads_below h hW)) (by rw [List.length_drop, List.length_take]; omega))
  have HE2 := hid (show sF zs = (0, ⟨zs.getD 2 0, (zs.take L).drop 3⟩, L) from HE.out)
  clear HE hsl0
  have hLN : L = zs.length := by unfold lenS at hL; rw [if_pos hz] at hL; omega
  subst hLN
  generalize (zs.take zs.length).drop 3 = ys at HCL HE2 hrd
  obtain ⟨n, hn⟩ : ∃ n, zs.length = n := ⟨_, rfl⟩
  rw [hn] at h3 hlc hlz hsl HE2 hL3 HCL ⊢
  clear h hn c0 c1 c2 hrd
  generalize zs.getD 0 0 = a at HX hnum b0
  generalize zs.getD 1 0 = b at HX hnum b1
  generalize zs.getD 2 0 = d at HX HE2
  obtain ⟨a0, a1⟩ := b0
  obtain ⟨b0, b1⟩ := b1
  have l0 : 0 < n := by omega
  have l1 : 1 < n := by omega
  have l2 : 2 < n := by omega
  have l5 : ¬ n < 3 := by omega
  have i1 : (1 : Int) < n := by omega
  have i2 : (2 : Int) < n := by omega
  have e1 : IntKind.i64.wrap a = a := wraps_i64 a (by omega) (by omega)
  have e2 : IntKind.i64.wrap b = b := wraps_i64 b (by omega) (by omega)
  have e3 : IntKind.i64.wrap (a * 256) = a * 256 := wraps_i64 _ (by omega) (by omega)
  rw [hnum] at hz
  have e4 : bits .or .i64 (a * 256) b = 0 := (or256 a b a0 a1 b0 b1).trans hz
  have k3 : ¬ (n : Int) < 3 := by omega
  have k4 : ¬ (n : Int) < n := by omega
  clear hnum hz h3 hLn hL hL3
  go_enter Tryd.func70, Tryd.ntmps70
  go_wp2
  go_region_held3 (fun w' => w'.cell? ⟨g, o, none⟩ = some (.int .u8 a) ∧ w'.cell? ⟨g, o + 1, none⟩ = some (.int .u8 b) ∧ w'.cell? ⟨g, o + 2, none⟩ = some (.int .u8 d) ∧ Opn2 w' w.heap.size ∧ Below w.heap.size w w') (first | exact HX.out.drew | fail) (first | fail)
  rename_i hH
  have HX1 := hid (show Thr w (w.alloc (.cells #[.int .u8 0, .slice none 0 0] 35)).drew g o w.heap.size a b d from hH)
  clear hH e1 e2 e3 e4
  go_wp2
  go_region_held3 (fun w' => w'.cell? ⟨g, o, none⟩ = some (.int .u8 a) ∧ w'.cell? ⟨g, o + 1, none⟩ = some (.int .u8 b) ∧ w'.cell? ⟨g, o + 2, none⟩ = some (.int .u8 d) ∧ Opn2 w' w.heap.size ∧ Below w.heap.size w w') (first | exact HX1.out.drew | exact thr_step (by assumption) (by assumption) | exact thr_put (by assumption) (Nat.le_refl _) hgw _ _) (first | (go_at_call 68; (with_reducible refine (HCL.out _ (thr_below (by first | assumption | exact HX1.out.drew))).mono ?_); rintro e w2 ⟨v2, rfl, ho2, hb2, hk2⟩; have HO := hid (thr_clone ho2 hb2 hk2 (by first | assumption | exact HX1.out.drew)); obtain ⟨xv, nv, cv, rfl⟩ := own_slice ho2; clear ho2 hk2; obtain ⟨z0, z1, y0, y1, y2, y3⟩ := HO.out.2.2.2))
  rename_i hH
  clear hH hb2 y0 y1 y2 y3 z0 z1
  obtain ⟨ho, hk, hb, v0, v1, hbx⟩ := HO.out
  have hp := hbx.put (.int .u8 d) (.slice xv nv cv)
  have HF := hid (show FstD zs w (.returned (.tuple #[.agg #[.int .u8 d, .slice xv nv cv], .int .i64 n, .int .i64 0])) ((w2.setCell ⟨w.heap.size, 0, none⟩ (.int .u8 d)).setCell ⟨w.heap.size, 1, none⟩ (.slice xv nv cv)) from by
    refine ⟨.slice xv nv cv, by rw [HE2.out], by rw [HE2.out]; exact put2_own _ _ ho hk, (hb.setCell (by exact Nat.le_refl _) _).setCell (by exact Nat.le_refl _) _, fun k q => Nat.le_of_lt (hk k q)⟩)
  obtain ⟨r0, r1, -, -⟩ := hp
  clear ho hk hb hbx HO HE2 HCL
  revert HF r0 r1
  generalize ((w2.setCell ⟨w.heap.size, 0, none⟩ (.int .u8 d)).setCell ⟨w.heap.size, 1, none⟩ (.slice xv nv cv)) = Wf
  intro HF r0 r1
  go_wp2
  exact bodyPost_ret (by simp [results, Tryd.results70, go_sem, r0, r1]) rfl HF.out
set_option maxRecDepth 100000 in
set_option maxHeartbeats 2000000 in
theorem first_ok1 (v : Value) (zs : List Int) (w : World) (h : Reads w v zs) (hlz : zs.length ≤ 10000000) (h3 : ¬ zs.length < 3) (hz : numS zs ≠ 0) (L : Nat) (hL : lenS zs = L) (hL3 : 3 ≤ L) (hLn : L ≤ zs.length) : Calls Tryd.prog 70 #[v] w (FstD zs w) := by
  have HE := hid (sF_ok (p := zs) h3 (by omega))
  rw [hL] at HE
  obtain ⟨x, cap, rfl⟩ := reads_sl h
  obtain ⟨g, o, rfl, c0, hlc, hcm⟩ := reads_at h 0 (by omega)
  obtain ⟨g1, o1, q1, c1, _, _⟩ := reads_at h 1 (by omega)
  obtain ⟨g2, o2, q2, c2, _, _⟩ := reads_at h 2 (by omega)
  injection q1 with q1
  injection q1 with q1 q1'
  injection q2 with q2
  injection q2 with q2 q2'
  subst q1 q1' q2 q2'
  rw [Nat.add_zero] at c0
  have b0 := BytL.getD h.1 0
  have b1 := BytL.getD h.1 1
  have hgw := World.block_lt_of_cell? w _ c0
  have HX := hid (show Thr w (w.alloc (.cells #[.int .u8 0, .slice none 0 0] 35)) g o w.heap.size (zs.getD 0 0) (zs.getD 1 0) (zs.getD 2 0) from ⟨keepc (bal (Below.refl _ _) _) c0, keepc (bal (Below.refl _ _) _) c1, keepc (bal (Below.refl _ _) _) c2, ⟨_, _, Box2.new _ _ _ _⟩, bal (Below.refl _ _) _⟩)
  have hnum : numS zs = 256 * zs.getD 0 0 + zs.getD 1 0 := rfl
  obtain ⟨xs, cs, hsl0, hrd⟩ := run_mid h 3 L hL3 hLn
  have hsl : ∀ w', (Instr.sliceAt 22 (.slice (some ⟨g, o, none⟩) zs.length cap) (some (.int .i64 3)) (some (.int .i64 L)) none).run Tryd.prog w' = .ok (.slice xs (L - 3) cs) w' := hsl0
  have HCL := hid (fun W (hW : Below w.heap.size w W) => clone_any _ _ W (hrd W (reads_below h hW)) (by rw [List.length_drop, List.length_take]; omega))
  have HE2 := hid (show sF zs = (0, ⟨zs.getD 2 0, (zs.take L).drop 3⟩, L) from HE.out)
  clear HE hsl0
  have hLV : numS zs = L := by unfold lenS at hL; rw [if_neg hz] at hL; exact hL
  clear hL
  generalize (zs.take L).drop 3 = ys at HCL HE2 hrd
  obtain ⟨n, hn⟩ : ∃ n, zs.length = n := ⟨_, rfl⟩
  rw [hn] at h3 hlc hlz hsl hLn ⊢
  clear h hn c0 c1 c2 hrd
  generalize zs.getD 0 0 = a at HX hnum b0
  generalize zs.getD 1 0 = b at HX hnum b1
  generalize zs.getD 2 0 = d at HX HE2
  obtain ⟨a0, a1⟩ := b0
  obtain ⟨b0, b1⟩ := b1
  have l0 : 0 < n := by omega
  have l1 : 1 < n := by omega
  have l2 : 2 < n := by omega
  have l5 : ¬ n < 3 := by omega
  have i1 : (1 : Int) < n := by omega
  have i2 : (2 : Int) < n := by omega
  have e1 : IntKind.i64.wrap a = a := wraps_i64 a (by omega) (by omega)
  have e2 : IntKind.i64.wrap b = b := wraps_i64 b (by omega) (by omega)
  have e3 : IntKind.i64.wrap (a * 256) = a * 256 := wraps_i64 _ (by omega) (by omega)
  rw [hnum] at hLV hz
  have e4 : bits .or .i64 (a * 256) b = (L : Int) := (or256 a b a0 a1 b0 b1).trans hLV
  have t1 : ((L : Int) == 0) = false := by simp; omega
  have k3 : ¬ (L : Int) < 3 := by omega
  have k4 : ¬ (n : Int) < L := by omega
  clear hnum hz h3 hLn hLV hL3
  go_enter Tryd.func70, Tryd.ntmps70
  go_wp2
  go_region_held3 (fun w' => w'.cell? ⟨g, o, none⟩ = some (.int .u8 a) ∧ w'.cell? ⟨g, o + 1, none⟩ = some (.int .u8 b) ∧ w'.cell? ⟨g, o + 2, none⟩ = some (.int .u8 d) ∧ Opn2 w' w.heap.size ∧ Below w.heap.size w w') (first | exact HX.out.drew | fail) (first | fail)
  rename_i hH
  have HX1 := hid (show Thr w (w.alloc (.cells #[.int .u8 0, .slice none 0 0] 35)).drew g o w.heap.size a b d from hH)
  clear hH e1 e2 e3 e4
  go_wp2
  go_region_held3 (fun w' => w'.cell? ⟨g, o, none⟩ = some (.int .u8 a) ∧ w'.cell? ⟨g, o + 1, none⟩ = some (.int .u8 b) ∧ w'.cell? ⟨g, o + 2, none⟩ = some (.int .u8 d) ∧ Opn2 w' w.heap.size ∧ Below w.heap.size w w') (first | exact HX1.out.drew | exact thr_step (by assumption) (by assumption) | exact thr_put (by assumption) (Nat.le_refl _) hgw _ _) (first | (go_at_call 68; (with_reducible refine (HCL.out _ (thr_below (by first | assumption | exact HX1.out.drew))).mono ?_); rintro e w2 ⟨v2, rfl, ho2, hb2, hk2⟩; have HO := hid (thr_clone ho2 hb2 hk2 (by first | assumption | exact HX1.out.drew)); obtain ⟨xv, nv, cv, rfl⟩ := own_slice ho2; clear ho2 hk2; obtain ⟨z0, z1, y0, y1, y2, y3⟩ := HO.out.2.2.2))
  rename_i hH
  clear hH hb2 y0 y1 y2 y3 z0 z1
  obtain ⟨ho, hk, hb, v0, v1, hbx⟩ := HO.out
  have hp := hbx.put (.int .u8 d) (.slice xv nv cv)
  have HF := hid (show FstD zs w (.returned (.tuple #[.agg #[.int .u8 d, .slice xv nv cv], .int .i64 L, .int .i64 0])) ((w2.setCell ⟨w.heap.size, 0, none⟩ (.int .u8 d)).setCell ⟨w.heap.size, 1, none⟩ (.slice xv nv cv)) from by
    refine ⟨.slice xv nv cv, by rw [HE2.out], by rw [HE2.out]; exact put2_own _ _ ho hk, (hb.setCell (by exact Nat.le_refl _) _).setCell (by exact Nat.le_refl _) _, fun k q => Nat.le_of_lt (hk k q)⟩)
  obtain ⟨r0, r1, -, -⟩ := hp
  clear ho hk hb hbx HO HE2 HCL
  revert HF r0 r1
  generalize ((w2.setCell ⟨w.heap.size, 0, none⟩ (.int .u8 d)).setCell ⟨w.heap.size, 1, none⟩ (.slice xv nv cv)) = Wf
  intro HF r0 r1
  go_wp2
  exact bodyPost_ret (by simp [results, Tryd.results70, go_sem, r0, r1]) rfl HF.out
theorem sfirst_any (v : Value) (zs : List Int) (w : World) (h : Reads w v zs) (hl : zs.length ≤ 10000000) : Calls Tryd.prog 70 #[v] w (FstD zs w) := by
  by_cases h3 : zs.length < 3
  · obtain ⟨x, c, rfl⟩ := reads_sl h
    exact first_short x _ c zs rfl w h3
  have b0 := BytL.getD h.1 0
  have b1 := BytL.getD h.1 1
  have hnum : numS zs = 256 * zs.getD 0 0 + zs.getD 1 0 := rfl
  by_cases hz : numS zs = 0
  · have e : lenS zs = (zs.length : Int) := by unfold lenS; rw [if_pos hz]
    exact first_ok0 v zs w h hl h3 hz zs.length e (by omega) (Nat.le_refl _)
  · have e : lenS zs = numS zs := by unfold lenS; rw [if_neg hz]
    by_cases hb : numS zs < 3 ∨ (zs.length : Int) < numS zs
    · exact first_bad v zs w h hl h3 hz hb
    · obtain ⟨L, hL⟩ : ∃ L : Nat, numS zs = L := ⟨(numS zs).toNat, by omega⟩
      exact first_ok1 v zs w h hl h3 hz L (e.trans hL) (by omega) (by omega)
end Go.Proofs.YtdpgmepblmlaaaaDoor
