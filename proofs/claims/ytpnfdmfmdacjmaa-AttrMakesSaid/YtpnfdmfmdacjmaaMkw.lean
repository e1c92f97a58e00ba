/-
  AttrMakes' walk.
-/
import Derived.Test.YtpnfdmfmdacjmaaPaj
import Derived.Test.YtpnfdmfmdacjmaaPrw
namespace Go.Proofs.Ytpnfdmfmdacjmaa
open Go.RowKit Go.Lib

/-- A cell's six cells. -/
def At6 (w : World) (g : Nat) (ch : Int) (a : Bool) (fa hi co se : Int) : Prop :=
  w.cell? ⟨g, 0, none⟩ = some (.int .u8 ch) ∧ w.cell? ⟨g, 1, none⟩ = some (.bool a) ∧ w.cell? ⟨g, 2, none⟩ = some (.int .u8 fa) ∧ w.cell? ⟨g, 3, none⟩ = some (.int .u8 hi) ∧ w.cell? ⟨g, 4, none⟩ = some (.int .u8 co) ∧ w.cell? ⟨g, 5, none⟩ = some (.int .u8 se)
theorem At6.lt {w : World} {g : Nat} {ch fa hi co se : Int} {a : Bool} (h : At6 w g ch a fa hi co se) : g < w.heap.size := World.block_lt_of_cell? w _ h.1
theorem At6.keepB {B : Nat} {w w' : World} {g : Nat} {ch fa hi co se : Int} {a : Bool} (h : At6 w g ch a fa hi co se) (hb : Below B w w') (hg : g < B) : At6 w' g ch a fa hi co se :=
  ⟨(hb.cell (p := ⟨g, 0, none⟩) hg).trans h.1, (hb.cell (p := ⟨g, 1, none⟩) hg).trans h.2.1, (hb.cell (p := ⟨g, 2, none⟩) hg).trans h.2.2.1, (hb.cell (p := ⟨g, 3, none⟩) hg).trans h.2.2.2.1, (hb.cell (p := ⟨g, 4, none⟩) hg).trans h.2.2.2.2.1, (hb.cell (p := ⟨g, 5, none⟩) hg).trans h.2.2.2.2.2⟩
theorem At6.keep {w w' : World} {g : Nat} {ch fa hi co se : Int} {a : Bool} (h : At6 w g ch a fa hi co se) (hb : Below w.heap.size w w') : At6 w' g ch a fa hi co se := h.keepB hb h.lt
theorem At6.new (w : World) (ch : Int) (a : Bool) (fa hi co se : Int) (t : TypeId) : At6 (w.alloc (.cells #[.int .u8 ch, .bool a, .int .u8 fa, .int .u8 hi, .int .u8 co, .int .u8 se] t)) w.heap.size ch a fa hi co se := by
  refine ⟨?_, ?_, ?_, ?_, ?_, ?_⟩ <;> simp [go_sem]
theorem At6.put {w : World} {g : Nat} {ch fa hi co se : Int} {a : Bool} (h : At6 w g ch a fa hi co se) (ch' fa' hi' co' se' : Int) (a' : Bool) : At6 (put6 w g (.int .u8 ch') (.bool a') (.int .u8 fa') (.int .u8 hi') (.int .u8 co') (.int .u8 se')) g ch' a' fa' hi' co' se' :=
  put6_cells h.1 h.2.1 h.2.2.1 h.2.2.2.1 h.2.2.2.2.1 h.2.2.2.2.2
/-- An attribute that is one, applied. -/
theorem apply_ok (t v : Nat) (hv : v < 256) (hk : knownB t v = true) (ch fa hi co se ch' fa' hi' co' se' : Int) (a a' : Bool) (h : appl ⟨ch, a, fa, hi, co, se⟩ (t, v) = ⟨ch', a', fa', hi', co', se'⟩) (w : World) :
    Calls Try.prog 55 #[pairV t v, cellV ch a fa hi co se] w fun e w' => e = .returned (.tuple #[cellV ch' a' fa' hi' co' se', .int .i64 0]) ∧ Below w.heap.size w w' := by
  have := apply_fun (t, v) hv hk ⟨ch, a, fa, hi, co, se⟩ w
  rw [h] at this
  exact this
theorem fold_step (ps : List (Nat × Nat)) (c : Cel) (k : Nat) (h : k < ps.length) : (ps.take (k + 1)).foldl appl c = appl ((ps.take k).foldl appl c) (ps.getD k (0, 0)) := by
  rw [List.take_succ_eq_append_getElem h, List.foldl_append, List.getD, List.getElem?_eq_getElem h]
  rfl
theorem pairs_drew {w : World} {v : Value} {ps : List (Nat × Nat)} (h : PairsIn w v ps) : PairsIn w.drew v ps := h
/-- A cell's block. -/
def Blk6 (w : World) (g : Nat) (ch : Int) (a : Bool) (fa hi co se : Int) : Prop := w.heap[g]? = some (.cells #[.int .u8 ch, .bool a, .int .u8 fa, .int .u8 hi, .int .u8 co, .int .u8 se] 80 (0, 0))
theorem Blk6.at6 {w : World} {g : Nat} {ch fa hi co se : Int} {a : Bool} (h : Blk6 w g ch a fa hi co se) : At6 w g ch a fa hi co se :=
  ⟨cell_of_row w g 0 _ 80 _ h, cell_of_row w g 1 _ 80 _ h, cell_of_row w g 2 _ 80 _ h, cell_of_row w g 3 _ 80 _ h, cell_of_row w g 4 _ 80 _ h, cell_of_row w g 5 _ 80 _ h⟩
theorem Blk6.lt {w : World} {g : Nat} {ch fa hi co se : Int} {a : Bool} (h : Blk6 w g ch a fa hi co se) : g < w.heap.size := (Array.getElem?_eq_some_iff.1 h).1
theorem Blk6.free {w : World} {g : Nat} {ch fa hi co se : Int} {a : Bool} (h : Blk6 w g ch a fa hi co se) (i : Nat) : w.frozen? ⟨g, i, none⟩ = false := frozen_of_row w g i _ 80 h
theorem Blk6.new (w : World) (ch : Int) (a : Bool) (fa hi co se : Int) : Blk6 (w.alloc (.cells #[.int .u8 ch, .bool a, .int .u8 fa, .int .u8 hi, .int .u8 co, .int .u8 se] 80)) w.heap.size ch a fa hi co se := heap_alloc_new w _
theorem Blk6.keepB {B : Nat} {w w' : World} {g : Nat} {ch fa hi co se : Int} {a : Bool} (h : Blk6 w g ch a fa hi co se) (hb : Below B w w') (hg : g < B) : Blk6 w' g ch a fa hi co se := (hb.block g hg).trans h
theorem Blk6.keep {w w' : World} {g : Nat} {ch fa hi co se : Int} {a : Bool} (h : Blk6 w g ch a fa hi co se) (hb : Below w.heap.size w w') : Blk6 w' g ch a fa hi co se := h.keepB hb h.lt
theorem Blk6.put {w : World} {g : Nat} {ch fa hi co se : Int} {a : Bool} (h : Blk6 w g ch a fa hi co se) (ch' fa' hi' co' se' : Int) (a' : Bool) : Blk6 (put6 w g (.int .u8 ch') (.bool a') (.int .u8 fa') (.int .u8 hi') (.int .u8 co') (.int .u8 se')) g ch' a' fa' hi' co' se' := by
  have h0 := Go.heap_setCell_same w g 0 _ 80 (.int .u8 ch') h
  have h1 := Go.heap_setCell_same _ g 1 _ 80 (.bool a') h0
  have h2 := Go.heap_setCell_same _ g 2 _ 80 (.int .u8 fa') h1
  have h3 := Go.heap_setCell_same _ g 3 _ 80 (.int .u8 hi') h2
  have h4 := Go.heap_setCell_same _ g 4 _ 80 (.int .u8 co') h3
  have h5 := Go.heap_setCell_same _ g 5 _ 80 (.int .u8 se') h4
  exact h5
theorem Blk6.far {w : World} {g g' : Nat} {ch fa hi co se : Int} {a : Bool} (h : Blk6 w g ch a fa hi co se) (hg : g ≠ g') (i : Nat) (u : Value) : Blk6 (w.setCell ⟨g', i, none⟩ u) g ch a fa hi co se := (Go.heap_setCell_other w _ g u hg).trans h
theorem Blk6.farput {w : World} {g g' : Nat} {ch fa hi co se : Int} {a : Bool} (h : Blk6 w g ch a fa hi co se) (hg : g ≠ g') (x0 x1 x2 x3 x4 x5 : Value) : Blk6 (put6 w g' x0 x1 x2 x3 x4 x5) g ch a fa hi co se :=
  (((((h.far hg 0 x0).far hg 1 x1).far hg 2 x2).far hg 3 x3).far hg 4 x4).far hg 5 x5
theorem gb_below {w a b : World} {r : Option Nat} (h : w.grownBy a r) (hb : Below a.heap.size a b) : w.grownBy b r :=
  ⟨hb.os.trans h.os, hb.tape.trans h.tape, hb.output.trans h.output, Nat.le_trans h.size hb.size, fun k hk hr => (hb.block k (Nat.lt_of_lt_of_le hk h.size)).trans (h.block k hk hr)⟩
theorem gb_set {w a : World} {g : Nat} (h : w.grownBy a (some g)) (i : Nat) (u : Value) : w.grownBy (a.setCell ⟨g, i, none⟩ u) (some g) :=
  ⟨h.os, h.tape, h.output, by simpa [World.setCell] using h.size, fun k hk hr => (Go.heap_setCell_other a _ k u (fun e => hr (by rw [e]))).trans (h.block k hk hr)⟩
theorem gb_put {w a : World} {g : Nat} (h : w.grownBy a (some g)) (x0 x1 x2 x3 x4 x5 : Value) : w.grownBy (put6 a g x0 x1 x2 x3 x4 x5) (some g) :=
  gb_set (gb_set (gb_set (gb_set (gb_set (gb_set h 0 x0) 1 x1) 2 x2) 3 x3) 4 x4) 5 x5
theorem gb_alloc {w a : World} {r : Option Nat} (h : w.grownBy a r) (o : Obj) : w.grownBy (a.alloc o) r := gb_below h ((Below.refl _ _).alloc (Nat.le_refl _) o)
theorem Blk6.grown {w w' : World} {g g' : Nat} {ch fa hi co se : Int} {a : Bool} (h : Blk6 w g ch a fa hi co se) (hg : w.grownBy w' (some g')) (hne : g ≠ g') : Blk6 w' g ch a fa hi co se :=
  (hg.block g h.lt (by simpa using hne)).trans h
theorem At6.grown {w w' : World} {g g' : Nat} {ch fa hi co se : Int} {a : Bool} (h : At6 w g ch a fa hi co se) (hg : w.grownBy w' (some g')) (hne : g ≠ g') : At6 w' g ch a fa hi co se :=
  ⟨hg.cell h.1 (by simpa using hne), hg.cell h.2.1 (by simpa using hne), hg.cell h.2.2.1 (by simpa using hne), hg.cell h.2.2.2.1 (by simpa using hne), hg.cell h.2.2.2.2.1 (by simpa using hne), hg.cell h.2.2.2.2.2 (by simpa using hne)⟩
/-- Slices of pairs, nil or not. -/
theorem pairs_uni {w : World} {v : Value} {ps : List (Nat × Nat)} (h : PairsIn w v ps) : ∃ x cap, v = .slice x ps.length cap ∧ ∀ k, k < ps.length → ∃ g off, x = some ⟨g, off, none⟩ ∧ w.cell? ⟨g, off + k * 2, none⟩ = some (.int .u8 (ps.getD k (0, 0)).1) ∧ w.cell? ⟨g, off + k * 2 + 1, none⟩ = some (.int .u8 (ps.getD k (0, 0)).2) := by
  rcases h with ⟨rfl, rfl⟩ | ⟨g, off, cap, rfl, h⟩
  · exact ⟨none, 0, rfl, fun k hk => absurd hk (Nat.not_lt_zero k)⟩
  · exact ⟨some ⟨g, off, none⟩, cap, rfl, fun k hk => ⟨g, off, rfl, h k hk⟩⟩
/-- A cell as a list of attributes makes it. -/
def BlkC (w : World) (g : Nat) (c : Cel) : Prop := Blk6 w g c.ch c.a c.fa c.hi c.co c.se
theorem getD_mem {ps : List (Nat × Nat)} {k : Nat} (h : k < ps.length) {Q : Nat × Nat → Prop} (hq : ∀ p ∈ ps, Q p) : Q (ps.getD k (0, 0)) := by
  rw [List.getD, List.getElem?_eq_getElem h]
  exact hq _ (List.getElem_mem h)

theorem two_kept {W w1 w2 : World} {n m : Nat} {x0 x2 x3 x4 x5 y0 y2 y3 y4 y5 : Int} {x1 y1 : Bool} (hb : Below w1.heap.size w1 w2)
    (h : w1.cell? ⟨n, 0, none⟩ = some (.int .u8 x0) ∧ w1.cell? ⟨n, 1, none⟩ = some (.bool x1) ∧ w1.cell? ⟨n, 2, none⟩ = some (.int .u8 x2) ∧ w1.cell? ⟨n, 3, none⟩ = some (.int .u8 x3) ∧ w1.cell? ⟨n, 4, none⟩ = some (.int .u8 x4) ∧ w1.cell? ⟨n, 5, none⟩ = some (.int .u8 x5) ∧ w1.cell? ⟨m, 0, none⟩ = some (.int .u8 y0) ∧ w1.cell? ⟨m, 1, none⟩ = some (.bool y1) ∧ w1.cell? ⟨m, 2, none⟩ = some (.int .u8 y2) ∧ w1.cell? ⟨m, 3, none⟩ = some (.int .u8 y3) ∧ w1.cell? ⟨m, 4, none⟩ = some (.int .u8 y4) ∧ w1.cell? ⟨m, 5, none⟩ = some (.int .u8 y5) ∧ Below W.heap.size W w1) :
    w2.cell? ⟨n, 0, none⟩ = some (.int .u8 x0) ∧ w2.cell? ⟨n, 1, none⟩ = some (.bool x1) ∧ w2.cell? ⟨n, 2, none⟩ = some (.int .u8 x2) ∧ w2.cell? ⟨n, 3, none⟩ = some (.int .u8 x3) ∧ w2.cell? ⟨n, 4, none⟩ = some (.int .u8 x4) ∧ w2.cell? ⟨n, 5, none⟩ = some (.int .u8 x5) ∧ w2.cell? ⟨m, 0, none⟩ = some (.int .u8 y0) ∧ w2.cell? ⟨m, 1, none⟩ = some (.bool y1) ∧ w2.cell? ⟨m, 2, none⟩ = some (.int .u8 y2) ∧ w2.cell? ⟨m, 3, none⟩ = some (.int .u8 y3) ∧ w2.cell? ⟨m, 4, none⟩ = some (.int .u8 y4) ∧ w2.cell? ⟨m, 5, none⟩ = some (.int .u8 y5) ∧ Below W.heap.size W w2 :=
  ⟨keepc hb h.1, keepc hb h.2.1, keepc hb h.2.2.1, keepc hb h.2.2.2.1, keepc hb h.2.2.2.2.1, keepc hb h.2.2.2.2.2.1, keepc hb h.2.2.2.2.2.2.1, keepc hb h.2.2.2.2.2.2.2.1, keepc hb h.2.2.2.2.2.2.2.2.1, keepc hb h.2.2.2.2.2.2.2.2.2.1, keepc hb h.2.2.2.2.2.2.2.2.2.2.1, keepc hb h.2.2.2.2.2.2.2.2.2.2.2.1, below_t h.2.2.2.2.2.2.2.2.2.2.2.2 hb⟩

set_option maxRecDepth 100000 in
set_option maxHeartbeats 8000000 in
theorem attrMakes_gen (cha fab chb : Int) (a ab : Bool) (faa h c s h' c' s' : Nat) (P : List (Nat × Nat)) (F : Int) (hf : faa < 256) (hh' : h' < 256) (hc' : c' < 256) (hs' : s' < 256)
    (hP : P.length ≤ 4) (hPv : ∀ p ∈ P, p.2 < 256) (hF : F = if a then six6 faa else 0)
    (hpr : ∀ w, Calls Try.prog 66 #[cellV cha a faa h c s] w (PairsDone P w)) (hrp : ∀ w, Calls Try.prog 67 #[cellV cha a faa h c s] w (PairsDone P w))
    (hmk : P.foldl appl ⟨cha, a, 0, 0, 0, 0⟩ = ⟨cha, a, F, h, c, s⟩) (w : World) :
    Calls Try.prog 13 #[cellV cha a faa h c s, cellV chb ab fab h' c' s'] w fun e w' => e = .returned (.bool true) ∧ Below w.heap.size w w' := by
  have HPR := hid hpr
  have HRP := hid hrp
  have HMK := hid hmk
  have HPV := hid hPv
  have HF := hid hF
  have HDV := hid (diffL_lt h c s h' c' s' hh' hc' hs')
  have HDL := hid (diffL_len h c s h' c' s')
  have HDA := hid (fun w => diff_any cha faa chb fab a ab h c s h' c' s' w)
  have HDR := hid (fun w => rdiff_any cha faa chb fab a ab h c s h' c' s' w)
  have HDM := hid (made_diff cha faa a h c s h' c' s')
  have HS5 := hid (rsix5_any faa hf)
  clear hpr hrp hmk hPv hF hh' hc' hs' hf
  generalize diffL h c s h' c' s' = D at HDV HDL HDA HDR HDM
  have hP5 : P.length ≤ 100000 := by omega
  have hD5 : D.length ≤ 100000 := by have := HDL.out; omega
  go_enter Try.func13, Try.ntmps13
  go_wp2_with fail
  with_reducible refine (awake5_true _).mono ?_
  rintro e w1 ⟨rfl, hb⟩
  have HA1 := hid (((At6.new w cha a faa h c s 80).keep (w' := (w.alloc (.cells #[.int .u8 cha, .bool a, .int .u8 faa, .int .u8 h, .int .u8 c, .int .u8 s] 80)).alloc (.cells #[.int .u8 chb, .bool ab, .int .u8 fab, .int .u8 h', .int .u8 c', .int .u8 s'] 80)) ((Below.refl _ _).alloc (Nat.le_refl _) _)).keep hb)
  have HB1 := hid ((At6.new (w.alloc (.cells #[.int .u8 cha, .bool a, .int .u8 faa, .int .u8 h, .int .u8 c, .int .u8 s] 80)) chb ab fab h' c' s' 80).keep hb)
  rw [show (w.alloc (.cells #[.int .u8 cha, .bool a, .int .u8 faa, .int .u8 h, .int .u8 c, .int .u8 s] 80)).heap.size = w.heap.size + 1 by simp] at HB1
  have HW1 := hid ((((Below.refl w.heap.size w).alloc (Nat.le_refl _) (.cells #[.int .u8 cha, .bool a, .int .u8 faa, .int .u8 h, .int .u8 c, .int .u8 s] 80)).alloc (by simp) (.cells #[.int .u8 chb, .bool ab, .int .u8 fab, .int .u8 h', .int .u8 c', .int .u8 s'] 80)).trans (hb.mono (by simp; omega)))
  clear hb
  obtain ⟨a0, a1, a2, a3, a4, a5⟩ := HA1.out
  go_wp2_with fail
  with_reducible refine (HPR.out _).mono ?_
  rintro e w2 ⟨l, rfl, hl, hb, -⟩
  have HA2 := hid (HA1.out.keep hb)
  have HB2 := hid (HB1.out.keep hb)
  have HW2 := hid (below_t HW1.out hb)
  have HL2 := hid hl
  clear hb hl a0 a1 a2 a3 a4 a5 HA1 HB1 HW1 HPR
  go_upto_region 4 with fail
  go_cut [37] (fun t wx => t = .bool false ∧ Below w2.heap.size w2 wx)
  case first =>
    have HX : Hid (w2.drew.cell? ⟨w.heap.size, 0, none⟩ = some (.int .u8 cha) ∧ w2.drew.cell? ⟨w.heap.size, 1, none⟩ = some (.bool a) ∧ w2.drew.cell? ⟨w.heap.size, 2, none⟩ = some (.int .u8 faa) ∧ w2.drew.cell? ⟨w.heap.size, 3, none⟩ = some (.int .u8 h) ∧ w2.drew.cell? ⟨w.heap.size, 4, none⟩ = some (.int .u8 c) ∧ w2.drew.cell? ⟨w.heap.size, 5, none⟩ = some (.int .u8 s) ∧ w2.drew.cell? ⟨w.heap.size + 1, 0, none⟩ = some (.int .u8 chb) ∧ w2.drew.cell? ⟨w.heap.size + 1, 1, none⟩ = some (.bool ab) ∧ w2.drew.cell? ⟨w.heap.size + 1, 2, none⟩ = some (.int .u8 fab) ∧ w2.drew.cell? ⟨w.heap.size + 1, 3, none⟩ = some (.int .u8 h') ∧ w2.drew.cell? ⟨w.heap.size + 1, 4, none⟩ = some (.int .u8 c') ∧ w2.drew.cell? ⟨w.heap.size + 1, 5, none⟩ = some (.int .u8 s') ∧ Below w2.heap.size w2 w2.drew) :=
      ⟨HA2.out.1, HA2.out.2.1, HA2.out.2.2.1, HA2.out.2.2.2.1, HA2.out.2.2.2.2.1, HA2.out.2.2.2.2.2, HB2.out.1, HB2.out.2.1, HB2.out.2.2.1, HB2.out.2.2.2.1, HB2.out.2.2.2.2.1, HB2.out.2.2.2.2.2, (Below.refl _ _).drew⟩
    have HL0 := hid (pairs_drew HL2.out)
    go_region_held3 (fun w' => w'.cell? ⟨w.heap.size, 0, none⟩ = some (.int .u8 cha) ∧ w'.cell? ⟨w.heap.size, 1, none⟩ = some (.bool a) ∧ w'.cell? ⟨w.heap.size, 2, none⟩ = some (.int .u8 faa) ∧ w'.cell? ⟨w.heap.size, 3, none⟩ = some (.int .u8 h) ∧ w'.cell? ⟨w.heap.size, 4, none⟩ = some (.int .u8 c) ∧ w'.cell? ⟨w.heap.size, 5, none⟩ = some (.int .u8 s) ∧ w'.cell? ⟨w.heap.size + 1, 0, none⟩ = some (.int .u8 chb) ∧ w'.cell? ⟨w.heap.size + 1, 1, none⟩ = some (.bool ab) ∧ w'.cell? ⟨w.heap.size + 1, 2, none⟩ = some (.int .u8 fab) ∧ w'.cell? ⟨w.heap.size + 1, 3, none⟩ = some (.int .u8 h') ∧ w'.cell? ⟨w.heap.size + 1, 4, none⟩ = some (.int .u8 c') ∧ w'.cell? ⟨w.heap.size + 1, 5, none⟩ = some (.int .u8 s') ∧ Below w2.heap.size w2 w') (first | exact two_kept (by assumption) (by assumption) | assumption | exact HX.out)
      (first
        | (go_at_call 63; (with_reducible refine ((back_any _ P hP5 _ HL0.out).mono fun _ _ h => pairs_of_own h).mono ?_); rintro e wa ⟨la, rfl, hla, hba⟩; have HLA := hid hla; clear hla)
        | (go_at_call 67; (with_reducible refine (HRP.out _).mono ?_); rintro e wb ⟨lb, rfl, hlb, hbb, -⟩; have HLB := hid hlb; have HLA2 := hid (pairs_below HLA.out hbb); clear hlb HLA)
        | (go_at_call 62; (with_reducible refine (equal_same _ _ P hP5 _ HLA2.out HLB.out).mono ?_); rintro e wc ⟨rfl, hbc⟩)
        | (go_at_call 68; (with_reducible refine (HDA.out _).mono ?_); rintro e wd ⟨ld, rfl, hld, hbd, -⟩; have HLD := hid hld; clear hld)
        | (go_at_call 63; (with_reducible refine ((back_any _ D hD5 _ HLD.out).mono fun _ _ h => pairs_of_own h).mono ?_); rintro e we ⟨le, rfl, hle, hbe⟩; have HLE := hid hle; clear hle)
        | (go_at_call 69; (with_reducible refine (HDR.out _).mono ?_); rintro e wf ⟨lf, rfl, hlf, hbf, -⟩; have HLF := hid hlf; have HLE2 := hid (pairs_below HLE.out hbf); clear hlf HLE)
        | (go_at_call 62; (with_reducible refine (equal_same _ _ D hD5 _ HLE2.out HLF.out).mono ?_); rintro e wg ⟨rfl, hbg⟩))
    all_goals
      rename_i hH
      go_wp2_with fail
      go_meet
      exact ⟨rfl, hH.2.2.2.2.2.2.2.2.2.2.2.2⟩
  case rest =>
    obtain ⟨rfl, hX⟩ := hcut
    have HL3 := hid (pairs_below HL2.out hX)
    have HA3 := hid (HA2.out.keep hX)
    have HB3 := hid (HB2.out.keep hX)
    have HW3 := hid (below_t HW2.out hX)
    clear hX HA2 HB2 HW2 HL2 HRP HDR
    obtain ⟨a0, a1, a2, a3, a4, a5⟩ := HA3.out
    obtain ⟨x, cap, rfl, hl⟩ := pairs_uni HL3.out
    have HLC := hid hl
    obtain ⟨n, hn⟩ : ∃ n, n = P.length := ⟨_, rfl⟩
    rw [← hn] at HLC ⊢
    have hn4 : n ≤ 4 := by omega
    have HN := hid hn
    clear hl hn hP hP5
    go_wp2
    go_loopw [45] (fun i w' => ∃ k : Nat, k ≤ n ∧ i = .int .i64 k ∧ Hid (BlkC w' wc.heap.size ((P.take k).foldl appl ⟨cha, a, 0, 0, 0, 0⟩)) ∧ Hid (Below wc.heap.size wc w')) (fun i _ => n - (intOf i).toNat)
    case atStart => exact ⟨0, Nat.zero_le _, rfl, Blk6.new wc cha a 0 0 0 0, (Below.refl _ _).alloc (Nat.le_refl _) _⟩
    case round =>
      obtain ⟨k, hk, rfl, HC, HB⟩ := hrel
      clear a0 a1 a2 a3 a4 a5
      by_cases hlt : k < n
      · obtain ⟨g, off, rfl, p0, p1⟩ := HLC.out k hlt
        have z0 := (HB.out.cell (p := ⟨g, off + k * 2, none⟩) (World.block_lt_of_cell? _ _ p0)).trans p0
        have z1 := (HB.out.cell (p := ⟨g, off + k * 2 + 1, none⟩) (World.block_lt_of_cell? _ _ p1)).trans p1
        have hkP : k < P.length := by rw [← HN.out]; exact hlt
        have HST := hid (fold_step P ⟨cha, a, 0, 0, 0, 0⟩ k hkP)
        have hv := getD_mem hkP HPV.out
        clear p0 p1 hkP
        generalize P.getD k (0, 0) = pr at z0 z1 HST hv
        obtain ⟨t, v⟩ := pr
        generalize (P.take k).foldl appl ⟨cha, a, 0, 0, 0, 0⟩ = cel at HC HST
        obtain ⟨ch1, at1, fa1, hi1, co1, se1⟩ := cel
        have HC1 : Hid (Blk6 wr wc.heap.size ch1 at1 fa1 hi1 co1 se1) := HC.out
        obtain ⟨c0, c1, c2, c3, c4, c5⟩ := HC1.out.at6
        have hki : (k : Int) < n := by omega
        have hlr := HC1.out.lt
        dsimp only at z0 z1 hv
        by_cases hkn : knownB t v = true
        · obtain ⟨ch2, at2, fa2, hi2, co2, se2, hap⟩ : ∃ ch2 at2 fa2 hi2 co2 se2, appl ⟨ch1, at1, fa1, hi1, co1, se1⟩ (t, v) = ⟨ch2, at2, fa2, hi2, co2, se2⟩ := ⟨_, _, _, _, _, _, rfl⟩
          have HAP := hid (apply_ok t v hv hkn ch1 fa1 hi1 co1 se1 ch2 fa2 hi2 co2 se2 at1 at2 hap)
          rw [hap] at HST
          clear hap hkn HC
          go_wp2_with fail
          with_reducible refine (HAP.out _).mono ?_
          rintro e w5 ⟨rfl, hb⟩
          have HC5 := hid ((HC1.out.keep (w' := wr.alloc (.cells #[.int .u8 t, .int .u8 v] 82)) ((Below.refl _ _).alloc (Nat.le_refl _) _)).keep hb)
          have HB5 := hid ((HB.out.alloc HB.out.size (.cells #[.int .u8 t, .int .u8 v] 82)).trans (hb.mono (by have := HB.out.size; simp; omega)))
          clear hb c0 c1 c2 c3 c4 c5 HC1 HB HAP z0 z1
          have hlw := HC5.out.lt
          obtain ⟨c0, c1, c2, c3, c4, c5⟩ := HC5.out.at6
          have f0 := HC5.out.free 0
          have f1 := HC5.out.free 1
          have f2 := HC5.out.free 2
          have f3 := HC5.out.free 3
          have f4 := HC5.out.free 4
          have f5 := HC5.out.free 5
          go_wp2
          go_roundw
          case rel =>
            refine ⟨k + 1, by omega, by go_num, ?_, ?_⟩
            · show BlkC _ _ _
              rw [HST.out]
              have q := (HC5.out.put ch2 fa2 hi2 co2 se2 at2).keep ((Below.refl _ _).alloc (Nat.le_refl _) (.cells #[.int .u8 ch2, .bool at2, .int .u8 fa2, .int .u8 hi2, .int .u8 co2, .int .u8 se2] 80))
              unfold put6 at q
              exact q
            · have q := (put6_below (.int .u8 ch2) (.bool at2) (.int .u8 fa2) (.int .u8 hi2) (.int .u8 co2) (.int .u8 se2) HB5.out (Nat.le_refl wc.heap.size)).alloc (put6_below (.int .u8 ch2) (.bool at2) (.int .u8 fa2) (.int .u8 hi2) (.int .u8 co2) (.int .u8 se2) HB5.out (Nat.le_refl wc.heap.size)).size (.cells #[.int .u8 ch2, .bool at2, .int .u8 fa2, .int .u8 hi2, .int .u8 co2, .int .u8 se2] 80)
              unfold put6 at q
              exact q
          case measure => simp [intOf]; omega
        · have hkf : knownB t v = false := by simpa using hkn
          have HAP := hid (apply_no t v hv hkf ch1 fa1 hi1 co1 se1 at1)
          clear hkn hkf HC
          go_wp2_with fail
          with_reducible refine (HAP.out _).mono ?_
          rintro e w5 ⟨rfl, hb⟩
          have HB5 := hid ((HB.out.alloc HB.out.size (.cells #[.int .u8 t, .int .u8 v] 82)).trans (hb.mono (by have := HB.out.size; simp; omega)))
          have HB6 := hid (HB5.out.alloc HB5.out.size (.cells #[.int .u8 0, .bool false, .int .u8 0, .int .u8 0, .int .u8 0, .int .u8 0] 80))
          clear hb
          go_wp2
          go_ret
          exact ⟨rfl, HW3.out.trans (HB6.out.mono HW3.out.size)⟩
      · have HC1 : Hid (Blk6 wr wc.heap.size cha a F h c s) := by
          have q := HC.out
          rw [show k = P.length by rw [← HN.out]; omega, List.take_length, HMK.out] at q
          exact q
        have HA4 := hid (HA3.out.keepB HB.out HA3.out.lt)
        have HB4 := hid (HB3.out.keepB HB.out HB3.out.lt)
        have HW4 := hid (HW3.out.trans (HB.out.mono HW3.out.size))
        have hwg : w.heap.size ≤ wc.heap.size := HW3.out.size
        clear HC HB HA3 HB3 HW3 HL3 HLC HMK HPV
        obtain ⟨G, hG⟩ : ∃ G, G = wc.heap.size := ⟨_, rfl⟩
        rw [← hG] at HC1 hwg ⊢
        clear hG
        obtain ⟨a0, a1, a2, a3, a4, a5⟩ := HA4.out
        have hlw := HC1.out.lt
        have hla := HA4.out.lt
        have hlb := HB4.out.lt
        cases a
        · have hF0 : F = 0 := HF.out
          subst hF0
          go_upto_region 19 with fail
          have HX := hid (Blk6.new wr cha false 0 h c s)
          have HWX := hid ((Below.refl wr.heap.size wr).alloc (Nat.le_refl _) (.cells #[.int .u8 cha, .bool false, .int .u8 0, .int .u8 h, .int .u8 c, .int .u8 s] 80))
          generalize (wr.alloc (.cells #[.int .u8 cha, .bool false, .int .u8 0, .int .u8 h, .int .u8 c, .int .u8 s] 80)) = wx at HX HWX ⊢
          have HC7 := hid (HC1.out.keepB HWX.out HC1.out.lt)
          have HA7 := hid (HA4.out.keepB HWX.out HA4.out.lt)
          have HB7 := hid (HB4.out.keepB HWX.out HB4.out.lt)
          have HW7 := hid (HW4.out.trans (HWX.out.mono HW4.out.size))
          clear HC1 HA4 HB4 HW4 HWX hla hlb a0 a1 a2 a3 a4 a5 HS5
          generalize wr.heap.size = G11 at HX hlw ⊢
          obtain ⟨a0, a1, a2, a3, a4, a5⟩ := HA7.out
          obtain ⟨b0, b1, b2, b3, b4, b5⟩ := HB7.out
          have l0 := HA7.out.lt
          have l1 := HB7.out.lt
          have l2 := HC7.out.lt
          have l3 := HX.out.lt
          go_wp2_with fail
          with_reducible refine (HDA.out _).mono ?_
          rintro e wy ⟨v, rfl, hp, hb, hnew⟩
          have HD8 := hid ((Blk6.new wx cha false faa h c s).keep hb)
          have hbw : Below wx.heap.size wx wy := ((Below.refl wx.heap.size wx).alloc (Nat.le_refl _) _).trans (hb.mono (by simp))
          have HC8 := hid (HC7.out.keep hbw)
          have HX8 := hid (HX.out.keep hbw)
          have HB8 := hid (HB7.out.keep hbw)
          have HW8 := hid (below_t HW7.out hbw)
          have HNW := hid (show ∀ k, v.ownBlock = some k → wx.heap.size + 1 ≤ k from fun k hk => by have := hnew k hk; simpa using this)
          clear hb hbw hnew a0 a1 a2 a3 a4 a5 b0 b1 b2 b3 b4 b5 HA7 HB7 HC7 HX HW7
          generalize wx.heap.size = G12 at HD8 HNW l0 l1 l2 l3 ⊢
          obtain ⟨x', cap', rfl, hl⟩ := pairs_uni hp
          have HLC := hid hl
          obtain ⟨m, hm⟩ : ∃ m, m = D.length := ⟨_, rfl⟩
          rw [← hm] at HLC HNW ⊢
          have hm3 : m ≤ 3 := by have := HDL.out; omega
          have HM := hid hm
          clear hl hm hp hD5
          go_wp2
          go_loopw [72] (fun i w' => ∃ k : Nat, k ≤ m ∧ i = .int .i64 k ∧ Hid (BlkC w' G12 ((D.take k).foldl appl ⟨cha, false, faa, h, c, s⟩)) ∧ Hid (wy.grownBy w' (some G12))) (fun i _ => m - (intOf i).toNat)
          case atStart => exact ⟨0, Nat.zero_le _, rfl, HD8.out, World.grownBy.refl _ _⟩
          case round =>
            obtain ⟨k, hk, rfl, HC, HG⟩ := hrel
            by_cases hlt : k < m
            · obtain ⟨g, off, rfl, p0, p1⟩ := HLC.out k hlt
              have hgn : G12 + 1 ≤ g := HNW.out g rfl
              have z0 := HG.out.cell p0 (by simp; omega)
              have z1 := HG.out.cell p1 (by simp; omega)
              have hkD : k < D.length := by rw [← HM.out]; exact hlt
              have HST := hid (fold_step D ⟨cha, false, faa, h, c, s⟩ k hkD)
              have hv := getD_mem hkD HDV.out
              clear p0 p1 hkD
              generalize D.getD k (0, 0) = pr at z0 z1 HST hv
              obtain ⟨t, v⟩ := pr
              generalize (D.take k).foldl appl ⟨cha, false, faa, h, c, s⟩ = cel at HC HST
              obtain ⟨ch1, at1, fa1, hi1, co1, se1⟩ := cel
              have HC1 : Hid (Blk6 wr G12 ch1 at1 fa1 hi1 co1 se1) := HC.out
              obtain ⟨c0, c1, c2, c3, c4, c5⟩ := HC1.out.at6
              have hki : (k : Int) < m := by omega
              have hlr := HC1.out.lt
              dsimp only at z0 z1 hv
              by_cases hkn : knownB t v = true
              · obtain ⟨ch2, at2, fa2, hi2, co2, se2, hap⟩ : ∃ ch2 at2 fa2 hi2 co2 se2, appl ⟨ch1, at1, fa1, hi1, co1, se1⟩ (t, v) = ⟨ch2, at2, fa2, hi2, co2, se2⟩ := ⟨_, _, _, _, _, _, rfl⟩
                have HAP := hid (apply_ok t v hv hkn ch1 fa1 hi1 co1 se1 ch2 fa2 hi2 co2 se2 at1 at2 hap)
                rw [hap] at HST
                clear hap hkn HC
                go_wp2_with fail
                with_reducible refine (HAP.out _).mono ?_
                rintro e w5 ⟨rfl, hb⟩
                have HC5 := hid ((HC1.out.keep (w' := wr.alloc (.cells #[.int .u8 t, .int .u8 v] 82)) ((Below.refl _ _).alloc (Nat.le_refl _) _)).keep hb)
                have HG5 := hid (gb_below (gb_alloc HG.out (.cells #[.int .u8 t, .int .u8 v] 82)) hb)
                clear hb c0 c1 c2 c3 c4 c5 HC1 HG HAP z0 z1
                have hlw := HC5.out.lt
                obtain ⟨c0, c1, c2, c3, c4, c5⟩ := HC5.out.at6
                have f0 := HC5.out.free 0
                have f1 := HC5.out.free 1
                have f2 := HC5.out.free 2
                have f3 := HC5.out.free 3
                have f4 := HC5.out.free 4
                have f5 := HC5.out.free 5
                go_wp2
                go_roundw
                case rel =>
                  refine ⟨k + 1, by omega, by go_num, ?_, ?_⟩
                  · show BlkC _ _ _
                    rw [HST.out]
                    have q := (HC5.out.put ch2 fa2 hi2 co2 se2 at2).keep ((Below.refl _ _).alloc (Nat.le_refl _) (.cells #[.int .u8 ch2, .bool at2, .int .u8 fa2, .int .u8 hi2, .int .u8 co2, .int .u8 se2] 80))
                    unfold put6 at q
                    exact q
                  · have q := gb_alloc (gb_put HG5.out (.int .u8 ch2) (.bool at2) (.int .u8 fa2) (.int .u8 hi2) (.int .u8 co2) (.int .u8 se2)) (.cells #[.int .u8 ch2, .bool at2, .int .u8 fa2, .int .u8 hi2, .int .u8 co2, .int .u8 se2] 80)
                    unfold put6 at q
                    exact q
                case measure => simp [intOf]; omega
              · have hkf : knownB t v = false := by simpa using hkn
                have HAP := hid (apply_no t v hv hkf ch1 fa1 hi1 co1 se1 at1)
                clear hkn hkf HC
                go_wp2_with fail
                with_reducible refine (HAP.out _).mono ?_
                rintro e w5 ⟨rfl, hb⟩
                have HG5 := hid (gb_below (gb_alloc HG.out (.cells #[.int .u8 t, .int .u8 v] 82)) hb)
                clear hb c0 c1 c2 c3 c4 c5 z0 z1
                have HC9 := hid (HC8.out.grown HG5.out (by omega))
                have HX9 := hid (HX8.out.grown HG5.out (by omega))
                obtain ⟨c0, c1, c2, c3, c4, c5⟩ := HC9.out.at6
                obtain ⟨d0, d1, d2, d3, d4, d5⟩ := HX9.out.at6
                have k0 := HC9.out.lt
                have k1 := HX9.out.lt
                go_wp2
                go_ret
                exact ⟨rfl, (HW8.out.grown HG5.out HW8.out.size (fun k hk => by cases hk; omega)).alloc (Nat.le_trans HW8.out.size HG5.out.size) _⟩
            · obtain ⟨faz, hmd⟩ := HDM.out
              have HC1 : Hid (Blk6 wr G12 cha false faz h' c' s') := by
                have q := HC.out
                rw [show k = D.length by rw [← HM.out]; omega, List.take_length, hmd] at q
                exact q
              have HC9 := hid (HC8.out.grown HG.out (by omega))
              have HX9 := hid (HX8.out.grown HG.out (by omega))
              have HB9 := hid (HB8.out.grown HG.out (by omega))
              obtain ⟨c0, c1, c2, c3, c4, c5⟩ := HC9.out.at6
              obtain ⟨d0, d1, d2, d3, d4, d5⟩ := HX9.out.at6
              obtain ⟨e0, e1, e2, e3, e4, e5⟩ := HC1.out.at6
              obtain ⟨b0, b1, b2, b3, b4, b5⟩ := HB9.out
              clear hmd HC
              go_wp2
              go_ret
              exact ⟨rfl, HW8.out.grown HG.out HW8.out.size (fun k hk => by cases hk; omega)⟩
        · have hF0 : F = six6 faa := HF.out
          subst hF0
          go_wp2_with fail
          with_reducible refine (HS5.out _).mono ?_
          rintro e w6 ⟨rfl, hb⟩
          have HD6 := hid ((Blk6.new wr cha true faa h c s).keep hb)
          have HW6 := hid (((Below.refl wr.heap.size wr).alloc (Nat.le_refl _) (.cells #[.int .u8 cha, .bool true, .int .u8 faa, .int .u8 h, .int .u8 c, .int .u8 s] 80)).trans (hb.mono (by simp)))
          clear hb a0 a1 a2 a3 a4 a5
          have HA6 := hid (HA4.out.keepB HW6.out HA4.out.lt)
          obtain ⟨a0, a1, a2, a3, a4, a5⟩ := HA6.out
          have c2 := HD6.out.at6.2.2.1
          have f2 := HD6.out.free 2
          have hl6 := HD6.out.lt
          have hla6 := HA6.out.lt
          go_upto_region 19 with fail
          have HX : Hid (Blk6 (w6.setCell ⟨wr.heap.size, 2, none⟩ (.int .u8 (six6 faa))) wr.heap.size cha true (six6 faa) h c s) := Go.heap_setCell_same w6 wr.heap.size 2 _ 80 (.int .u8 (six6 faa)) HD6.out
          have HWX := hid (HW6.out.setCell (p := ⟨wr.heap.size, 2, none⟩) (Nat.le_refl _) (.int .u8 (six6 faa)))
          generalize (w6.setCell ⟨wr.heap.size, 2, none⟩ (.int .u8 (six6 faa))) = wx at HX HWX ⊢
          generalize six6 faa = FZ at HX HC1
          have HC7 := hid (HC1.out.keepB HWX.out HC1.out.lt)
          have HA7 := hid (HA4.out.keepB HWX.out HA4.out.lt)
          have HB7 := hid (HB4.out.keepB HWX.out HB4.out.lt)
          have HW7 := hid (HW4.out.trans (HWX.out.mono HW4.out.size))
          clear HC1 HA4 HB4 HW4 HWX hla hlb a0 a1 a2 a3 a4 a5 HS5 HD6 HW6 HA6 c2 f2 hl6 hla6
          generalize wr.heap.size = G11 at HX hlw ⊢
          obtain ⟨a0, a1, a2, a3, a4, a5⟩ := HA7.out
          obtain ⟨b0, b1, b2, b3, b4, b5⟩ := HB7.out
          have l0 := HA7.out.lt
          have l1 := HB7.out.lt
          have l2 := HC7.out.lt
          have l3 := HX.out.lt
          go_wp2_with fail
          with_reducible refine (HDA.out _).mono ?_
          rintro e wy ⟨v, rfl, hp, hb, hnew⟩
          have HD8 := hid ((Blk6.new wx cha true faa h c s).keep hb)
          have hbw : Below wx.heap.size wx wy := ((Below.refl wx.heap.size wx).alloc (Nat.le_refl _) _).trans (hb.mono (by simp))
          have HC8 := hid (HC7.out.keep hbw)
          have HX8 := hid (HX.out.keep hbw)
          have HB8 := hid (HB7.out.keep hbw)
          have HW8 := hid (below_t HW7.out hbw)
          have HNW := hid (show ∀ k, v.ownBlock = some k → wx.heap.size + 1 ≤ k from fun k hk => by have := hnew k hk; simpa using this)
          clear hb hbw hnew a0 a1 a2 a3 a4 a5 b0 b1 b2 b3 b4 b5 HA7 HB7 HC7 HX HW7
          generalize wx.heap.size = G12 at HD8 HNW l0 l1 l2 l3 ⊢
          obtain ⟨x', cap', rfl, hl⟩ := pairs_uni hp
          have HLC := hid hl
          obtain ⟨m, hm⟩ : ∃ m, m = D.length := ⟨_, rfl⟩
          rw [← hm] at HLC HNW ⊢
          have hm3 : m ≤ 3 := by have := HDL.out; omega
          have HM := hid hm
          clear hl hm hp hD5
          go_wp2
          go_loopw [72] (fun i w' => ∃ k : Nat, k ≤ m ∧ i = .int .i64 k ∧ Hid (BlkC w' G12 ((D.take k).foldl appl ⟨cha, true, faa, h, c, s⟩)) ∧ Hid (wy.grownBy w' (some G12))) (fun i _ => m - (intOf i).toNat)
          case atStart => exact ⟨0, Nat.zero_le _, rfl, HD8.out, World.grownBy.refl _ _⟩
          case round =>
            obtain ⟨k, hk, rfl, HC, HG⟩ := hrel
            by_cases hlt : k < m
            · obtain ⟨g, off, rfl, p0, p1⟩ := HLC.out k hlt
              have hgn : G12 + 1 ≤ g := HNW.out g rfl
              have z0 := HG.out.cell p0 (by simp; omega)
              have z1 := HG.out.cell p1 (by simp; omega)
              have hkD : k < D.length := by rw [← HM.out]; exact hlt
              have HST := hid (fold_step D ⟨cha, true, faa, h, c, s⟩ k hkD)
              have hv := getD_mem hkD HDV.out
              clear p0 p1 hkD
              generalize D.getD k (0, 0) = pr at z0 z1 HST hv
              obtain ⟨t, v⟩ := pr
              generalize (D.take k).foldl appl ⟨cha, true, faa, h, c, s⟩ = cel at HC HST
              obtain ⟨ch1, at1, fa1, hi1, co1, se1⟩ := cel
              have HC1 : Hid (Blk6 wr G12 ch1 at1 fa1 hi1 co1 se1) := HC.out
              obtain ⟨c0, c1, c2, c3, c4, c5⟩ := HC1.out.at6
              have hki : (k : Int) < m := by omega
              have hlr := HC1.out.lt
              dsimp only at z0 z1 hv
              by_cases hkn : knownB t v = true
              · obtain ⟨ch2, at2, fa2, hi2, co2, se2, hap⟩ : ∃ ch2 at2 fa2 hi2 co2 se2, appl ⟨ch1, at1, fa1, hi1, co1, se1⟩ (t, v) = ⟨ch2, at2, fa2, hi2, co2, se2⟩ := ⟨_, _, _, _, _, _, rfl⟩
                have HAP := hid (apply_ok t v hv hkn ch1 fa1 hi1 co1 se1 ch2 fa2 hi2 co2 se2 at1 at2 hap)
                rw [hap] at HST
                clear hap hkn HC
                go_wp2_with fail
                with_reducible refine (HAP.out _).mono ?_
                rintro e w5 ⟨rfl, hb⟩
                have HC5 := hid ((HC1.out.keep (w' := wr.alloc (.cells #[.int .u8 t, .int .u8 v] 82)) ((Below.refl _ _).alloc (Nat.le_refl _) _)).keep hb)
                have HG5 := hid (gb_below (gb_alloc HG.out (.cells #[.int .u8 t, .int .u8 v] 82)) hb)
                clear hb c0 c1 c2 c3 c4 c5 HC1 HG HAP z0 z1
                have hlw := HC5.out.lt
                obtain ⟨c0, c1, c2, c3, c4, c5⟩ := HC5.out.at6
                have f0 := HC5.out.free 0
                have f1 := HC5.out.free 1
                have f2 := HC5.out.free 2
                have f3 := HC5.out.free 3
                have f4 := HC5.out.free 4
                have f5 := HC5.out.free 5
                go_wp2
                go_roundw
                case rel =>
                  refine ⟨k + 1, by omega, by go_num, ?_, ?_⟩
                  · show BlkC _ _ _
                    rw [HST.out]
                    have q := (HC5.out.put ch2 fa2 hi2 co2 se2 at2).keep ((Below.refl _ _).alloc (Nat.le_refl _) (.cells #[.int .u8 ch2, .bool at2, .int .u8 fa2, .int .u8 hi2, .int .u8 co2, .int .u8 se2] 80))
                    unfold put6 at q
                    exact q
                  · have q := gb_alloc (gb_put HG5.out (.int .u8 ch2) (.bool at2) (.int .u8 fa2) (.int .u8 hi2) (.int .u8 co2) (.int .u8 se2)) (.cells #[.int .u8 ch2, .bool at2, .int .u8 fa2, .int .u8 hi2, .int .u8 co2, .int .u8 se2] 80)
                    unfold put6 at q
                    exact q
                case measure => simp [intOf]; omega
              · have hkf : knownB t v = false := by simpa using hkn
                have HAP := hid (apply_no t v hv hkf ch1 fa1 hi1 co1 se1 at1)
                clear hkn hkf HC
                go_wp2_with fail
                with_reducible refine (HAP.out _).mono ?_
                rintro e w5 ⟨rfl, hb⟩
                have HG5 := hid (gb_below (gb_alloc HG.out (.cells #[.int .u8 t, .int .u8 v] 82)) hb)
                clear hb c0 c1 c2 c3 c4 c5 z0 z1
                have HC9 := hid (HC8.out.grown HG5.out (by omega))
                have HX9 := hid (HX8.out.grown HG5.out (by omega))
                obtain ⟨c0, c1, c2, c3, c4, c5⟩ := HC9.out.at6
                obtain ⟨d0, d1, d2, d3, d4, d5⟩ := HX9.out.at6
                have k0 := HC9.out.lt
                have k1 := HX9.out.lt
                go_wp2
                go_ret
                exact ⟨rfl, (HW8.out.grown HG5.out HW8.out.size (fun k hk => by cases hk; omega)).alloc (Nat.le_trans HW8.out.size HG5.out.size) _⟩
            · obtain ⟨faz, hmd⟩ := HDM.out
              have HC1 : Hid (Blk6 wr G12 cha true faz h' c' s') := by
                have q := HC.out
                rw [show k = D.length by rw [← HM.out]; omega, List.take_length, hmd] at q
                exact q
              have HC9 := hid (HC8.out.grown HG.out (by omega))
              have HX9 := hid (HX8.out.grown HG.out (by omega))
              have HB9 := hid (HB8.out.grown HG.out (by omega))
              obtain ⟨c0, c1, c2, c3, c4, c5⟩ := HC9.out.at6
              obtain ⟨d0, d1, d2, d3, d4, d5⟩ := HX9.out.at6
              obtain ⟨e0, e1, e2, e3, e4, e5⟩ := HC1.out.at6
              obtain ⟨b0, b1, b2, b3, b4, b5⟩ := HB9.out
              clear hmd HC
              go_wp2
              go_ret
              exact ⟨rfl, HW8.out.grown HG.out HW8.out.size (fun k hk => by cases hk; omega)⟩
theorem attrMakes_true (cha fab chb : Int) (a ab : Bool) (faa h c s h' c' s' : Nat) (hf : faa < 256) (hh : h < 256) (hc : c < 256) (hs : s < 256) (hh' : h' < 256) (hc' : c' < 256) (hs' : s' < 256) (w : World) :
    Calls Try.prog 13 #[cellV cha a faa h c s, cellV chb ab fab h' c' s'] w fun e w' => e = .returned (.bool true) ∧ Below w.heap.size w w' := by
  have hl := diffL_len 0 0 0 h c s
  have hv := diffL_lt 0 0 0 h c s hh hc hs
  cases a
  · exact attrMakes_gen cha fab chb false ab faa h c s h' c' s' _ 0 hf hh' hc' hs' (by omega) hv rfl (fun w => pairs_no cha faa h c s w) (fun w => rpairs_no cha faa h c s w) (made_no cha h c s) w
  · exact attrMakes_gen cha fab chb true ab faa h c s h' c' s' _ (six6 faa) hf hh' hc' hs' (by simp; omega) (fun p hp => by rcases List.mem_cons.1 hp with rfl | hp; exact (faC_eq faa hf).2.1; exact hv p hp) rfl (fun w => pairs_yes cha faa h c s hf w) (fun w => rpairs_yes cha faa h c s hf w) (made_yes cha faa h c s hf) w
end Go.Proofs.Ytpnfdmfmdacjmaa
