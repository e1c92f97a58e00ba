/-
  Models, sizes, places, cells: the program's.
  Places and cells: asked.
  A cell is set; a character is put; the cursor is placed: the program's.
  A space is cleared, and made; a character is put; the cursor: the program's.
-/
import Derived.Test.YtlhaefgchmakfaaFa
import Derived.Deep.DeepCutAuto
import Derived.Laws.IdiomCopy
import Derived.Laws.World
import Derived.Laws.MakeOwn
namespace Go.Proofs.Ytlhaefgchmakfaa
open Go.RowKit Go.Lib

abbrev sizeV (r c : Int) : Value := .agg #[.int .i64 r, .int .i64 c]
set_option maxRecDepth 100000 in
set_option maxHeartbeats 1000000 in
theorem model_yes (m : Int) (h1 : 2 ≤ m) (h2 : m ≤ 5) (w : World) : Calls Try.prog 63 #[.int .i64 m] w fun e w' => e = .returned (.tuple #[sizeV (rowsZ m true) (colsZ m true), .int .i64 0]) ∧ Below w.heap.size w w' := by
  have h : m = 2 ∨ m = 3 ∨ m = 4 ∨ m = 5 := by omega
  clear h1 h2
  rcases h with rfl | rfl | rfl | rfl <;> (
    go_enter Try.func63, Try.ntmps63
    go_wp2
    exact bodyPost_ret (v := .tuple #[sizeV (rowsZ _ true) (colsZ _ true), .int .i64 0]) (by simp [results, Try.results63, go_sem, rowsZ, colsZ]) rfl ⟨rfl, (Below.refl _ _).alloc (Nat.le_refl _) _⟩)
set_option maxRecDepth 100000 in
set_option maxHeartbeats 1000000 in
theorem model_no (m : Int) (h : m < 2 ∨ 5 < m) (w : World) : Calls Try.prog 63 #[.int .i64 m] w fun e w' => e = .returned (.tuple #[sizeV 0 0, .int .i64 5]) ∧ Below w.heap.size w w' := by
  have e2 : (m == 2) = false := by simp; omega
  have e3 : (m == 3) = false := by simp; omega
  have e4 : (m == 4) = false := by simp; omega
  have e5 : (m == 5) = false := by simp; omega
  clear h
  go_enter Try.func63, Try.ntmps63
  go_wp2
  exact bodyPost_ret (v := .tuple #[sizeV 0 0, .int .i64 5]) (by simp [results, Try.results63, go_sem]) rfl ⟨rfl, (Below.refl _ _).alloc (Nat.le_refl _) _⟩
theorem blw {w w1 : World} {o : Obj} (h : Below (w.alloc o).heap.size (w.alloc o) w1) : Below w.heap.size w w1 := ((Below.refl _ _).alloc (Nat.le_refl _) _).trans (h.mono (by simp))
theorem _root_.Go.RowKit.Below.sc {B : Nat} {a w : World} (h : Below B a w) (g i : Nat) (u : Value) (hg : B ≤ g) : Below B a (w.setCell ⟨g, i, none⟩ u) := h.setCell (p := ⟨g, i, none⟩) hg u
theorem _root_.Go.RowKit.Below.al {B : Nat} {a w : World} (h : Below B a w) (hB : B ≤ a.heap.size) (o : Obj) : Below B a (w.alloc o) := h.alloc (Nat.le_trans hB h.size) o
theorem box2 {w w1 : World} {x y : Value} {t : TypeId} (hb : Below (w.alloc (.cells #[x, y] t)).heap.size (w.alloc (.cells #[x, y] t)) w1) :
    w1.cell? ⟨w.heap.size, 0, none⟩ = some x ∧ w1.cell? ⟨w.heap.size, 1, none⟩ = some y ∧ w1.frozen? ⟨w.heap.size, 0, none⟩ = false ∧ w1.frozen? ⟨w.heap.size, 1, none⟩ = false ∧ w.heap.size < w1.heap.size :=
  ⟨(hb.cell (p := ⟨w.heap.size, 0, none⟩) (by simp)).trans (by simp [go_sem]), (hb.cell (p := ⟨w.heap.size, 1, none⟩) (by simp)).trans (by simp [go_sem]), (hb.frozen (p := ⟨w.heap.size, 0, none⟩) (by simp)).trans (by simp [go_sem]), (hb.frozen (p := ⟨w.heap.size, 1, none⟩) (by simp)).trans (by simp [go_sem]), by have := hb.size; simp at this; omega⟩
theorem box6 {w w1 : World} {x0 x1 x2 x3 x4 x5 : Value} {t : TypeId} (hb : Below (w.alloc (.cells #[x0, x1, x2, x3, x4, x5] t)).heap.size (w.alloc (.cells #[x0, x1, x2, x3, x4, x5] t)) w1) :
    (w1.cell? ⟨w.heap.size, 0, none⟩ = some x0 ∧ w1.cell? ⟨w.heap.size, 1, none⟩ = some x1 ∧ w1.cell? ⟨w.heap.size, 2, none⟩ = some x2 ∧ w1.cell? ⟨w.heap.size, 3, none⟩ = some x3 ∧ w1.cell? ⟨w.heap.size, 4, none⟩ = some x4 ∧ w1.cell? ⟨w.heap.size, 5, none⟩ = some x5) ∧ (w1.frozen? ⟨w.heap.size, 0, none⟩ = false ∧ w1.frozen? ⟨w.heap.size, 1, none⟩ = false ∧ w1.frozen? ⟨w.heap.size, 2, none⟩ = false ∧ w1.frozen? ⟨w.heap.size, 3, none⟩ = false ∧ w1.frozen? ⟨w.heap.size, 4, none⟩ = false ∧ w1.frozen? ⟨w.heap.size, 5, none⟩ = false) ∧ w.heap.size < w1.heap.size :=
  ⟨⟨(hb.cell (p := ⟨w.heap.size, 0, none⟩) (by simp)).trans (by simp [go_sem]), (hb.cell (p := ⟨w.heap.size, 1, none⟩) (by simp)).trans (by simp [go_sem]), (hb.cell (p := ⟨w.heap.size, 2, none⟩) (by simp)).trans (by simp [go_sem]), (hb.cell (p := ⟨w.heap.size, 3, none⟩) (by simp)).trans (by simp [go_sem]), (hb.cell (p := ⟨w.heap.size, 4, none⟩) (by simp)).trans (by simp [go_sem]), (hb.cell (p := ⟨w.heap.size, 5, none⟩) (by simp)).trans (by simp [go_sem])⟩, ⟨(hb.frozen (p := ⟨w.heap.size, 0, none⟩) (by simp)).trans (by simp [go_sem]), (hb.frozen (p := ⟨w.heap.size, 1, none⟩) (by simp)).trans (by simp [go_sem]), (hb.frozen (p := ⟨w.heap.size, 2, none⟩) (by simp)).trans (by simp [go_sem]), (hb.frozen (p := ⟨w.heap.size, 3, none⟩) (by simp)).trans (by simp [go_sem]), (hb.frozen (p := ⟨w.heap.size, 4, none⟩) (by simp)).trans (by simp [go_sem]), (hb.frozen (p := ⟨w.heap.size, 5, none⟩) (by simp)).trans (by simp [go_sem])⟩, by have := hb.size; simp at this; omega⟩
set_option maxRecDepth 100000 in
set_option maxHeartbeats 1000000 in
theorem size_raw {b : Nat} {mo : Int} {alt : Bool} (w : World) (h0 : w.cell? ⟨b, 0, none⟩ = some (.int .i64 mo)) (h1 : w.cell? ⟨b, 1, none⟩ = some (.bool alt)) (m1 : 2 ≤ mo) (m2 : mo ≤ 5) : Calls Try.prog 54 #[.pointer (some ⟨b, 0, none⟩)] w fun e w' => e = .returned (sizeV (rowsZ mo alt) (colsZ mo alt)) ∧ Below w.heap.size w w' := by
  have hlt : b < w.heap.size := World.block_lt_of_cell? w _ h0
  have HY := fun w => model_yes mo m1 m2 w
  have H2 := fun w => model_yes 2 (by decide) (by decide) w
  rw [show rowsZ 2 true = 24 from rfl, show colsZ 2 true = 80 from rfl] at H2
  cases alt
  · rw [show rowsZ mo false = 24 from rfl, show colsZ mo false = 80 from rfl]
    have H2' := hid H2
    clear HY H2 m1 m2
    go_enter Try.func54, Try.ntmps54
    go_wp2_with fail
    with_reducible refine (H2'.out _).mono ?_
    rintro e w1 ⟨rfl, hb⟩
    obtain ⟨c0, c1, f0, f1, hs⟩ := box2 hb
    have HB := hid hb
    clear hb
    go_wp2
    exact bodyPost_ret (v := sizeV 24 80) (by simp [results, Try.results54, go_sem, hs, c0, c1]) rfl ⟨rfl, (((blw HB.out).sc _ _ _ (Nat.le_refl _)).sc _ _ _ (Nat.le_refl _)).al (Nat.le_refl _) _⟩
  · have HY' := hid HY
    generalize rowsZ mo true = R at HY' ⊢
    generalize colsZ mo true = C at HY' ⊢
    clear HY H2 m1 m2
    go_enter Try.func54, Try.ntmps54
    go_wp2_with fail
    with_reducible refine (HY'.out _).mono ?_
    rintro e w1 ⟨rfl, hb⟩
    obtain ⟨c0, c1, f0, f1, hs⟩ := box2 hb
    have HB := hid hb
    clear hb
    go_wp2
    exact bodyPost_ret (v := sizeV R C) (by simp [results, Try.results54, go_sem, hs, c0, c1]) rfl ⟨rfl, (((blw HB.out).sc _ _ _ (Nat.le_refl _)).sc _ _ _ (Nat.le_refl _)).al (Nat.le_refl _) _⟩
theorem size_any {b g : Nat} {s : Spc} (w : World) (h : SpM w b g s) : Calls Try.prog 54 #[.pointer (some ⟨b, 0, none⟩)] w fun e w' => e = .returned (sizeV s.r s.c) ∧ Below w.heap.size w w' := size_raw w h.h0 h.h1 h.ok.m1 h.ok.m2
end Go.Proofs.Ytlhaefgchmakfaa
namespace Go.Proofs.Ytlhaefgchmakfaa
open Go.RowKit Go.Lib

section
variable {P : Program} {ops : Array Oper} {Q : Exit → Act → World → Prop} {md : Region.Mode} {S : World → Prop}
/-- An operation is taken first: its slot is written. -/
theorem takeD {i : Nat} {oi : Oper} {v : Value} (d : Tmp) {fuel : Nat} {listed : Array Bool} {ts : Array Value} {ds : List Deferred} {w : World} (hi : ops[i]? = some oi) (hd : oi.dst = some d)
    (hs : Region.noSelect ops = true) (hf : Region.free md ops listed i = true) (hr : (Region.ready md ops listed).contains i = true)
    (hQ : ∀ c a w, Q (.panic c) (a.put oi.dst v) w → Q (.panic c) a w) (hS : S w) (hy : YieldsIf P ops S oi v ⟨ts, ds⟩)
    (h : wpAnyH P md ops Q S fuel (listed.setIfInBounds i true) ⟨ts.setIfInBounds d v, ds⟩ w) : wpAnyH P md ops Q S (fuel + 1) listed ⟨ts, ds⟩ w :=
  wpAnyH_take hi hs hf hr hQ hy hS (by rw [hd]; exact h)
end
set_option maxRecDepth 100000 in
set_option maxHeartbeats 1000000 in
theorem pos_any {b g : Nat} {s : Spc} (n : Int) (hn : I64 n) (w : World) (h : SpM w b g s) : Calls Try.prog 68 #[.pointer (some ⟨b, 0, none⟩), .int .i64 n] w fun e w' => e = .returned (.int .i64 (s.wr n)) ∧ Below w.heap.size w w' := by
  have h2 := h.h2
  have hlt := h.lt.1
  have hz := h.ok.sz
  have hlen := h.ok.len
  have hp := h.ok.pos
  have hwr := h.ok.wr_eq n
  have HS := hid (fun w h => size_any (b := b) (g := g) (s := s) w h)
  have HW := hid (fun w => wrap_ok s.r s.c n hz hn w)
  rw [← hlen, ← hwr] at HW
  have HH := hid h
  generalize s.wr n = q at *
  generalize s.r = R at *
  generalize s.c = C at *
  clear h hz hlen
  by_cases h0 : 0 ≤ n
  · by_cases h1 : n < s.L.length
    · have : (q : Int) = n := by rw [hwr]; exact Int.emod_eq_of_lt h0 h1
      rw [this]
      clear HS HW hwr this
      go_enter Try.func68, Try.ntmps68
      go_wp2
      go_ret
      exact ⟨rfl, Below.refl _ _⟩
    · clear hwr
      go_enter Try.func68, Try.ntmps68
      go_wp2_with fail
      with_reducible refine (HS.out _ HH.out).mono ?_
      rintro e w1 ⟨rfl, hb⟩
      have HB := hid hb
      clear hb
      go_wp2_with fail
      with_reducible refine (HW.out _).mono ?_
      rintro e w2 ⟨rfl, hb2⟩
      have HB2 := hid hb2
      clear hb2
      go_wp2
      go_ret
      exact ⟨rfl, below_t HB.out HB2.out⟩
  · clear hwr
    go_enter Try.func68, Try.ntmps68
    go_wp2_with fail
    with_reducible refine (HS.out _ HH.out).mono ?_
    rintro e w1 ⟨rfl, hb⟩
    have HB := hid hb
    clear hb
    go_wp2_with fail
    with_reducible refine (HW.out _).mono ?_
    rintro e w2 ⟨rfl, hb2⟩
    have HB2 := hid hb2
    clear hb2
    go_wp2
    go_ret
    exact ⟨rfl, below_t HB.out HB2.out⟩
set_option maxRecDepth 100000 in
set_option maxHeartbeats 1000000 in
theorem at_any {b g : Nat} {s : Spc} (n : Int) (hn : I64 n) (w : World) (h : SpM w b g s) : Calls Try.prog 80 #[.pointer (some ⟨b, 0, none⟩), .int .i64 n] w fun e w' => e = .returned (s.atC n).v ∧ Below w.heap.size w w' := by
  have h2 := h.h2
  have hlt := h.lt.1
  have hgt := h.lt.2
  have hw := h.ok.wr_lt n
  have HP := hid (fun w h => pos_any (b := b) (g := g) (s := s) n hn w h)
  obtain ⟨c, hc⟩ : ∃ c, s.L.getD (s.wr n) cel0 = c := ⟨_, rfl⟩
  have e : s.atC n = c := hc
  rw [e]
  obtain ⟨a0, a1, a2, a3, a4, a5⟩ := h.row.six _ hw c hc
  have HH := hid h
  have hp := h.ok.pos
  generalize s.wr n = q at *
  obtain ⟨x0, x1, x2, x3, x4, x5⟩ := c
  dsimp only at a0 a1 a2 a3 a4 a5
  clear h hc e
  go_enter Try.func80, Try.ntmps80
  go_wp2_with fail
  generalize hW : w.alloc (.cells #[.int .u8 0, .bool false, .int .u8 0, .int .u8 0, .int .u8 0, .int .u8 0] 48) = W
  have hb0 : Below w.heap.size w W := by rw [← hW]; exact bal (Below.refl _ _) _
  have hz : W.heap.size = w.heap.size + 1 := by rw [← hW]; simp
  have HZ := hid (fun (V : World) (hV : Below W.heap.size W V) => box6 (w := w) (w1 := V) (by rw [hW]; exact hV))
  have HB := hid hb0
  have HS := hid (fun (V : World) (k : Below w.heap.size w V) => show V.cell? ⟨b, 2, none⟩ = some (.slice (some ⟨g, 0, none⟩) s.L.length (s.L.length + s.ex)) ∧ (V.cell? ⟨g, q * 6, none⟩ = some (.int .u8 x0) ∧ V.cell? ⟨g, q * 6 + 1, none⟩ = some (.bool x1) ∧ V.cell? ⟨g, q * 6 + 2, none⟩ = some (.int .u8 x2) ∧ V.cell? ⟨g, q * 6 + 3, none⟩ = some (.int .u8 x3) ∧ V.cell? ⟨g, q * 6 + 4, none⟩ = some (.int .u8 x4) ∧ V.cell? ⟨g, q * 6 + 5, none⟩ = some (.int .u8 x5)) ∧ Below w.heap.size w V from ⟨keepc k h2, ⟨keepc k a0, keepc k a1, keepc k a2, keepc k a3, keepc k a4, keepc k a5⟩, k⟩)
  have HD := hid (show SpM W b g s from HH.out.below hb0)
  clear h2 a0 a1 a2 a3 a4 a5 hb0
  refine wp_region_held_drew (S := fun V => V.cell? ⟨b, 2, none⟩ = some (.slice (some ⟨g, 0, none⟩) s.L.length (s.L.length + s.ex)) ∧ (V.cell? ⟨g, q * 6, none⟩ = some (.int .u8 x0) ∧ V.cell? ⟨g, q * 6 + 1, none⟩ = some (.bool x1) ∧ V.cell? ⟨g, q * 6 + 2, none⟩ = some (.int .u8 x2) ∧ V.cell? ⟨g, q * 6 + 3, none⟩ = some (.int .u8 x3) ∧ V.cell? ⟨g, q * 6 + 4, none⟩ = some (.int .u8 x4) ∧ V.cell? ⟨g, q * 6 + 5, none⟩ = some (.int .u8 x5)) ∧ Below w.heap.size w V) (by kernel_rfl) ?_ (fun hHeld => ?_)
  · exact HS.out _ HB.out.drew
  refine takeD (i := 0) (v := ?_) 8 rfl rfl (by kernel_rfl) (by kernel_rfl) (by kernel_rfl) (fun _ _ _ h => h) (by assumption) (Or.inl ⟨by rfl, ?_⟩) ?_
  rotate_left
  · intro w hSw
    (try dsimp only at hSw)
    go_simp
    try with_reducible rfl
  simp only [List.setIfInBounds_toArray, List.set_cons_zero, List.set_cons_succ]
  refine takeD (i := 1) (v := ?_) 9 rfl rfl (by kernel_rfl) (by kernel_rfl) (by kernel_rfl) (fun _ _ _ h => h) (by assumption) (Or.inl ⟨by rfl, ?_⟩) ?_
  rotate_left
  · intro w hSw
    (try dsimp only at hSw)
    go_simp
    try with_reducible rfl
  simp only [List.setIfInBounds_toArray, List.set_cons_zero, List.set_cons_succ]
  refine takeD (i := 2) (v := ?_) 10 rfl rfl (by kernel_rfl) (by kernel_rfl) (by kernel_rfl) (fun _ _ _ h => h) (by assumption) (Or.inl ⟨by rfl, ?_⟩) ?_
  rotate_left
  · intro w hSw
    (try dsimp only at hSw)
    go_simp
    try with_reducible rfl
  simp only [List.setIfInBounds_toArray, List.set_cons_zero, List.set_cons_succ]
  refine takeD (i := 3) (v := ?_) 11 rfl rfl (by kernel_rfl) (by kernel_rfl) (by kernel_rfl) (fun _ _ _ h => h) (by assumption) (Or.inl ⟨by rfl, ?_⟩) ?_
  rotate_left
  · intro w hSw
    (try dsimp only at hSw)
    go_simp
    try with_reducible rfl
  simp only [List.setIfInBounds_toArray, List.set_cons_zero, List.set_cons_succ]
  refine takeD (i := 4) (v := ?_) 12 rfl rfl (by kernel_rfl) (by kernel_rfl) (by kernel_rfl) (fun _ _ _ h => h) (by assumption) (Or.inl ⟨by rfl, ?_⟩) ?_
  rotate_left
  · intro w hSw
    (try dsimp only at hSw)
    go_simp
    try with_reducible rfl
  simp only [List.setIfInBounds_toArray, List.set_cons_zero, List.set_cons_succ]
  refine takeD (i := 5) (v := ?_) 13 rfl rfl (by kernel_rfl) (by kernel_rfl) (by kernel_rfl) (fun _ _ _ h => h) (by assumption) (Or.inl ⟨by rfl, ?_⟩) ?_
  rotate_left
  · intro w hSw
    (try dsimp only at hSw)
    go_simp
    try with_reducible rfl
  simp only [List.setIfInBounds_toArray, List.set_cons_zero, List.set_cons_succ]
  refine wpAnyH_ready (rs := [6]) (by kernel_rfl) (by simp) ?_
  refine AllReadyH.cons (by simp only [List.getElem?_toArray, List.getElem?_cons_succ, List.getElem?_cons_zero]; rfl) (fun K hK => ?_) AllReadyH.nil
  go_simp
  go_at_call 68; (with_reducible refine (HP.out _ (HD.out.below (Below.refl _ _).drew)).mono ?_); rintro e w2 ⟨rfl, hb2⟩; have hb3 := below_t (Below.refl W.heap.size W).drew hb2; obtain ⟨⟨z0, z1, z2, z3, z4, z5⟩, ⟨y0, y1, y2, y3, y4, y5⟩, hs⟩ := HZ.out _ hb3; have H3 := hid (below_t HB.out hb3); clear hb2 hb3
  refine hK.out _ _ ?_ (fun hHeldN => ?_)
  · exact HS.out _ H3.out
  clear hK K hHeld
  have hHeld := hHeldN
  clear hHeldN
  (try simp only [Act.put, List.setIfInBounds_toArray, List.set_cons_zero, List.set_cons_succ])
  refine takeD (i := 7) (v := ?_) 15 rfl rfl (by kernel_rfl) (by kernel_rfl) (by kernel_rfl) (fun _ _ _ h => h) (by assumption) (Or.inl ⟨by rfl, ?_⟩) ?_
  rotate_left
  · intro w hSw
    (try dsimp only at hSw)
    go_simp
    try with_reducible rfl
  simp only [List.setIfInBounds_toArray, List.set_cons_zero, List.set_cons_succ]
  refine takeD (i := 8) (v := ?_) 16 rfl rfl (by kernel_rfl) (by kernel_rfl) (by kernel_rfl) (fun _ _ _ h => h) (by assumption) (Or.inl ⟨by rfl, ?_⟩) ?_
  rotate_left
  · intro w hSw
    (try dsimp only at hSw)
    go_simp
    try with_reducible rfl
  simp only [List.setIfInBounds_toArray, List.set_cons_zero, List.set_cons_succ]
  refine wpAnyH_ready (rs := [9]) (by kernel_rfl) (by simp) ?_
  refine AllReadyH.cons (by simp only [List.getElem?_toArray, List.getElem?_cons_succ, List.getElem?_cons_zero]; rfl) (fun K hK => ?_) AllReadyH.nil
  go_simp
  refine hK.out _ _ ?_ (fun hHeldN => ?_)
  · exact HS.out _ (((((((H3.out.sc _ _ _ (Nat.le_refl _)).sc _ _ _ (Nat.le_refl _)).sc _ _ _ (Nat.le_refl _)).sc _ _ _ (Nat.le_refl _)).sc _ _ _ (Nat.le_refl _)).sc _ _ _ (Nat.le_refl _)))
  clear hK K hHeld
  have hHeld := hHeldN
  clear hHeldN
  (try simp only [Act.put, List.setIfInBounds_toArray, List.set_cons_zero, List.set_cons_succ])
  refine wpAnyH_done (by kernel_rfl) ?_ _
  clear hHeld
  go_wp2
  exact bodyPost_ret (v := .agg #[.int .u8 x0, .bool x1, .int .u8 x2, .int .u8 x3, .int .u8 x4, .int .u8 x5]) (by simp [results, Try.results80, go_sem, z0, z1, z2, z3, z4, z5]) rfl ⟨rfl, ((((((H3.out.sc _ _ _ (Nat.le_refl _)).sc _ _ _ (Nat.le_refl _)).sc _ _ _ (Nat.le_refl _)).sc _ _ _ (Nat.le_refl _)).sc _ _ _ (Nat.le_refl _)).sc _ _ _ (Nat.le_refl _))⟩
end Go.Proofs.Ytlhaefgchmakfaa
namespace Go.Proofs.Ytlhaefgchmakfaa
open Go.RowKit Go.Lib

/-- A cell is stored at a place of a row. -/
def st6 (w : World) (g q : Nat) (c : Cel) : World := w.setCells g (q * 6) c.cs
theorem st6_eq (w : World) (g q : Nat) (x0 : Int) (x1 : Bool) (x2 x3 x4 x5 : Int) : ((((((w.setCell ⟨g, q * 6, none⟩ (.int .u8 x0)).setCell ⟨g, q * 6 + 1, none⟩ (.bool x1)).setCell ⟨g, q * 6 + 2, none⟩ (.int .u8 x2)).setCell ⟨g, q * 6 + 3, none⟩ (.int .u8 x3)).setCell ⟨g, q * 6 + 4, none⟩ (.int .u8 x4)).setCell ⟨g, q * 6 + 5, none⟩ (.int .u8 x5)) = st6 w g q ⟨x0, x1, x2, x3, x4, x5⟩ := rfl
theorem moved_setCells (g : Nat) : ∀ (vs : List Value) (o : Nat) (w : World), Moved w (w.setCells g o vs) [g] [g]
  | [], _, w => Moved.refl w [g]
  | v :: vs, o, w => (Moved.set (a := w) (S := [g]) (by simp) o v).trans (moved_setCells g vs (o + 1) (w.setCell ⟨g, o, none⟩ v))
theorem st6_moved (w : World) (g q : Nat) (c : Cel) : Moved w (st6 w g q c) [g] [g] := moved_setCells g _ _ _
theorem CellsM.stored {w : World} {g : Nat} {L : List Cel} (h : CellsM w g L) (q : Nat) (hq : q < L.length) (c : Cel) : CellsM (st6 w g q c) g (L.set q c) := by
  have hs : ∀ j, j < 6 → (w.cell? ⟨g, q * 6 + j, none⟩).isSome = true := fun j hj => by
    rw [h.at_ q hq j hj]
    have : (L.getD q cel0).cs.length = 6 := rfl
    rw [List.getElem?_eq_getElem (by omega)]
    rfl
  refine ⟨fun i hi j hj => ?_, fun o => by unfold st6; rw [World.frozen?_setCells]; exact h.fr o, ?_⟩
  · rw [List.length_set] at hi
    by_cases e : i = q
    · subst e
      have := World.cell?_setCells_in g c.cs (i * 6) w (fun j hj => hs j hj) j hj
      unfold st6
      rw [this, List.getD, List.getElem?_set_self hq]
      exact (List.getElem?_eq_getElem (show j < c.cs.length from hj)).symm
    · unfold st6
      rw [World.cell?_setCells_out g c.cs (q * 6) w _ (fun _ _ => by show i * 6 + j < q * 6 ∨ q * 6 + 6 ≤ i * 6 + j; omega), h.at_ i hi j hj, List.getD, List.getD, List.getElem?_set_ne (by omega)]
  · exact Nat.lt_of_lt_of_le h.lt (st6_moved w g q c).size
theorem SpM.stored {w : World} {b g : Nat} {s : Spc} (h : SpM w b g s) (q : Nat) (hq : q < s.L.length) {c : Cel} (hc : c.OK) : SpM (st6 w g q c) b g (s.put1 q c) := by
  have hb := (st6_moved w g q c).block b h.lt.1 (by simp [h.ne])
  have k := h.ok.put1 q hc
  refine ⟨(cell_block (a := ⟨b, 0, none⟩) hb).trans h.h0, (cell_block (a := ⟨b, 1, none⟩) hb).trans h.h1, ?_, (cell_block (a := ⟨b, 3, none⟩) hb).trans h.h3, fun o => (World.frozen?_of_block (a := ⟨b, o, none⟩) hb).trans (h.fr o), h.row.stored q hq c, h.ne, k⟩
  rw [Spc.put1_len]
  exact (cell_block (a := ⟨b, 2, none⟩) hb).trans h.h2
theorem RfM.stored {w : World} {b g : Nat} {s : Spc} (h : RfM w b g s) (q : Nat) (hq : q < s.L.length) {c : Cel} (hc : c.OK) : RfM (st6 w g q c) b g (s.put1 q c) := by
  have hb := (st6_moved w g q c).block b h.lt.1 (by simp [h.ne])
  have k := h.ok.put1 q hc
  refine ⟨(cell_block (a := ⟨b, 0, none⟩) hb).trans h.h0, (cell_block (a := ⟨b, 1, none⟩) hb).trans h.h1, (cell_block (a := ⟨b, 2, none⟩) hb).trans h.h2, (cell_block (a := ⟨b, 3, none⟩) hb).trans h.h3, ?_, (cell_block (a := ⟨b, 5, none⟩) hb).trans h.h5, fun o => (World.frozen?_of_block (a := ⟨b, o, none⟩) hb).trans (h.fr o), h.row.stored q hq c, h.ne, k⟩
  rw [Spc.put1_len]
  exact (cell_block (a := ⟨b, 4, none⟩) hb).trans h.h4
/-- The space was changed so, within its two blocks. -/
def SpD (b g : Nat) (s' : Spc) (w : World) (e : Ending) (w' : World) : Prop := (∃ v, e = .returned v) ∧ SpM w' b g s' ∧ Moved w w' [b, g] [b, g]
theorem moved_g {A B : World} {b g : Nat} (m : Moved A B [g] [g]) : Moved A B [b, g] [b, g] := m.sub (fun k hk => by simp at hk ⊢; exact .inr hk) (fun k hk => .inr hk)
theorem st6_kept {A B : World} {b g n : Nat} {v u0 u1 u2 u3 u4 u5 : Value} (m : Moved A B [g] [g]) (hg : g < n) (h : A.cell? ⟨b, 2, none⟩ = some v ∧ A.cell? ⟨n, 0, none⟩ = some u0 ∧ A.cell? ⟨n, 1, none⟩ = some u1 ∧ A.cell? ⟨n, 2, none⟩ = some u2 ∧ A.cell? ⟨n, 3, none⟩ = some u3 ∧ A.cell? ⟨n, 4, none⟩ = some u4 ∧ A.cell? ⟨n, 5, none⟩ = some u5) (_hb : b < n) (hbg : b ≠ g) :
    B.cell? ⟨b, 2, none⟩ = some v ∧ B.cell? ⟨n, 0, none⟩ = some u0 ∧ B.cell? ⟨n, 1, none⟩ = some u1 ∧ B.cell? ⟨n, 2, none⟩ = some u2 ∧ B.cell? ⟨n, 3, none⟩ = some u3 ∧ B.cell? ⟨n, 4, none⟩ = some u4 ∧ B.cell? ⟨n, 5, none⟩ = some u5 := by
  obtain ⟨h0, h1, h2, h3, h4, h5, h6⟩ := h
  have hn : ∀ o, (⟨n, o, none⟩ : Addr).block ∉ [g] := fun _ q => by have e : n = g := List.mem_singleton.1 q; omega
  exact ⟨cell_moved m h0 (by simpa using hbg), cell_moved m h1 (hn _), cell_moved m h2 (hn _), cell_moved m h3 (hn _), cell_moved m h4 (hn _), cell_moved m h5 (hn _), cell_moved m h6 (hn _)⟩
section
variable {b g : Nat} {s : Spc}
set_option maxRecDepth 100000 in
set_option maxHeartbeats 1000000 in
theorem set_any (n : Int) (hn : I64 n) (c : Cel) (hc : c.OK) (w : World) (h : SpM w b g s) : Calls Try.prog 37 #[.pointer (some ⟨b, 0, none⟩), .int .i64 n, c.v] w (SpD b g (s.setC n c) w) := by
  have h2 := h.h2
  have hlt := h.lt.1
  have hgt := h.lt.2
  have hw := h.ok.wr_lt n
  have HP := hid (fun w h => pos_any (b := b) (g := g) (s := s) n hn w h)
  have hf := fit_ok hc
  unfold Spc.setC
  unfold fit at hf ⊢
  have HH := hid h
  generalize s.wr n = q at *
  obtain ⟨y0, y1, y2, y3, y4, y5⟩ := c
  dsimp only at hf ⊢
  clear h hc
  cases y1
  · simp only [if_false, Bool.false_eq_true] at hf ⊢
    have HF := hid hf
    clear hf
    go_enter Try.func37, Try.ntmps37
    go_wp2_with fail
    generalize hW : w.alloc (.cells #[.int .u8 y0, .bool false, .int .u8 0, .int .u8 y3, .int .u8 y4, .int .u8 y5] 48) = W
    have hb0 : Below w.heap.size w W := by rw [← hW]; exact bal (Below.refl _ _) _
    have hz : W.heap.size = w.heap.size + 1 := by rw [← hW]; simp
    have HZ := hid (fun (V : World) (hV : Below W.heap.size W V) => box6 (w := w) (w1 := V) (by rw [hW]; exact hV))
    have HB := hid hb0
    have HS := hid (fun (V : World) (k : Below W.heap.size W V) => show V.cell? ⟨b, 2, none⟩ = some (.slice (some ⟨g, 0, none⟩) s.L.length (s.L.length + s.ex)) ∧ (V.cell? ⟨w.heap.size, 0, none⟩ = some (.int .u8 y0) ∧ V.cell? ⟨w.heap.size, 1, none⟩ = some (.bool false) ∧ V.cell? ⟨w.heap.size, 2, none⟩ = some (.int .u8 0) ∧ V.cell? ⟨w.heap.size, 3, none⟩ = some (.int .u8 y3) ∧ V.cell? ⟨w.heap.size, 4, none⟩ = some (.int .u8 y4) ∧ V.cell? ⟨w.heap.size, 5, none⟩ = some (.int .u8 y5)) from ⟨keepc (below_t hb0 k) h2, (HZ.out V k).1⟩)
    have HD := hid (show SpM W b g s from HH.out.below hb0)
    clear h2 hb0
    refine wp_region_held_drew (S := fun V => V.cell? ⟨b, 2, none⟩ = some (.slice (some ⟨g, 0, none⟩) s.L.length (s.L.length + s.ex)) ∧ (V.cell? ⟨w.heap.size, 0, none⟩ = some (.int .u8 y0) ∧ V.cell? ⟨w.heap.size, 1, none⟩ = some (.bool false) ∧ V.cell? ⟨w.heap.size, 2, none⟩ = some (.int .u8 0) ∧ V.cell? ⟨w.heap.size, 3, none⟩ = some (.int .u8 y3) ∧ V.cell? ⟨w.heap.size, 4, none⟩ = some (.int .u8 y4) ∧ V.cell? ⟨w.heap.size, 5, none⟩ = some (.int .u8 y5))) (by kernel_rfl) ?_ (fun hHeld => ?_)
    · exact HS.out _ (Below.refl W.heap.size W).drew
    refine takeD (i := 0) (v := ?_) 16 rfl rfl (by kernel_rfl) (by kernel_rfl) (by kernel_rfl) (fun _ _ _ h => h) (by assumption) (Or.inl ⟨by rfl, ?_⟩) ?_
    rotate_left
    · intro w hSw
      (try dsimp only at hSw)
      go_simp
      try with_reducible rfl
    simp only [List.setIfInBounds_toArray, List.set_cons_zero, List.set_cons_succ]
    refine takeD (i := 1) (v := ?_) 17 rfl rfl (by kernel_rfl) (by kernel_rfl) (by kernel_rfl) (fun _ _ _ h => h) (by assumption) (Or.inl ⟨by rfl, ?_⟩) ?_
    rotate_left
    · intro w hSw
      (try dsimp only at hSw)
      go_simp
      try with_reducible rfl
    simp only [List.setIfInBounds_toArray, List.set_cons_zero, List.set_cons_succ]
    refine takeD (i := 2) (v := ?_) 18 rfl rfl (by kernel_rfl) (by kernel_rfl) (by kernel_rfl) (fun _ _ _ h => h) (by assumption) (Or.inl ⟨by rfl, ?_⟩) ?_
    rotate_left
    · intro w hSw
      (try dsimp only at hSw)
      go_simp
      try with_reducible rfl
    simp only [List.setIfInBounds_toArray, List.set_cons_zero, List.set_cons_succ]
    refine takeD (i := 3) (v := ?_) 19 rfl rfl (by kernel_rfl) (by kernel_rfl) (by kernel_rfl) (fun _ _ _ h => h) (by assumption) (Or.inl ⟨by rfl, ?_⟩) ?_
    rotate_left
    · intro w hSw
      (try dsimp only at hSw)
      go_simp
      try with_reducible rfl
    simp only [List.setIfInBounds_toArray, List.set_cons_zero, List.set_cons_succ]
    refine takeD (i := 4) (v := ?_) 20 rfl rfl (by kernel_rfl) (by kernel_rfl) (by kernel_rfl) (fun _ _ _ h => h) (by assumption) (Or.inl ⟨by rfl, ?_⟩) ?_
    rotate_left
    · intro w hSw
      (try dsimp only at hSw)
      go_simp
      try with_reducible rfl
    simp only [List.setIfInBounds_toArray, List.set_cons_zero, List.set_cons_succ]
    refine takeD (i := 5) (v := ?_) 21 rfl rfl (by kernel_rfl) (by kernel_rfl) (by kernel_rfl) (fun _ _ _ h => h) (by assumption) (Or.inl ⟨by rfl, ?_⟩) ?_
    rotate_left
    · intro w hSw
      (try dsimp only at hSw)
      go_simp
      try with_reducible rfl
    simp only [List.setIfInBounds_toArray, List.set_cons_zero, List.set_cons_succ]
    refine takeD (i := 7) (v := ?_) 23 rfl rfl (by kernel_rfl) (by kernel_rfl) (by kernel_rfl) (fun _ _ _ h => h) (by assumption) (Or.inl ⟨by rfl, ?_⟩) ?_
    rotate_left
    · intro w hSw
      (try dsimp only at hSw)
      go_simp
      try with_reducible rfl
    simp only [List.setIfInBounds_toArray, List.set_cons_zero, List.set_cons_succ]
    refine wpAnyH_ready (rs := [6]) (by kernel_rfl) (by simp) ?_
    refine AllReadyH.cons (by simp only [List.getElem?_toArray, List.getElem?_cons_succ, List.getElem?_cons_zero]; rfl) (fun K hK => ?_) AllReadyH.nil
    go_simp
    go_at_call 68; (with_reducible refine (HP.out _ (HD.out.below (Below.refl _ _).drew)).mono ?_); rintro e w2 ⟨rfl, hb2⟩; have hb3 := below_t (Below.refl W.heap.size W).drew hb2; have hD2 := HD.out.below hb3; obtain ⟨a0, a1, a2, a3, a4, a5⟩ := hD2.row.six q hw _ rfl; have hFr := hD2.row.fr; have f0 := hFr (q * 6); have f1 := hFr (q * 6 + 1); have f2 := hFr (q * 6 + 2); have f3 := hFr (q * 6 + 3); have f4 := hFr (q * 6 + 4); have f5 := hFr (q * 6 + 5); have HD2 := hid hD2; have H3 := hid hb3; clear hD2 hFr hb2 hb3
    refine hK.out _ _ ?_ (fun hHeldN => ?_)
    · exact HS.out _ H3.out
    clear hK K hHeld
    have hHeld := hHeldN
    clear hHeldN
    (try simp only [Act.put, List.setIfInBounds_toArray, List.set_cons_zero, List.set_cons_succ])
    refine takeD (i := 8) (v := ?_) 24 rfl rfl (by kernel_rfl) (by kernel_rfl) (by kernel_rfl) (fun _ _ _ h => h) (by assumption) (Or.inl ⟨by rfl, ?_⟩) ?_
    rotate_left
    · intro w hSw
      (try dsimp only at hSw)
      go_simp
      try with_reducible rfl
    simp only [List.setIfInBounds_toArray, List.set_cons_zero, List.set_cons_succ]
    refine wpAnyH_ready (rs := [9]) (by kernel_rfl) (by simp) ?_
    refine AllReadyH.cons (by simp only [List.getElem?_toArray, List.getElem?_cons_succ, List.getElem?_cons_zero]; rfl) (fun K hK => ?_) AllReadyH.nil
    go_simp
    rw [st6_eq]; have HT := hid (st6_moved w2 g q ⟨y0, false, 0, y3, y4, y5⟩)
    refine hK.out _ _ ?_ (fun hHeldN => ?_)
    · exact st6_kept HT.out hgt (HS.out _ H3.out) hlt HD2.out.ne
    clear hK K hHeld
    have hHeld := hHeldN
    clear hHeldN
    (try simp only [Act.put, List.setIfInBounds_toArray, List.set_cons_zero, List.set_cons_succ])
    refine wpAnyH_done (by kernel_rfl) ?_ _
    clear hHeld
    exact bodyPost_ret (results_none rfl _ _ _) rfl ⟨⟨_, rfl⟩, HD2.out.stored q hw HF.out, (Moved.below HB.out [b, g]).trans ((Moved.below H3.out [b, g]).trans (moved_g HT.out))⟩
  · simp only [if_true] at hf ⊢
    have HF := hid hf
    clear hf
    unfold sixB at HF ⊢
    go_enter Try.func37, Try.ntmps37
    go_wp2_with fail
    generalize bits .and .u8 y2 61 = z2 at HF ⊢
    generalize hW : w.alloc (.cells #[.int .u8 0, .bool true, .int .u8 z2, .int .u8 y3, .int .u8 y4, .int .u8 y5] 48) = W
    have hb0 : Below w.heap.size w W := by rw [← hW]; exact bal (Below.refl _ _) _
    have hz : W.heap.size = w.heap.size + 1 := by rw [← hW]; simp
    have HZ := hid (fun (V : World) (hV : Below W.heap.size W V) => box6 (w := w) (w1 := V) (by rw [hW]; exact hV))
    have HB := hid hb0
    have HS := hid (fun (V : World) (k : Below W.heap.size W V) => show V.cell? ⟨b, 2, none⟩ = some (.slice (some ⟨g, 0, none⟩) s.L.length (s.L.length + s.ex)) ∧ (V.cell? ⟨w.heap.size, 0, none⟩ = some (.int .u8 0) ∧ V.cell? ⟨w.heap.size, 1, none⟩ = some (.bool true) ∧ V.cell? ⟨w.heap.size, 2, none⟩ = some (.int .u8 z2) ∧ V.cell? ⟨w.heap.size, 3, none⟩ = some (.int .u8 y3) ∧ V.cell? ⟨w.heap.size, 4, none⟩ = some (.int .u8 y4) ∧ V.cell? ⟨w.heap.size, 5, none⟩ = some (.int .u8 y5)) from ⟨keepc (below_t hb0 k) h2, (HZ.out V k).1⟩)
    have HD := hid (show SpM W b g s from HH.out.below hb0)
    clear h2 hb0
    refine wp_region_held_drew (S := fun V => V.cell? ⟨b, 2, none⟩ = some (.slice (some ⟨g, 0, none⟩) s.L.length (s.L.length + s.ex)) ∧ (V.cell? ⟨w.heap.size, 0, none⟩ = some (.int .u8 0) ∧ V.cell? ⟨w.heap.size, 1, none⟩ = some (.bool true) ∧ V.cell? ⟨w.heap.size, 2, none⟩ = some (.int .u8 z2) ∧ V.cell? ⟨w.heap.size, 3, none⟩ = some (.int .u8 y3) ∧ V.cell? ⟨w.heap.size, 4, none⟩ = some (.int .u8 y4) ∧ V.cell? ⟨w.heap.size, 5, none⟩ = some (.int .u8 y5))) (by kernel_rfl) ?_ (fun hHeld => ?_)
    · exact HS.out _ (Below.refl W.heap.size W).drew
    refine takeD (i := 0) (v := ?_) 16 rfl rfl (by kernel_rfl) (by kernel_rfl) (by kernel_rfl) (fun _ _ _ h => h) (by assumption) (Or.inl ⟨by rfl, ?_⟩) ?_
    rotate_left
    · intro w hSw
      (try dsimp only at hSw)
      go_simp
      try with_reducible rfl
    simp only [List.setIfInBounds_toArray, List.set_cons_zero, List.set_cons_succ]
    refine takeD (i := 1) (v := ?_) 17 rfl rfl (by kernel_rfl) (by kernel_rfl) (by kernel_rfl) (fun _ _ _ h => h) (by assumption) (Or.inl ⟨by rfl, ?_⟩) ?_
    rotate_left
    · intro w hSw
      (try dsimp only at hSw)
      go_simp
      try with_reducible rfl
    simp only [List.setIfInBounds_toArray, List.set_cons_zero, List.set_cons_succ]
    refine takeD (i := 2) (v := ?_) 18 rfl rfl (by kernel_rfl) (by kernel_rfl) (by kernel_rfl) (fun _ _ _ h => h) (by assumption) (Or.inl ⟨by rfl, ?_⟩) ?_
    rotate_left
    · intro w hSw
      (try dsimp only at hSw)
      go_simp
      try with_reducible rfl
    simp only [List.setIfInBounds_toArray, List.set_cons_zero, List.set_cons_succ]
    refine takeD (i := 3) (v := ?_) 19 rfl rfl (by kernel_rfl) (by kernel_rfl) (by kernel_rfl) (fun _ _ _ h => h) (by assumption) (Or.inl ⟨by rfl, ?_⟩) ?_
    rotate_left
    · intro w hSw
      (try dsimp only at hSw)
      go_simp
      try with_reducible rfl
    simp only [List.setIfInBounds_toArray, List.set_cons_zero, List.set_cons_succ]
    refine takeD (i := 4) (v := ?_) 20 rfl rfl (by kernel_rfl) (by kernel_rfl) (by kernel_rfl) (fun _ _ _ h => h) (by assumption) (Or.inl ⟨by rfl, ?_⟩) ?_
    rotate_left
    · intro w hSw
      (try dsimp only at hSw)
      go_simp
      try with_reducible rfl
    simp only [List.setIfInBounds_toArray, List.set_cons_zero, List.set_cons_succ]
    refine takeD (i := 5) (v := ?_) 21 rfl rfl (by kernel_rfl) (by kernel_rfl) (by kernel_rfl) (fun _ _ _ h => h) (by assumption) (Or.inl ⟨by rfl, ?_⟩) ?_
    rotate_left
    · intro w hSw
      (try dsimp only at hSw)
      go_simp
      try with_reducible rfl
    simp only [List.setIfInBounds_toArray, List.set_cons_zero, List.set_cons_succ]
    refine takeD (i := 7) (v := ?_) 23 rfl rfl (by kernel_rfl) (by kernel_rfl) (by kernel_rfl) (fun _ _ _ h => h) (by assumption) (Or.inl ⟨by rfl, ?_⟩) ?_
    rotate_left
    · intro w hSw
      (try dsimp only at hSw)
      go_simp
      try with_reducible rfl
    simp only [List.setIfInBounds_toArray, List.set_cons_zero, List.set_cons_succ]
    refine wpAnyH_ready (rs := [6]) (by kernel_rfl) (by simp) ?_
    refine AllReadyH.cons (by simp only [List.getElem?_toArray, List.getElem?_cons_succ, List.getElem?_cons_zero]; rfl) (fun K hK => ?_) AllReadyH.nil
    go_simp
    go_at_call 68; (with_reducible refine (HP.out _ (HD.out.below (Below.refl _ _).drew)).mono ?_); rintro e w2 ⟨rfl, hb2⟩; have hb3 := below_t (Below.refl W.heap.size W).drew hb2; have hD2 := HD.out.below hb3; obtain ⟨a0, a1, a2, a3, a4, a5⟩ := hD2.row.six q hw _ rfl; have hFr := hD2.row.fr; have f0 := hFr (q * 6); have f1 := hFr (q * 6 + 1); have f2 := hFr (q * 6 + 2); have f3 := hFr (q * 6 + 3); have f4 := hFr (q * 6 + 4); have f5 := hFr (q * 6 + 5); have HD2 := hid hD2; have H3 := hid hb3; clear hD2 hFr hb2 hb3
    refine hK.out _ _ ?_ (fun hHeldN => ?_)
    · exact HS.out _ H3.out
    clear hK K hHeld
    have hHeld := hHeldN
    clear hHeldN
    (try simp only [Act.put, List.setIfInBounds_toArray, List.set_cons_zero, List.set_cons_succ])
    refine takeD (i := 8) (v := ?_) 24 rfl rfl (by kernel_rfl) (by kernel_rfl) (by kernel_rfl) (fun _ _ _ h => h) (by assumption) (Or.inl ⟨by rfl, ?_⟩) ?_
    rotate_left
    · intro w hSw
      (try dsimp only at hSw)
      go_simp
      try with_reducible rfl
    simp only [List.setIfInBounds_toArray, List.set_cons_zero, List.set_cons_succ]
    refine wpAnyH_ready (rs := [9]) (by kernel_rfl) (by simp) ?_
    refine AllReadyH.cons (by simp only [List.getElem?_toArray, List.getElem?_cons_succ, List.getElem?_cons_zero]; rfl) (fun K hK => ?_) AllReadyH.nil
    go_simp
    rw [st6_eq]; have HT := hid (st6_moved w2 g q ⟨0, true, z2, y3, y4, y5⟩)
    refine hK.out _ _ ?_ (fun hHeldN => ?_)
    · exact st6_kept HT.out hgt (HS.out _ H3.out) hlt HD2.out.ne
    clear hK K hHeld
    have hHeld := hHeldN
    clear hHeldN
    (try simp only [Act.put, List.setIfInBounds_toArray, List.set_cons_zero, List.set_cons_succ])
    refine wpAnyH_done (by kernel_rfl) ?_ _
    clear hHeld
    exact bodyPost_ret (results_none rfl _ _ _) rfl ⟨⟨_, rfl⟩, HD2.out.stored q hw HF.out, (Moved.below HB.out [b, g]).trans ((Moved.below H3.out [b, g]).trans (moved_g HT.out))⟩
end
end Go.Proofs.Ytlhaefgchmakfaa
namespace Go.Proofs.Ytlhaefgchmakfaa
open Go.RowKit Go.Lib

abbrev z6 : Array Value := #[.int .u8 0, .bool false, .int .u8 0, .int .u8 0, .int .u8 0, .int .u8 0]
theorem infoC : (Try.prog.info? 48).map (fun i => (i.zero, i.size, i.bytes)) = some (some (.agg z6), 6, 6) := by kernel_rfl
theorem info_parts {t : TypeId} {z : Option Value} {s b : Nat} (h : (Try.prog.info? t).map (fun i => (i.zero, i.size, i.bytes)) = some (z, s, b)) : ∃ i, Try.prog.info? t = some i ∧ i.zero = z ∧ i.size = s ∧ i.bytes = b := by
  cases hi : Try.prog.info? t with
  | none => rw [hi] at h; cases h
  | some i =>
    rw [hi] at h
    simp only [Option.map_some, Option.some.injEq, Prod.mk.injEq] at h
    exact ⟨i, rfl, h.1, h.2.1, h.2.2⟩
theorem made_at (N i j : Nat) (hi : i < N) (hj : j < 6) : (madeCells z6 (N * 6))[i * 6 + j]? = cel0.cs[j]? := by
  have hk : i * 6 + j < N * 6 := by omega
  unfold madeCells
  rw [Array.getElem?_map, Array.getElem?_eq_getElem (by simpa using hk)]
  simp only [Array.getElem_range, Option.map_some]
  have e : (i * 6 + j) % z6.size = j := by show (i * 6 + j) % 6 = j; omega
  rw [e]
  have : j = 0 ∨ j = 1 ∨ j = 2 ∨ j = 3 ∨ j = 4 ∨ j = 5 := by omega
  rcases this with rfl | rfl | rfl | rfl | rfl | rfl <;> rfl
theorem cell_of_heap {w : World} {b o : Nat} {A : Array Value} {t : TypeId} (h : w.heap[b]? = some (.cells A t)) : w.cell? ⟨b, o, none⟩ = A[o]? := by
  unfold World.cell?
  dsimp only
  rw [h]
  simp
theorem frozen_of_heap {w : World} {b o : Nat} {A : Array Value} {t : TypeId} (h : w.heap[b]? = some (.cells A t)) : w.frozen? ⟨b, o, none⟩ = false := by
  unfold World.frozen?
  dsimp only
  rw [h]
  simp
theorem made_cells (w : World) (N : Nat) (t : TypeId) : CellsM (w.alloc (.cells (madeCells z6 (N * 6)) t)) w.heap.size (List.replicate N cel0) := by
  have hb := World.alloc_heap_new w (.cells (madeCells z6 (N * 6)) t)
  refine ⟨fun i hi j hj => ?_, fun o => ?_, by simp⟩
  · rw [List.length_replicate] at hi
    have e : (List.replicate N cel0).getD i cel0 = cel0 := by rw [List.getD, List.getElem?_replicate]; split <;> rfl
    rw [e, ← made_at N i j hi hj]
    exact cell_of_heap hb
  · exact frozen_of_heap hb
theorem run_make_cells (w : World) (N : Nat) (hN : N ≤ 10000) : (Instr.makeSlice 39 (.int .i64 (N : Int)) (.int .i64 (N : Int))).run Try.prog w = .ok (.slice (some ⟨w.heap.size, 0, none⟩) N N) (w.alloc (.cells (madeCells z6 (N * 6)) 48)) := by
  obtain ⟨i, hi, hz, hs, hb⟩ := info_parts infoC
  have := run_make (P := Try.prog) w 39 48 i (.agg z6) Try.underlying39 hi hz .i64 .i64 (N : Int) (N : Int) (by omega) (Int.le_refl _) (by rw [hb]; omega) (by omega)
  rw [hs] at this
  simpa [Value.cells] using this
/-- A header, whatever cells it has. -/
structure HdM (w : World) (b : Nat) (mo : Int) (alt : Bool) (v : Value) (cu : Int) : Prop where
  h0 : w.cell? ⟨b, 0, none⟩ = some (.int .i64 mo)
  h1 : w.cell? ⟨b, 1, none⟩ = some (.bool alt)
  h2 : w.cell? ⟨b, 2, none⟩ = some v
  h3 : w.cell? ⟨b, 3, none⟩ = some (.int .i64 cu)
  fr : ∀ o, w.frozen? ⟨b, o, none⟩ = false
theorem SpM.hd {w : World} {b g : Nat} {s : Spc} (h : SpM w b g s) : HdM w b s.mo s.alt (.slice (some ⟨g, 0, none⟩) s.L.length (s.L.length + s.ex)) s.cu := ⟨h.h0, h.h1, h.h2, h.h3, h.fr⟩
theorem HdM.lt {w : World} {b : Nat} {mo cu : Int} {alt : Bool} {v : Value} (h : HdM w b mo alt v cu) : b < w.heap.size := World.block_lt_of_cell? w _ h.h0
theorem HdM.below {A B : World} {b : Nat} {mo cu : Int} {alt : Bool} {v : Value} (h : HdM A b mo alt v cu) (hb : Below A.heap.size A B) : HdM B b mo alt v cu :=
  ⟨keepc hb h.h0, keepc hb h.h1, keepc hb h.h2, keepc hb h.h3, fun o => (hb.frozen (p := ⟨b, o, none⟩) h.lt).trans (h.fr o)⟩
theorem sc_other {w : World} {b i j : Nat} {u : Value} (h : i ≠ j) : (w.setCell ⟨b, i, none⟩ u).cell? ⟨b, j, none⟩ = w.cell? ⟨b, j, none⟩ := by
  apply World.cell?_setCell_other
  intro e
  exact h (congrArg Addr.off e)
theorem sc_same {w : World} {b i : Nat} {u v : Value} (h : w.cell? ⟨b, i, none⟩ = some u) : (w.setCell ⟨b, i, none⟩ v).cell? ⟨b, i, none⟩ = some v := by
  apply World.cell?_setCell_same
  exact h
theorem HdM.alt' {w : World} {b : Nat} {mo cu : Int} {alt : Bool} {v : Value} (h : HdM w b mo alt v cu) (al : Bool) : HdM (w.setCell ⟨b, 1, none⟩ (.bool al)) b mo al v cu :=
  ⟨(sc_other (by decide)).trans h.h0, sc_same h.h1, (sc_other (by decide)).trans h.h2, (sc_other (by decide)).trans h.h3, fun o => by rw [World.frozen?_setCell]; exact h.fr o⟩
theorem HdM.row' {w : World} {b : Nat} {mo cu : Int} {alt : Bool} {v : Value} (h : HdM w b mo alt v cu) (u : Value) : HdM (w.setCell ⟨b, 2, none⟩ u) b mo alt u cu :=
  ⟨(sc_other (by decide)).trans h.h0, (sc_other (by decide)).trans h.h1, sc_same h.h2, (sc_other (by decide)).trans h.h3, fun o => by rw [World.frozen?_setCell]; exact h.fr o⟩
theorem HdM.cur' {w : World} {b : Nat} {mo cu : Int} {alt : Bool} {v : Value} (h : HdM w b mo alt v cu) (n : Int) : HdM (w.setCell ⟨b, 3, none⟩ (.int .i64 n)) b mo alt v n :=
  ⟨(sc_other (by decide)).trans h.h0, (sc_other (by decide)).trans h.h1, (sc_other (by decide)).trans h.h2, sc_same h.h3, fun o => by rw [World.frozen?_setCell]; exact h.fr o⟩
theorem SpM.of {w : World} {b g : Nat} {s : Spc} (h : HdM w b s.mo s.alt (.slice (some ⟨g, 0, none⟩) s.L.length (s.L.length + s.ex)) s.cu) (hr : CellsM w g s.L) (hn : b ≠ g) (ok : s.OK) : SpM w b g s := ⟨h.h0, h.h1, h.h2, h.h3, h.fr, hr, hn, ok⟩
/-- It was cleared. -/
def ClD (b : Nat) (s' : Spc) (w : World) (e : Ending) (w' : World) : Prop := (∃ v, e = .returned v) ∧ ∃ g, w.heap.size ≤ g ∧ SpM w' b g s' ∧ Moved w w' [b] [b]
set_option maxRecDepth 100000 in
set_option maxHeartbeats 1000000 in
theorem clear_raw {b : Nat} {mo cu : Int} {alt : Bool} {v : Value} (al : Bool) (m1 : 2 ≤ mo) (m2 : mo ≤ 5) (w : World) (h : HdM w b mo alt v cu) (hv : ∃ x n c, v = .slice x n c) : Calls Try.prog 36 #[.pointer (some ⟨b, 0, none⟩), .bool al] w (ClD b (clearS mo al) w) := by
  obtain ⟨x, n, c, rfl⟩ := hv
  have h1 := h.h1
  have g1 := h.fr 1
  have hlt := h.lt
  have hz := size_ok m1 m2 al
  have hp := ok_pos hz
  obtain ⟨N, hN⟩ : ∃ N : Nat, (N : Int) = rowsZ mo al * colsZ mo al := ⟨(rowsZ mo al * colsZ mo al).toNat, by omega⟩
  have HS := hid (fun w h0 h1 => size_raw (b := b) (mo := mo) (alt := al) w h0 h1 m1 m2)
  have HC := hid (fun w => cells_ok _ _ hz w)
  rw [← hN] at HC
  have hok := clearS_ok m1 m2 al
  have hcl : clearS mo al = ⟨mo, al, List.replicate N cel0, 0, 0⟩ := by unfold clearS; rw [← hN, Int.toNat_natCast]
  rw [hcl] at hok ⊢
  rw [← hN] at hp
  generalize rowsZ mo al = R at HS HC
  generalize colsZ mo al = C at HS HC
  have HOK := hid hok
  have HH := hid h
  have hmk := fun w => run_make_cells w N (by omega)
  clear h hok hz m1 m2 hN hcl
  go_enter Try.func36, Try.ntmps36
  go_wp2_with fail
  have hD1 := HH.out.alt' al
  have hM1 := Moved.set (a := w) (S := [b]) (g := b) (by simp) 1 (.bool al)
  generalize w.setCell ⟨b, 1, none⟩ (.bool al) = W1 at hD1 hM1 ⊢
  have HD1 := hid hD1
  have HM1 := hid hM1
  clear hD1 hM1
  with_reducible refine (HS.out _ HD1.out.h0 HD1.out.h1).mono ?_
  rintro e w2 ⟨rfl, hb2⟩
  have HD2 := hid (HD1.out.below hb2)
  have HM2 := hid (HM1.out.trans (Moved.below hb2 [b]))
  clear hb2
  go_wp2_with fail
  with_reducible refine (HC.out _).mono ?_
  rintro e w3 ⟨rfl, hb3⟩
  have HD3 := hid (HD2.out.below hb3)
  have HM3 := hid (HM2.out.trans (Moved.below hb3 [b]))
  have hs3 := HM3.out.size
  have c2 := HD3.out.h2
  have g2 := HD3.out.fr 2
  have c3 := HD3.out.h3
  have g3 := HD3.out.fr 3
  have hl3 := HD3.out.lt
  clear hb3
  go_wp2_with fail
  obtain ⟨V, hV⟩ : ∃ V, (w3.setCell ⟨b, 2, none⟩ (.slice (some ⟨w3.heap.size, 0, none⟩) N N)).setCell ⟨b, 3, none⟩ (.int .i64 0) = V := ⟨_, rfl⟩
  have hsz : V.heap.size = w3.heap.size := by rw [← hV]; simp [World.setCell]
  have hd : HdM V b mo al (.slice (some ⟨w3.heap.size, 0, none⟩) N N) 0 := by rw [← hV]; exact (HD3.out.row' _).cur' 0
  have hm : Moved w3 V [b] [b] := by rw [← hV]; exact (Moved.set (by simp) 2 _).trans (Moved.set (by simp) 3 _)
  rw [hV]
  have hc := made_cells V N 48
  rw [hsz] at hc
  refine bodyPost_ret (results_none rfl _ _ _) rfl ⟨⟨_, rfl⟩, w3.heap.size, hs3, SpM.of ?_ hc (by omega) HOK.out, (HM3.out.trans hm).trans (Moved.alloc _ _ _)⟩
  dsimp only
  rw [List.length_replicate]
  exact hd.below (bal (Below.refl _ _) _)
theorem clear_any {b g : Nat} {s : Spc} (al : Bool) (w : World) (h : SpM w b g s) : Calls Try.prog 36 #[.pointer (some ⟨b, 0, none⟩), .bool al] w (ClD b (clearS s.mo al) w) := clear_raw al h.ok.m1 h.ok.m2 w h.hd ⟨_, _, _, rfl⟩
/-- A new space. -/
def NewD (m : Int) (w : World) (e : Ending) (w' : World) : Prop := ∃ b g, e = .returned (.tuple #[.pointer (some ⟨b, 0, none⟩), .int .i64 0]) ∧ w.heap.size ≤ b ∧ w.heap.size ≤ g ∧ SpM w' b g (clearS m false) ∧ Below w.heap.size w w'
set_option maxRecDepth 100000 in
set_option maxHeartbeats 1000000 in
theorem new_yes (m : Int) (m1 : 2 ≤ m) (m2 : m ≤ 5) (w : World) : Calls Try.prog 33 #[.int .i64 m] w (NewD m w) := by
  have HM := hid (fun w => model_yes m m1 m2 w)
  have HC := hid (fun (W : World) (b : Nat) (h : HdM W b m false (.slice none 0 0) 0) => clear_raw false m1 m2 W h ⟨_, _, _, rfl⟩)
  generalize rowsZ m true = R at HM
  generalize colsZ m true = C at HM
  clear m1 m2
  go_enter Try.func33, Try.ntmps33
  go_wp2_with fail
  with_reducible refine (HM.out _).mono ?_
  rintro e w1 ⟨rfl, hb⟩
  have HB := hid hb
  clear hb
  go_wp2_with fail
  have hh : HdM ((w1.alloc (.cells #[.int .i64 R, .int .i64 C] 104)).alloc (.cells #[.int .i64 m, .bool false, .slice none 0 0, .int .i64 0] 119)) (w1.heap.size + 1) m false (.slice none 0 0) 0 := by
    have hn := World.alloc_heap_new (w1.alloc (.cells #[.int .i64 R, .int .i64 C] 104)) (.cells #[.int .i64 m, .bool false, .slice none 0 0, .int .i64 0] 119)
    rw [World.size_alloc] at hn
    exact ⟨cell_of_heap hn, cell_of_heap hn, cell_of_heap hn, cell_of_heap hn, fun o => frozen_of_heap hn⟩
  have hb1 := (HB.out.al (Nat.le_refl _) (.cells #[.int .i64 R, .int .i64 C] 104)).al (Nat.le_refl _) (.cells #[.int .i64 m, .bool false, .slice none 0 0, .int .i64 0] 119)
  with_reducible refine (HC.out _ _ hh).mono ?_
  rintro e w2 ⟨⟨v, rfl⟩, g, hg, hs, hm⟩
  have HS := hid hs
  have hz := HB.out.size
  have HB2 := hid (hb1.trans (hm.toBelow hb1.size (fun k hk => by have := List.mem_singleton.1 hk; omega)))
  have HG := hid (Nat.le_trans hb1.size hg)
  clear hs hg hm hh hb1
  go_wp2
  go_ret2
  exact ⟨_, _, rfl, by omega, HG.out, HS.out, HB2.out⟩
set_option maxRecDepth 100000 in
set_option maxHeartbeats 1000000 in
theorem new_no (m : Int) (h : m < 2 ∨ 5 < m) (w : World) : Calls Try.prog 33 #[.int .i64 m] w fun e w' => e = .returned (.tuple #[.pointer none, .int .i64 5]) ∧ Below w.heap.size w w' := by
  have HM := hid (fun w => model_no m h w)
  clear h
  go_enter Try.func33, Try.ntmps33
  go_wp2_with fail
  with_reducible refine (HM.out _).mono ?_
  rintro e w1 ⟨rfl, hb⟩
  have HB := hid hb
  clear hb
  go_wp2
  go_ret2
  exact ⟨rfl, HB.out.al (Nat.le_refl _) _⟩
section
variable {b g : Nat} {s : Spc}
set_option maxRecDepth 100000 in
set_option maxHeartbeats 1000000 in
theorem cursor_any (w : World) (h : SpM w b g s) : Calls Try.prog 74 #[.pointer (some ⟨b, 0, none⟩)] w fun e w' => e = .returned (.int .i64 s.cu) ∧ Below w.heap.size w w' := by
  have h3 := h.h3
  have hlt := h.lt.1
  clear h
  go_enter Try.func74, Try.ntmps74
  go_wp2
  go_ret
  exact ⟨rfl, Below.refl _ _⟩
theorem SpM.placed {w : World} (h : SpM w b g s) (n : Int) : SpM (w.setCell ⟨b, 3, none⟩ (.int .i64 (s.wr n))) b g (s.place n) :=
  SpM.of (h.hd.cur' _) (h.row.block (Go.heap_setCell_other w ⟨b, 3, none⟩ g _ (fun e => h.ne e.symm))) h.ne (h.ok.place n)
set_option maxRecDepth 100000 in
set_option maxHeartbeats 1000000 in
theorem place_any (n : Int) (hn : I64 n) (w : World) (h : SpM w b g s) : Calls Try.prog 38 #[.pointer (some ⟨b, 0, none⟩), .int .i64 n] w (SpD b g (s.place n) w) := by
  have HP := hid (fun w h => pos_any (b := b) (g := g) (s := s) n hn w h)
  have HH := hid h
  clear h
  go_enter Try.func38, Try.ntmps38
  go_wp2_with fail
  with_reducible refine (HP.out _ HH.out).mono ?_
  rintro e w1 ⟨rfl, hb⟩
  have HB := hid hb
  have HD := hid (HH.out.below hb)
  have h3 := HD.out.h3
  have f3 := HD.out.fr 3
  have hlt := HD.out.lt.1
  clear hb
  go_wp2
  exact bodyPost_ret (results_none rfl _ _ _) rfl ⟨⟨_, rfl⟩, HD.out.placed n, (Moved.below HB.out [b, g]).trans (Moved.set (by simp) 3 _)⟩
end
end Go.Proofs.Ytlhaefgchmakfaa
