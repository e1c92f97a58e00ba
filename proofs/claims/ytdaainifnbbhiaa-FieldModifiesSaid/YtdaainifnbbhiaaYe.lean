/-
  A space is cleared, and made; a character is put; the cursor: the program's.
-/
import Derived.Test.YtdaainifnbbhiaaYd
import Derived.Laws.MakeOwn
namespace Go.Proofs.Ytdaainifnbbhiaa
open Go.RowKit Go.Lib

abbrev z6 : Array Value := #[.int .u8 0, .bool false, .int .u8 0, .int .u8 0, .int .u8 0, .int .u8 0]
theorem infoC : (Try.prog.info? 31).map (fun i => (i.zero, i.size, i.bytes)) = some (some (.agg z6), 6, 6) := by kernel_rfl
theorem info_parts {t : TypeId} {z : Option Value} {s b : Nat} (h : (Try.prog.info? t).map (fun i => (i.zero, i.size, i.bytes)) = some (z, s, b)) : ∃ i, Try.prog.info? t = some i ∧ i.zero = z ∧ i.size = s ∧ i.bytes = b := by
  cases hi : Try.prog.info? t with
  | none => rw [hi] at h; cases h
  | some i =>
    rw [hi] at h
    simp only [Option.map_some, Option.some.injEq, Prod.mk.injEq] at h
    exact ⟨i, rfl, h.1, h.2.1, h.2.2⟩
theorem made_at (N i j : Nat) (hi : i < N) (hj : j < 6) : (madeCells z6 (N * 6))[i * 6 + j]? = cel0.cs[j]? := by
  have hk : i * 6 + j < N * 6 := by omega
  unfold madeCells
  rw [Array.getElem?_map, Array.getElem?_eq_getElem (by simpa using hk)]
  simp only [Array.getElem_range, Option.map_some]
  have e : (i * 6 + j) % z6.size = j := by show (i * 6 + j) % 6 = j; omega
  rw [e]
  have : j = 0 ∨ j = 1 ∨ j = 2 ∨ j = 3 ∨ j = 4 ∨ j = 5 := by omega
  rcases this with rfl | rfl | rfl | rfl | rfl | rfl <;> rfl
theorem cell_of_heap {w : World} {b o : Nat} {A : Array Value} {t : TypeId} (h : w.heap[b]? = some (.cells A t)) : w.cell? ⟨b, o, none⟩ = A[o]? := by
  unfold World.cell?
  dsimp only
  rw [h]
  simp
theorem frozen_of_heap {w : World} {b o : Nat} {A : Array Value} {t : TypeId} (h : w.heap[b]? = some (.cells A t)) : w.frozen? ⟨b, o, none⟩ = false := by
  unfold World.frozen?
  dsimp only
  rw [h]
  simp
theorem made_cells (w : World) (N : Nat) (t : TypeId) : CellsM (w.alloc (.cells (madeCells z6 (N * 6)) t)) w.heap.size (List.replicate N cel0) := by
  have hb := World.alloc_heap_new w (.cells (madeCells z6 (N * 6)) t)
  refine ⟨fun i hi j hj => ?_, fun o => ?_, by simp⟩
  · rw [List.length_replicate] at hi
    have e : (List.replicate N cel0).getD i cel0 = cel0 := by rw [List.getD, List.getElem?_replicate]; split <;> rfl
    rw [e, ← made_at N i j hi hj]
    exact cell_of_heap hb
  · exact frozen_of_heap hb
theorem run_make_cells (w : World) (N : Nat) (hN : N ≤ 10000) : (Instr.makeSlice 41 (.int .i64 (N : Int)) (.int .i64 (N : Int))).run Try.prog w = .ok (.slice (some ⟨w.heap.size, 0, none⟩) N N) (w.alloc (.cells (madeCells z6 (N * 6)) 31)) := by
  obtain ⟨i, hi, hz, hs, hb⟩ := info_parts infoC
  have := run_make (P := Try.prog) w 41 31 i (.agg z6) Try.underlying41 hi hz .i64 .i64 (N : Int) (N : Int) (by omega) (Int.le_refl _) (by rw [hb]; omega) (by omega)
  rw [hs] at this
  simpa [Value.cells] using this
/-- A header, whatever cells it has. -/
structure HdM (w : World) (b : Nat) (mo : Int) (alt : Bool) (v : Value) (cu : Int) : Prop where
  h0 : w.cell? ⟨b, 0, none⟩ = some (.int .i64 mo)
  h1 : w.cell? ⟨b, 1, none⟩ = some (.bool alt)
  h2 : w.cell? ⟨b, 2, none⟩ = some v
  h3 : w.cell? ⟨b, 3, none⟩ = some (.int .i64 cu)
  fr : ∀ o, w.frozen? ⟨b, o, none⟩ = false
theorem SpM.hd {w : World} {b g : Nat} {s : Spc} (h : SpM w b g s) : HdM w b s.mo s.alt (.slice (some ⟨g, 0, none⟩) s.L.length (s.L.length + s.ex)) s.cu := ⟨h.h0, h.h1, h.h2, h.h3, h.fr⟩
theorem HdM.lt {w : World} {b : Nat} {mo cu : Int} {alt : Bool} {v : Value} (h : HdM w b mo alt v cu) : b < w.heap.size := World.block_lt_of_cell? w _ h.h0
theorem HdM.below {A B : World} {b : Nat} {mo cu : Int} {alt : Bool} {v : Value} (h : HdM A b mo alt v cu) (hb : Below A.heap.size A B) : HdM B b mo alt v cu :=
  ⟨keepc hb h.h0, keepc hb h.h1, keepc hb h.h2, keepc hb h.h3, fun o => (hb.frozen (p := ⟨b, o, none⟩) h.lt).trans (h.fr o)⟩
theorem sc_other {w : World} {b i j : Nat} {u : Value} (h : i ≠ j) : (w.setCell ⟨b, i, none⟩ u).cell? ⟨b, j, none⟩ = w.cell? ⟨b, j, none⟩ := by
  apply World.cell?_setCell_other
  intro e
  exact h (congrArg Addr.off e)
theorem sc_same {w : World} {b i : Nat} {u v : Value} (h : w.cell? ⟨b, i, none⟩ = some u) : (w.setCell ⟨b, i, none⟩ v).cell? ⟨b, i, none⟩ = some v := by
  apply World.cell?_setCell_same
  exact h
theorem HdM.alt' {w : World} {b : Nat} {mo cu : Int} {alt : Bool} {v : Value} (h : HdM w b mo alt v cu) (al : Bool) : HdM (w.setCell ⟨b, 1, none⟩ (.bool al)) b mo al v cu :=
  ⟨(sc_other (by decide)).trans h.h0, sc_same h.h1, (sc_other (by decide)).trans h.h2, (sc_other (by decide)).trans h.h3, fun o => by rw [World.frozen?_setCell]; exact h.fr o⟩
theorem HdM.row' {w : World} {b : Nat} {mo cu : Int} {alt : Bool} {v : Value} (h : HdM w b mo alt v cu) (u : Value) : HdM (w.setCell ⟨b, 2, none⟩ u) b mo alt u cu :=
  ⟨(sc_other (by decide)).trans h.h0, (sc_other (by decide)).trans h.h1, sc_same h.h2, (sc_other (by decide)).trans h.h3, fun o => by rw [World.frozen?_setCell]; exact h.fr o⟩
theorem HdM.cur' {w : World} {b : Nat} {mo cu : Int} {alt : Bool} {v : Value} (h : HdM w b mo alt v cu) (n : Int) : HdM (w.setCell ⟨b, 3, none⟩ (.int .i64 n)) b mo alt v n :=
  ⟨(sc_other (by decide)).trans h.h0, (sc_other (by decide)).trans h.h1, (sc_other (by decide)).trans h.h2, sc_same h.h3, fun o => by rw [World.frozen?_setCell]; exact h.fr o⟩
theorem SpM.of {w : World} {b g : Nat} {s : Spc} (h : HdM w b s.mo s.alt (.slice (some ⟨g, 0, none⟩) s.L.length (s.L.length + s.ex)) s.cu) (hr : CellsM w g s.L) (hn : b ≠ g) (ok : s.OK) : SpM w b g s := ⟨h.h0, h.h1, h.h2, h.h3, h.fr, hr, hn, ok⟩
/-- It was cleared. -/
def ClD (b : Nat) (s' : Spc) (w : World) (e : Ending) (w' : World) : Prop := (∃ v, e = .returned v) ∧ ∃ g, w.heap.size ≤ g ∧ SpM w' b g s' ∧ Moved w w' [b] [b]
set_option maxRecDepth 100000 in
set_option maxHeartbeats 1000000 in
theorem clear_raw {b : Nat} {mo cu : Int} {alt : Bool} {v : Value} (al : Bool) (m1 : 2 ≤ mo) (m2 : mo ≤ 5) (w : World) (h : HdM w b mo alt v cu) (hv : ∃ x n c, v = .slice x n c) : Calls Try.prog 22 #[.pointer (some ⟨b, 0, none⟩), .bool al] w (ClD b (clearS mo al) w) := by
  obtain ⟨x, n, c, rfl⟩ := hv
  have h1 := h.h1
  have g1 := h.fr 1
  have hlt := h.lt
  have hz := size_ok m1 m2 al
  have hp := ok_pos hz
  obtain ⟨N, hN⟩ : ∃ N : Nat, (N : Int) = rowsZ mo al * colsZ mo al := ⟨(rowsZ mo al * colsZ mo al).toNat, by omega⟩
  have HS := hid (fun w h0 h1 => size_raw (b := b) (mo := mo) (alt := al) w h0 h1 m1 m2)
  have HC := hid (fun w => cells_ok _ _ hz w)
  rw [← hN] at HC
  have hok := clearS_ok m1 m2 al
  have hcl : clearS mo al = ⟨mo, al, List.replicate N cel0, 0, 0⟩ := by unfold clearS; rw [← hN, Int.toNat_natCast]
  rw [hcl] at hok ⊢
  rw [← hN] at hp
  generalize rowsZ mo al = R at HS HC
  generalize colsZ mo al = C at HS HC
  have HOK := hid hok
  have HH := hid h
  have hmk := fun w => run_make_cells w N (by omega)
  clear h hok hz m1 m2 hN hcl
  go_enter Try.func22, Try.ntmps22
  go_wp2_with fail
  have hD1 := HH.out.alt' al
  have hM1 := Moved.set (a := w) (S := [b]) (g := b) (by simp) 1 (.bool al)
  generalize w.setCell ⟨b, 1, none⟩ (.bool al) = W1 at hD1 hM1 ⊢
  have HD1 := hid hD1
  have HM1 := hid hM1
  clear hD1 hM1
  with_reducible refine (HS.out _ HD1.out.h0 HD1.out.h1).mono ?_
  rintro e w2 ⟨rfl, hb2⟩
  have HD2 := hid (HD1.out.below hb2)
  have HM2 := hid (HM1.out.trans (Moved.below hb2 [b]))
  clear hb2
  go_wp2_with fail
  with_reducible refine (HC.out _).mono ?_
  rintro e w3 ⟨rfl, hb3⟩
  have HD3 := hid (HD2.out.below hb3)
  have HM3 := hid (HM2.out.trans (Moved.below hb3 [b]))
  have hs3 := HM3.out.size
  have c2 := HD3.out.h2
  have g2 := HD3.out.fr 2
  have c3 := HD3.out.h3
  have g3 := HD3.out.fr 3
  have hl3 := HD3.out.lt
  clear hb3
  go_wp2_with fail
  obtain ⟨V, hV⟩ : ∃ V, (w3.setCell ⟨b, 2, none⟩ (.slice (some ⟨w3.heap.size, 0, none⟩) N N)).setCell ⟨b, 3, none⟩ (.int .i64 0) = V := ⟨_, rfl⟩
  have hsz : V.heap.size = w3.heap.size := by rw [← hV]; simp [World.setCell]
  have hd : HdM V b mo al (.slice (some ⟨w3.heap.size, 0, none⟩) N N) 0 := by rw [← hV]; exact (HD3.out.row' _).cur' 0
  have hm : Moved w3 V [b] [b] := by rw [← hV]; exact (Moved.set (by simp) 2 _).trans (Moved.set (by simp) 3 _)
  rw [hV]
  have hc := made_cells V N 31
  rw [hsz] at hc
  refine bodyPost_ret (results_none rfl _ _ _) rfl ⟨⟨_, rfl⟩, w3.heap.size, hs3, SpM.of ?_ hc (by omega) HOK.out, (HM3.out.trans hm).trans (Moved.alloc _ _ _)⟩
  dsimp only
  rw [List.length_replicate]
  exact hd.below (bal (Below.refl _ _) _)
theorem clear_any {b g : Nat} {s : Spc} (al : Bool) (w : World) (h : SpM w b g s) : Calls Try.prog 22 #[.pointer (some ⟨b, 0, none⟩), .bool al] w (ClD b (clearS s.mo al) w) := clear_raw al h.ok.m1 h.ok.m2 w h.hd ⟨_, _, _, rfl⟩
/-- A new space. -/
def NewD (m : Int) (w : World) (e : Ending) (w' : World) : Prop := ∃ b g, e = .returned (.tuple #[.pointer (some ⟨b, 0, none⟩), .int .i64 0]) ∧ w.heap.size ≤ b ∧ w.heap.size ≤ g ∧ SpM w' b g (clearS m false) ∧ Below w.heap.size w w'
set_option maxRecDepth 100000 in
set_option maxHeartbeats 1000000 in
theorem new_yes (m : Int) (m1 : 2 ≤ m) (m2 : m ≤ 5) (w : World) : Calls Try.prog 12 #[.int .i64 m] w (NewD m w) := by
  have HM := hid (fun w => model_yes m m1 m2 w)
  have HC := hid (fun (W : World) (b : Nat) (h : HdM W b m false (.slice none 0 0) 0) => clear_raw false m1 m2 W h ⟨_, _, _, rfl⟩)
  generalize rowsZ m true = R at HM
  generalize colsZ m true = C at HM
  clear m1 m2
  go_enter Try.func12, Try.ntmps12
  go_wp2_with fail
  with_reducible refine (HM.out _).mono ?_
  rintro e w1 ⟨rfl, hb⟩
  have HB := hid hb
  clear hb
  go_wp2_with fail
  have hh : HdM ((w1.alloc (.cells #[.int .i64 R, .int .i64 C] 52)).alloc (.cells #[.int .i64 m, .bool false, .slice none 0 0, .int .i64 0] 101)) (w1.heap.size + 1) m false (.slice none 0 0) 0 := by
    have hn := World.alloc_heap_new (w1.alloc (.cells #[.int .i64 R, .int .i64 C] 52)) (.cells #[.int .i64 m, .bool false, .slice none 0 0, .int .i64 0] 101)
    rw [World.size_alloc] at hn
    exact ⟨cell_of_heap hn, cell_of_heap hn, cell_of_heap hn, cell_of_heap hn, fun o => frozen_of_heap hn⟩
  have hb1 := (HB.out.al (Nat.le_refl _) (.cells #[.int .i64 R, .int .i64 C] 52)).al (Nat.le_refl _) (.cells #[.int .i64 m, .bool false, .slice none 0 0, .int .i64 0] 101)
  with_reducible refine (HC.out _ _ hh).mono ?_
  rintro e w2 ⟨⟨v, rfl⟩, g, hg, hs, hm⟩
  have HS := hid hs
  have hz := HB.out.size
  have HB2 := hid (hb1.trans (hm.toBelow hb1.size (fun k hk => by have := List.mem_singleton.1 hk; omega)))
  have HG := hid (Nat.le_trans hb1.size hg)
  clear hs hg hm hh hb1
  go_wp2
  go_ret2
  exact ⟨_, _, rfl, by omega, HG.out, HS.out, HB2.out⟩
set_option maxRecDepth 100000 in
set_option maxHeartbeats 1000000 in
theorem new_no (m : Int) (h : m < 2 ∨ 5 < m) (w : World) : Calls Try.prog 12 #[.int .i64 m] w fun e w' => e = .returned (.tuple #[.pointer none, .int .i64 5]) ∧ Below w.heap.size w w' := by
  have HM := hid (fun w => model_no m h w)
  clear h
  go_enter Try.func12, Try.ntmps12
  go_wp2_with fail
  with_reducible refine (HM.out _).mono ?_
  rintro e w1 ⟨rfl, hb⟩
  have HB := hid hb
  clear hb
  go_wp2
  go_ret2
  exact ⟨rfl, HB.out.al (Nat.le_refl _) _⟩
section
variable {b g : Nat} {s : Spc}
set_option maxRecDepth 100000 in
set_option maxHeartbeats 1000000 in
theorem cursor_any (w : World) (h : SpM w b g s) : Calls Try.prog 17 #[.pointer (some ⟨b, 0, none⟩)] w fun e w' => e = .returned (.int .i64 s.cu) ∧ Below w.heap.size w w' := by
  have h3 := h.h3
  have hlt := h.lt.1
  clear h
  go_enter Try.func17, Try.ntmps17
  go_wp2
  go_ret
  exact ⟨rfl, Below.refl _ _⟩
set_option maxRecDepth 100000 in
set_option maxHeartbeats 1000000 in
theorem smodel_any (w : World) (h : SpM w b g s) : Calls Try.prog 25 #[.pointer (some ⟨b, 0, none⟩)] w fun e w' => e = .returned (.int .i64 s.mo) ∧ Below w.heap.size w w' := by
  have h0 := h.h0
  have hlt := h.lt.1
  clear h
  go_enter Try.func25, Try.ntmps25
  go_wp2
  go_ret
  exact ⟨rfl, Below.refl _ _⟩
set_option maxRecDepth 100000 in
set_option maxHeartbeats 1000000 in
theorem alternate_any (w : World) (h : SpM w b g s) : Calls Try.prog 26 #[.pointer (some ⟨b, 0, none⟩)] w fun e w' => e = .returned (.bool s.alt) ∧ Below w.heap.size w w' := by
  have h1 := h.h1
  have hlt := h.lt.1
  clear h
  go_enter Try.func26, Try.ntmps26
  go_wp2
  go_ret
  exact ⟨rfl, Below.refl _ _⟩
theorem SpM.placed {w : World} (h : SpM w b g s) (n : Int) : SpM (w.setCell ⟨b, 3, none⟩ (.int .i64 (s.wr n))) b g (s.place n) :=
  SpM.of (h.hd.cur' _) (h.row.block (Go.heap_setCell_other w ⟨b, 3, none⟩ g _ (fun e => h.ne e.symm))) h.ne (h.ok.place n)
set_option maxRecDepth 100000 in
set_option maxHeartbeats 1000000 in
theorem place_any (n : Int) (hn : I64 n) (w : World) (h : SpM w b g s) : Calls Try.prog 21 #[.pointer (some ⟨b, 0, none⟩), .int .i64 n] w (SpD b g (s.place n) w) := by
  have HP := hid (fun w h => pos_any (b := b) (g := g) (s := s) n hn w h)
  have HH := hid h
  clear h
  go_enter Try.func21, Try.ntmps21
  go_wp2_with fail
  with_reducible refine (HP.out _ HH.out).mono ?_
  rintro e w1 ⟨rfl, hb⟩
  have HB := hid hb
  have HD := hid (HH.out.below hb)
  have h3 := HD.out.h3
  have f3 := HD.out.fr 3
  have hlt := HD.out.lt.1
  clear hb
  go_wp2
  exact bodyPost_ret (results_none rfl _ _ _) rfl ⟨⟨_, rfl⟩, HD.out.placed n, (Moved.below HB.out [b, g]).trans (Moved.set (by simp) 3 _)⟩
set_option maxRecDepth 100000 in
set_option maxHeartbeats 1000000 in
theorem put_any (n : Int) (hn : I64 n) (code : Int) (hc : U8 code) (w : World) (h : SpM w b g s) : Calls Try.prog 20 #[.pointer (some ⟨b, 0, none⟩), .int .i64 n, .int .u8 code] w (SpD b g (s.putC n code) w) := by
  have HA := hid (fun w h => at_any (b := b) (g := g) (s := s) n hn w h)
  have HT := hid (fun (c : Cel) (k : c.OK) w h => set_any (b := b) (g := g) (s := s) n hn c k w h)
  have hok := h.ok.cel (s.wr n)
  unfold Spc.putC
  change (s.atC n).OK at hok
  generalize s.atC n = c at HA hok ⊢
  obtain ⟨x0, x1, x2, x3, x4, x5⟩ := c
  dsimp only
  have HK := hid (show (Cel.mk code x1 x2 x3 x4 x5).OK from ⟨hc, hok.fa, hok.hi, hok.co, hok.se⟩)
  have HH := hid h
  clear h hok hc
  cases x1
  · simp only [if_false, Bool.false_eq_true]
    go_enter Try.func20, Try.ntmps20
    go_wp2_with fail
    with_reducible refine (HA.out _ HH.out).mono ?_
    rintro e w1 ⟨rfl, hb⟩
    have HB := hid hb
    clear hb
    go_wp2_with fail
    with_reducible refine (HT.out _ HK.out _ (HH.out.below (HB.out.al (Nat.le_refl _) _))).mono ?_
    rintro e w2 ⟨⟨v, rfl⟩, hs, hm⟩
    have HS := hid hs
    have HM := hid hm
    clear hs hm
    go_wp2
    exact bodyPost_ret (results_none rfl _ _ _) rfl ⟨⟨_, rfl⟩, HS.out, (Moved.below (HB.out.al (Nat.le_refl _) _) [b, g]).trans HM.out⟩
  · simp only [if_true]
    go_enter Try.func20, Try.ntmps20
    go_wp2_with fail
    with_reducible refine (HA.out _ HH.out).mono ?_
    rintro e w1 ⟨rfl, hb⟩
    have HB := hid hb
    clear hb
    go_wp2
    exact bodyPost_ret (results_none rfl _ _ _) rfl ⟨⟨_, rfl⟩, HH.out.below (HB.out.al (Nat.le_refl _) _), Moved.below (HB.out.al (Nat.le_refl _) _) [b, g]⟩
end
end Go.Proofs.Ytdaainifnbbhiaa
