/-
  A record's maker: new, dropped, added to, ended; its size; a record's bytes.
-/
import Derived.Test.YtaanpnmgibcemaaGreatDoorVc
import Derived.Deep.RegionHeld3
namespace Go.Proofs.YtaanpnmgibcemaaGreatDoor
open Go.RowKit Go.Lib

theorem Moved.late {w w1 : World} {S S' : List Nat} (m : Moved w w1 S S') {b : Nat} (hb : w.heap.size ≤ b) (i : Nat) (u : Value) : Moved w (w1.setCell ⟨b, i, none⟩ u) S S' :=
  ⟨m.os, m.tape, m.output, Nat.le_trans m.size (by simp [World.setCell]), fun j hj hs => (Go.heap_setCell_other w1 _ j u (fun e => by have : j = b := e; omega)).trans (m.block j hj hs), m.from'⟩
theorem Moved.allocR {w w1 : World} {S S' : List Nat} (m : Moved w w1 S S') (o : Obj) : Moved w (w1.alloc o) S S' := m.trans (Moved.alloc w1 o S')
theorem Moved.drewR {w w1 : World} {S S' : List Nat} (m : Moved w w1 S S') : Moved w w1.drew S S' := ⟨m.os, m.tape, m.output, m.size, m.block, m.from'⟩
theorem Moved.late2 {w w1 : World} {S S' : List Nat} (m : Moved w w1 S S') {b : Nat} (hb : w.heap.size ≤ b) (u v : Value) : Moved w (Op.put2 w1 b u v) S S' := (m.late hb 0 u).late hb 1 v
section
variable {K : Nat} {rd : Value} {rc : List Int} {lg : Bool} {w : World}
theorem MkM.c0 (h : MkM w K rd rc lg) : w.cell? ⟨K, 0, none⟩ = some rd := cell_of_row w K 0 _ 127 _ h.b
theorem MkM.c1 (h : MkM w K rd rc lg) : w.cell? ⟨K, 1, none⟩ = some (.bool lg) := cell_of_row w K 1 _ 127 _ h.b
theorem MkM.free (h : MkM w K rd rc lg) (i : Nat) : w.frozen? ⟨K, i, none⟩ = false := frozen_of_row w K i _ 127 h.b
theorem MkM.slice (h : MkM w K rd rc lg) : ∃ x n cc, rd = .slice x n cc := Tn.reads_any_slice h.reads
def NewK (w : World) (e : Ending) (w' : World) : Prop := e = .returned (.pointer (some ⟨w.heap.size, 0, none⟩)) ∧ MkM w' w.heap.size (.slice none 0 0) [] false ∧ Below w.heap.size w w'
set_option maxRecDepth 100000 in
theorem newMaker_any (w : World) : Calls Tryz.prog 59 #[] w (NewK w) := by
  go_enter Tryz.func59, Tryz.ntmps59
  go_wp2
  go_ret
  exact ⟨rfl, ⟨heap_alloc_new w _, OwnB.nil _, fun q => by cases q⟩, bal (Below.refl _ _) _⟩
/-- The maker has dropped what it had. -/
def DropD (K : Nat) (w : World) (e : Ending) (w' : World) : Prop := e = .returned (.tuple #[]) ∧ MkM w' K (.slice none 0 0) [] false ∧ Moved w w' [K] [K]
theorem drop_set (h : MkM w K rd rc lg) : MkM ((w.setCell ⟨K, 0, none⟩ (.slice none 0 0)).setCell ⟨K, 1, none⟩ (.bool false)) K (.slice none 0 0) [] false ∧ Moved w ((w.setCell ⟨K, 0, none⟩ (.slice none 0 0)).setCell ⟨K, 1, none⟩ (.bool false)) [K] [K] :=
  ⟨⟨Go.heap_setCell_same _ K 1 _ 127 (.bool false) (Go.heap_setCell_same w K 0 _ 127 (.slice none 0 0) h.b), OwnB.nil _, fun q => by cases q⟩, (Moved.set (by simp) 0 _).trans (Moved.set (by simp) 1 _)⟩
set_option maxRecDepth 100000 in
theorem drop_any (h : MkM w K rd rc lg) : Calls Tryz.prog 86 #[.pointer (some ⟨K, 0, none⟩)] w (DropD K w) := by
  have c0 := h.c0
  have c1 := h.c1
  have f0 := h.free 0
  have f1 := h.free 1
  have HX := hid (drop_set h)
  clear h
  go_enter Tryz.func86, Tryz.ntmps86
  go_wp2
  go_end0
  exact ⟨rfl, HX.out.1, HX.out.2⟩
set_option maxRecDepth 100000 in
theorem size_any (h : MkM w K rd rc lg) : Calls Tryz.prog 40 #[.pointer (some ⟨K, 0, none⟩)] w fun e w' => e = .returned (.int .i64 (if lg = true then 8193 else rc.length)) ∧ w = w' := by
  have c0 := h.c0
  have c1 := h.c1
  have hr := h.r
  clear h
  cases lg
  · obtain ⟨x, cc, rfl⟩ := own_len hr _ rfl
    clear hr
    go_enter Tryz.func40, Tryz.ntmps40
    go_wp2
    go_ret
    exact ⟨rfl, rfl⟩
  · clear hr
    go_enter Tryz.func40, Tryz.ntmps40
    go_wp2
    go_ret
    exact ⟨rfl, rfl⟩
/-- A record is taken out. -/
def EndD (K : Nat) (rd : Value) (lg : Bool) (w : World) (e : Ending) (w' : World) : Prop := e = .returned (.agg #[rd, .bool lg]) ∧ MkM w' K (.slice none 0 0) [] false ∧ Moved w w' [K] [K]
set_option maxRecDepth 100000 in
set_option maxHeartbeats 1000000 in
theorem end_any (h : MkM w K rd rc lg) : Calls Tryz.prog 95 #[.pointer (some ⟨K, 0, none⟩)] w (EndD K rd lg w) := by
  have c0 := h.c0
  have c1 := h.c1
  have hl := h.lt
  obtain ⟨x, n, cc, rfl⟩ := h.slice
  have HD := hid (fun W (hb : Below w.heap.size w W) => drop_any (h.moved (Moved.below hb []) (fun q => by cases q) (fun _ _ q => by cases q)))
  have hb0 := bal (Below.refl w.heap.size w) (.cells #[.slice none 0 0, .bool false] 173)
  have HB := hid hb0
  have HS := hid (fun (W : World) (hW : Below w.heap.size w W) => show W.cell? ⟨K, 0, none⟩ = some (.slice x n cc) ∧ W.cell? ⟨K, 1, none⟩ = some (.bool lg) from ⟨keepc hW c0, keepc hW c1⟩)
  clear h hb0
  go_enter Tryz.func95, Tryz.ntmps95
  go_wp2_with fail
  go_region_held3 (fun w' => w'.cell? ⟨K, 0, none⟩ = some (.slice x n cc) ∧ w'.cell? ⟨K, 1, none⟩ = some (.bool lg))
    (first | exact HS.out _ HB.out.drew | exact HS.out _ (bal HB.out _).drew | fail)
    (first | fail)
  all_goals
    go_wp2_with fail
    refine (HD.out _ (bal HB.out _).drew).mono ?_
    rintro e w1 ⟨rfl, hm, hv⟩
    have hz : ∀ {v : Value} {g i : Nat}, w.heap.size ≤ g → ((w.alloc (.cells #[.slice none 0 0, .bool false] 173)).alloc (.cells #[.slice x n cc, .bool lg] 173)).cell? ⟨g, i, none⟩ = some v → w1.cell? ⟨g, i, none⟩ = some v := fun hg e => cell_moved hv e (fun q => by have := List.mem_singleton.1 q; simp at this; omega)
    have b0 := hz (v := .slice none 0 0) (g := w.heap.size) (i := 0) (Nat.le_refl _) (by simp [go_sem])
    have b1 := hz (v := .bool false) (g := w.heap.size) (i := 1) (Nat.le_refl _) (by simp [go_sem])
    have d0 := hz (v := .slice x n cc) (g := w.heap.size + 1) (i := 0) (Nat.le_succ _) (by simp [go_sem])
    have d1 := hz (v := .bool lg) (g := w.heap.size + 1) (i := 1) (Nat.le_succ _) (by simp [go_sem])
    have y0 : w1.frozen? ⟨w.heap.size, 0, none⟩ = false := (World.frozen?_of_block (hv.block w.heap.size (by simp; omega) (fun q => by have e : w.heap.size = K := List.mem_singleton.1 q; omega))).trans (by simp [go_sem])
    have y1 : w1.frozen? ⟨w.heap.size, 1, none⟩ = false := (World.frozen?_of_block (hv.block w.heap.size (by simp; omega) (fun q => by have e : w.heap.size = K := List.mem_singleton.1 q; omega))).trans (by simp [go_sem])
    have HV := hid (((Moved.below (bal HB.out (.cells #[.slice x n cc, .bool lg] 173)).drew [K]).trans hv).late2 (Nat.le_refl w.heap.size) (.slice x n cc) (.bool lg))
    have HM := hid (show MkM (Op.put2 w1 w.heap.size (.slice x n cc) (.bool lg)) K (.slice none 0 0) [] false from (hm.moved (Moved.set (S := [w.heap.size]) (by simp) 0 (.slice x n cc)) (fun q => by have := List.mem_singleton.1 q; omega) (fun b q => by cases q)).moved (Moved.set (S := [w.heap.size]) (by simp) 1 (.bool lg)) (fun q => by have := List.mem_singleton.1 q; omega) (fun b q => by cases q))
    have HK := hid (Op.put2_cells (c := .slice x n cc) (d := .bool lg) b0 b1)
    clear hm hv hz
    go_wp2
    revert HV HM HK
    generalize hW : Op.put2 w1 w.heap.size (.slice x n cc) (.bool lg) = Wf
    intro HV HM HK
    obtain ⟨k0, k1⟩ := HK.out
    unfold Op.put2 at hW
    rw [hW]
    clear hW
    exact bodyPost_ret (v := .agg #[.slice x n cc, .bool lg]) (by simp [results, Tryz.results95, go_sem, k0, k1]) rfl ⟨rfl, HM.out, HV.out⟩
end
end Go.Proofs.YtaanpnmgibcemaaGreatDoor
