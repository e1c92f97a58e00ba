/-
  The machine in memory: its states and what it agrees to; taking a step.
-/
import Derived.Test.YtdpfjbpfafekfaaOa
import Derived.Deep.RegionHeld3
namespace Go.Proofs.Ytdpfjbpfafekfaa
open Go.RowKit Go.Lib

def put2 (w : World) (b : Nat) (c d : Value) : World := (w.setCell ⟨b, 0, none⟩ c).setCell ⟨b, 1, none⟩ d
theorem put2_cells {w : World} {b : Nat} {c d u v : Value} (h0 : w.cell? ⟨b, 0, none⟩ = some u) (h1 : w.cell? ⟨b, 1, none⟩ = some v) : (put2 w b c d).cell? ⟨b, 0, none⟩ = some c ∧ (put2 w b c d).cell? ⟨b, 1, none⟩ = some d := by
  have n : (⟨b, 1, none⟩ : Addr) ≠ ⟨b, 0, none⟩ := fun e => by injection e; omega
  unfold put2
  refine ⟨?_, ?_⟩
  · rw [World.cell?_setCell_other (h := n)]
    exact World.cell?_setCell_same _ _ _ h0
  · exact World.cell?_setCell_same _ _ _ ((World.cell?_setCell_other _ _ _ _ n.symm).trans h1)
theorem put2_below {w0 w : World} {b : Nat} (c d : Value) (h : Below w0.heap.size w0 w) (hb : w0.heap.size ≤ b) : Below w0.heap.size w0 (put2 w b c d) := (h.setCell (by exact hb) _).setCell (by exact hb) _
set_option maxRecDepth 100000 in
set_option maxHeartbeats 1000000 in
theorem sask_off (s : Int) (h0 : 0 ≤ s) (h5 : s ≤ 5) (w : World) : Calls Try.prog 53 #[.int .u8 s, .bool false] w fun e w' => e = .returned (.tuple #[.agg #[.int .u8 (askN s false).1, .int .u8 (askN s false).2.1], .bool (askN s false).2.2]) ∧ Below w.heap.size w w' := by
  have H := hid (fun W => askOff_any s h0 h5 W)
  generalize (askN s false).1 = A at *
  generalize (askN s false).2.1 = B at *
  generalize (askN s false).2.2 = C at *
  go_enter Try.func53, Try.ntmps53
  go_wp2_with fail
  with_reducible refine (H.out _).mono ?_
  rintro e w1 ⟨rfl, hb⟩
  obtain ⟨⟨z0, z1⟩, y0, y1⟩ := open2 (t := 115) hb
  have HB := hid (put2_below (.int .u8 A) (.int .u8 B) (below_t (bal (Below.refl w.heap.size w) _) hb) (Nat.le_refl w.heap.size))
  have HK := hid (put2_cells (c := .int .u8 A) (d := .int .u8 B) z0 z1)
  clear hb
  go_wp2
  revert HB HK
  generalize hW : put2 w1 w.heap.size (.int .u8 A) (.int .u8 B) = Wf
  intro HB HK
  obtain ⟨k0, k1⟩ := HK.out
  unfold put2 at hW
  rw [hW]
  clear hW
  exact bodyPost_ret (v := .tuple #[.agg #[.int .u8 A, .int .u8 B], .bool C]) (by simp [results, Try.results53, go_sem, k0, k1]) rfl ⟨rfl, HB.out⟩
set_option maxRecDepth 100000 in
set_option maxHeartbeats 1000000 in
theorem sask_on (s : Int) (h0 : 0 ≤ s) (h5 : s ≤ 5) (w : World) : Calls Try.prog 53 #[.int .u8 s, .bool true] w fun e w' => e = .returned (.tuple #[.agg #[.int .u8 (askN s true).1, .int .u8 (askN s true).2.1], .bool (askN s true).2.2]) ∧ Below w.heap.size w w' := by
  have H := hid (fun W => askOn_any s h0 h5 W)
  generalize (askN s true).1 = A at *
  generalize (askN s true).2.1 = B at *
  generalize (askN s true).2.2 = C at *
  go_enter Try.func53, Try.ntmps53
  go_wp2_with fail
  with_reducible refine (H.out _).mono ?_
  rintro e w1 ⟨rfl, hb⟩
  obtain ⟨⟨z0, z1⟩, y0, y1⟩ := open2 (t := 115) hb
  have HB := hid (put2_below (.int .u8 A) (.int .u8 B) (below_t (bal (Below.refl w.heap.size w) _) hb) (Nat.le_refl w.heap.size))
  have HK := hid (put2_cells (c := .int .u8 A) (d := .int .u8 B) z0 z1)
  clear hb
  go_wp2
  revert HB HK
  generalize hW : put2 w1 w.heap.size (.int .u8 A) (.int .u8 B) = Wf
  intro HB HK
  obtain ⟨k0, k1⟩ := HK.out
  unfold put2 at hW
  rw [hW]
  clear hW
  exact bodyPost_ret (v := .tuple #[.agg #[.int .u8 A, .int .u8 B], .bool C]) (by simp [results, Try.results53, go_sem, k0, k1]) rfl ⟨rfl, HB.out⟩
theorem sask_any (s : Int) (on : Bool) (h0 : 0 ≤ s) (h5 : s ≤ 5) (w : World) : Calls Try.prog 53 #[.int .u8 s, .bool on] w fun e w' => e = .returned (.tuple #[.agg #[.int .u8 (askN s on).1, .int .u8 (askN s on).2.1], .bool (askN s on).2.2]) ∧ Below w.heap.size w w' := by
  cases on
  · exact sask_off s h0 h5 w
  · exact sask_on s h0 h5 w
/-- A machine: what it agrees to, and its states, by side and option (256 a side). -/
structure Mach (w : World) (g : Nat) (ag : Nat → Bool) (st : Nat → Int) : Prop where
  ca : ∀ i, i < 512 → w.cell? ⟨g, i, none⟩ = some (.bool (ag i))
  cs : ∀ i, i < 512 → w.cell? ⟨g, 512 + i, none⟩ = some (.int .u8 (st i))
  fr : ∀ i, i < 1024 → w.frozen? ⟨g, i, none⟩ = false
  ok : ∀ i, 0 ≤ st i ∧ st i ≤ 5
theorem Mach.lt {w : World} {g : Nat} {ag : Nat → Bool} {st : Nat → Int} (h : Mach w g ag st) : g < w.heap.size := World.block_lt_of_cell? w _ (h.ca 0 (by omega))
theorem Mach.moved {w w' : World} {g : Nat} {ag : Nat → Bool} {st : Nat → Int} {S S' : List Nat} (h : Mach w g ag st) (m : Moved w w' S S') (hs : g ∉ S) : Mach w' g ag st :=
  ⟨fun i hi => cell_moved m (h.ca i hi) hs, fun i hi => cell_moved m (h.cs i hi) hs, fun i hi => by
    rw [← h.fr i hi]
    unfold World.frozen?
    rw [m.block g h.lt hs], h.ok⟩
theorem Mach.step {w w' : World} {g : Nat} {ag : Nat → Bool} {st : Nat → Int} (h : Mach w g ag st) (hb : Below w.heap.size w w') : Mach w' g ag st := h.moved (Moved.below hb []) (fun q => by cases q)
/-- One state changed. -/
def upd (st : Nat → Int) (i : Nat) (s : Int) : Nat → Int := fun j => if j = i then s else st j
theorem upd_same (st : Nat → Int) (i : Nat) (s : Int) : upd st i s i = s := if_pos rfl
theorem upd_other (st : Nat → Int) {i j : Nat} (s : Int) (h : j ≠ i) : upd st i s j = st j := if_neg h
theorem Mach.set {w : World} {g : Nat} {ag : Nat → Bool} {st : Nat → Int} (h : Mach w g ag st) (i : Nat) (hi : i < 512) (s : Int) (hs : 0 ≤ s ∧ s ≤ 5) : Mach (w.setCell ⟨g, 512 + i, none⟩ (.int .u8 s)) g ag (upd st i s) := by
  refine ⟨fun j hj => ?_, fun j hj => ?_, fun j hj => by simp [h.fr j hj], fun j => ?_⟩
  · rw [World.cell?_setCell_other (h := fun e => by injection e; omega)]
    exact h.ca j hj
  · by_cases e : j = i
    · subst e
      rw [upd_same]
      exact World.cell?_setCell_same _ _ _ (h.cs j hj)
    · rw [upd_other st s e, World.cell?_setCell_other (h := fun q => by injection q; omega)]
      exact h.cs j hj
  · unfold upd
    split
    · exact hs
    · exact h.ok j
end Go.Proofs.Ytdpfjbpfafekfaa
