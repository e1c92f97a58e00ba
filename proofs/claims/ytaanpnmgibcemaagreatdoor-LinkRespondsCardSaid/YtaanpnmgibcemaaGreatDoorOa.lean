/-
  option: the machine, and what it hears and is asked.
-/
import Derived.Test.YtaanpnmgibcemaaGreatDoorBa
import Derived.IntWalk
import Derived.Deep.RegionHeld3
namespace Go.Proofs.YtaanpnmgibcemaaGreatDoor.Op
/-! XOa -/
section
open Go.RowKit Go.Lib
/-- On is heard: the state behind it, and what is said (0 nothing, 1 on, 2 off). -/
def hOn (s : Int) (ag : Bool) : Int × Int :=
  if s = 0 then (if ag then (1, 1) else (0, 2)) else if s = 2 then (0, 0) else if s = 3 then (1, 0) else if s = 4 then (1, 0) else if s = 5 then (2, 2) else (s, 0)
/-- Off is heard. -/
def hOff (s : Int) : Int × Int := if s = 1 then (0, 2) else if s = 2 then (0, 0) else if s = 3 then (4, 1) else if s = 4 then (0, 0) else if s = 5 then (0, 0) else (s, 0)
/-- We ask: the state, what is said, whether there is anything to ask for. -/
def askN (s : Int) (on : Bool) : Int × Int × Bool :=
  if on then (if s = 0 then (4, 1, true) else if s = 2 then (3, 0, true) else if s = 5 then (4, 0, true) else (0, 0, false))
  else (if s = 1 then (2, 2, true) else if s = 3 then (2, 0, true) else if s = 4 then (5, 0, true) else (0, 0, false))
/-- The verb that says it. -/
def verbN (side say : Int) : Int := if say = 1 then (if side = 0 then 251 else 253) else (if side = 0 then 252 else 254)
theorem six {s : Int} (h0 : 0 ≤ s) (h5 : s ≤ 5) : s = 0 ∨ s = 1 ∨ s = 2 ∨ s = 3 ∨ s = 4 ∨ s = 5 := by omega
theorem hOn_fit {s : Int} (h0 : 0 ≤ s) (h5 : s ≤ 5) (ag : Bool) : 0 ≤ (hOn s ag).1 ∧ (hOn s ag).1 ≤ 5 ∧ 0 ≤ (hOn s ag).2 ∧ (hOn s ag).2 ≤ 2 := by
  rcases six h0 h5 with rfl | rfl | rfl | rfl | rfl | rfl <;> cases ag <;> decide
theorem hOff_fit {s : Int} (h0 : 0 ≤ s) (h5 : s ≤ 5) : 0 ≤ (hOff s).1 ∧ (hOff s).1 ≤ 5 ∧ 0 ≤ (hOff s).2 ∧ (hOff s).2 ≤ 2 := by
  rcases six h0 h5 with rfl | rfl | rfl | rfl | rfl | rfl <;> decide
theorem askN_fit {s : Int} (h0 : 0 ≤ s) (h5 : s ≤ 5) (on : Bool) : 0 ≤ (askN s on).1 ∧ (askN s on).1 ≤ 5 ∧ 0 ≤ (askN s on).2.1 ∧ (askN s on).2.1 ≤ 2 := by
  rcases six h0 h5 with rfl | rfl | rfl | rfl | rfl | rfl <;> cases on <;> decide
/-- Two cells of a block of one's own. -/
theorem open2 {w w' : World} {c d : Value} {t : TypeId} (hb : Below (w.alloc (.cells #[c, d] t)).heap.size (w.alloc (.cells #[c, d] t)) w') : (w'.cell? ⟨w.heap.size, 0, none⟩ = some c ∧ w'.cell? ⟨w.heap.size, 1, none⟩ = some d) ∧ (w'.frozen? ⟨w.heap.size, 0, none⟩ = false ∧ w'.frozen? ⟨w.heap.size, 1, none⟩ = false) :=
  ⟨⟨keepc hb (by simp [go_sem]), keepc hb (by simp [go_sem])⟩, ⟨(hb.frozen (by simp)).trans (by simp [go_sem]), (hb.frozen (by simp)).trans (by simp [go_sem])⟩⟩
set_option maxRecDepth 100000 in
set_option maxHeartbeats 1000000 in
theorem shearOn_any (s : Int) (ag : Bool) (h0 : 0 ≤ s) (h5 : s ≤ 5) (w : World) : Calls Tryz.prog 127 #[.int .u8 s, .bool ag] w fun e w' => e = .returned (.agg #[.int .u8 (hOn s ag).1, .int .u8 (hOn s ag).2]) ∧ Below w.heap.size w w' := by
  rcases six h0 h5 with rfl | rfl | rfl | rfl | rfl | rfl <;> cases ag
  all_goals
    clear h0 h5
    go_enter Tryz.func127, Tryz.ntmps127
    go_wp2
    refine bodyPost_ret (by simp [results, Tryz.results127, go_sem]; decide) rfl ⟨rfl, (Below.refl _ _).alloc (Nat.le_refl _) _⟩
set_option maxRecDepth 100000 in
set_option maxHeartbeats 1000000 in
theorem shearOff_any (s : Int) (h0 : 0 ≤ s) (h5 : s ≤ 5) (w : World) : Calls Tryz.prog 128 #[.int .u8 s] w fun e w' => e = .returned (.agg #[.int .u8 (hOff s).1, .int .u8 (hOff s).2]) ∧ Below w.heap.size w w' := by
  rcases six h0 h5 with rfl | rfl | rfl | rfl | rfl | rfl
  all_goals
    clear h0 h5
    go_enter Tryz.func128, Tryz.ntmps128
    go_wp2
    refine bodyPost_ret (by simp [results, Tryz.results128, go_sem]; decide) rfl ⟨rfl, (Below.refl _ _).alloc (Nat.le_refl _) _⟩
set_option maxRecDepth 100000 in
set_option maxHeartbeats 1000000 in
theorem askOn_any (s : Int) (h0 : 0 ≤ s) (h5 : s ≤ 5) (w : World) : Calls Tryz.prog 133 #[.int .u8 s] w fun e w' => e = .returned (.tuple #[.agg #[.int .u8 (askN s true).1, .int .u8 (askN s true).2.1], .bool (askN s true).2.2]) ∧ Below w.heap.size w w' := by
  rcases six h0 h5 with rfl | rfl | rfl | rfl | rfl | rfl
  all_goals
    clear h0 h5
    go_enter Tryz.func133, Tryz.ntmps133
    go_wp2
    refine bodyPost_ret (by simp [results, Tryz.results133, go_sem]; decide) rfl ⟨rfl, (Below.refl _ _).alloc (Nat.le_refl _) _⟩
set_option maxRecDepth 100000 in
set_option maxHeartbeats 1000000 in
theorem askOff_any (s : Int) (h0 : 0 ≤ s) (h5 : s ≤ 5) (w : World) : Calls Tryz.prog 134 #[.int .u8 s] w fun e w' => e = .returned (.tuple #[.agg #[.int .u8 (askN s false).1, .int .u8 (askN s false).2.1], .bool (askN s false).2.2]) ∧ Below w.heap.size w w' := by
  rcases six h0 h5 with rfl | rfl | rfl | rfl | rfl | rfl
  all_goals
    clear h0 h5
    go_enter Tryz.func134, Tryz.ntmps134
    go_wp2
    refine bodyPost_ret (by simp [results, Tryz.results134, go_sem]; decide) rfl ⟨rfl, (Below.refl _ _).alloc (Nat.le_refl _) _⟩
end
/-! XOb -/
section
open Go.RowKit Go.Lib
def put2 (w : World) (b : Nat) (c d : Value) : World := (w.setCell ⟨b, 0, none⟩ c).setCell ⟨b, 1, none⟩ d
theorem put2_cells {w : World} {b : Nat} {c d u v : Value} (h0 : w.cell? ⟨b, 0, none⟩ = some u) (h1 : w.cell? ⟨b, 1, none⟩ = some v) : (put2 w b c d).cell? ⟨b, 0, none⟩ = some c ∧ (put2 w b c d).cell? ⟨b, 1, none⟩ = some d := by
  have n : (⟨b, 1, none⟩ : Addr) ≠ ⟨b, 0, none⟩ := fun e => by injection e; omega
  unfold put2
  refine ⟨?_, ?_⟩
  · rw [World.cell?_setCell_other (h := n)]
    exact World.cell?_setCell_same _ _ _ h0
  · exact World.cell?_setCell_same _ _ _ ((World.cell?_setCell_other _ _ _ _ n.symm).trans h1)
theorem put2_below {w0 w : World} {b : Nat} (c d : Value) (h : Below w0.heap.size w0 w) (hb : w0.heap.size ≤ b) : Below w0.heap.size w0 (put2 w b c d) := (h.setCell (by exact hb) _).setCell (by exact hb) _
set_option maxRecDepth 100000 in
set_option maxHeartbeats 1000000 in
theorem sask_off (s : Int) (h0 : 0 ≤ s) (h5 : s ≤ 5) (w : World) : Calls Tryz.prog 116 #[.int .u8 s, .bool false] w fun e w' => e = .returned (.tuple #[.agg #[.int .u8 (askN s false).1, .int .u8 (askN s false).2.1], .bool (askN s false).2.2]) ∧ Below w.heap.size w w' := by
  have H := hid (fun W => askOff_any s h0 h5 W)
  generalize (askN s false).1 = A at *
  generalize (askN s false).2.1 = B at *
  generalize (askN s false).2.2 = C at *
  go_enter Tryz.func116, Tryz.ntmps116
  go_wp2_with fail
  with_reducible refine (H.out _).mono ?_
  rintro e w1 ⟨rfl, hb⟩
  obtain ⟨⟨z0, z1⟩, y0, y1⟩ := open2 (t := 195) hb
  have HB := hid (put2_below (.int .u8 A) (.int .u8 B) (below_t (bal (Below.refl w.heap.size w) _) hb) (Nat.le_refl w.heap.size))
  have HK := hid (put2_cells (c := .int .u8 A) (d := .int .u8 B) z0 z1)
  clear hb
  go_wp2
  revert HB HK
  generalize hW : put2 w1 w.heap.size (.int .u8 A) (.int .u8 B) = Wf
  intro HB HK
  obtain ⟨k0, k1⟩ := HK.out
  unfold put2 at hW
  rw [hW]
  clear hW
  exact bodyPost_ret (v := .tuple #[.agg #[.int .u8 A, .int .u8 B], .bool C]) (by simp [results, Tryz.results116, go_sem, k0, k1]) rfl ⟨rfl, HB.out⟩
set_option maxRecDepth 100000 in
set_option maxHeartbeats 1000000 in
theorem sask_on (s : Int) (h0 : 0 ≤ s) (h5 : s ≤ 5) (w : World) : Calls Tryz.prog 116 #[.int .u8 s, .bool true] w fun e w' => e = .returned (.tuple #[.agg #[.int .u8 (askN s true).1, .int .u8 (askN s true).2.1], .bool (askN s true).2.2]) ∧ Below w.heap.size w w' := by
  have H := hid (fun W => askOn_any s h0 h5 W)
  generalize (askN s true).1 = A at *
  generalize (askN s true).2.1 = B at *
  generalize (askN s true).2.2 = C at *
  go_enter Tryz.func116, Tryz.ntmps116
  go_wp2_with fail
  with_reducible refine (H.out _).mono ?_
  rintro e w1 ⟨rfl, hb⟩
  obtain ⟨⟨z0, z1⟩, y0, y1⟩ := open2 (t := 195) hb
  have HB := hid (put2_below (.int .u8 A) (.int .u8 B) (below_t (bal (Below.refl w.heap.size w) _) hb) (Nat.le_refl w.heap.size))
  have HK := hid (put2_cells (c := .int .u8 A) (d := .int .u8 B) z0 z1)
  clear hb
  go_wp2
  revert HB HK
  generalize hW : put2 w1 w.heap.size (.int .u8 A) (.int .u8 B) = Wf
  intro HB HK
  obtain ⟨k0, k1⟩ := HK.out
  unfold put2 at hW
  rw [hW]
  clear hW
  exact bodyPost_ret (v := .tuple #[.agg #[.int .u8 A, .int .u8 B], .bool C]) (by simp [results, Tryz.results116, go_sem, k0, k1]) rfl ⟨rfl, HB.out⟩
theorem sask_any (s : Int) (on : Bool) (h0 : 0 ≤ s) (h5 : s ≤ 5) (w : World) : Calls Tryz.prog 116 #[.int .u8 s, .bool on] w fun e w' => e = .returned (.tuple #[.agg #[.int .u8 (askN s on).1, .int .u8 (askN s on).2.1], .bool (askN s on).2.2]) ∧ Below w.heap.size w w' := by
  cases on
  · exact sask_off s h0 h5 w
  · exact sask_on s h0 h5 w
/-- A machine: what it agrees to, and its states, by side and option (256 a side). -/
structure Mach (w : World) (g : Nat) (ag : Nat → Bool) (st : Nat → Int) : Prop where
  ca : ∀ i, i < 512 → w.cell? ⟨g, i, none⟩ = some (.bool (ag i))
  cs : ∀ i, i < 512 → w.cell? ⟨g, 512 + i, none⟩ = some (.int .u8 (st i))
  fr : ∀ i, i < 1024 → w.frozen? ⟨g, i, none⟩ = false
  ok : ∀ i, 0 ≤ st i ∧ st i ≤ 5
theorem Mach.lt {w : World} {g : Nat} {ag : Nat → Bool} {st : Nat → Int} (h : Mach w g ag st) : g < w.heap.size := World.block_lt_of_cell? w _ (h.ca 0 (by omega))
theorem Mach.moved {w w' : World} {g : Nat} {ag : Nat → Bool} {st : Nat → Int} {S S' : List Nat} (h : Mach w g ag st) (m : Moved w w' S S') (hs : g ∉ S) : Mach w' g ag st :=
  ⟨fun i hi => cell_moved m (h.ca i hi) hs, fun i hi => cell_moved m (h.cs i hi) hs, fun i hi => by
    rw [← h.fr i hi]
    unfold World.frozen?
    rw [m.block g h.lt hs], h.ok⟩
theorem Mach.step {w w' : World} {g : Nat} {ag : Nat → Bool} {st : Nat → Int} (h : Mach w g ag st) (hb : Below w.heap.size w w') : Mach w' g ag st := h.moved (Moved.below hb []) (fun q => by cases q)
/-- One state changed. -/
def upd (st : Nat → Int) (i : Nat) (s : Int) : Nat → Int := fun j => if j = i then s else st j
theorem upd_same (st : Nat → Int) (i : Nat) (s : Int) : upd st i s i = s := if_pos rfl
theorem upd_other (st : Nat → Int) {i j : Nat} (s : Int) (h : j ≠ i) : upd st i s j = st j := if_neg h
theorem Mach.set {w : World} {g : Nat} {ag : Nat → Bool} {st : Nat → Int} (h : Mach w g ag st) (i : Nat) (hi : i < 512) (s : Int) (hs : 0 ≤ s ∧ s ≤ 5) : Mach (w.setCell ⟨g, 512 + i, none⟩ (.int .u8 s)) g ag (upd st i s) := by
  refine ⟨fun j hj => ?_, fun j hj => ?_, fun j hj => by simp [h.fr j hj], fun j => ?_⟩
  · rw [World.cell?_setCell_other (h := fun e => by injection e; omega)]
    exact h.ca j hj
  · by_cases e : j = i
    · subst e
      rw [upd_same]
      exact World.cell?_setCell_same _ _ _ (h.cs j hj)
    · rw [upd_other st s e, World.cell?_setCell_other (h := fun q => by injection q; omega)]
      exact h.cs j hj
  · unfold upd
    split
    · exact hs
    · exact h.ok j
end
/-! XOc -/
section
open Go.RowKit Go.Lib
/-- What is sent: nothing, or one message. -/
def Msg (w : World) (v : Value) (side say o : Int) : Prop := (say = 0 ∧ v = .slice none 0 0) ∨ ((say = 1 ∨ say = 2) ∧ ∃ b, v = .slice (some ⟨b, 0, none⟩) 1 1 ∧ w.cell? ⟨b, 0, none⟩ = some (.int .u8 (verbN side say)) ∧ w.cell? ⟨b, 1, none⟩ = some (.int .u8 o))
/-- A step is taken. -/
def Took (g : Nat) (ag : Nat → Bool) (st : Nat → Int) (side o n say : Int) (w : World) (e : Ending) (w' : World) : Prop :=
  ∃ v, e = .returned v ∧ Msg w' v side say o ∧ Mach w' g ag (upd st (side * 256 + o).toNat n) ∧ Moved w w' [g] [g] ∧ ∀ k ∈ blkV v, w.heap.size ≤ k
set_option maxRecDepth 100000 in
theorem onVerb_any (side : Int) (hs : side = 0 ∨ side = 1) (w : World) : Calls Tryz.prog 135 #[.int .i64 side] w fun e w' => e = .returned (.int .u8 (verbN side 1)) ∧ w = w' := by
  rcases hs with rfl | rfl
  all_goals
    go_enter Tryz.func135, Tryz.ntmps135
    go_wp2
    go_ret
    exact ⟨rfl, rfl⟩
set_option maxRecDepth 100000 in
theorem offVerb_any (side : Int) (hs : side = 0 ∨ side = 1) (w : World) : Calls Tryz.prog 136 #[.int .i64 side] w fun e w' => e = .returned (.int .u8 (verbN side 2)) ∧ w = w' := by
  rcases hs with rfl | rfl
  all_goals
    go_enter Tryz.func136, Tryz.ntmps136
    go_wp2
    go_ret
    exact ⟨rfl, rfl⟩
theorem tbox_drew {w : World} {p : Addr} {x : Value} (h : w.cell? p = some x) : w.drew.cell? p = some x := h
theorem tbox_set {w : World} {p q : Addr} {x y : Value} (h : w.cell? p = some x) (hn : q ≠ p) : (w.setCell q y).cell? p = some x := (World.cell?_setCell_other _ _ _ _ hn).trans h
theorem tbox_new {w : World} {b : Nat} {c d : Value} {t : TypeId} (hb : b = w.heap.size) : (w.alloc (.cells #[c, d] t)).drew.cell? ⟨b, 0, none⟩ = some c := by
  subst hb
  simp [go_sem]
/-- The end of a step. -/
theorem took_end {g : Nat} {ag : Nat → Bool} {st : Nat → Int} {side say : Int} {o n : Int} {w w1 w2 : World} {v : Value} {i : Nat} (hi : (side * 256 + o).toNat = i) (hV : Moved w w1 [g] [g]) (hM : Mach w1 g ag (upd st i n)) (hb : Below w1.heap.size w1 w2) (hm : Msg w2 v side say o) (hk : ∀ k ∈ blkV v, w.heap.size ≤ k) : Took g ag st side o n say w (.returned v) w2 :=
  ⟨v, rfl, hm, by rw [hi]; exact hM.step hb, hV.trans (Moved.below hb _), hk⟩
set_option maxRecDepth 100000 in
set_option maxHeartbeats 2000000 in
theorem take_0 (g : Nat) (ag : Nat → Bool) (st : Nat → Int) (o : Nat) (ho : o < 256) (n say : Int) (hn : 0 ≤ n ∧ n ≤ 5) (hy : say = 0 ∨ say = 1 ∨ say = 2) (w : World) (hM : Mach w g ag st) : Calls Tryz.prog 117 #[.pointer (some ⟨g, 0, none⟩), .int .i64 0, .int .u8 o, .agg #[.int .u8 n, .int .u8 say]] w (Took g ag st 0 o n say w) := by
  have hg := hM.lt
  have hM1 := hM.step (bal (Below.refl w.heap.size w) (.cells #[.int .u8 n, .int .u8 say] 195))
  have c0 := hM1.cs (o) (by omega)
  have f0 := hM1.fr (512 + o) (by omega)
  have HX := hid (show (w.alloc (.cells #[.int .u8 n, .int .u8 say] 195)).cell? ⟨w.heap.size, 0, none⟩ = some (.int .u8 n) by simp [go_sem])
  have HM := hid (hM.set (o) (by omega) n hn)
  have HV := hid (Moved.set (a := w) (S := [g]) (g := g) (by simp) (512 + o) (.int .u8 n))
  have hi : (o : Int) < 256 := by omega
  have hj : (0 : Int) ≤ o := by omega
  clear hM hM1
  rcases hy with rfl | rfl | rfl
  · go_enter Tryz.func117, Tryz.ntmps117
    go_wp2
    go_region_held3 (fun w' => w'.cell? ⟨w.heap.size, 0, none⟩ = some (.int .u8 n)) (first | exact HX.out | exact tbox_new (by simp)) (first | fail)
    rename_i hH
    clear hH
    go_wp2
    go_ret
    exact took_end (by omega) HV.out HM.out (bal (Below.refl _ _) _).drew (.inl ⟨rfl, rfl⟩) (fun k hk => by cases hk)
  · have HON := hid (fun W => onVerb_any 0 (by omega) W)
    go_enter Tryz.func117, Tryz.ntmps117
    go_wp2
    go_region_held3 (fun w' => w'.cell? ⟨w.heap.size, 0, none⟩ = some (.int .u8 n)) (first | exact HX.out | exact tbox_new (by simp)) (first | fail)
    rename_i hH
    clear hH
    go_wp2_with fail
    with_reducible refine (HON.out _).mono ?_
    rintro e w1 ⟨rfl, rfl⟩
    go_wp2
    go_ret
    exact took_end (by omega) HV.out HM.out (bal (bal (Below.refl _ _) _).drew _) (.inr ⟨.inl rfl, _, rfl, by simp [go_sem], by simp [go_sem]⟩) (blk_lit _ _ _ _ (by simp))
  · have HOF := hid (fun W => offVerb_any 0 (by omega) W)
    go_enter Tryz.func117, Tryz.ntmps117
    go_wp2
    go_region_held3 (fun w' => w'.cell? ⟨w.heap.size, 0, none⟩ = some (.int .u8 n)) (first | exact HX.out | exact tbox_new (by simp)) (first | fail)
    rename_i hH
    clear hH
    go_wp2_with fail
    with_reducible refine (HOF.out _).mono ?_
    rintro e w1 ⟨rfl, rfl⟩
    go_wp2
    go_ret
    exact took_end (by omega) HV.out HM.out (bal (bal (Below.refl _ _) _).drew _) (.inr ⟨.inr rfl, _, rfl, by simp [go_sem], by simp [go_sem]⟩) (blk_lit _ _ _ _ (by simp))
set_option maxRecDepth 100000 in
set_option maxHeartbeats 2000000 in
theorem take_1 (g : Nat) (ag : Nat → Bool) (st : Nat → Int) (o : Nat) (ho : o < 256) (n say : Int) (hn : 0 ≤ n ∧ n ≤ 5) (hy : say = 0 ∨ say = 1 ∨ say = 2) (w : World) (hM : Mach w g ag st) : Calls Tryz.prog 117 #[.pointer (some ⟨g, 0, none⟩), .int .i64 1, .int .u8 o, .agg #[.int .u8 n, .int .u8 say]] w (Took g ag st 1 o n say w) := by
  have hg := hM.lt
  have hM1 := hM.step (bal (Below.refl w.heap.size w) (.cells #[.int .u8 n, .int .u8 say] 195))
  have c0 := hM1.cs (256 + o) (by omega)
  have f0 := hM1.fr (512 + (256 + o)) (by omega)
  have HX := hid (show (w.alloc (.cells #[.int .u8 n, .int .u8 say] 195)).cell? ⟨w.heap.size, 0, none⟩ = some (.int .u8 n) by simp [go_sem])
  have HM := hid (hM.set (256 + o) (by omega) n hn)
  have HV := hid (Moved.set (a := w) (S := [g]) (g := g) (by simp) (512 + (256 + o)) (.int .u8 n))
  rw [show 512 + (256 + o) = 768 + o by omega] at c0 f0 HM HV
  have hi : (o : Int) < 256 := by omega
  have hj : (0 : Int) ≤ o := by omega
  clear hM hM1
  rcases hy with rfl | rfl | rfl
  · go_enter Tryz.func117, Tryz.ntmps117
    go_wp2
    go_region_held3 (fun w' => w'.cell? ⟨w.heap.size, 0, none⟩ = some (.int .u8 n)) (first | exact HX.out | exact tbox_new (by simp)) (first | fail)
    rename_i hH
    clear hH
    go_wp2
    go_ret
    exact took_end (by omega) HV.out HM.out (bal (Below.refl _ _) _).drew (.inl ⟨rfl, rfl⟩) (fun k hk => by cases hk)
  · have HON := hid (fun W => onVerb_any 1 (by omega) W)
    go_enter Tryz.func117, Tryz.ntmps117
    go_wp2
    go_region_held3 (fun w' => w'.cell? ⟨w.heap.size, 0, none⟩ = some (.int .u8 n)) (first | exact HX.out | exact tbox_new (by simp)) (first | fail)
    rename_i hH
    clear hH
    go_wp2_with fail
    with_reducible refine (HON.out _).mono ?_
    rintro e w1 ⟨rfl, rfl⟩
    go_wp2
    go_ret
    exact took_end (by omega) HV.out HM.out (bal (bal (Below.refl _ _) _).drew _) (.inr ⟨.inl rfl, _, rfl, by simp [go_sem], by simp [go_sem]⟩) (blk_lit _ _ _ _ (by simp))
  · have HOF := hid (fun W => offVerb_any 1 (by omega) W)
    go_enter Tryz.func117, Tryz.ntmps117
    go_wp2
    go_region_held3 (fun w' => w'.cell? ⟨w.heap.size, 0, none⟩ = some (.int .u8 n)) (first | exact HX.out | exact tbox_new (by simp)) (first | fail)
    rename_i hH
    clear hH
    go_wp2_with fail
    with_reducible refine (HOF.out _).mono ?_
    rintro e w1 ⟨rfl, rfl⟩
    go_wp2
    go_ret
    exact took_end (by omega) HV.out HM.out (bal (bal (Below.refl _ _) _).drew _) (.inr ⟨.inr rfl, _, rfl, by simp [go_sem], by simp [go_sem]⟩) (blk_lit _ _ _ _ (by simp))
end
/-! XOd -/
section
open Go.RowKit Go.Lib
theorem Took.after {g : Nat} {ag : Nat → Bool} {st : Nat → Int} {side o n say : Int} {w w1 w2 : World} {e : Ending} (hb : Below w.heap.size w w1) (h : Took g ag st side o n say w1 e w2) : Took g ag st side o n say w e w2 := by
  obtain ⟨v, he, hm, hM, hV, hk⟩ := h
  exact ⟨v, he, hm, hM, (Moved.below hb _).trans hV, fun k h => Nat.le_trans hb.size (hk k h)⟩
/-- A step is taken, and an error's number. -/
def TookE (g : Nat) (ag : Nat → Bool) (st : Nat → Int) (side o n say er : Int) (w : World) (e : Ending) (w' : World) : Prop :=
  ∃ v, e = .returned (.tuple #[v, .int .i64 er]) ∧ Took g ag st side o n say w (.returned v) w'
set_option maxRecDepth 100000 in
set_option maxHeartbeats 2000000 in
theorem hearOn_0 (g : Nat) (ag : Nat → Bool) (st : Nat → Int) (o : Nat) (ho : o < 256) (w : World) (hM : Mach w g ag st) : Calls Tryz.prog 111 #[.pointer (some ⟨g, 0, none⟩), .int .i64 0, .int .u8 o] w (Took g ag st 0 o (hOn (st o) (ag o)).1 (hOn (st o) (ag o)).2 w) := by
  have hg := hM.lt
  have c0 := hM.cs o (by omega)
  have d0 := hM.ca o (by omega)
  obtain ⟨s0, s5⟩ := hM.ok o
  obtain ⟨n0, n5, y0, y2⟩ := hOn_fit s0 s5 (ag o)
  have HH := hid (fun W => shearOn_any (st o) (ag o) s0 s5 W)
  have HT := hid (fun W (h : Mach W g ag st) => take_0 g ag st o ho _ _ ⟨n0, n5⟩ (show (hOn (st o) (ag o)).2 = 0 ∨ (hOn (st o) (ag o)).2 = 1 ∨ (hOn (st o) (ag o)).2 = 2 by omega) W h)
  have HM := hid hM
  have hi : (o : Int) < 256 := by omega
  have hj : (0 : Int) ≤ o := by omega
  clear n0 n5 y0 y2 hM
  generalize (hOn (st o) (ag o)).1 = N at *
  generalize (hOn (st o) (ag o)).2 = Y at *
  generalize st o = X at c0 HH s0 s5
  generalize ag o = A at d0 HH
  go_enter Tryz.func111, Tryz.ntmps111
  go_wp2_with fail
  with_reducible refine (HH.out _).mono ?_
  rintro e w1 ⟨rfl, hb⟩
  have HB := hid hb
  clear hb
  go_wp2_with fail
  with_reducible refine (HT.out _ (HM.out.step HB.out)).mono ?_
  rintro e w2 ⟨v, rfl, h⟩
  have H := hid h
  clear h
  go_wp2
  go_ret
  exact Took.after HB.out ⟨_, rfl, H.out⟩
set_option maxRecDepth 100000 in
set_option maxHeartbeats 2000000 in
theorem hearOff_0 (g : Nat) (ag : Nat → Bool) (st : Nat → Int) (o : Nat) (ho : o < 256) (w : World) (hM : Mach w g ag st) : Calls Tryz.prog 112 #[.pointer (some ⟨g, 0, none⟩), .int .i64 0, .int .u8 o] w (Took g ag st 0 o (hOff (st o)).1 (hOff (st o)).2 w) := by
  have hg := hM.lt
  have c0 := hM.cs o (by omega)
  obtain ⟨s0, s5⟩ := hM.ok o
  obtain ⟨n0, n5, y0, y2⟩ := hOff_fit s0 s5
  have HH := hid (fun W => shearOff_any (st o) s0 s5 W)
  have HT := hid (fun W (h : Mach W g ag st) => take_0 g ag st o ho _ _ ⟨n0, n5⟩ (show (hOff (st o)).2 = 0 ∨ (hOff (st o)).2 = 1 ∨ (hOff (st o)).2 = 2 by omega) W h)
  have HM := hid hM
  have hi : (o : Int) < 256 := by omega
  have hj : (0 : Int) ≤ o := by omega
  clear n0 n5 y0 y2 hM
  generalize (hOff (st o)).1 = N at *
  generalize (hOff (st o)).2 = Y at *
  generalize st o = X at c0 HH s0 s5
  go_enter Tryz.func112, Tryz.ntmps112
  go_wp2_with fail
  with_reducible refine (HH.out _).mono ?_
  rintro e w1 ⟨rfl, hb⟩
  have HB := hid hb
  clear hb
  go_wp2_with fail
  with_reducible refine (HT.out _ (HM.out.step HB.out)).mono ?_
  rintro e w2 ⟨v, rfl, h⟩
  have H := hid h
  clear h
  go_wp2
  go_ret
  exact Took.after HB.out ⟨_, rfl, H.out⟩
set_option maxRecDepth 100000 in
set_option maxHeartbeats 2000000 in
theorem hearOn_1 (g : Nat) (ag : Nat → Bool) (st : Nat → Int) (o : Nat) (ho : o < 256) (w : World) (hM : Mach w g ag st) : Calls Tryz.prog 111 #[.pointer (some ⟨g, 0, none⟩), .int .i64 1, .int .u8 o] w (Took g ag st 1 o (hOn (st (256 + o)) (ag (256 + o))).1 (hOn (st (256 + o)) (ag (256 + o))).2 w) := by
  have hg := hM.lt
  have c0 := hM.cs (256 + o) (by omega)
  have d0 := hM.ca (256 + o) (by omega)
  rw [show 512 + (256 + o) = 768 + o by omega] at c0
  obtain ⟨s0, s5⟩ := hM.ok (256 + o)
  obtain ⟨n0, n5, y0, y2⟩ := hOn_fit s0 s5 (ag (256 + o))
  have HH := hid (fun W => shearOn_any (st (256 + o)) (ag (256 + o)) s0 s5 W)
  have HT := hid (fun W (h : Mach W g ag st) => take_1 g ag st o ho _ _ ⟨n0, n5⟩ (show (hOn (st (256 + o)) (ag (256 + o))).2 = 0 ∨ (hOn (st (256 + o)) (ag (256 + o))).2 = 1 ∨ (hOn (st (256 + o)) (ag (256 + o))).2 = 2 by omega) W h)
  have HM := hid hM
  have hi : (o : Int) < 256 := by omega
  have hj : (0 : Int) ≤ o := by omega
  clear n0 n5 y0 y2 hM
  generalize (hOn (st (256 + o)) (ag (256 + o))).1 = N at *
  generalize (hOn (st (256 + o)) (ag (256 + o))).2 = Y at *
  generalize st (256 + o) = X at c0 HH s0 s5
  generalize ag (256 + o) = A at d0 HH
  go_enter Tryz.func111, Tryz.ntmps111
  go_wp2_with fail
  with_reducible refine (HH.out _).mono ?_
  rintro e w1 ⟨rfl, hb⟩
  have HB := hid hb
  clear hb
  go_wp2_with fail
  with_reducible refine (HT.out _ (HM.out.step HB.out)).mono ?_
  rintro e w2 ⟨v, rfl, h⟩
  have H := hid h
  clear h
  go_wp2
  go_ret
  exact Took.after HB.out ⟨_, rfl, H.out⟩
set_option maxRecDepth 100000 in
set_option maxHeartbeats 2000000 in
theorem hearOff_1 (g : Nat) (ag : Nat → Bool) (st : Nat → Int) (o : Nat) (ho : o < 256) (w : World) (hM : Mach w g ag st) : Calls Tryz.prog 112 #[.pointer (some ⟨g, 0, none⟩), .int .i64 1, .int .u8 o] w (Took g ag st 1 o (hOff (st (256 + o))).1 (hOff (st (256 + o))).2 w) := by
  have hg := hM.lt
  have c0 := hM.cs (256 + o) (by omega)
  rw [show 512 + (256 + o) = 768 + o by omega] at c0
  obtain ⟨s0, s5⟩ := hM.ok (256 + o)
  obtain ⟨n0, n5, y0, y2⟩ := hOff_fit s0 s5
  have HH := hid (fun W => shearOff_any (st (256 + o)) s0 s5 W)
  have HT := hid (fun W (h : Mach W g ag st) => take_1 g ag st o ho _ _ ⟨n0, n5⟩ (show (hOff (st (256 + o))).2 = 0 ∨ (hOff (st (256 + o))).2 = 1 ∨ (hOff (st (256 + o))).2 = 2 by omega) W h)
  have HM := hid hM
  have hi : (o : Int) < 256 := by omega
  have hj : (0 : Int) ≤ o := by omega
  clear n0 n5 y0 y2 hM
  generalize (hOff (st (256 + o))).1 = N at *
  generalize (hOff (st (256 + o))).2 = Y at *
  generalize st (256 + o) = X at c0 HH s0 s5
  go_enter Tryz.func112, Tryz.ntmps112
  go_wp2_with fail
  with_reducible refine (HH.out _).mono ?_
  rintro e w1 ⟨rfl, hb⟩
  have HB := hid hb
  clear hb
  go_wp2_with fail
  with_reducible refine (HT.out _ (HM.out.step HB.out)).mono ?_
  rintro e w2 ⟨v, rfl, h⟩
  have H := hid h
  clear h
  go_wp2
  go_ret
  exact Took.after HB.out ⟨_, rfl, H.out⟩
set_option maxRecDepth 100000 in
theorem isSide_yes (side : Int) (hs : side = 0 ∨ side = 1) (w : World) : Calls Tryz.prog 78 #[.int .i64 side] w fun e w' => e = .returned (.bool true) ∧ w = w' := by
  rcases hs with rfl | rfl
  all_goals
    go_enter Tryz.func78, Tryz.ntmps78
    go_wp2
    go_ret
    exact ⟨rfl, rfl⟩
set_option maxRecDepth 100000 in
theorem isSide_no (side : Int) (hs : ¬ (side = 0 ∨ side = 1)) (w : World) : Calls Tryz.prog 78 #[.int .i64 side] w fun e w' => e = .returned (.bool false) ∧ w = w' := by
  have h0 : (side == 0) = false := by simpa using fun h => hs (.inl h)
  have h1 : (side == 1) = false := by simpa using fun h => hs (.inr h)
  clear hs
  go_enter Tryz.func78, Tryz.ntmps78
  go_wp2
  go_ret
  exact ⟨rfl, rfl⟩
set_option maxRecDepth 100000 in
set_option maxHeartbeats 2000000 in
theorem ask_0 (g : Nat) (ag : Nat → Bool) (st : Nat → Int) (o : Nat) (ho : o < 256) (on : Bool) (w : World) (hM : Mach w g ag st) (ha : (askN (st o) on).2.2 = true) : Calls Tryz.prog 102 #[.pointer (some ⟨g, 0, none⟩), .int .i64 0, .int .u8 o, .bool on] w (TookE g ag st 0 o (askN (st o) on).1 (askN (st o) on).2.1 0 w) := by
  have hg := hM.lt
  have c0 := hM.cs o (by omega)
  obtain ⟨s0, s5⟩ := hM.ok o
  obtain ⟨n0, n5, y0, y2⟩ := askN_fit s0 s5 on
  have HH := hid (fun W => sask_any (st o) on s0 s5 W)
  rw [ha] at HH
  have HT := hid (fun W (h : Mach W g ag st) => take_0 g ag st o ho _ _ ⟨n0, n5⟩ (show (askN (st o) on).2.1 = 0 ∨ (askN (st o) on).2.1 = 1 ∨ (askN (st o) on).2.1 = 2 by omega) W h)
  have HM := hid hM
  have HIS := hid (fun W => isSide_yes 0 (by omega) W)
  have hi : (o : Int) < 256 := by omega
  have hj : (0 : Int) ≤ o := by omega
  clear n0 n5 y0 y2 hM ha
  generalize (askN (st o) on).1 = N at *
  generalize (askN (st o) on).2.1 = Y at *
  generalize st o = X at c0 HH s0 s5
  go_enter Tryz.func102, Tryz.ntmps102
  go_wp2_with fail
  with_reducible refine (HIS.out _).mono ?_
  rintro e w0 ⟨rfl, rfl⟩
  go_wp2_with fail
  with_reducible refine (HH.out _).mono ?_
  rintro e w1 ⟨rfl, hb⟩
  have HB := hid (bal hb (.cells #[.int .u8 N, .int .u8 Y] 195))
  clear hb
  go_wp2_with fail
  with_reducible refine (HT.out _ (HM.out.step HB.out)).mono ?_
  rintro e w2 ⟨v, rfl, h⟩
  have H := hid h
  clear h
  go_wp2
  go_ret2
  exact ⟨_, rfl, Took.after HB.out ⟨_, rfl, H.out⟩⟩
set_option maxRecDepth 100000 in
set_option maxHeartbeats 2000000 in
theorem ask_no_0 (g : Nat) (ag : Nat → Bool) (st : Nat → Int) (o : Nat) (ho : o < 256) (on : Bool) (w : World) (hM : Mach w g ag st) (ha : (askN (st o) on).2.2 = false) : Calls Tryz.prog 102 #[.pointer (some ⟨g, 0, none⟩), .int .i64 0, .int .u8 o, .bool on] w fun e w' => e = .returned (.tuple #[.slice none 0 0, .int .i64 6]) ∧ Below w.heap.size w w' := by
  have hg := hM.lt
  have c0 := hM.cs o (by omega)
  obtain ⟨s0, s5⟩ := hM.ok o
  have HH := hid (fun W => sask_any (st o) on s0 s5 W)
  rw [ha] at HH
  have HIS := hid (fun W => isSide_yes 0 (by omega) W)
  have hi : (o : Int) < 256 := by omega
  have hj : (0 : Int) ≤ o := by omega
  clear hM ha
  generalize (askN (st o) on).1 = N at *
  generalize (askN (st o) on).2.1 = Y at *
  generalize st o = X at c0 HH s0 s5
  go_enter Tryz.func102, Tryz.ntmps102
  go_wp2_with fail
  with_reducible refine (HIS.out _).mono ?_
  rintro e w0 ⟨rfl, rfl⟩
  go_wp2_with fail
  with_reducible refine (HH.out _).mono ?_
  rintro e w1 ⟨rfl, hb⟩
  have HB := hid (bal hb (.cells #[.int .u8 N, .int .u8 Y] 195))
  clear hb
  go_wp2
  go_ret2
  exact ⟨rfl, HB.out⟩
set_option maxRecDepth 100000 in
set_option maxHeartbeats 2000000 in
theorem state_0 (g : Nat) (ag : Nat → Bool) (st : Nat → Int) (o : Nat) (ho : o < 256) (w : World) (hM : Mach w g ag st) : Calls Tryz.prog 62 #[.pointer (some ⟨g, 0, none⟩), .int .i64 0, .int .u8 o] w fun e w' => e = .returned (.int .i64 (st o)) ∧ w = w' := by
  have hg := hM.lt
  have c0 := hM.cs o (by omega)
  obtain ⟨s0, s5⟩ := hM.ok o
  have HIS := hid (fun W => isSide_yes 0 (by omega) W)
  have hi : (o : Int) < 256 := by omega
  have hj : (0 : Int) ≤ o := by omega
  clear hM
  generalize st o = X at *
  go_enter Tryz.func62, Tryz.ntmps62
  go_wp2_with fail
  with_reducible refine (HIS.out _).mono ?_
  rintro e w0 ⟨rfl, rfl⟩
  go_wp2
  go_ret
  exact ⟨rfl, rfl⟩
set_option maxRecDepth 100000 in
set_option maxHeartbeats 2000000 in
theorem ask_1 (g : Nat) (ag : Nat → Bool) (st : Nat → Int) (o : Nat) (ho : o < 256) (on : Bool) (w : World) (hM : Mach w g ag st) (ha : (askN (st (256 + o)) on).2.2 = true) : Calls Tryz.prog 102 #[.pointer (some ⟨g, 0, none⟩), .int .i64 1, .int .u8 o, .bool on] w (TookE g ag st 1 o (askN (st (256 + o)) on).1 (askN (st (256 + o)) on).2.1 0 w) := by
  have hg := hM.lt
  have c0 := hM.cs (256 + o) (by omega)
  rw [show 512 + (256 + o) = 768 + o by omega] at c0
  obtain ⟨s0, s5⟩ := hM.ok (256 + o)
  obtain ⟨n0, n5, y0, y2⟩ := askN_fit s0 s5 on
  have HH := hid (fun W => sask_any (st (256 + o)) on s0 s5 W)
  rw [ha] at HH
  have HT := hid (fun W (h : Mach W g ag st) => take_1 g ag st o ho _ _ ⟨n0, n5⟩ (show (askN (st (256 + o)) on).2.1 = 0 ∨ (askN (st (256 + o)) on).2.1 = 1 ∨ (askN (st (256 + o)) on).2.1 = 2 by omega) W h)
  have HM := hid hM
  have HIS := hid (fun W => isSide_yes 1 (by omega) W)
  have hi : (o : Int) < 256 := by omega
  have hj : (0 : Int) ≤ o := by omega
  clear n0 n5 y0 y2 hM ha
  generalize (askN (st (256 + o)) on).1 = N at *
  generalize (askN (st (256 + o)) on).2.1 = Y at *
  generalize st (256 + o) = X at c0 HH s0 s5
  go_enter Tryz.func102, Tryz.ntmps102
  go_wp2_with fail
  with_reducible refine (HIS.out _).mono ?_
  rintro e w0 ⟨rfl, rfl⟩
  go_wp2_with fail
  with_reducible refine (HH.out _).mono ?_
  rintro e w1 ⟨rfl, hb⟩
  have HB := hid (bal hb (.cells #[.int .u8 N, .int .u8 Y] 195))
  clear hb
  go_wp2_with fail
  with_reducible refine (HT.out _ (HM.out.step HB.out)).mono ?_
  rintro e w2 ⟨v, rfl, h⟩
  have H := hid h
  clear h
  go_wp2
  go_ret2
  exact ⟨_, rfl, Took.after HB.out ⟨_, rfl, H.out⟩⟩
set_option maxRecDepth 100000 in
set_option maxHeartbeats 2000000 in
theorem ask_no_1 (g : Nat) (ag : Nat → Bool) (st : Nat → Int) (o : Nat) (ho : o < 256) (on : Bool) (w : World) (hM : Mach w g ag st) (ha : (askN (st (256 + o)) on).2.2 = false) : Calls Tryz.prog 102 #[.pointer (some ⟨g, 0, none⟩), .int .i64 1, .int .u8 o, .bool on] w fun e w' => e = .returned (.tuple #[.slice none 0 0, .int .i64 6]) ∧ Below w.heap.size w w' := by
  have hg := hM.lt
  have c0 := hM.cs (256 + o) (by omega)
  rw [show 512 + (256 + o) = 768 + o by omega] at c0
  obtain ⟨s0, s5⟩ := hM.ok (256 + o)
  have HH := hid (fun W => sask_any (st (256 + o)) on s0 s5 W)
  rw [ha] at HH
  have HIS := hid (fun W => isSide_yes 1 (by omega) W)
  have hi : (o : Int) < 256 := by omega
  have hj : (0 : Int) ≤ o := by omega
  clear hM ha
  generalize (askN (st (256 + o)) on).1 = N at *
  generalize (askN (st (256 + o)) on).2.1 = Y at *
  generalize st (256 + o) = X at c0 HH s0 s5
  go_enter Tryz.func102, Tryz.ntmps102
  go_wp2_with fail
  with_reducible refine (HIS.out _).mono ?_
  rintro e w0 ⟨rfl, rfl⟩
  go_wp2_with fail
  with_reducible refine (HH.out _).mono ?_
  rintro e w1 ⟨rfl, hb⟩
  have HB := hid (bal hb (.cells #[.int .u8 N, .int .u8 Y] 195))
  clear hb
  go_wp2
  go_ret2
  exact ⟨rfl, HB.out⟩
set_option maxRecDepth 100000 in
set_option maxHeartbeats 2000000 in
theorem state_1 (g : Nat) (ag : Nat → Bool) (st : Nat → Int) (o : Nat) (ho : o < 256) (w : World) (hM : Mach w g ag st) : Calls Tryz.prog 62 #[.pointer (some ⟨g, 0, none⟩), .int .i64 1, .int .u8 o] w fun e w' => e = .returned (.int .i64 (st (256 + o))) ∧ w = w' := by
  have hg := hM.lt
  have c0 := hM.cs (256 + o) (by omega)
  rw [show 512 + (256 + o) = 768 + o by omega] at c0
  obtain ⟨s0, s5⟩ := hM.ok (256 + o)
  have HIS := hid (fun W => isSide_yes 1 (by omega) W)
  have hi : (o : Int) < 256 := by omega
  have hj : (0 : Int) ≤ o := by omega
  clear hM
  generalize st (256 + o) = X at *
  go_enter Tryz.func62, Tryz.ntmps62
  go_wp2_with fail
  with_reducible refine (HIS.out _).mono ?_
  rintro e w0 ⟨rfl, rfl⟩
  go_wp2
  go_ret
  exact ⟨rfl, rfl⟩
end
end Go.Proofs.YtaanpnmgibcemaaGreatDoor.Op
