/-
  The machine hears, is asked, and tells its states.
-/
import Derived.Test.YtdpfjbpfafekfaaOc
namespace Go.Proofs.Ytdpfjbpfafekfaa
open Go.RowKit Go.Lib

theorem Took.after {g : Nat} {ag : Nat → Bool} {st : Nat → Int} {side o n say : Int} {w w1 w2 : World} {e : Ending} (hb : Below w.heap.size w w1) (h : Took g ag st side o n say w1 e w2) : Took g ag st side o n say w e w2 := by
  obtain ⟨v, he, hm, hM, hV, hk⟩ := h
  exact ⟨v, he, hm, hM, (Moved.below hb _).trans hV, fun k h => Nat.le_trans hb.size (hk k h)⟩
/-- A step is taken, and an error's number. -/
def TookE (g : Nat) (ag : Nat → Bool) (st : Nat → Int) (side o n say er : Int) (w : World) (e : Ending) (w' : World) : Prop :=
  ∃ v, e = .returned (.tuple #[v, .int .i64 er]) ∧ Took g ag st side o n say w (.returned v) w'
set_option maxRecDepth 100000 in
set_option maxHeartbeats 2000000 in
theorem hearOn_0 (g : Nat) (ag : Nat → Bool) (st : Nat → Int) (o : Nat) (ho : o < 256) (w : World) (hM : Mach w g ag st) : Calls Try.prog 49 #[.pointer (some ⟨g, 0, none⟩), .int .i64 0, .int .u8 o] w (Took g ag st 0 o (hOn (st o) (ag o)).1 (hOn (st o) (ag o)).2 w) := by
  have hg := hM.lt
  have c0 := hM.cs o (by omega)
  have d0 := hM.ca o (by omega)
  obtain ⟨s0, s5⟩ := hM.ok o
  obtain ⟨n0, n5, y0, y2⟩ := hOn_fit s0 s5 (ag o)
  have HH := hid (fun W => shearOn_any (st o) (ag o) s0 s5 W)
  have HT := hid (fun W (h : Mach W g ag st) => take_0 g ag st o ho _ _ ⟨n0, n5⟩ (show (hOn (st o) (ag o)).2 = 0 ∨ (hOn (st o) (ag o)).2 = 1 ∨ (hOn (st o) (ag o)).2 = 2 by omega) W h)
  have HM := hid hM
  have hi : (o : Int) < 256 := by omega
  have hj : (0 : Int) ≤ o := by omega
  clear n0 n5 y0 y2 hM
  generalize (hOn (st o) (ag o)).1 = N at *
  generalize (hOn (st o) (ag o)).2 = Y at *
  generalize st o = X at c0 HH s0 s5
  generalize ag o = A at d0 HH
  go_enter Try.func49, Try.ntmps49
  go_wp2_with fail
  with_reducible refine (HH.out _).mono ?_
  rintro e w1 ⟨rfl, hb⟩
  have HB := hid hb
  clear hb
  go_wp2_with fail
  with_reducible refine (HT.out _ (HM.out.step HB.out)).mono ?_
  rintro e w2 ⟨v, rfl, h⟩
  have H := hid h
  clear h
  go_wp2
  go_ret
  exact Took.after HB.out ⟨_, rfl, H.out⟩
set_option maxRecDepth 100000 in
set_option maxHeartbeats 2000000 in
theorem hearOff_0 (g : Nat) (ag : Nat → Bool) (st : Nat → Int) (o : Nat) (ho : o < 256) (w : World) (hM : Mach w g ag st) : Calls Try.prog 50 #[.pointer (some ⟨g, 0, none⟩), .int .i64 0, .int .u8 o] w (Took g ag st 0 o (hOff (st o)).1 (hOff (st o)).2 w) := by
  have hg := hM.lt
  have c0 := hM.cs o (by omega)
  obtain ⟨s0, s5⟩ := hM.ok o
  obtain ⟨n0, n5, y0, y2⟩ := hOff_fit s0 s5
  have HH := hid (fun W => shearOff_any (st o) s0 s5 W)
  have HT := hid (fun W (h : Mach W g ag st) => take_0 g ag st o ho _ _ ⟨n0, n5⟩ (show (hOff (st o)).2 = 0 ∨ (hOff (st o)).2 = 1 ∨ (hOff (st o)).2 = 2 by omega) W h)
  have HM := hid hM
  have hi : (o : Int) < 256 := by omega
  have hj : (0 : Int) ≤ o := by omega
  clear n0 n5 y0 y2 hM
  generalize (hOff (st o)).1 = N at *
  generalize (hOff (st o)).2 = Y at *
  generalize st o = X at c0 HH s0 s5
  go_enter Try.func50, Try.ntmps50
  go_wp2_with fail
  with_reducible refine (HH.out _).mono ?_
  rintro e w1 ⟨rfl, hb⟩
  have HB := hid hb
  clear hb
  go_wp2_with fail
  with_reducible refine (HT.out _ (HM.out.step HB.out)).mono ?_
  rintro e w2 ⟨v, rfl, h⟩
  have H := hid h
  clear h
  go_wp2
  go_ret
  exact Took.after HB.out ⟨_, rfl, H.out⟩
set_option maxRecDepth 100000 in
set_option maxHeartbeats 2000000 in
theorem hearOn_1 (g : Nat) (ag : Nat → Bool) (st : Nat → Int) (o : Nat) (ho : o < 256) (w : World) (hM : Mach w g ag st) : Calls Try.prog 49 #[.pointer (some ⟨g, 0, none⟩), .int .i64 1, .int .u8 o] w (Took g ag st 1 o (hOn (st (256 + o)) (ag (256 + o))).1 (hOn (st (256 + o)) (ag (256 + o))).2 w) := by
  have hg := hM.lt
  have c0 := hM.cs (256 + o) (by omega)
  have d0 := hM.ca (256 + o) (by omega)
  rw [show 512 + (256 + o) = 768 + o by omega] at c0
  obtain ⟨s0, s5⟩ := hM.ok (256 + o)
  obtain ⟨n0, n5, y0, y2⟩ := hOn_fit s0 s5 (ag (256 + o))
  have HH := hid (fun W => shearOn_any (st (256 + o)) (ag (256 + o)) s0 s5 W)
  have HT := hid (fun W (h : Mach W g ag st) => take_1 g ag st o ho _ _ ⟨n0, n5⟩ (show (hOn (st (256 + o)) (ag (256 + o))).2 = 0 ∨ (hOn (st (256 + o)) (ag (256 + o))).2 = 1 ∨ (hOn (st (256 + o)) (ag (256 + o))).2 = 2 by omega) W h)
  have HM := hid hM
  have hi : (o : Int) < 256 := by omega
  have hj : (0 : Int) ≤ o := by omega
  clear n0 n5 y0 y2 hM
  generalize (hOn (st (256 + o)) (ag (256 + o))).1 = N at *
  generalize (hOn (st (256 + o)) (ag (256 + o))).2 = Y at *
  generalize st (256 + o) = X at c0 HH s0 s5
  generalize ag (256 + o) = A at d0 HH
  go_enter Try.func49, Try.ntmps49
  go_wp2_with fail
  with_reducible refine (HH.out _).mono ?_
  rintro e w1 ⟨rfl, hb⟩
  have HB := hid hb
  clear hb
  go_wp2_with fail
  with_reducible refine (HT.out _ (HM.out.step HB.out)).mono ?_
  rintro e w2 ⟨v, rfl, h⟩
  have H := hid h
  clear h
  go_wp2
  go_ret
  exact Took.after HB.out ⟨_, rfl, H.out⟩
set_option maxRecDepth 100000 in
set_option maxHeartbeats 2000000 in
theorem hearOff_1 (g : Nat) (ag : Nat → Bool) (st : Nat → Int) (o : Nat) (ho : o < 256) (w : World) (hM : Mach w g ag st) : Calls Try.prog 50 #[.pointer (some ⟨g, 0, none⟩), .int .i64 1, .int .u8 o] w (Took g ag st 1 o (hOff (st (256 + o))).1 (hOff (st (256 + o))).2 w) := by
  have hg := hM.lt
  have c0 := hM.cs (256 + o) (by omega)
  rw [show 512 + (256 + o) = 768 + o by omega] at c0
  obtain ⟨s0, s5⟩ := hM.ok (256 + o)
  obtain ⟨n0, n5, y0, y2⟩ := hOff_fit s0 s5
  have HH := hid (fun W => shearOff_any (st (256 + o)) s0 s5 W)
  have HT := hid (fun W (h : Mach W g ag st) => take_1 g ag st o ho _ _ ⟨n0, n5⟩ (show (hOff (st (256 + o))).2 = 0 ∨ (hOff (st (256 + o))).2 = 1 ∨ (hOff (st (256 + o))).2 = 2 by omega) W h)
  have HM := hid hM
  have hi : (o : Int) < 256 := by omega
  have hj : (0 : Int) ≤ o := by omega
  clear n0 n5 y0 y2 hM
  generalize (hOff (st (256 + o))).1 = N at *
  generalize (hOff (st (256 + o))).2 = Y at *
  generalize st (256 + o) = X at c0 HH s0 s5
  go_enter Try.func50, Try.ntmps50
  go_wp2_with fail
  with_reducible refine (HH.out _).mono ?_
  rintro e w1 ⟨rfl, hb⟩
  have HB := hid hb
  clear hb
  go_wp2_with fail
  with_reducible refine (HT.out _ (HM.out.step HB.out)).mono ?_
  rintro e w2 ⟨v, rfl, h⟩
  have H := hid h
  clear h
  go_wp2
  go_ret
  exact Took.after HB.out ⟨_, rfl, H.out⟩
set_option maxRecDepth 100000 in
theorem isSide_yes (side : Int) (hs : side = 0 ∨ side = 1) (w : World) : Calls Try.prog 52 #[.int .i64 side] w fun e w' => e = .returned (.bool true) ∧ w = w' := by
  rcases hs with rfl | rfl
  all_goals
    go_enter Try.func52, Try.ntmps52
    go_wp2
    go_ret
    exact ⟨rfl, rfl⟩
set_option maxRecDepth 100000 in
theorem isSide_no (side : Int) (hs : ¬ (side = 0 ∨ side = 1)) (w : World) : Calls Try.prog 52 #[.int .i64 side] w fun e w' => e = .returned (.bool false) ∧ w = w' := by
  have h0 : (side == 0) = false := by simpa using fun h => hs (.inl h)
  have h1 : (side == 1) = false := by simpa using fun h => hs (.inr h)
  clear hs
  go_enter Try.func52, Try.ntmps52
  go_wp2
  go_ret
  exact ⟨rfl, rfl⟩
set_option maxRecDepth 100000 in
set_option maxHeartbeats 2000000 in
theorem ask_0 (g : Nat) (ag : Nat → Bool) (st : Nat → Int) (o : Nat) (ho : o < 256) (on : Bool) (w : World) (hM : Mach w g ag st) (ha : (askN (st o) on).2.2 = true) : Calls Try.prog 18 #[.pointer (some ⟨g, 0, none⟩), .int .i64 0, .int .u8 o, .bool on] w (TookE g ag st 0 o (askN (st o) on).1 (askN (st o) on).2.1 0 w) := by
  have hg := hM.lt
  have c0 := hM.cs o (by omega)
  obtain ⟨s0, s5⟩ := hM.ok o
  obtain ⟨n0, n5, y0, y2⟩ := askN_fit s0 s5 on
  have HH := hid (fun W => sask_any (st o) on s0 s5 W)
  rw [ha] at HH
  have HT := hid (fun W (h : Mach W g ag st) => take_0 g ag st o ho _ _ ⟨n0, n5⟩ (show (askN (st o) on).2.1 = 0 ∨ (askN (st o) on).2.1 = 1 ∨ (askN (st o) on).2.1 = 2 by omega) W h)
  have HM := hid hM
  have HIS := hid (fun W => isSide_yes 0 (by omega) W)
  have hi : (o : Int) < 256 := by omega
  have hj : (0 : Int) ≤ o := by omega
  clear n0 n5 y0 y2 hM ha
  generalize (askN (st o) on).1 = N at *
  generalize (askN (st o) on).2.1 = Y at *
  generalize st o = X at c0 HH s0 s5
  go_enter Try.func18, Try.ntmps18
  go_wp2_with fail
  with_reducible refine (HIS.out _).mono ?_
  rintro e w0 ⟨rfl, rfl⟩
  go_wp2_with fail
  with_reducible refine (HH.out _).mono ?_
  rintro e w1 ⟨rfl, hb⟩
  have HB := hid (bal hb (.cells #[.int .u8 N, .int .u8 Y] 115))
  clear hb
  go_wp2_with fail
  with_reducible refine (HT.out _ (HM.out.step HB.out)).mono ?_
  rintro e w2 ⟨v, rfl, h⟩
  have H := hid h
  clear h
  go_wp2
  go_ret2
  exact ⟨_, rfl, Took.after HB.out ⟨_, rfl, H.out⟩⟩
set_option maxRecDepth 100000 in
set_option maxHeartbeats 2000000 in
theorem ask_no_0 (g : Nat) (ag : Nat → Bool) (st : Nat → Int) (o : Nat) (ho : o < 256) (on : Bool) (w : World) (hM : Mach w g ag st) (ha : (askN (st o) on).2.2 = false) : Calls Try.prog 18 #[.pointer (some ⟨g, 0, none⟩), .int .i64 0, .int .u8 o, .bool on] w fun e w' => e = .returned (.tuple #[.slice none 0 0, .int .i64 6]) ∧ Below w.heap.size w w' := by
  have hg := hM.lt
  have c0 := hM.cs o (by omega)
  obtain ⟨s0, s5⟩ := hM.ok o
  have HH := hid (fun W => sask_any (st o) on s0 s5 W)
  rw [ha] at HH
  have HIS := hid (fun W => isSide_yes 0 (by omega) W)
  have hi : (o : Int) < 256 := by omega
  have hj : (0 : Int) ≤ o := by omega
  clear hM ha
  generalize (askN (st o) on).1 = N at *
  generalize (askN (st o) on).2.1 = Y at *
  generalize st o = X at c0 HH s0 s5
  go_enter Try.func18, Try.ntmps18
  go_wp2_with fail
  with_reducible refine (HIS.out _).mono ?_
  rintro e w0 ⟨rfl, rfl⟩
  go_wp2_with fail
  with_reducible refine (HH.out _).mono ?_
  rintro e w1 ⟨rfl, hb⟩
  have HB := hid (bal hb (.cells #[.int .u8 N, .int .u8 Y] 115))
  clear hb
  go_wp2
  go_ret2
  exact ⟨rfl, HB.out⟩
set_option maxRecDepth 100000 in
set_option maxHeartbeats 2000000 in
theorem state_0 (g : Nat) (ag : Nat → Bool) (st : Nat → Int) (o : Nat) (ho : o < 256) (w : World) (hM : Mach w g ag st) : Calls Try.prog 22 #[.pointer (some ⟨g, 0, none⟩), .int .i64 0, .int .u8 o] w fun e w' => e = .returned (.int .i64 (st o)) ∧ w = w' := by
  have hg := hM.lt
  have c0 := hM.cs o (by omega)
  obtain ⟨s0, s5⟩ := hM.ok o
  have HIS := hid (fun W => isSide_yes 0 (by omega) W)
  have hi : (o : Int) < 256 := by omega
  have hj : (0 : Int) ≤ o := by omega
  clear hM
  generalize st o = X at *
  go_enter Try.func22, Try.ntmps22
  go_wp2_with fail
  with_reducible refine (HIS.out _).mono ?_
  rintro e w0 ⟨rfl, rfl⟩
  go_wp2
  go_ret
  exact ⟨rfl, rfl⟩
set_option maxRecDepth 100000 in
set_option maxHeartbeats 2000000 in
theorem ask_1 (g : Nat) (ag : Nat → Bool) (st : Nat → Int) (o : Nat) (ho : o < 256) (on : Bool) (w : World) (hM : Mach w g ag st) (ha : (askN (st (256 + o)) on).2.2 = true) : Calls Try.prog 18 #[.pointer (some ⟨g, 0, none⟩), .int .i64 1, .int .u8 o, .bool on] w (TookE g ag st 1 o (askN (st (256 + o)) on).1 (askN (st (256 + o)) on).2.1 0 w) := by
  have hg := hM.lt
  have c0 := hM.cs (256 + o) (by omega)
  rw [show 512 + (256 + o) = 768 + o by omega] at c0
  obtain ⟨s0, s5⟩ := hM.ok (256 + o)
  obtain ⟨n0, n5, y0, y2⟩ := askN_fit s0 s5 on
  have HH := hid (fun W => sask_any (st (256 + o)) on s0 s5 W)
  rw [ha] at HH
  have HT := hid (fun W (h : Mach W g ag st) => take_1 g ag st o ho _ _ ⟨n0, n5⟩ (show (askN (st (256 + o)) on).2.1 = 0 ∨ (askN (st (256 + o)) on).2.1 = 1 ∨ (askN (st (256 + o)) on).2.1 = 2 by omega) W h)
  have HM := hid hM
  have HIS := hid (fun W => isSide_yes 1 (by omega) W)
  have hi : (o : Int) < 256 := by omega
  have hj : (0 : Int) ≤ o := by omega
  clear n0 n5 y0 y2 hM ha
  generalize (askN (st (256 + o)) on).1 = N at *
  generalize (askN (st (256 + o)) on).2.1 = Y at *
  generalize st (256 + o) = X at c0 HH s0 s5
  go_enter Try.func18, Try.ntmps18
  go_wp2_with fail
  with_reducible refine (HIS.out _).mono ?_
  rintro e w0 ⟨rfl, rfl⟩
  go_wp2_with fail
  with_reducible refine (HH.out _).mono ?_
  rintro e w1 ⟨rfl, hb⟩
  have HB := hid (bal hb (.cells #[.int .u8 N, .int .u8 Y] 115))
  clear hb
  go_wp2_with fail
  with_reducible refine (HT.out _ (HM.out.step HB.out)).mono ?_
  rintro e w2 ⟨v, rfl, h⟩
  have H := hid h
  clear h
  go_wp2
  go_ret2
  exact ⟨_, rfl, Took.after HB.out ⟨_, rfl, H.out⟩⟩
set_option maxRecDepth 100000 in
set_option maxHeartbeats 2000000 in
theorem ask_no_1 (g : Nat) (ag : Nat → Bool) (st : Nat → Int) (o : Nat) (ho : o < 256) (on : Bool) (w : World) (hM : Mach w g ag st) (ha : (askN (st (256 + o)) on).2.2 = false) : Calls Try.prog 18 #[.pointer (some ⟨g, 0, none⟩), .int .i64 1, .int .u8 o, .bool on] w fun e w' => e = .returned (.tuple #[.slice none 0 0, .int .i64 6]) ∧ Below w.heap.size w w' := by
  have hg := hM.lt
  have c0 := hM.cs (256 + o) (by omega)
  rw [show 512 + (256 + o) = 768 + o by omega] at c0
  obtain ⟨s0, s5⟩ := hM.ok (256 + o)
  have HH := hid (fun W => sask_any (st (256 + o)) on s0 s5 W)
  rw [ha] at HH
  have HIS := hid (fun W => isSide_yes 1 (by omega) W)
  have hi : (o : Int) < 256 := by omega
  have hj : (0 : Int) ≤ o := by omega
  clear hM ha
  generalize (askN (st (256 + o)) on).1 = N at *
  generalize (askN (st (256 + o)) on).2.1 = Y at *
  generalize st (256 + o) = X at c0 HH s0 s5
  go_enter Try.func18, Try.ntmps18
  go_wp2_with fail
  with_reducible refine (HIS.out _).mono ?_
  rintro e w0 ⟨rfl, rfl⟩
  go_wp2_with fail
  with_reducible refine (HH.out _).mono ?_
  rintro e w1 ⟨rfl, hb⟩
  have HB := hid (bal hb (.cells #[.int .u8 N, .int .u8 Y] 115))
  clear hb
  go_wp2
  go_ret2
  exact ⟨rfl, HB.out⟩
set_option maxRecDepth 100000 in
set_option maxHeartbeats 2000000 in
theorem state_1 (g : Nat) (ag : Nat → Bool) (st : Nat → Int) (o : Nat) (ho : o < 256) (w : World) (hM : Mach w g ag st) : Calls Try.prog 22 #[.pointer (some ⟨g, 0, none⟩), .int .i64 1, .int .u8 o] w fun e w' => e = .returned (.int .i64 (st (256 + o))) ∧ w = w' := by
  have hg := hM.lt
  have c0 := hM.cs (256 + o) (by omega)
  rw [show 512 + (256 + o) = 768 + o by omega] at c0
  obtain ⟨s0, s5⟩ := hM.ok (256 + o)
  have HIS := hid (fun W => isSide_yes 1 (by omega) W)
  have hi : (o : Int) < 256 := by omega
  have hj : (0 : Int) ≤ o := by omega
  clear hM
  generalize st (256 + o) = X at *
  go_enter Try.func22, Try.ntmps22
  go_wp2_with fail
  with_reducible refine (HIS.out _).mono ?_
  rintro e w0 ⟨rfl, rfl⟩
  go_wp2
  go_ret
  exact ⟨rfl, rfl⟩
end Go.Proofs.Ytdpfjbpfafekfaa
