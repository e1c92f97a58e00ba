/-
  The document's machine is asked.
-/
import Derived.Test.YtahminbgedmgcaaOt
namespace Go.Proofs.Ytahminbgedmgcaa
open Go.RowKit Go.Lib

set_option maxRecDepth 100000 in
set_option maxHeartbeats 1000000 in
theorem rask_0_0_true (g : Nat) (ag : Nat → Bool) (st : Nat → Int) (o : Nat) (ho : o < 256) (w : World) (hM : RMach w g ag st) (hs : st o = 0) : Calls Try.prog 16 #[.pointer (some ⟨g, 0, none⟩), .int .i64 0, .int .u8 o, .bool true] w (RTookE g ag st 0 o 4 1 0 w) := by
  have hg := hM.lt
  have c0 := hM.cs o (by omega)
  have f0 := hM.fr o (by omega)
  rw [hs] at c0
  have HM := hid (hM.set o (by omega) 4 (by decide))
  have HV := hid (Moved.set (a := w) (S := [g]) (g := g) (by simp) o (.int .i64 4))
  have HS := hid (fun W => rsay_0_1 o W)
  have hi : (o : Int) < 256 := by omega
  have hj : (0 : Int) ≤ o := by omega
  clear hM hs
  go_enter Try.func16, Try.ntmps16
  go_wp2_with fail
  with_reducible refine (HS.out _).mono ?_
  rintro e w1 ⟨v, rfl, hm, hb, hk⟩
  obtain ⟨x, n, c, hv⟩ : ∃ x n c, v = .slice x n c := by
    rcases hm with ⟨_, h⟩ | ⟨_, b, h, _⟩
    · exact ⟨_, _, _, h⟩
    · exact ⟨_, _, _, h⟩
  subst hv
  have HE := hid (And.intro hm (And.intro hb hk))
  clear hm hb hk
  go_wp2
  go_ret2
  exact rtook_end (by omega) HV.out HM.out (below_t (bal (bal (Below.refl _ _) _) _) HE.out.2.1) HE.out.1 (fun k h => Nat.le_trans (by simp <;> omega) (HE.out.2.2 k h))
set_option maxRecDepth 100000 in
set_option maxHeartbeats 1000000 in
theorem rask_0_1_true (g : Nat) (ag : Nat → Bool) (st : Nat → Int) (o : Nat) (ho : o < 256) (w : World) (hM : RMach w g ag st) (hs : st o = 1) : Calls Try.prog 16 #[.pointer (some ⟨g, 0, none⟩), .int .i64 0, .int .u8 o, .bool true] w fun e w' => e = .returned (.tuple #[.slice none 0 0, .int .i64 6]) ∧ Below w.heap.size w w' := by
  have hg := hM.lt
  have c0 := hM.cs o (by omega)
  rw [hs] at c0
  have hi : (o : Int) < 256 := by omega
  have hj : (0 : Int) ≤ o := by omega
  clear hM hs
  go_enter Try.func16, Try.ntmps16
  go_wp2
  go_ret2
  exact ⟨rfl, bal (bal (Below.refl _ _) _) _⟩
set_option maxRecDepth 100000 in
set_option maxHeartbeats 1000000 in
theorem rask_0_2_true (g : Nat) (ag : Nat → Bool) (st : Nat → Int) (o : Nat) (ho : o < 256) (w : World) (hM : RMach w g ag st) (hs : st o = 2) : Calls Try.prog 16 #[.pointer (some ⟨g, 0, none⟩), .int .i64 0, .int .u8 o, .bool true] w (RTookE g ag st 0 o 3 0 0 w) := by
  have hg := hM.lt
  have c0 := hM.cs o (by omega)
  have f0 := hM.fr o (by omega)
  rw [hs] at c0
  have HM := hid (hM.set o (by omega) 3 (by decide))
  have HV := hid (Moved.set (a := w) (S := [g]) (g := g) (by simp) o (.int .i64 3))
  have HS := hid (fun W => rsay_none 0 o W)
  have hi : (o : Int) < 256 := by omega
  have hj : (0 : Int) ≤ o := by omega
  clear hM hs
  go_enter Try.func16, Try.ntmps16
  go_wp2_with fail
  with_reducible refine (HS.out _).mono ?_
  rintro e w1 ⟨v, rfl, hm, hb, hk⟩
  obtain ⟨x, n, c, hv⟩ : ∃ x n c, v = .slice x n c := by
    rcases hm with ⟨_, h⟩ | ⟨_, b, h, _⟩
    · exact ⟨_, _, _, h⟩
    · exact ⟨_, _, _, h⟩
  subst hv
  have HE := hid (And.intro hm (And.intro hb hk))
  clear hm hb hk
  go_wp2
  go_ret2
  exact rtook_end (by omega) HV.out HM.out (below_t (bal (bal (Below.refl _ _) _) _) HE.out.2.1) HE.out.1 (fun k h => Nat.le_trans (by simp <;> omega) (HE.out.2.2 k h))
set_option maxRecDepth 100000 in
set_option maxHeartbeats 1000000 in
theorem rask_0_3_true (g : Nat) (ag : Nat → Bool) (st : Nat → Int) (o : Nat) (ho : o < 256) (w : World) (hM : RMach w g ag st) (hs : st o = 3) : Calls Try.prog 16 #[.pointer (some ⟨g, 0, none⟩), .int .i64 0, .int .u8 o, .bool true] w fun e w' => e = .returned (.tuple #[.slice none 0 0, .int .i64 6]) ∧ Below w.heap.size w w' := by
  have hg := hM.lt
  have c0 := hM.cs o (by omega)
  rw [hs] at c0
  have hi : (o : Int) < 256 := by omega
  have hj : (0 : Int) ≤ o := by omega
  clear hM hs
  go_enter Try.func16, Try.ntmps16
  go_wp2
  go_ret2
  exact ⟨rfl, bal (bal (Below.refl _ _) _) _⟩
set_option maxRecDepth 100000 in
set_option maxHeartbeats 1000000 in
theorem rask_0_4_true (g : Nat) (ag : Nat → Bool) (st : Nat → Int) (o : Nat) (ho : o < 256) (w : World) (hM : RMach w g ag st) (hs : st o = 4) : Calls Try.prog 16 #[.pointer (some ⟨g, 0, none⟩), .int .i64 0, .int .u8 o, .bool true] w fun e w' => e = .returned (.tuple #[.slice none 0 0, .int .i64 6]) ∧ Below w.heap.size w w' := by
  have hg := hM.lt
  have c0 := hM.cs o (by omega)
  rw [hs] at c0
  have hi : (o : Int) < 256 := by omega
  have hj : (0 : Int) ≤ o := by omega
  clear hM hs
  go_enter Try.func16, Try.ntmps16
  go_wp2
  go_ret2
  exact ⟨rfl, bal (bal (Below.refl _ _) _) _⟩
set_option maxRecDepth 100000 in
set_option maxHeartbeats 1000000 in
theorem rask_0_5_true (g : Nat) (ag : Nat → Bool) (st : Nat → Int) (o : Nat) (ho : o < 256) (w : World) (hM : RMach w g ag st) (hs : st o = 5) : Calls Try.prog 16 #[.pointer (some ⟨g, 0, none⟩), .int .i64 0, .int .u8 o, .bool true] w (RTookE g ag st 0 o 4 0 0 w) := by
  have hg := hM.lt
  have c0 := hM.cs o (by omega)
  have f0 := hM.fr o (by omega)
  rw [hs] at c0
  have HM := hid (hM.set o (by omega) 4 (by decide))
  have HV := hid (Moved.set (a := w) (S := [g]) (g := g) (by simp) o (.int .i64 4))
  have HS := hid (fun W => rsay_none 0 o W)
  have hi : (o : Int) < 256 := by omega
  have hj : (0 : Int) ≤ o := by omega
  clear hM hs
  go_enter Try.func16, Try.ntmps16
  go_wp2_with fail
  with_reducible refine (HS.out _).mono ?_
  rintro e w1 ⟨v, rfl, hm, hb, hk⟩
  obtain ⟨x, n, c, hv⟩ : ∃ x n c, v = .slice x n c := by
    rcases hm with ⟨_, h⟩ | ⟨_, b, h, _⟩
    · exact ⟨_, _, _, h⟩
    · exact ⟨_, _, _, h⟩
  subst hv
  have HE := hid (And.intro hm (And.intro hb hk))
  clear hm hb hk
  go_wp2
  go_ret2
  exact rtook_end (by omega) HV.out HM.out (below_t (bal (bal (Below.refl _ _) _) _) HE.out.2.1) HE.out.1 (fun k h => Nat.le_trans (by simp <;> omega) (HE.out.2.2 k h))
set_option maxRecDepth 100000 in
set_option maxHeartbeats 1000000 in
theorem rask_0_0_false (g : Nat) (ag : Nat → Bool) (st : Nat → Int) (o : Nat) (ho : o < 256) (w : World) (hM : RMach w g ag st) (hs : st o = 0) : Calls Try.prog 16 #[.pointer (some ⟨g, 0, none⟩), .int .i64 0, .int .u8 o, .bool false] w fun e w' => e = .returned (.tuple #[.slice none 0 0, .int .i64 6]) ∧ Below w.heap.size w w' := by
  have hg := hM.lt
  have c0 := hM.cs o (by omega)
  rw [hs] at c0
  have hi : (o : Int) < 256 := by omega
  have hj : (0 : Int) ≤ o := by omega
  clear hM hs
  go_enter Try.func16, Try.ntmps16
  go_wp2
  go_ret2
  exact ⟨rfl, bal (Below.refl _ _) _⟩
set_option maxRecDepth 100000 in
set_option maxHeartbeats 1000000 in
theorem rask_0_1_false (g : Nat) (ag : Nat → Bool) (st : Nat → Int) (o : Nat) (ho : o < 256) (w : World) (hM : RMach w g ag st) (hs : st o = 1) : Calls Try.prog 16 #[.pointer (some ⟨g, 0, none⟩), .int .i64 0, .int .u8 o, .bool false] w (RTookE g ag st 0 o 2 2 0 w) := by
  have hg := hM.lt
  have c0 := hM.cs o (by omega)
  have f0 := hM.fr o (by omega)
  rw [hs] at c0
  have HM := hid (hM.set o (by omega) 2 (by decide))
  have HV := hid (Moved.set (a := w) (S := [g]) (g := g) (by simp) o (.int .i64 2))
  have HS := hid (fun W => rsay_0_2 o W)
  have hi : (o : Int) < 256 := by omega
  have hj : (0 : Int) ≤ o := by omega
  clear hM hs
  go_enter Try.func16, Try.ntmps16
  go_wp2_with fail
  with_reducible refine (HS.out _).mono ?_
  rintro e w1 ⟨v, rfl, hm, hb, hk⟩
  obtain ⟨x, n, c, hv⟩ : ∃ x n c, v = .slice x n c := by
    rcases hm with ⟨_, h⟩ | ⟨_, b, h, _⟩
    · exact ⟨_, _, _, h⟩
    · exact ⟨_, _, _, h⟩
  subst hv
  have HE := hid (And.intro hm (And.intro hb hk))
  clear hm hb hk
  go_wp2
  go_ret2
  exact rtook_end (by omega) HV.out HM.out (below_t (bal (Below.refl _ _) _) HE.out.2.1) HE.out.1 (fun k h => Nat.le_trans (by simp <;> omega) (HE.out.2.2 k h))
set_option maxRecDepth 100000 in
set_option maxHeartbeats 1000000 in
theorem rask_0_2_false (g : Nat) (ag : Nat → Bool) (st : Nat → Int) (o : Nat) (ho : o < 256) (w : World) (hM : RMach w g ag st) (hs : st o = 2) : Calls Try.prog 16 #[.pointer (some ⟨g, 0, none⟩), .int .i64 0, .int .u8 o, .bool false] w fun e w' => e = .returned (.tuple #[.slice none 0 0, .int .i64 6]) ∧ Below w.heap.size w w' := by
  have hg := hM.lt
  have c0 := hM.cs o (by omega)
  rw [hs] at c0
  have hi : (o : Int) < 256 := by omega
  have hj : (0 : Int) ≤ o := by omega
  clear hM hs
  go_enter Try.func16, Try.ntmps16
  go_wp2
  go_ret2
  exact ⟨rfl, bal (Below.refl _ _) _⟩
set_option maxRecDepth 100000 in
set_option maxHeartbeats 1000000 in
theorem rask_0_3_false (g : Nat) (ag : Nat → Bool) (st : Nat → Int) (o : Nat) (ho : o < 256) (w : World) (hM : RMach w g ag st) (hs : st o = 3) : Calls Try.prog 16 #[.pointer (some ⟨g, 0, none⟩), .int .i64 0, .int .u8 o, .bool false] w (RTookE g ag st 0 o 2 0 0 w) := by
  have hg := hM.lt
  have c0 := hM.cs o (by omega)
  have f0 := hM.fr o (by omega)
  rw [hs] at c0
  have HM := hid (hM.set o (by omega) 2 (by decide))
  have HV := hid (Moved.set (a := w) (S := [g]) (g := g) (by simp) o (.int .i64 2))
  have HS := hid (fun W => rsay_none 0 o W)
  have hi : (o : Int) < 256 := by omega
  have hj : (0 : Int) ≤ o := by omega
  clear hM hs
  go_enter Try.func16, Try.ntmps16
  go_wp2_with fail
  with_reducible refine (HS.out _).mono ?_
  rintro e w1 ⟨v, rfl, hm, hb, hk⟩
  obtain ⟨x, n, c, hv⟩ : ∃ x n c, v = .slice x n c := by
    rcases hm with ⟨_, h⟩ | ⟨_, b, h, _⟩
    · exact ⟨_, _, _, h⟩
    · exact ⟨_, _, _, h⟩
  subst hv
  have HE := hid (And.intro hm (And.intro hb hk))
  clear hm hb hk
  go_wp2
  go_ret2
  exact rtook_end (by omega) HV.out HM.out (below_t (bal (Below.refl _ _) _) HE.out.2.1) HE.out.1 (fun k h => Nat.le_trans (by simp <;> omega) (HE.out.2.2 k h))
set_option maxRecDepth 100000 in
set_option maxHeartbeats 1000000 in
theorem rask_0_4_false (g : Nat) (ag : Nat → Bool) (st : Nat → Int) (o : Nat) (ho : o < 256) (w : World) (hM : RMach w g ag st) (hs : st o = 4) : Calls Try.prog 16 #[.pointer (some ⟨g, 0, none⟩), .int .i64 0, .int .u8 o, .bool false] w (RTookE g ag st 0 o 5 0 0 w) := by
  have hg := hM.lt
  have c0 := hM.cs o (by omega)
  have f0 := hM.fr o (by omega)
  rw [hs] at c0
  have HM := hid (hM.set o (by omega) 5 (by decide))
  have HV := hid (Moved.set (a := w) (S := [g]) (g := g) (by simp) o (.int .i64 5))
  have HS := hid (fun W => rsay_none 0 o W)
  have hi : (o : Int) < 256 := by omega
  have hj : (0 : Int) ≤ o := by omega
  clear hM hs
  go_enter Try.func16, Try.ntmps16
  go_wp2_with fail
  with_reducible refine (HS.out _).mono ?_
  rintro e w1 ⟨v, rfl, hm, hb, hk⟩
  obtain ⟨x, n, c, hv⟩ : ∃ x n c, v = .slice x n c := by
    rcases hm with ⟨_, h⟩ | ⟨_, b, h, _⟩
    · exact ⟨_, _, _, h⟩
    · exact ⟨_, _, _, h⟩
  subst hv
  have HE := hid (And.intro hm (And.intro hb hk))
  clear hm hb hk
  go_wp2
  go_ret2
  exact rtook_end (by omega) HV.out HM.out (below_t (bal (Below.refl _ _) _) HE.out.2.1) HE.out.1 (fun k h => Nat.le_trans (by simp <;> omega) (HE.out.2.2 k h))
set_option maxRecDepth 100000 in
set_option maxHeartbeats 1000000 in
theorem rask_0_5_false (g : Nat) (ag : Nat → Bool) (st : Nat → Int) (o : Nat) (ho : o < 256) (w : World) (hM : RMach w g ag st) (hs : st o = 5) : Calls Try.prog 16 #[.pointer (some ⟨g, 0, none⟩), .int .i64 0, .int .u8 o, .bool false] w fun e w' => e = .returned (.tuple #[.slice none 0 0, .int .i64 6]) ∧ Below w.heap.size w w' := by
  have hg := hM.lt
  have c0 := hM.cs o (by omega)
  rw [hs] at c0
  have hi : (o : Int) < 256 := by omega
  have hj : (0 : Int) ≤ o := by omega
  clear hM hs
  go_enter Try.func16, Try.ntmps16
  go_wp2
  go_ret2
  exact ⟨rfl, bal (Below.refl _ _) _⟩
theorem rask_0 (g : Nat) (ag : Nat → Bool) (st : Nat → Int) (o : Nat) (ho : o < 256) (on : Bool) (w : World) (hM : RMach w g ag st) (ha : (askN (st o) on).2.2 = true) : Calls Try.prog 16 #[.pointer (some ⟨g, 0, none⟩), .int .i64 0, .int .u8 o, .bool on] w (RTookE g ag st 0 o (askN (st o) on).1 (askN (st o) on).2.1 0 w) := by
  obtain ⟨s0, s5⟩ := hM.ok o
  rcases six s0 s5 with h | h | h | h | h | h
  · cases on
    · rw [h] at ha; exact absurd ha (by decide)
    · rw [h]; exact rask_0_0_true g ag st o ho w hM h
  · cases on
    · rw [h]; exact rask_0_1_false g ag st o ho w hM h
    · rw [h] at ha; exact absurd ha (by decide)
  · cases on
    · rw [h] at ha; exact absurd ha (by decide)
    · rw [h]; exact rask_0_2_true g ag st o ho w hM h
  · cases on
    · rw [h]; exact rask_0_3_false g ag st o ho w hM h
    · rw [h] at ha; exact absurd ha (by decide)
  · cases on
    · rw [h]; exact rask_0_4_false g ag st o ho w hM h
    · rw [h] at ha; exact absurd ha (by decide)
  · cases on
    · rw [h] at ha; exact absurd ha (by decide)
    · rw [h]; exact rask_0_5_true g ag st o ho w hM h
theorem rask_no_0 (g : Nat) (ag : Nat → Bool) (st : Nat → Int) (o : Nat) (ho : o < 256) (on : Bool) (w : World) (hM : RMach w g ag st) (ha : (askN (st o) on).2.2 = false) : Calls Try.prog 16 #[.pointer (some ⟨g, 0, none⟩), .int .i64 0, .int .u8 o, .bool on] w fun e w' => e = .returned (.tuple #[.slice none 0 0, .int .i64 6]) ∧ Below w.heap.size w w' := by
  obtain ⟨s0, s5⟩ := hM.ok o
  rcases six s0 s5 with h | h | h | h | h | h
  · cases on
    · exact rask_0_0_false g ag st o ho w hM h
    · rw [h] at ha; exact absurd ha (by decide)
  · cases on
    · rw [h] at ha; exact absurd ha (by decide)
    · exact rask_0_1_true g ag st o ho w hM h
  · cases on
    · exact rask_0_2_false g ag st o ho w hM h
    · rw [h] at ha; exact absurd ha (by decide)
  · cases on
    · rw [h] at ha; exact absurd ha (by decide)
    · exact rask_0_3_true g ag st o ho w hM h
  · cases on
    · rw [h] at ha; exact absurd ha (by decide)
    · exact rask_0_4_true g ag st o ho w hM h
  · cases on
    · exact rask_0_5_false g ag st o ho w hM h
    · rw [h] at ha; exact absurd ha (by decide)
set_option maxRecDepth 100000 in
set_option maxHeartbeats 1000000 in
theorem rask_1_0_true (g : Nat) (ag : Nat → Bool) (st : Nat → Int) (o : Nat) (ho : o < 256) (w : World) (hM : RMach w g ag st) (hs : st (256 + o) = 0) : Calls Try.prog 16 #[.pointer (some ⟨g, 0, none⟩), .int .i64 1, .int .u8 o, .bool true] w (RTookE g ag st 1 o 4 1 0 w) := by
  have hg := hM.lt
  have c0 := hM.cs (256 + o) (by omega)
  have f0 := hM.fr (256 + o) (by omega)
  rw [hs] at c0
  have HM := hid (hM.set (256 + o) (by omega) 4 (by decide))
  have HV := hid (Moved.set (a := w) (S := [g]) (g := g) (by simp) (256 + o) (.int .i64 4))
  have HS := hid (fun W => rsay_1_1 o W)
  have hi : (o : Int) < 256 := by omega
  have hj : (0 : Int) ≤ o := by omega
  clear hM hs
  go_enter Try.func16, Try.ntmps16
  go_wp2_with fail
  with_reducible refine (HS.out _).mono ?_
  rintro e w1 ⟨v, rfl, hm, hb, hk⟩
  obtain ⟨x, n, c, hv⟩ : ∃ x n c, v = .slice x n c := by
    rcases hm with ⟨_, h⟩ | ⟨_, b, h, _⟩
    · exact ⟨_, _, _, h⟩
    · exact ⟨_, _, _, h⟩
  subst hv
  have HE := hid (And.intro hm (And.intro hb hk))
  clear hm hb hk
  go_wp2
  go_ret2
  exact rtook_end (by omega) HV.out HM.out (below_t (bal (bal (Below.refl _ _) _) _) HE.out.2.1) HE.out.1 (fun k h => Nat.le_trans (by simp <;> omega) (HE.out.2.2 k h))
set_option maxRecDepth 100000 in
set_option maxHeartbeats 1000000 in
theorem rask_1_1_true (g : Nat) (ag : Nat → Bool) (st : Nat → Int) (o : Nat) (ho : o < 256) (w : World) (hM : RMach w g ag st) (hs : st (256 + o) = 1) : Calls Try.prog 16 #[.pointer (some ⟨g, 0, none⟩), .int .i64 1, .int .u8 o, .bool true] w fun e w' => e = .returned (.tuple #[.slice none 0 0, .int .i64 6]) ∧ Below w.heap.size w w' := by
  have hg := hM.lt
  have c0 := hM.cs (256 + o) (by omega)
  rw [hs] at c0
  have hi : (o : Int) < 256 := by omega
  have hj : (0 : Int) ≤ o := by omega
  clear hM hs
  go_enter Try.func16, Try.ntmps16
  go_wp2
  go_ret2
  exact ⟨rfl, bal (bal (Below.refl _ _) _) _⟩
set_option maxRecDepth 100000 in
set_option maxHeartbeats 1000000 in
theorem rask_1_2_true (g : Nat) (ag : Nat → Bool) (st : Nat → Int) (o : Nat) (ho : o < 256) (w : World) (hM : RMach w g ag st) (hs : st (256 + o) = 2) : Calls Try.prog 16 #[.pointer (some ⟨g, 0, none⟩), .int .i64 1, .int .u8 o, .bool true] w (RTookE g ag st 1 o 3 0 0 w) := by
  have hg := hM.lt
  have c0 := hM.cs (256 + o) (by omega)
  have f0 := hM.fr (256 + o) (by omega)
  rw [hs] at c0
  have HM := hid (hM.set (256 + o) (by omega) 3 (by decide))
  have HV := hid (Moved.set (a := w) (S := [g]) (g := g) (by simp) (256 + o) (.int .i64 3))
  have HS := hid (fun W => rsay_none 1 o W)
  have hi : (o : Int) < 256 := by omega
  have hj : (0 : Int) ≤ o := by omega
  clear hM hs
  go_enter Try.func16, Try.ntmps16
  go_wp2_with fail
  with_reducible refine (HS.out _).mono ?_
  rintro e w1 ⟨v, rfl, hm, hb, hk⟩
  obtain ⟨x, n, c, hv⟩ : ∃ x n c, v = .slice x n c := by
    rcases hm with ⟨_, h⟩ | ⟨_, b, h, _⟩
    · exact ⟨_, _, _, h⟩
    · exact ⟨_, _, _, h⟩
  subst hv
  have HE := hid (And.intro hm (And.intro hb hk))
  clear hm hb hk
  go_wp2
  go_ret2
  exact rtook_end (by omega) HV.out HM.out (below_t (bal (bal (Below.refl _ _) _) _) HE.out.2.1) HE.out.1 (fun k h => Nat.le_trans (by simp <;> omega) (HE.out.2.2 k h))
set_option maxRecDepth 100000 in
set_option maxHeartbeats 1000000 in
theorem rask_1_3_true (g : Nat) (ag : Nat → Bool) (st : Nat → Int) (o : Nat) (ho : o < 256) (w : World) (hM : RMach w g ag st) (hs : st (256 + o) = 3) : Calls Try.prog 16 #[.pointer (some ⟨g, 0, none⟩), .int .i64 1, .int .u8 o, .bool true] w fun e w' => e = .returned (.tuple #[.slice none 0 0, .int .i64 6]) ∧ Below w.heap.size w w' := by
  have hg := hM.lt
  have c0 := hM.cs (256 + o) (by omega)
  rw [hs] at c0
  have hi : (o : Int) < 256 := by omega
  have hj : (0 : Int) ≤ o := by omega
  clear hM hs
  go_enter Try.func16, Try.ntmps16
  go_wp2
  go_ret2
  exact ⟨rfl, bal (bal (Below.refl _ _) _) _⟩
set_option maxRecDepth 100000 in
set_option maxHeartbeats 1000000 in
theorem rask_1_4_true (g : Nat) (ag : Nat → Bool) (st : Nat → Int) (o : Nat) (ho : o < 256) (w : World) (hM : RMach w g ag st) (hs : st (256 + o) = 4) : Calls Try.prog 16 #[.pointer (some ⟨g, 0, none⟩), .int .i64 1, .int .u8 o, .bool true] w fun e w' => e = .returned (.tuple #[.slice none 0 0, .int .i64 6]) ∧ Below w.heap.size w w' := by
  have hg := hM.lt
  have c0 := hM.cs (256 + o) (by omega)
  rw [hs] at c0
  have hi : (o : Int) < 256 := by omega
  have hj : (0 : Int) ≤ o := by omega
  clear hM hs
  go_enter Try.func16, Try.ntmps16
  go_wp2
  go_ret2
  exact ⟨rfl, bal (bal (Below.refl _ _) _) _⟩
set_option maxRecDepth 100000 in
set_option maxHeartbeats 1000000 in
theorem rask_1_5_true (g : Nat) (ag : Nat → Bool) (st : Nat → Int) (o : Nat) (ho : o < 256) (w : World) (hM : RMach w g ag st) (hs : st (256 + o) = 5) : Calls Try.prog 16 #[.pointer (some ⟨g, 0, none⟩), .int .i64 1, .int .u8 o, .bool true] w (RTookE g ag st 1 o 4 0 0 w) := by
  have hg := hM.lt
  have c0 := hM.cs (256 + o) (by omega)
  have f0 := hM.fr (256 + o) (by omega)
  rw [hs] at c0
  have HM := hid (hM.set (256 + o) (by omega) 4 (by decide))
  have HV := hid (Moved.set (a := w) (S := [g]) (g := g) (by simp) (256 + o) (.int .i64 4))
  have HS := hid (fun W => rsay_none 1 o W)
  have hi : (o : Int) < 256 := by omega
  have hj : (0 : Int) ≤ o := by omega
  clear hM hs
  go_enter Try.func16, Try.ntmps16
  go_wp2_with fail
  with_reducible refine (HS.out _).mono ?_
  rintro e w1 ⟨v, rfl, hm, hb, hk⟩
  obtain ⟨x, n, c, hv⟩ : ∃ x n c, v = .slice x n c := by
    rcases hm with ⟨_, h⟩ | ⟨_, b, h, _⟩
    · exact ⟨_, _, _, h⟩
    · exact ⟨_, _, _, h⟩
  subst hv
  have HE := hid (And.intro hm (And.intro hb hk))
  clear hm hb hk
  go_wp2
  go_ret2
  exact rtook_end (by omega) HV.out HM.out (below_t (bal (bal (Below.refl _ _) _) _) HE.out.2.1) HE.out.1 (fun k h => Nat.le_trans (by simp <;> omega) (HE.out.2.2 k h))
set_option maxRecDepth 100000 in
set_option maxHeartbeats 1000000 in
theorem rask_1_0_false (g : Nat) (ag : Nat → Bool) (st : Nat → Int) (o : Nat) (ho : o < 256) (w : World) (hM : RMach w g ag st) (hs : st (256 + o) = 0) : Calls Try.prog 16 #[.pointer (some ⟨g, 0, none⟩), .int .i64 1, .int .u8 o, .bool false] w fun e w' => e = .returned (.tuple #[.slice none 0 0, .int .i64 6]) ∧ Below w.heap.size w w' := by
  have hg := hM.lt
  have c0 := hM.cs (256 + o) (by omega)
  rw [hs] at c0
  have hi : (o : Int) < 256 := by omega
  have hj : (0 : Int) ≤ o := by omega
  clear hM hs
  go_enter Try.func16, Try.ntmps16
  go_wp2
  go_ret2
  exact ⟨rfl, bal (Below.refl _ _) _⟩
set_option maxRecDepth 100000 in
set_option maxHeartbeats 1000000 in
theorem rask_1_1_false (g : Nat) (ag : Nat → Bool) (st : Nat → Int) (o : Nat) (ho : o < 256) (w : World) (hM : RMach w g ag st) (hs : st (256 + o) = 1) : Calls Try.prog 16 #[.pointer (some ⟨g, 0, none⟩), .int .i64 1, .int .u8 o, .bool false] w (RTookE g ag st 1 o 2 2 0 w) := by
  have hg := hM.lt
  have c0 := hM.cs (256 + o) (by omega)
  have f0 := hM.fr (256 + o) (by omega)
  rw [hs] at c0
  have HM := hid (hM.set (256 + o) (by omega) 2 (by decide))
  have HV := hid (Moved.set (a := w) (S := [g]) (g := g) (by simp) (256 + o) (.int .i64 2))
  have HS := hid (fun W => rsay_1_2 o W)
  have hi : (o : Int) < 256 := by omega
  have hj : (0 : Int) ≤ o := by omega
  clear hM hs
  go_enter Try.func16, Try.ntmps16
  go_wp2_with fail
  with_reducible refine (HS.out _).mono ?_
  rintro e w1 ⟨v, rfl, hm, hb, hk⟩
  obtain ⟨x, n, c, hv⟩ : ∃ x n c, v = .slice x n c := by
    rcases hm with ⟨_, h⟩ | ⟨_, b, h, _⟩
    · exact ⟨_, _, _, h⟩
    · exact ⟨_, _, _, h⟩
  subst hv
  have HE := hid (And.intro hm (And.intro hb hk))
  clear hm hb hk
  go_wp2
  go_ret2
  exact rtook_end (by omega) HV.out HM.out (below_t (bal (Below.refl _ _) _) HE.out.2.1) HE.out.1 (fun k h => Nat.le_trans (by simp <;> omega) (HE.out.2.2 k h))
set_option maxRecDepth 100000 in
set_option maxHeartbeats 1000000 in
theorem rask_1_2_false (g : Nat) (ag : Nat → Bool) (st : Nat → Int) (o : Nat) (ho : o < 256) (w : World) (hM : RMach w g ag st) (hs : st (256 + o) = 2) : Calls Try.prog 16 #[.pointer (some ⟨g, 0, none⟩), .int .i64 1, .int .u8 o, .bool false] w fun e w' => e = .returned (.tuple #[.slice none 0 0, .int .i64 6]) ∧ Below w.heap.size w w' := by
  have hg := hM.lt
  have c0 := hM.cs (256 + o) (by omega)
  rw [hs] at c0
  have hi : (o : Int) < 256 := by omega
  have hj : (0 : Int) ≤ o := by omega
  clear hM hs
  go_enter Try.func16, Try.ntmps16
  go_wp2
  go_ret2
  exact ⟨rfl, bal (Below.refl _ _) _⟩
set_option maxRecDepth 100000 in
set_option maxHeartbeats 1000000 in
theorem rask_1_3_false (g : Nat) (ag : Nat → Bool) (st : Nat → Int) (o : Nat) (ho : o < 256) (w : World) (hM : RMach w g ag st) (hs : st (256 + o) = 3) : Calls Try.prog 16 #[.pointer (some ⟨g, 0, none⟩), .int .i64 1, .int .u8 o, .bool false] w (RTookE g ag st 1 o 2 0 0 w) := by
  have hg := hM.lt
  have c0 := hM.cs (256 + o) (by omega)
  have f0 := hM.fr (256 + o) (by omega)
  rw [hs] at c0
  have HM := hid (hM.set (256 + o) (by omega) 2 (by decide))
  have HV := hid (Moved.set (a := w) (S := [g]) (g := g) (by simp) (256 + o) (.int .i64 2))
  have HS := hid (fun W => rsay_none 1 o W)
  have hi : (o : Int) < 256 := by omega
  have hj : (0 : Int) ≤ o := by omega
  clear hM hs
  go_enter Try.func16, Try.ntmps16
  go_wp2_with fail
  with_reducible refine (HS.out _).mono ?_
  rintro e w1 ⟨v, rfl, hm, hb, hk⟩
  obtain ⟨x, n, c, hv⟩ : ∃ x n c, v = .slice x n c := by
    rcases hm with ⟨_, h⟩ | ⟨_, b, h, _⟩
    · exact ⟨_, _, _, h⟩
    · exact ⟨_, _, _, h⟩
  subst hv
  have HE := hid (And.intro hm (And.intro hb hk))
  clear hm hb hk
  go_wp2
  go_ret2
  exact rtook_end (by omega) HV.out HM.out (below_t (bal (Below.refl _ _) _) HE.out.2.1) HE.out.1 (fun k h => Nat.le_trans (by simp <;> omega) (HE.out.2.2 k h))
set_option maxRecDepth 100000 in
set_option maxHeartbeats 1000000 in
theorem rask_1_4_false (g : Nat) (ag : Nat → Bool) (st : Nat → Int) (o : Nat) (ho : o < 256) (w : World) (hM : RMach w g ag st) (hs : st (256 + o) = 4) : Calls Try.prog 16 #[.pointer (some ⟨g, 0, none⟩), .int .i64 1, .int .u8 o, .bool false] w (RTookE g ag st 1 o 5 0 0 w) := by
  have hg := hM.lt
  have c0 := hM.cs (256 + o) (by omega)
  have f0 := hM.fr (256 + o) (by omega)
  rw [hs] at c0
  have HM := hid (hM.set (256 + o) (by omega) 5 (by decide))
  have HV := hid (Moved.set (a := w) (S := [g]) (g := g) (by simp) (256 + o) (.int .i64 5))
  have HS := hid (fun W => rsay_none 1 o W)
  have hi : (o : Int) < 256 := by omega
  have hj : (0 : Int) ≤ o := by omega
  clear hM hs
  go_enter Try.func16, Try.ntmps16
  go_wp2_with fail
  with_reducible refine (HS.out _).mono ?_
  rintro e w1 ⟨v, rfl, hm, hb, hk⟩
  obtain ⟨x, n, c, hv⟩ : ∃ x n c, v = .slice x n c := by
    rcases hm with ⟨_, h⟩ | ⟨_, b, h, _⟩
    · exact ⟨_, _, _, h⟩
    · exact ⟨_, _, _, h⟩
  subst hv
  have HE := hid (And.intro hm (And.intro hb hk))
  clear hm hb hk
  go_wp2
  go_ret2
  exact rtook_end (by omega) HV.out HM.out (below_t (bal (Below.refl _ _) _) HE.out.2.1) HE.out.1 (fun k h => Nat.le_trans (by simp <;> omega) (HE.out.2.2 k h))
set_option maxRecDepth 100000 in
set_option maxHeartbeats 1000000 in
theorem rask_1_5_false (g : Nat) (ag : Nat → Bool) (st : Nat → Int) (o : Nat) (ho : o < 256) (w : World) (hM : RMach w g ag st) (hs : st (256 + o) = 5) : Calls Try.prog 16 #[.pointer (some ⟨g, 0, none⟩), .int .i64 1, .int .u8 o, .bool false] w fun e w' => e = .returned (.tuple #[.slice none 0 0, .int .i64 6]) ∧ Below w.heap.size w w' := by
  have hg := hM.lt
  have c0 := hM.cs (256 + o) (by omega)
  rw [hs] at c0
  have hi : (o : Int) < 256 := by omega
  have hj : (0 : Int) ≤ o := by omega
  clear hM hs
  go_enter Try.func16, Try.ntmps16
  go_wp2
  go_ret2
  exact ⟨rfl, bal (Below.refl _ _) _⟩
theorem rask_1 (g : Nat) (ag : Nat → Bool) (st : Nat → Int) (o : Nat) (ho : o < 256) (on : Bool) (w : World) (hM : RMach w g ag st) (ha : (askN (st (256 + o)) on).2.2 = true) : Calls Try.prog 16 #[.pointer (some ⟨g, 0, none⟩), .int .i64 1, .int .u8 o, .bool on] w (RTookE g ag st 1 o (askN (st (256 + o)) on).1 (askN (st (256 + o)) on).2.1 0 w) := by
  obtain ⟨s0, s5⟩ := hM.ok (256 + o)
  rcases six s0 s5 with h | h | h | h | h | h
  · cases on
    · rw [h] at ha; exact absurd ha (by decide)
    · rw [h]; exact rask_1_0_true g ag st o ho w hM h
  · cases on
    · rw [h]; exact rask_1_1_false g ag st o ho w hM h
    · rw [h] at ha; exact absurd ha (by decide)
  · cases on
    · rw [h] at ha; exact absurd ha (by decide)
    · rw [h]; exact rask_1_2_true g ag st o ho w hM h
  · cases on
    · rw [h]; exact rask_1_3_false g ag st o ho w hM h
    · rw [h] at ha; exact absurd ha (by decide)
  · cases on
    · rw [h]; exact rask_1_4_false g ag st o ho w hM h
    · rw [h] at ha; exact absurd ha (by decide)
  · cases on
    · rw [h] at ha; exact absurd ha (by decide)
    · rw [h]; exact rask_1_5_true g ag st o ho w hM h
theorem rask_no_1 (g : Nat) (ag : Nat → Bool) (st : Nat → Int) (o : Nat) (ho : o < 256) (on : Bool) (w : World) (hM : RMach w g ag st) (ha : (askN (st (256 + o)) on).2.2 = false) : Calls Try.prog 16 #[.pointer (some ⟨g, 0, none⟩), .int .i64 1, .int .u8 o, .bool on] w fun e w' => e = .returned (.tuple #[.slice none 0 0, .int .i64 6]) ∧ Below w.heap.size w w' := by
  obtain ⟨s0, s5⟩ := hM.ok (256 + o)
  rcases six s0 s5 with h | h | h | h | h | h
  · cases on
    · exact rask_1_0_false g ag st o ho w hM h
    · rw [h] at ha; exact absurd ha (by decide)
  · cases on
    · rw [h] at ha; exact absurd ha (by decide)
    · exact rask_1_1_true g ag st o ho w hM h
  · cases on
    · exact rask_1_2_false g ag st o ho w hM h
    · rw [h] at ha; exact absurd ha (by decide)
  · cases on
    · rw [h] at ha; exact absurd ha (by decide)
    · exact rask_1_3_true g ag st o ho w hM h
  · cases on
    · rw [h] at ha; exact absurd ha (by decide)
    · exact rask_1_4_true g ag st o ho w hM h
  · cases on
    · exact rask_1_5_false g ag st o ho w hM h
    · rw [h] at ha; exact absurd ha (by decide)
set_option maxRecDepth 100000 in
set_option maxHeartbeats 1000000 in
theorem rask_bad (g : Nat) (side : Int) (hs : ¬ (side = 0 ∨ side = 1)) (o : Nat) (on : Bool) (w : World) : Calls Try.prog 16 #[.pointer (some ⟨g, 0, none⟩), .int .i64 side, .int .u8 o, .bool on] w fun e w' => e = .returned (.tuple #[.slice none 0 0, .int .i64 1]) ∧ w = w' := by
  have h0 : (side != 0) = true := by simpa using fun h => hs (.inl h)
  have h1 : (side != 1) = true := by simpa using fun h => hs (.inr h)
  clear hs
  go_enter Try.func16, Try.ntmps16
  go_wp2
  go_ret2
  exact ⟨rfl, rfl⟩
end Go.Proofs.Ytahminbgedmgcaa
