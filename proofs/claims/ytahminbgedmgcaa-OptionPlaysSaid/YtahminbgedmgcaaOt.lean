/-
  The document's machine hears, and is asked.
-/
import Derived.Test.YtahminbgedmgcaaOs
namespace Go.Proofs.Ytahminbgedmgcaa
open Go.RowKit Go.Lib

/-- A step of the document's machine, and an error's number. -/
def RTookE (g : Nat) (ag : Nat → Bool) (st : Nat → Int) (side o n say er : Int) (w : World) (e : Ending) (w' : World) : Prop :=
  ∃ v, e = .returned (.tuple #[v, .int .i64 er]) ∧ Msg w' v side say o ∧ RMach w' g ag (upd st (side * 256 + o).toNat n) ∧ Moved w w' [g] [g] ∧ ∀ k ∈ blkV v, w.heap.size ≤ k
theorem rtook_end {g : Nat} {ag : Nat → Bool} {st : Nat → Int} {side say o n : Int} {w w1 w2 : World} {v : Value} {i : Nat} (hi : (side * 256 + o).toNat = i) (hV : Moved w w1 [g] [g]) (hM : RMach w1 g ag (upd st i n)) (hb : Below w1.heap.size w1 w2) (hm : Msg w2 v side say o) (hk : ∀ k ∈ blkV v, w.heap.size ≤ k) : RTookE g ag st side o n say 0 w (.returned (.tuple #[v, .int .i64 0])) w2 :=
  ⟨v, rfl, hm, by rw [hi]; exact hM.step hb, hV.trans (Moved.below hb _), hk⟩
set_option maxRecDepth 100000 in
set_option maxHeartbeats 1000000 in
theorem rhear_251_0f (g : Nat) (ag : Nat → Bool) (st : Nat → Int) (o : Nat) (ho : o < 256) (w : World) (hM : RMach w g ag st) (hs : st (256 + o) = 0) (ha : ag (256 + o) = false) : Calls Try.prog 14 #[.pointer (some ⟨g, 0, none⟩), .int .u8 251, .int .u8 o] w (RTookE g ag st 1 o 0 2 0 w) := by
  have hg := hM.lt
  have c0 := hM.cs (256 + o) (by omega)
  have f0 := hM.fr (256 + o) (by omega)
  have d0 := hM.ca (256 + o) (by omega)
  rw [show 512 + (256 + o) = 768 + o by omega] at d0
  rw [ha] at d0
  rw [hs] at c0
  have HM := hid (hM.set (256 + o) (by omega) 0 (by decide))
  have HV := hid (Moved.set (a := w) (S := [g]) (g := g) (by simp) (256 + o) (.int .i64 0))
  have HS := hid (fun W => rsay_1_2 o W)
  have hi : (o : Int) < 256 := by omega
  have hj : (0 : Int) ≤ o := by omega
  clear hM hs ha
  go_enter Try.func14, Try.ntmps14
  go_wp2_with fail
  with_reducible refine (HS.out _).mono ?_
  rintro e w1 ⟨v, rfl, hm, hb, hk⟩
  obtain ⟨x, n, c, hv⟩ : ∃ x n c, v = .slice x n c := by
    rcases hm with ⟨_, h⟩ | ⟨_, b, h, _⟩
    · exact ⟨_, _, _, h⟩
    · exact ⟨_, _, _, h⟩
  subst hv
  have HE := hid (And.intro hm (And.intro hb hk))
  clear hm hb hk
  go_wp2
  go_ret2
  exact rtook_end (by omega) HV.out HM.out (below_t (bal (Below.refl _ _) _) HE.out.2.1) HE.out.1 (fun k h => Nat.le_trans (by simp) (HE.out.2.2 k h))
set_option maxRecDepth 100000 in
set_option maxHeartbeats 1000000 in
theorem rhear_251_0t (g : Nat) (ag : Nat → Bool) (st : Nat → Int) (o : Nat) (ho : o < 256) (w : World) (hM : RMach w g ag st) (hs : st (256 + o) = 0) (ha : ag (256 + o) = true) : Calls Try.prog 14 #[.pointer (some ⟨g, 0, none⟩), .int .u8 251, .int .u8 o] w (RTookE g ag st 1 o 1 1 0 w) := by
  have hg := hM.lt
  have c0 := hM.cs (256 + o) (by omega)
  have f0 := hM.fr (256 + o) (by omega)
  have d0 := hM.ca (256 + o) (by omega)
  rw [show 512 + (256 + o) = 768 + o by omega] at d0
  rw [ha] at d0
  rw [hs] at c0
  have HM := hid (hM.set (256 + o) (by omega) 1 (by decide))
  have HV := hid (Moved.set (a := w) (S := [g]) (g := g) (by simp) (256 + o) (.int .i64 1))
  have HS := hid (fun W => rsay_1_1 o W)
  have hi : (o : Int) < 256 := by omega
  have hj : (0 : Int) ≤ o := by omega
  clear hM hs ha
  go_enter Try.func14, Try.ntmps14
  go_wp2_with fail
  with_reducible refine (HS.out _).mono ?_
  rintro e w1 ⟨v, rfl, hm, hb, hk⟩
  obtain ⟨x, n, c, hv⟩ : ∃ x n c, v = .slice x n c := by
    rcases hm with ⟨_, h⟩ | ⟨_, b, h, _⟩
    · exact ⟨_, _, _, h⟩
    · exact ⟨_, _, _, h⟩
  subst hv
  have HE := hid (And.intro hm (And.intro hb hk))
  clear hm hb hk
  go_wp2
  go_ret2
  exact rtook_end (by omega) HV.out HM.out (below_t (bal (Below.refl _ _) _) HE.out.2.1) HE.out.1 (fun k h => Nat.le_trans (by simp) (HE.out.2.2 k h))
set_option maxRecDepth 100000 in
set_option maxHeartbeats 1000000 in
theorem rhear_251_1 (g : Nat) (ag : Nat → Bool) (st : Nat → Int) (o : Nat) (ho : o < 256) (w : World) (hM : RMach w g ag st) (hs : st (256 + o) = 1) : Calls Try.prog 14 #[.pointer (some ⟨g, 0, none⟩), .int .u8 251, .int .u8 o] w (RTookE g ag st 1 o 1 0 0 w) := by
  have hg := hM.lt
  have c0 := hM.cs (256 + o) (by omega)
  have f0 := hM.fr (256 + o) (by omega)
  rw [hs] at c0
  have HM := hid (hM.set (256 + o) (by omega) 1 (by decide))
  have HV := hid (Moved.set (a := w) (S := [g]) (g := g) (by simp) (256 + o) (.int .i64 1))
  have HS := hid (fun W => rsay_none 1 o W)
  have hi : (o : Int) < 256 := by omega
  have hj : (0 : Int) ≤ o := by omega
  clear hM hs
  go_enter Try.func14, Try.ntmps14
  go_wp2_with fail
  with_reducible refine (HS.out _).mono ?_
  rintro e w1 ⟨v, rfl, hm, hb, hk⟩
  obtain ⟨x, n, c, hv⟩ : ∃ x n c, v = .slice x n c := by
    rcases hm with ⟨_, h⟩ | ⟨_, b, h, _⟩
    · exact ⟨_, _, _, h⟩
    · exact ⟨_, _, _, h⟩
  subst hv
  have HE := hid (And.intro hm (And.intro hb hk))
  clear hm hb hk
  go_wp2
  go_ret2
  exact rtook_end (by omega) HV.out HM.out (below_t (bal (Below.refl _ _) _) HE.out.2.1) HE.out.1 (fun k h => Nat.le_trans (by simp) (HE.out.2.2 k h))
set_option maxRecDepth 100000 in
set_option maxHeartbeats 1000000 in
theorem rhear_251_2 (g : Nat) (ag : Nat → Bool) (st : Nat → Int) (o : Nat) (ho : o < 256) (w : World) (hM : RMach w g ag st) (hs : st (256 + o) = 2) : Calls Try.prog 14 #[.pointer (some ⟨g, 0, none⟩), .int .u8 251, .int .u8 o] w (RTookE g ag st 1 o 0 0 0 w) := by
  have hg := hM.lt
  have c0 := hM.cs (256 + o) (by omega)
  have f0 := hM.fr (256 + o) (by omega)
  rw [hs] at c0
  have HM := hid (hM.set (256 + o) (by omega) 0 (by decide))
  have HV := hid (Moved.set (a := w) (S := [g]) (g := g) (by simp) (256 + o) (.int .i64 0))
  have HS := hid (fun W => rsay_none 1 o W)
  have hi : (o : Int) < 256 := by omega
  have hj : (0 : Int) ≤ o := by omega
  clear hM hs
  go_enter Try.func14, Try.ntmps14
  go_wp2_with fail
  with_reducible refine (HS.out _).mono ?_
  rintro e w1 ⟨v, rfl, hm, hb, hk⟩
  obtain ⟨x, n, c, hv⟩ : ∃ x n c, v = .slice x n c := by
    rcases hm with ⟨_, h⟩ | ⟨_, b, h, _⟩
    · exact ⟨_, _, _, h⟩
    · exact ⟨_, _, _, h⟩
  subst hv
  have HE := hid (And.intro hm (And.intro hb hk))
  clear hm hb hk
  go_wp2
  go_ret2
  exact rtook_end (by omega) HV.out HM.out (below_t (bal (Below.refl _ _) _) HE.out.2.1) HE.out.1 (fun k h => Nat.le_trans (by simp) (HE.out.2.2 k h))
set_option maxRecDepth 100000 in
set_option maxHeartbeats 1000000 in
theorem rhear_251_3 (g : Nat) (ag : Nat → Bool) (st : Nat → Int) (o : Nat) (ho : o < 256) (w : World) (hM : RMach w g ag st) (hs : st (256 + o) = 3) : Calls Try.prog 14 #[.pointer (some ⟨g, 0, none⟩), .int .u8 251, .int .u8 o] w (RTookE g ag st 1 o 1 0 0 w) := by
  have hg := hM.lt
  have c0 := hM.cs (256 + o) (by omega)
  have f0 := hM.fr (256 + o) (by omega)
  rw [hs] at c0
  have HM := hid (hM.set (256 + o) (by omega) 1 (by decide))
  have HV := hid (Moved.set (a := w) (S := [g]) (g := g) (by simp) (256 + o) (.int .i64 1))
  have HS := hid (fun W => rsay_none 1 o W)
  have hi : (o : Int) < 256 := by omega
  have hj : (0 : Int) ≤ o := by omega
  clear hM hs
  go_enter Try.func14, Try.ntmps14
  go_wp2_with fail
  with_reducible refine (HS.out _).mono ?_
  rintro e w1 ⟨v, rfl, hm, hb, hk⟩
  obtain ⟨x, n, c, hv⟩ : ∃ x n c, v = .slice x n c := by
    rcases hm with ⟨_, h⟩ | ⟨_, b, h, _⟩
    · exact ⟨_, _, _, h⟩
    · exact ⟨_, _, _, h⟩
  subst hv
  have HE := hid (And.intro hm (And.intro hb hk))
  clear hm hb hk
  go_wp2
  go_ret2
  exact rtook_end (by omega) HV.out HM.out (below_t (bal (Below.refl _ _) _) HE.out.2.1) HE.out.1 (fun k h => Nat.le_trans (by simp) (HE.out.2.2 k h))
set_option maxRecDepth 100000 in
set_option maxHeartbeats 1000000 in
theorem rhear_251_4 (g : Nat) (ag : Nat → Bool) (st : Nat → Int) (o : Nat) (ho : o < 256) (w : World) (hM : RMach w g ag st) (hs : st (256 + o) = 4) : Calls Try.prog 14 #[.pointer (some ⟨g, 0, none⟩), .int .u8 251, .int .u8 o] w (RTookE g ag st 1 o 1 0 0 w) := by
  have hg := hM.lt
  have c0 := hM.cs (256 + o) (by omega)
  have f0 := hM.fr (256 + o) (by omega)
  rw [hs] at c0
  have HM := hid (hM.set (256 + o) (by omega) 1 (by decide))
  have HV := hid (Moved.set (a := w) (S := [g]) (g := g) (by simp) (256 + o) (.int .i64 1))
  have HS := hid (fun W => rsay_none 1 o W)
  have hi : (o : Int) < 256 := by omega
  have hj : (0 : Int) ≤ o := by omega
  clear hM hs
  go_enter Try.func14, Try.ntmps14
  go_wp2_with fail
  with_reducible refine (HS.out _).mono ?_
  rintro e w1 ⟨v, rfl, hm, hb, hk⟩
  obtain ⟨x, n, c, hv⟩ : ∃ x n c, v = .slice x n c := by
    rcases hm with ⟨_, h⟩ | ⟨_, b, h, _⟩
    · exact ⟨_, _, _, h⟩
    · exact ⟨_, _, _, h⟩
  subst hv
  have HE := hid (And.intro hm (And.intro hb hk))
  clear hm hb hk
  go_wp2
  go_ret2
  exact rtook_end (by omega) HV.out HM.out (below_t (bal (Below.refl _ _) _) HE.out.2.1) HE.out.1 (fun k h => Nat.le_trans (by simp) (HE.out.2.2 k h))
set_option maxRecDepth 100000 in
set_option maxHeartbeats 1000000 in
theorem rhear_251_5 (g : Nat) (ag : Nat → Bool) (st : Nat → Int) (o : Nat) (ho : o < 256) (w : World) (hM : RMach w g ag st) (hs : st (256 + o) = 5) : Calls Try.prog 14 #[.pointer (some ⟨g, 0, none⟩), .int .u8 251, .int .u8 o] w (RTookE g ag st 1 o 2 2 0 w) := by
  have hg := hM.lt
  have c0 := hM.cs (256 + o) (by omega)
  have f0 := hM.fr (256 + o) (by omega)
  rw [hs] at c0
  have HM := hid (hM.set (256 + o) (by omega) 2 (by decide))
  have HV := hid (Moved.set (a := w) (S := [g]) (g := g) (by simp) (256 + o) (.int .i64 2))
  have HS := hid (fun W => rsay_1_2 o W)
  have hi : (o : Int) < 256 := by omega
  have hj : (0 : Int) ≤ o := by omega
  clear hM hs
  go_enter Try.func14, Try.ntmps14
  go_wp2_with fail
  with_reducible refine (HS.out _).mono ?_
  rintro e w1 ⟨v, rfl, hm, hb, hk⟩
  obtain ⟨x, n, c, hv⟩ : ∃ x n c, v = .slice x n c := by
    rcases hm with ⟨_, h⟩ | ⟨_, b, h, _⟩
    · exact ⟨_, _, _, h⟩
    · exact ⟨_, _, _, h⟩
  subst hv
  have HE := hid (And.intro hm (And.intro hb hk))
  clear hm hb hk
  go_wp2
  go_ret2
  exact rtook_end (by omega) HV.out HM.out (below_t (bal (Below.refl _ _) _) HE.out.2.1) HE.out.1 (fun k h => Nat.le_trans (by simp) (HE.out.2.2 k h))
theorem rhear_251 (g : Nat) (ag : Nat → Bool) (st : Nat → Int) (o : Nat) (ho : o < 256) (w : World) (hM : RMach w g ag st) : Calls Try.prog 14 #[.pointer (some ⟨g, 0, none⟩), .int .u8 251, .int .u8 o] w (RTookE g ag st 1 o (hOn (st (256 + o)) (ag (256 + o))).1 (hOn (st (256 + o)) (ag (256 + o))).2 0 w) := by
  obtain ⟨s0, s5⟩ := hM.ok (256 + o)
  rcases six s0 s5 with h | h | h | h | h | h
  · cases ha : ag (256 + o)
    · rw [h]; exact rhear_251_0f g ag st o ho w hM h ha
    · rw [h]; exact rhear_251_0t g ag st o ho w hM h ha
  · rw [h]; exact rhear_251_1 g ag st o ho w hM h
  · rw [h]; exact rhear_251_2 g ag st o ho w hM h
  · rw [h]; exact rhear_251_3 g ag st o ho w hM h
  · rw [h]; exact rhear_251_4 g ag st o ho w hM h
  · rw [h]; exact rhear_251_5 g ag st o ho w hM h
set_option maxRecDepth 100000 in
set_option maxHeartbeats 1000000 in
theorem rhear_252_0 (g : Nat) (ag : Nat → Bool) (st : Nat → Int) (o : Nat) (ho : o < 256) (w : World) (hM : RMach w g ag st) (hs : st (256 + o) = 0) : Calls Try.prog 14 #[.pointer (some ⟨g, 0, none⟩), .int .u8 252, .int .u8 o] w (RTookE g ag st 1 o 0 0 0 w) := by
  have hg := hM.lt
  have c0 := hM.cs (256 + o) (by omega)
  have f0 := hM.fr (256 + o) (by omega)
  rw [hs] at c0
  have HM := hid (hM.set (256 + o) (by omega) 0 (by decide))
  have HV := hid (Moved.set (a := w) (S := [g]) (g := g) (by simp) (256 + o) (.int .i64 0))
  have HS := hid (fun W => rsay_none 1 o W)
  have hi : (o : Int) < 256 := by omega
  have hj : (0 : Int) ≤ o := by omega
  clear hM hs
  go_enter Try.func14, Try.ntmps14
  go_wp2_with fail
  with_reducible refine (HS.out _).mono ?_
  rintro e w1 ⟨v, rfl, hm, hb, hk⟩
  obtain ⟨x, n, c, hv⟩ : ∃ x n c, v = .slice x n c := by
    rcases hm with ⟨_, h⟩ | ⟨_, b, h, _⟩
    · exact ⟨_, _, _, h⟩
    · exact ⟨_, _, _, h⟩
  subst hv
  have HE := hid (And.intro hm (And.intro hb hk))
  clear hm hb hk
  go_wp2
  go_ret2
  exact rtook_end (by omega) HV.out HM.out (below_t (bal (Below.refl _ _) _) HE.out.2.1) HE.out.1 (fun k h => Nat.le_trans (by simp) (HE.out.2.2 k h))
set_option maxRecDepth 100000 in
set_option maxHeartbeats 1000000 in
theorem rhear_252_1 (g : Nat) (ag : Nat → Bool) (st : Nat → Int) (o : Nat) (ho : o < 256) (w : World) (hM : RMach w g ag st) (hs : st (256 + o) = 1) : Calls Try.prog 14 #[.pointer (some ⟨g, 0, none⟩), .int .u8 252, .int .u8 o] w (RTookE g ag st 1 o 0 2 0 w) := by
  have hg := hM.lt
  have c0 := hM.cs (256 + o) (by omega)
  have f0 := hM.fr (256 + o) (by omega)
  rw [hs] at c0
  have HM := hid (hM.set (256 + o) (by omega) 0 (by decide))
  have HV := hid (Moved.set (a := w) (S := [g]) (g := g) (by simp) (256 + o) (.int .i64 0))
  have HS := hid (fun W => rsay_1_2 o W)
  have hi : (o : Int) < 256 := by omega
  have hj : (0 : Int) ≤ o := by omega
  clear hM hs
  go_enter Try.func14, Try.ntmps14
  go_wp2_with fail
  with_reducible refine (HS.out _).mono ?_
  rintro e w1 ⟨v, rfl, hm, hb, hk⟩
  obtain ⟨x, n, c, hv⟩ : ∃ x n c, v = .slice x n c := by
    rcases hm with ⟨_, h⟩ | ⟨_, b, h, _⟩
    · exact ⟨_, _, _, h⟩
    · exact ⟨_, _, _, h⟩
  subst hv
  have HE := hid (And.intro hm (And.intro hb hk))
  clear hm hb hk
  go_wp2
  go_ret2
  exact rtook_end (by omega) HV.out HM.out (below_t (bal (Below.refl _ _) _) HE.out.2.1) HE.out.1 (fun k h => Nat.le_trans (by simp) (HE.out.2.2 k h))
set_option maxRecDepth 100000 in
set_option maxHeartbeats 1000000 in
theorem rhear_252_2 (g : Nat) (ag : Nat → Bool) (st : Nat → Int) (o : Nat) (ho : o < 256) (w : World) (hM : RMach w g ag st) (hs : st (256 + o) = 2) : Calls Try.prog 14 #[.pointer (some ⟨g, 0, none⟩), .int .u8 252, .int .u8 o] w (RTookE g ag st 1 o 0 0 0 w) := by
  have hg := hM.lt
  have c0 := hM.cs (256 + o) (by omega)
  have f0 := hM.fr (256 + o) (by omega)
  rw [hs] at c0
  have HM := hid (hM.set (256 + o) (by omega) 0 (by decide))
  have HV := hid (Moved.set (a := w) (S := [g]) (g := g) (by simp) (256 + o) (.int .i64 0))
  have HS := hid (fun W => rsay_none 1 o W)
  have hi : (o : Int) < 256 := by omega
  have hj : (0 : Int) ≤ o := by omega
  clear hM hs
  go_enter Try.func14, Try.ntmps14
  go_wp2_with fail
  with_reducible refine (HS.out _).mono ?_
  rintro e w1 ⟨v, rfl, hm, hb, hk⟩
  obtain ⟨x, n, c, hv⟩ : ∃ x n c, v = .slice x n c := by
    rcases hm with ⟨_, h⟩ | ⟨_, b, h, _⟩
    · exact ⟨_, _, _, h⟩
    · exact ⟨_, _, _, h⟩
  subst hv
  have HE := hid (And.intro hm (And.intro hb hk))
  clear hm hb hk
  go_wp2
  go_ret2
  exact rtook_end (by omega) HV.out HM.out (below_t (bal (Below.refl _ _) _) HE.out.2.1) HE.out.1 (fun k h => Nat.le_trans (by simp) (HE.out.2.2 k h))
set_option maxRecDepth 100000 in
set_option maxHeartbeats 1000000 in
theorem rhear_252_3 (g : Nat) (ag : Nat → Bool) (st : Nat → Int) (o : Nat) (ho : o < 256) (w : World) (hM : RMach w g ag st) (hs : st (256 + o) = 3) : Calls Try.prog 14 #[.pointer (some ⟨g, 0, none⟩), .int .u8 252, .int .u8 o] w (RTookE g ag st 1 o 4 1 0 w) := by
  have hg := hM.lt
  have c0 := hM.cs (256 + o) (by omega)
  have f0 := hM.fr (256 + o) (by omega)
  rw [hs] at c0
  have HM := hid (hM.set (256 + o) (by omega) 4 (by decide))
  have HV := hid (Moved.set (a := w) (S := [g]) (g := g) (by simp) (256 + o) (.int .i64 4))
  have HS := hid (fun W => rsay_1_1 o W)
  have hi : (o : Int) < 256 := by omega
  have hj : (0 : Int) ≤ o := by omega
  clear hM hs
  go_enter Try.func14, Try.ntmps14
  go_wp2_with fail
  with_reducible refine (HS.out _).mono ?_
  rintro e w1 ⟨v, rfl, hm, hb, hk⟩
  obtain ⟨x, n, c, hv⟩ : ∃ x n c, v = .slice x n c := by
    rcases hm with ⟨_, h⟩ | ⟨_, b, h, _⟩
    · exact ⟨_, _, _, h⟩
    · exact ⟨_, _, _, h⟩
  subst hv
  have HE := hid (And.intro hm (And.intro hb hk))
  clear hm hb hk
  go_wp2
  go_ret2
  exact rtook_end (by omega) HV.out HM.out (below_t (bal (Below.refl _ _) _) HE.out.2.1) HE.out.1 (fun k h => Nat.le_trans (by simp) (HE.out.2.2 k h))
set_option maxRecDepth 100000 in
set_option maxHeartbeats 1000000 in
theorem rhear_252_4 (g : Nat) (ag : Nat → Bool) (st : Nat → Int) (o : Nat) (ho : o < 256) (w : World) (hM : RMach w g ag st) (hs : st (256 + o) = 4) : Calls Try.prog 14 #[.pointer (some ⟨g, 0, none⟩), .int .u8 252, .int .u8 o] w (RTookE g ag st 1 o 0 0 0 w) := by
  have hg := hM.lt
  have c0 := hM.cs (256 + o) (by omega)
  have f0 := hM.fr (256 + o) (by omega)
  rw [hs] at c0
  have HM := hid (hM.set (256 + o) (by omega) 0 (by decide))
  have HV := hid (Moved.set (a := w) (S := [g]) (g := g) (by simp) (256 + o) (.int .i64 0))
  have HS := hid (fun W => rsay_none 1 o W)
  have hi : (o : Int) < 256 := by omega
  have hj : (0 : Int) ≤ o := by omega
  clear hM hs
  go_enter Try.func14, Try.ntmps14
  go_wp2_with fail
  with_reducible refine (HS.out _).mono ?_
  rintro e w1 ⟨v, rfl, hm, hb, hk⟩
  obtain ⟨x, n, c, hv⟩ : ∃ x n c, v = .slice x n c := by
    rcases hm with ⟨_, h⟩ | ⟨_, b, h, _⟩
    · exact ⟨_, _, _, h⟩
    · exact ⟨_, _, _, h⟩
  subst hv
  have HE := hid (And.intro hm (And.intro hb hk))
  clear hm hb hk
  go_wp2
  go_ret2
  exact rtook_end (by omega) HV.out HM.out (below_t (bal (Below.refl _ _) _) HE.out.2.1) HE.out.1 (fun k h => Nat.le_trans (by simp) (HE.out.2.2 k h))
set_option maxRecDepth 100000 in
set_option maxHeartbeats 1000000 in
theorem rhear_252_5 (g : Nat) (ag : Nat → Bool) (st : Nat → Int) (o : Nat) (ho : o < 256) (w : World) (hM : RMach w g ag st) (hs : st (256 + o) = 5) : Calls Try.prog 14 #[.pointer (some ⟨g, 0, none⟩), .int .u8 252, .int .u8 o] w (RTookE g ag st 1 o 0 0 0 w) := by
  have hg := hM.lt
  have c0 := hM.cs (256 + o) (by omega)
  have f0 := hM.fr (256 + o) (by omega)
  rw [hs] at c0
  have HM := hid (hM.set (256 + o) (by omega) 0 (by decide))
  have HV := hid (Moved.set (a := w) (S := [g]) (g := g) (by simp) (256 + o) (.int .i64 0))
  have HS := hid (fun W => rsay_none 1 o W)
  have hi : (o : Int) < 256 := by omega
  have hj : (0 : Int) ≤ o := by omega
  clear hM hs
  go_enter Try.func14, Try.ntmps14
  go_wp2_with fail
  with_reducible refine (HS.out _).mono ?_
  rintro e w1 ⟨v, rfl, hm, hb, hk⟩
  obtain ⟨x, n, c, hv⟩ : ∃ x n c, v = .slice x n c := by
    rcases hm with ⟨_, h⟩ | ⟨_, b, h, _⟩
    · exact ⟨_, _, _, h⟩
    · exact ⟨_, _, _, h⟩
  subst hv
  have HE := hid (And.intro hm (And.intro hb hk))
  clear hm hb hk
  go_wp2
  go_ret2
  exact rtook_end (by omega) HV.out HM.out (below_t (bal (Below.refl _ _) _) HE.out.2.1) HE.out.1 (fun k h => Nat.le_trans (by simp) (HE.out.2.2 k h))
theorem rhear_252 (g : Nat) (ag : Nat → Bool) (st : Nat → Int) (o : Nat) (ho : o < 256) (w : World) (hM : RMach w g ag st) : Calls Try.prog 14 #[.pointer (some ⟨g, 0, none⟩), .int .u8 252, .int .u8 o] w (RTookE g ag st 1 o (hOff (st (256 + o))).1 (hOff (st (256 + o))).2 0 w) := by
  obtain ⟨s0, s5⟩ := hM.ok (256 + o)
  rcases six s0 s5 with h | h | h | h | h | h
  · rw [h]; exact rhear_252_0 g ag st o ho w hM h
  · rw [h]; exact rhear_252_1 g ag st o ho w hM h
  · rw [h]; exact rhear_252_2 g ag st o ho w hM h
  · rw [h]; exact rhear_252_3 g ag st o ho w hM h
  · rw [h]; exact rhear_252_4 g ag st o ho w hM h
  · rw [h]; exact rhear_252_5 g ag st o ho w hM h
set_option maxRecDepth 100000 in
set_option maxHeartbeats 1000000 in
theorem rhear_253_0f (g : Nat) (ag : Nat → Bool) (st : Nat → Int) (o : Nat) (ho : o < 256) (w : World) (hM : RMach w g ag st) (hs : st o = 0) (ha : ag o = false) : Calls Try.prog 14 #[.pointer (some ⟨g, 0, none⟩), .int .u8 253, .int .u8 o] w (RTookE g ag st 0 o 0 2 0 w) := by
  have hg := hM.lt
  have c0 := hM.cs o (by omega)
  have f0 := hM.fr o (by omega)
  have d0 := hM.ca o (by omega)
  rw [ha] at d0
  rw [hs] at c0
  have HM := hid (hM.set o (by omega) 0 (by decide))
  have HV := hid (Moved.set (a := w) (S := [g]) (g := g) (by simp) o (.int .i64 0))
  have HS := hid (fun W => rsay_0_2 o W)
  have hi : (o : Int) < 256 := by omega
  have hj : (0 : Int) ≤ o := by omega
  clear hM hs ha
  go_enter Try.func14, Try.ntmps14
  go_wp2_with fail
  with_reducible refine (HS.out _).mono ?_
  rintro e w1 ⟨v, rfl, hm, hb, hk⟩
  obtain ⟨x, n, c, hv⟩ : ∃ x n c, v = .slice x n c := by
    rcases hm with ⟨_, h⟩ | ⟨_, b, h, _⟩
    · exact ⟨_, _, _, h⟩
    · exact ⟨_, _, _, h⟩
  subst hv
  have HE := hid (And.intro hm (And.intro hb hk))
  clear hm hb hk
  go_wp2
  go_ret2
  exact rtook_end (by omega) HV.out HM.out (below_t (bal (Below.refl _ _) _) HE.out.2.1) HE.out.1 (fun k h => Nat.le_trans (by simp) (HE.out.2.2 k h))
set_option maxRecDepth 100000 in
set_option maxHeartbeats 1000000 in
theorem rhear_253_0t (g : Nat) (ag : Nat → Bool) (st : Nat → Int) (o : Nat) (ho : o < 256) (w : World) (hM : RMach w g ag st) (hs : st o = 0) (ha : ag o = true) : Calls Try.prog 14 #[.pointer (some ⟨g, 0, none⟩), .int .u8 253, .int .u8 o] w (RTookE g ag st 0 o 1 1 0 w) := by
  have hg := hM.lt
  have c0 := hM.cs o (by omega)
  have f0 := hM.fr o (by omega)
  have d0 := hM.ca o (by omega)
  rw [ha] at d0
  rw [hs] at c0
  have HM := hid (hM.set o (by omega) 1 (by decide))
  have HV := hid (Moved.set (a := w) (S := [g]) (g := g) (by simp) o (.int .i64 1))
  have HS := hid (fun W => rsay_0_1 o W)
  have hi : (o : Int) < 256 := by omega
  have hj : (0 : Int) ≤ o := by omega
  clear hM hs ha
  go_enter Try.func14, Try.ntmps14
  go_wp2_with fail
  with_reducible refine (HS.out _).mono ?_
  rintro e w1 ⟨v, rfl, hm, hb, hk⟩
  obtain ⟨x, n, c, hv⟩ : ∃ x n c, v = .slice x n c := by
    rcases hm with ⟨_, h⟩ | ⟨_, b, h, _⟩
    · exact ⟨_, _, _, h⟩
    · exact ⟨_, _, _, h⟩
  subst hv
  have HE := hid (And.intro hm (And.intro hb hk))
  clear hm hb hk
  go_wp2
  go_ret2
  exact rtook_end (by omega) HV.out HM.out (below_t (bal (Below.refl _ _) _) HE.out.2.1) HE.out.1 (fun k h => Nat.le_trans (by simp) (HE.out.2.2 k h))
set_option maxRecDepth 100000 in
set_option maxHeartbeats 1000000 in
theorem rhear_253_1 (g : Nat) (ag : Nat → Bool) (st : Nat → Int) (o : Nat) (ho : o < 256) (w : World) (hM : RMach w g ag st) (hs : st o = 1) : Calls Try.prog 14 #[.pointer (some ⟨g, 0, none⟩), .int .u8 253, .int .u8 o] w (RTookE g ag st 0 o 1 0 0 w) := by
  have hg := hM.lt
  have c0 := hM.cs o (by omega)
  have f0 := hM.fr o (by omega)
  rw [hs] at c0
  have HM := hid (hM.set o (by omega) 1 (by decide))
  have HV := hid (Moved.set (a := w) (S := [g]) (g := g) (by simp) o (.int .i64 1))
  have HS := hid (fun W => rsay_none 0 o W)
  have hi : (o : Int) < 256 := by omega
  have hj : (0 : Int) ≤ o := by omega
  clear hM hs
  go_enter Try.func14, Try.ntmps14
  go_wp2_with fail
  with_reducible refine (HS.out _).mono ?_
  rintro e w1 ⟨v, rfl, hm, hb, hk⟩
  obtain ⟨x, n, c, hv⟩ : ∃ x n c, v = .slice x n c := by
    rcases hm with ⟨_, h⟩ | ⟨_, b, h, _⟩
    · exact ⟨_, _, _, h⟩
    · exact ⟨_, _, _, h⟩
  subst hv
  have HE := hid (And.intro hm (And.intro hb hk))
  clear hm hb hk
  go_wp2
  go_ret2
  exact rtook_end (by omega) HV.out HM.out (below_t (bal (Below.refl _ _) _) HE.out.2.1) HE.out.1 (fun k h => Nat.le_trans (by simp) (HE.out.2.2 k h))
set_option maxRecDepth 100000 in
set_option maxHeartbeats 1000000 in
theorem rhear_253_2 (g : Nat) (ag : Nat → Bool) (st : Nat → Int) (o : Nat) (ho : o < 256) (w : World) (hM : RMach w g ag st) (hs : st o = 2) : Calls Try.prog 14 #[.pointer (some ⟨g, 0, none⟩), .int .u8 253, .int .u8 o] w (RTookE g ag st 0 o 0 0 0 w) := by
  have hg := hM.lt
  have c0 := hM.cs o (by omega)
  have f0 := hM.fr o (by omega)
  rw [hs] at c0
  have HM := hid (hM.set o (by omega) 0 (by decide))
  have HV := hid (Moved.set (a := w) (S := [g]) (g := g) (by simp) o (.int .i64 0))
  have HS := hid (fun W => rsay_none 0 o W)
  have hi : (o : Int) < 256 := by omega
  have hj : (0 : Int) ≤ o := by omega
  clear hM hs
  go_enter Try.func14, Try.ntmps14
  go_wp2_with fail
  with_reducible refine (HS.out _).mono ?_
  rintro e w1 ⟨v, rfl, hm, hb, hk⟩
  obtain ⟨x, n, c, hv⟩ : ∃ x n c, v = .slice x n c := by
    rcases hm with ⟨_, h⟩ | ⟨_, b, h, _⟩
    · exact ⟨_, _, _, h⟩
    · exact ⟨_, _, _, h⟩
  subst hv
  have HE := hid (And.intro hm (And.intro hb hk))
  clear hm hb hk
  go_wp2
  go_ret2
  exact rtook_end (by omega) HV.out HM.out (below_t (bal (Below.refl _ _) _) HE.out.2.1) HE.out.1 (fun k h => Nat.le_trans (by simp) (HE.out.2.2 k h))
set_option maxRecDepth 100000 in
set_option maxHeartbeats 1000000 in
theorem rhear_253_3 (g : Nat) (ag : Nat → Bool) (st : Nat → Int) (o : Nat) (ho : o < 256) (w : World) (hM : RMach w g ag st) (hs : st o = 3) : Calls Try.prog 14 #[.pointer (some ⟨g, 0, none⟩), .int .u8 253, .int .u8 o] w (RTookE g ag st 0 o 1 0 0 w) := by
  have hg := hM.lt
  have c0 := hM.cs o (by omega)
  have f0 := hM.fr o (by omega)
  rw [hs] at c0
  have HM := hid (hM.set o (by omega) 1 (by decide))
  have HV := hid (Moved.set (a := w) (S := [g]) (g := g) (by simp) o (.int .i64 1))
  have HS := hid (fun W => rsay_none 0 o W)
  have hi : (o : Int) < 256 := by omega
  have hj : (0 : Int) ≤ o := by omega
  clear hM hs
  go_enter Try.func14, Try.ntmps14
  go_wp2_with fail
  with_reducible refine (HS.out _).mono ?_
  rintro e w1 ⟨v, rfl, hm, hb, hk⟩
  obtain ⟨x, n, c, hv⟩ : ∃ x n c, v = .slice x n c := by
    rcases hm with ⟨_, h⟩ | ⟨_, b, h, _⟩
    · exact ⟨_, _, _, h⟩
    · exact ⟨_, _, _, h⟩
  subst hv
  have HE := hid (And.intro hm (And.intro hb hk))
  clear hm hb hk
  go_wp2
  go_ret2
  exact rtook_end (by omega) HV.out HM.out (below_t (bal (Below.refl _ _) _) HE.out.2.1) HE.out.1 (fun k h => Nat.le_trans (by simp) (HE.out.2.2 k h))
set_option maxRecDepth 100000 in
set_option maxHeartbeats 1000000 in
theorem rhear_253_4 (g : Nat) (ag : Nat → Bool) (st : Nat → Int) (o : Nat) (ho : o < 256) (w : World) (hM : RMach w g ag st) (hs : st o = 4) : Calls Try.prog 14 #[.pointer (some ⟨g, 0, none⟩), .int .u8 253, .int .u8 o] w (RTookE g ag st 0 o 1 0 0 w) := by
  have hg := hM.lt
  have c0 := hM.cs o (by omega)
  have f0 := hM.fr o (by omega)
  rw [hs] at c0
  have HM := hid (hM.set o (by omega) 1 (by decide))
  have HV := hid (Moved.set (a := w) (S := [g]) (g := g) (by simp) o (.int .i64 1))
  have HS := hid (fun W => rsay_none 0 o W)
  have hi : (o : Int) < 256 := by omega
  have hj : (0 : Int) ≤ o := by omega
  clear hM hs
  go_enter Try.func14, Try.ntmps14
  go_wp2_with fail
  with_reducible refine (HS.out _).mono ?_
  rintro e w1 ⟨v, rfl, hm, hb, hk⟩
  obtain ⟨x, n, c, hv⟩ : ∃ x n c, v = .slice x n c := by
    rcases hm with ⟨_, h⟩ | ⟨_, b, h, _⟩
    · exact ⟨_, _, _, h⟩
    · exact ⟨_, _, _, h⟩
  subst hv
  have HE := hid (And.intro hm (And.intro hb hk))
  clear hm hb hk
  go_wp2
  go_ret2
  exact rtook_end (by omega) HV.out HM.out (below_t (bal (Below.refl _ _) _) HE.out.2.1) HE.out.1 (fun k h => Nat.le_trans (by simp) (HE.out.2.2 k h))
set_option maxRecDepth 100000 in
set_option maxHeartbeats 1000000 in
theorem rhear_253_5 (g : Nat) (ag : Nat → Bool) (st : Nat → Int) (o : Nat) (ho : o < 256) (w : World) (hM : RMach w g ag st) (hs : st o = 5) : Calls Try.prog 14 #[.pointer (some ⟨g, 0, none⟩), .int .u8 253, .int .u8 o] w (RTookE g ag st 0 o 2 2 0 w) := by
  have hg := hM.lt
  have c0 := hM.cs o (by omega)
  have f0 := hM.fr o (by omega)
  rw [hs] at c0
  have HM := hid (hM.set o (by omega) 2 (by decide))
  have HV := hid (Moved.set (a := w) (S := [g]) (g := g) (by simp) o (.int .i64 2))
  have HS := hid (fun W => rsay_0_2 o W)
  have hi : (o : Int) < 256 := by omega
  have hj : (0 : Int) ≤ o := by omega
  clear hM hs
  go_enter Try.func14, Try.ntmps14
  go_wp2_with fail
  with_reducible refine (HS.out _).mono ?_
  rintro e w1 ⟨v, rfl, hm, hb, hk⟩
  obtain ⟨x, n, c, hv⟩ : ∃ x n c, v = .slice x n c := by
    rcases hm with ⟨_, h⟩ | ⟨_, b, h, _⟩
    · exact ⟨_, _, _, h⟩
    · exact ⟨_, _, _, h⟩
  subst hv
  have HE := hid (And.intro hm (And.intro hb hk))
  clear hm hb hk
  go_wp2
  go_ret2
  exact rtook_end (by omega) HV.out HM.out (below_t (bal (Below.refl _ _) _) HE.out.2.1) HE.out.1 (fun k h => Nat.le_trans (by simp) (HE.out.2.2 k h))
theorem rhear_253 (g : Nat) (ag : Nat → Bool) (st : Nat → Int) (o : Nat) (ho : o < 256) (w : World) (hM : RMach w g ag st) : Calls Try.prog 14 #[.pointer (some ⟨g, 0, none⟩), .int .u8 253, .int .u8 o] w (RTookE g ag st 0 o (hOn (st o) (ag o)).1 (hOn (st o) (ag o)).2 0 w) := by
  obtain ⟨s0, s5⟩ := hM.ok o
  rcases six s0 s5 with h | h | h | h | h | h
  · cases ha : ag o
    · rw [h]; exact rhear_253_0f g ag st o ho w hM h ha
    · rw [h]; exact rhear_253_0t g ag st o ho w hM h ha
  · rw [h]; exact rhear_253_1 g ag st o ho w hM h
  · rw [h]; exact rhear_253_2 g ag st o ho w hM h
  · rw [h]; exact rhear_253_3 g ag st o ho w hM h
  · rw [h]; exact rhear_253_4 g ag st o ho w hM h
  · rw [h]; exact rhear_253_5 g ag st o ho w hM h
set_option maxRecDepth 100000 in
set_option maxHeartbeats 1000000 in
theorem rhear_254_0 (g : Nat) (ag : Nat → Bool) (st : Nat → Int) (o : Nat) (ho : o < 256) (w : World) (hM : RMach w g ag st) (hs : st o = 0) : Calls Try.prog 14 #[.pointer (some ⟨g, 0, none⟩), .int .u8 254, .int .u8 o] w (RTookE g ag st 0 o 0 0 0 w) := by
  have hg := hM.lt
  have c0 := hM.cs o (by omega)
  have f0 := hM.fr o (by omega)
  rw [hs] at c0
  have HM := hid (hM.set o (by omega) 0 (by decide))
  have HV := hid (Moved.set (a := w) (S := [g]) (g := g) (by simp) o (.int .i64 0))
  have HS := hid (fun W => rsay_none 0 o W)
  have hi : (o : Int) < 256 := by omega
  have hj : (0 : Int) ≤ o := by omega
  clear hM hs
  go_enter Try.func14, Try.ntmps14
  go_wp2_with fail
  with_reducible refine (HS.out _).mono ?_
  rintro e w1 ⟨v, rfl, hm, hb, hk⟩
  obtain ⟨x, n, c, hv⟩ : ∃ x n c, v = .slice x n c := by
    rcases hm with ⟨_, h⟩ | ⟨_, b, h, _⟩
    · exact ⟨_, _, _, h⟩
    · exact ⟨_, _, _, h⟩
  subst hv
  have HE := hid (And.intro hm (And.intro hb hk))
  clear hm hb hk
  go_wp2
  go_ret2
  exact rtook_end (by omega) HV.out HM.out (below_t (bal (Below.refl _ _) _) HE.out.2.1) HE.out.1 (fun k h => Nat.le_trans (by simp) (HE.out.2.2 k h))
set_option maxRecDepth 100000 in
set_option maxHeartbeats 1000000 in
theorem rhear_254_1 (g : Nat) (ag : Nat → Bool) (st : Nat → Int) (o : Nat) (ho : o < 256) (w : World) (hM : RMach w g ag st) (hs : st o = 1) : Calls Try.prog 14 #[.pointer (some ⟨g, 0, none⟩), .int .u8 254, .int .u8 o] w (RTookE g ag st 0 o 0 2 0 w) := by
  have hg := hM.lt
  have c0 := hM.cs o (by omega)
  have f0 := hM.fr o (by omega)
  rw [hs] at c0
  have HM := hid (hM.set o (by omega) 0 (by decide))
  have HV := hid (Moved.set (a := w) (S := [g]) (g := g) (by simp) o (.int .i64 0))
  have HS := hid (fun W => rsay_0_2 o W)
  have hi : (o : Int) < 256 := by omega
  have hj : (0 : Int) ≤ o := by omega
  clear hM hs
  go_enter Try.func14, Try.ntmps14
  go_wp2_with fail
  with_reducible refine (HS.out _).mono ?_
  rintro e w1 ⟨v, rfl, hm, hb, hk⟩
  obtain ⟨x, n, c, hv⟩ : ∃ x n c, v = .slice x n c := by
    rcases hm with ⟨_, h⟩ | ⟨_, b, h, _⟩
    · exact ⟨_, _, _, h⟩
    · exact ⟨_, _, _, h⟩
  subst hv
  have HE := hid (And.intro hm (And.intro hb hk))
  clear hm hb hk
  go_wp2
  go_ret2
  exact rtook_end (by omega) HV.out HM.out (below_t (bal (Below.refl _ _) _) HE.out.2.1) HE.out.1 (fun k h => Nat.le_trans (by simp) (HE.out.2.2 k h))
set_option maxRecDepth 100000 in
set_option maxHeartbeats 1000000 in
theorem rhear_254_2 (g : Nat) (ag : Nat → Bool) (st : Nat → Int) (o : Nat) (ho : o < 256) (w : World) (hM : RMach w g ag st) (hs : st o = 2) : Calls Try.prog 14 #[.pointer (some ⟨g, 0, none⟩), .int .u8 254, .int .u8 o] w (RTookE g ag st 0 o 0 0 0 w) := by
  have hg := hM.lt
  have c0 := hM.cs o (by omega)
  have f0 := hM.fr o (by omega)
  rw [hs] at c0
  have HM := hid (hM.set o (by omega) 0 (by decide))
  have HV := hid (Moved.set (a := w) (S := [g]) (g := g) (by simp) o (.int .i64 0))
  have HS := hid (fun W => rsay_none 0 o W)
  have hi : (o : Int) < 256 := by omega
  have hj : (0 : Int) ≤ o := by omega
  clear hM hs
  go_enter Try.func14, Try.ntmps14
  go_wp2_with fail
  with_reducible refine (HS.out _).mono ?_
  rintro e w1 ⟨v, rfl, hm, hb, hk⟩
  obtain ⟨x, n, c, hv⟩ : ∃ x n c, v = .slice x n c := by
    rcases hm with ⟨_, h⟩ | ⟨_, b, h, _⟩
    · exact ⟨_, _, _, h⟩
    · exact ⟨_, _, _, h⟩
  subst hv
  have HE := hid (And.intro hm (And.intro hb hk))
  clear hm hb hk
  go_wp2
  go_ret2
  exact rtook_end (by omega) HV.out HM.out (below_t (bal (Below.refl _ _) _) HE.out.2.1) HE.out.1 (fun k h => Nat.le_trans (by simp) (HE.out.2.2 k h))
set_option maxRecDepth 100000 in
set_option maxHeartbeats 1000000 in
theorem rhear_254_3 (g : Nat) (ag : Nat → Bool) (st : Nat → Int) (o : Nat) (ho : o < 256) (w : World) (hM : RMach w g ag st) (hs : st o = 3) : Calls Try.prog 14 #[.pointer (some ⟨g, 0, none⟩), .int .u8 254, .int .u8 o] w (RTookE g ag st 0 o 4 1 0 w) := by
  have hg := hM.lt
  have c0 := hM.cs o (by omega)
  have f0 := hM.fr o (by omega)
  rw [hs] at c0
  have HM := hid (hM.set o (by omega) 4 (by decide))
  have HV := hid (Moved.set (a := w) (S := [g]) (g := g) (by simp) o (.int .i64 4))
  have HS := hid (fun W => rsay_0_1 o W)
  have hi : (o : Int) < 256 := by omega
  have hj : (0 : Int) ≤ o := by omega
  clear hM hs
  go_enter Try.func14, Try.ntmps14
  go_wp2_with fail
  with_reducible refine (HS.out _).mono ?_
  rintro e w1 ⟨v, rfl, hm, hb, hk⟩
  obtain ⟨x, n, c, hv⟩ : ∃ x n c, v = .slice x n c := by
    rcases hm with ⟨_, h⟩ | ⟨_, b, h, _⟩
    · exact ⟨_, _, _, h⟩
    · exact ⟨_, _, _, h⟩
  subst hv
  have HE := hid (And.intro hm (And.intro hb hk))
  clear hm hb hk
  go_wp2
  go_ret2
  exact rtook_end (by omega) HV.out HM.out (below_t (bal (Below.refl _ _) _) HE.out.2.1) HE.out.1 (fun k h => Nat.le_trans (by simp) (HE.out.2.2 k h))
set_option maxRecDepth 100000 in
set_option maxHeartbeats 1000000 in
theorem rhear_254_4 (g : Nat) (ag : Nat → Bool) (st : Nat → Int) (o : Nat) (ho : o < 256) (w : World) (hM : RMach w g ag st) (hs : st o = 4) : Calls Try.prog 14 #[.pointer (some ⟨g, 0, none⟩), .int .u8 254, .int .u8 o] w (RTookE g ag st 0 o 0 0 0 w) := by
  have hg := hM.lt
  have c0 := hM.cs o (by omega)
  have f0 := hM.fr o (by omega)
  rw [hs] at c0
  have HM := hid (hM.set o (by omega) 0 (by decide))
  have HV := hid (Moved.set (a := w) (S := [g]) (g := g) (by simp) o (.int .i64 0))
  have HS := hid (fun W => rsay_none 0 o W)
  have hi : (o : Int) < 256 := by omega
  have hj : (0 : Int) ≤ o := by omega
  clear hM hs
  go_enter Try.func14, Try.ntmps14
  go_wp2_with fail
  with_reducible refine (HS.out _).mono ?_
  rintro e w1 ⟨v, rfl, hm, hb, hk⟩
  obtain ⟨x, n, c, hv⟩ : ∃ x n c, v = .slice x n c := by
    rcases hm with ⟨_, h⟩ | ⟨_, b, h, _⟩
    · exact ⟨_, _, _, h⟩
    · exact ⟨_, _, _, h⟩
  subst hv
  have HE := hid (And.intro hm (And.intro hb hk))
  clear hm hb hk
  go_wp2
  go_ret2
  exact rtook_end (by omega) HV.out HM.out (below_t (bal (Below.refl _ _) _) HE.out.2.1) HE.out.1 (fun k h => Nat.le_trans (by simp) (HE.out.2.2 k h))
set_option maxRecDepth 100000 in
set_option maxHeartbeats 1000000 in
theorem rhear_254_5 (g : Nat) (ag : Nat → Bool) (st : Nat → Int) (o : Nat) (ho : o < 256) (w : World) (hM : RMach w g ag st) (hs : st o = 5) : Calls Try.prog 14 #[.pointer (some ⟨g, 0, none⟩), .int .u8 254, .int .u8 o] w (RTookE g ag st 0 o 0 0 0 w) := by
  have hg := hM.lt
  have c0 := hM.cs o (by omega)
  have f0 := hM.fr o (by omega)
  rw [hs] at c0
  have HM := hid (hM.set o (by omega) 0 (by decide))
  have HV := hid (Moved.set (a := w) (S := [g]) (g := g) (by simp) o (.int .i64 0))
  have HS := hid (fun W => rsay_none 0 o W)
  have hi : (o : Int) < 256 := by omega
  have hj : (0 : Int) ≤ o := by omega
  clear hM hs
  go_enter Try.func14, Try.ntmps14
  go_wp2_with fail
  with_reducible refine (HS.out _).mono ?_
  rintro e w1 ⟨v, rfl, hm, hb, hk⟩
  obtain ⟨x, n, c, hv⟩ : ∃ x n c, v = .slice x n c := by
    rcases hm with ⟨_, h⟩ | ⟨_, b, h, _⟩
    · exact ⟨_, _, _, h⟩
    · exact ⟨_, _, _, h⟩
  subst hv
  have HE := hid (And.intro hm (And.intro hb hk))
  clear hm hb hk
  go_wp2
  go_ret2
  exact rtook_end (by omega) HV.out HM.out (below_t (bal (Below.refl _ _) _) HE.out.2.1) HE.out.1 (fun k h => Nat.le_trans (by simp) (HE.out.2.2 k h))
theorem rhear_254 (g : Nat) (ag : Nat → Bool) (st : Nat → Int) (o : Nat) (ho : o < 256) (w : World) (hM : RMach w g ag st) : Calls Try.prog 14 #[.pointer (some ⟨g, 0, none⟩), .int .u8 254, .int .u8 o] w (RTookE g ag st 0 o (hOff (st o)).1 (hOff (st o)).2 0 w) := by
  obtain ⟨s0, s5⟩ := hM.ok o
  rcases six s0 s5 with h | h | h | h | h | h
  · rw [h]; exact rhear_254_0 g ag st o ho w hM h
  · rw [h]; exact rhear_254_1 g ag st o ho w hM h
  · rw [h]; exact rhear_254_2 g ag st o ho w hM h
  · rw [h]; exact rhear_254_3 g ag st o ho w hM h
  · rw [h]; exact rhear_254_4 g ag st o ho w hM h
  · rw [h]; exact rhear_254_5 g ag st o ho w hM h
theorem rhear_any (g : Nat) (ag : Nat → Bool) (st : Nat → Int) (v o : Nat) (hv : isVerb v) (ho : o < 256) (w : World) (hM : RMach w g ag st) : Calls Try.prog 14 #[.pointer (some ⟨g, 0, none⟩), .int .u8 v, .int .u8 o] w (RTookE g ag st (sideOf v) o (hearN v (st (idx (sideOf v) o)) (ag (idx (sideOf v) o))).1 (hearN v (st (idx (sideOf v) o)) (ag (idx (sideOf v) o))).2 0 w) := by
  rcases hv with rfl | rfl | rfl | rfl
  · rw [show sideOf 251 = 1 from rfl, idx_1]
    exact rhear_251 g ag st o ho w hM
  · rw [show sideOf 252 = 1 from rfl, idx_1]
    exact rhear_252 g ag st o ho w hM
  · rw [show sideOf 253 = 0 from rfl, idx_0]
    exact rhear_253 g ag st o ho w hM
  · rw [show sideOf 254 = 0 from rfl, idx_0]
    exact rhear_254 g ag st o ho w hM
set_option maxRecDepth 100000 in
set_option maxHeartbeats 1000000 in
theorem rhear_no (g : Nat) (v o : Nat) (hv : ¬ isVerb v) (w : World) : Calls Try.prog 14 #[.pointer (some ⟨g, 0, none⟩), .int .u8 v, .int .u8 o] w fun e w' => e = .returned (.tuple #[.slice none 0 0, .int .i64 1]) ∧ w = w' := by
  by_cases h : v < 251
  · have h1 : (v : Int) < 251 := by omega
    go_enter Try.func14, Try.ntmps14
    go_wp2
    go_ret2
    exact ⟨rfl, rfl⟩
  · have h1 : ¬ (v : Int) < 251 := by omega
    have h2 : ¬ (v : Int) ≤ 254 := by unfold isVerb at hv; omega
    clear hv
    go_enter Try.func14, Try.ntmps14
    go_wp2
    go_ret2
    exact ⟨rfl, rfl⟩
end Go.Proofs.Ytahminbgedmgcaa
