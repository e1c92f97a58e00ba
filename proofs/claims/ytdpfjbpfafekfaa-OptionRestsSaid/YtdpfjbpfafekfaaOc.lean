/-
  Taking a step: the state is changed, and a message is sent, or none.
-/
import Derived.Test.YtdpfjbpfafekfaaOb
namespace Go.Proofs.Ytdpfjbpfafekfaa
open Go.RowKit Go.Lib

/-- What is sent: nothing, or one message. -/
def Msg (w : World) (v : Value) (side say o : Int) : Prop := (say = 0 ∧ v = .slice none 0 0) ∨ ((say = 1 ∨ say = 2) ∧ ∃ b, v = .slice (some ⟨b, 0, none⟩) 1 1 ∧ w.cell? ⟨b, 0, none⟩ = some (.int .u8 (verbN side say)) ∧ w.cell? ⟨b, 1, none⟩ = some (.int .u8 o))
/-- A step is taken. -/
def Took (g : Nat) (ag : Nat → Bool) (st : Nat → Int) (side o n say : Int) (w : World) (e : Ending) (w' : World) : Prop :=
  ∃ v, e = .returned v ∧ Msg w' v side say o ∧ Mach w' g ag (upd st (side * 256 + o).toNat n) ∧ Moved w w' [g] [g] ∧ ∀ k ∈ blkV v, w.heap.size ≤ k
set_option maxRecDepth 100000 in
theorem onVerb_any (side : Int) (hs : side = 0 ∨ side = 1) (w : World) : Calls Try.prog 73 #[.int .i64 side] w fun e w' => e = .returned (.int .u8 (verbN side 1)) ∧ w = w' := by
  rcases hs with rfl | rfl
  all_goals
    go_enter Try.func73, Try.ntmps73
    go_wp2
    go_ret
    exact ⟨rfl, rfl⟩
set_option maxRecDepth 100000 in
theorem offVerb_any (side : Int) (hs : side = 0 ∨ side = 1) (w : World) : Calls Try.prog 74 #[.int .i64 side] w fun e w' => e = .returned (.int .u8 (verbN side 2)) ∧ w = w' := by
  rcases hs with rfl | rfl
  all_goals
    go_enter Try.func74, Try.ntmps74
    go_wp2
    go_ret
    exact ⟨rfl, rfl⟩
theorem tbox_drew {w : World} {p : Addr} {x : Value} (h : w.cell? p = some x) : w.drew.cell? p = some x := h
theorem tbox_set {w : World} {p q : Addr} {x y : Value} (h : w.cell? p = some x) (hn : q ≠ p) : (w.setCell q y).cell? p = some x := (World.cell?_setCell_other _ _ _ _ hn).trans h
theorem tbox_new {w : World} {b : Nat} {c d : Value} {t : TypeId} (hb : b = w.heap.size) : (w.alloc (.cells #[c, d] t)).drew.cell? ⟨b, 0, none⟩ = some c := by
  subst hb
  simp [go_sem]
/-- The end of a step. -/
theorem took_end {g : Nat} {ag : Nat → Bool} {st : Nat → Int} {side say : Int} {o n : Int} {w w1 w2 : World} {v : Value} {i : Nat} (hi : (side * 256 + o).toNat = i) (hV : Moved w w1 [g] [g]) (hM : Mach w1 g ag (upd st i n)) (hb : Below w1.heap.size w1 w2) (hm : Msg w2 v side say o) (hk : ∀ k ∈ blkV v, w.heap.size ≤ k) : Took g ag st side o n say w (.returned v) w2 :=
  ⟨v, rfl, hm, by rw [hi]; exact hM.step hb, hV.trans (Moved.below hb _), hk⟩
set_option maxRecDepth 100000 in
set_option maxHeartbeats 2000000 in
theorem take_0 (g : Nat) (ag : Nat → Bool) (st : Nat → Int) (o : Nat) (ho : o < 256) (n say : Int) (hn : 0 ≤ n ∧ n ≤ 5) (hy : say = 0 ∨ say = 1 ∨ say = 2) (w : World) (hM : Mach w g ag st) : Calls Try.prog 54 #[.pointer (some ⟨g, 0, none⟩), .int .i64 0, .int .u8 o, .agg #[.int .u8 n, .int .u8 say]] w (Took g ag st 0 o n say w) := by
  have hg := hM.lt
  have hM1 := hM.step (bal (Below.refl w.heap.size w) (.cells #[.int .u8 n, .int .u8 say] 115))
  have c0 := hM1.cs (o) (by omega)
  have f0 := hM1.fr (512 + o) (by omega)
  have HX := hid (show (w.alloc (.cells #[.int .u8 n, .int .u8 say] 115)).cell? ⟨w.heap.size, 0, none⟩ = some (.int .u8 n) by simp [go_sem])
  have HM := hid (hM.set (o) (by omega) n hn)
  have HV := hid (Moved.set (a := w) (S := [g]) (g := g) (by simp) (512 + o) (.int .u8 n))
  have hi : (o : Int) < 256 := by omega
  have hj : (0 : Int) ≤ o := by omega
  clear hM hM1
  rcases hy with rfl | rfl | rfl
  · go_enter Try.func54, Try.ntmps54
    go_wp2
    go_region_held3 (fun w' => w'.cell? ⟨w.heap.size, 0, none⟩ = some (.int .u8 n)) (first | exact HX.out | exact tbox_new (by simp)) (first | fail)
    rename_i hH
    clear hH
    go_wp2
    go_ret
    exact took_end (by omega) HV.out HM.out (bal (Below.refl _ _) _).drew (.inl ⟨rfl, rfl⟩) (fun k hk => by cases hk)
  · have HON := hid (fun W => onVerb_any 0 (by omega) W)
    go_enter Try.func54, Try.ntmps54
    go_wp2
    go_region_held3 (fun w' => w'.cell? ⟨w.heap.size, 0, none⟩ = some (.int .u8 n)) (first | exact HX.out | exact tbox_new (by simp)) (first | fail)
    rename_i hH
    clear hH
    go_wp2_with fail
    with_reducible refine (HON.out _).mono ?_
    rintro e w1 ⟨rfl, rfl⟩
    go_wp2
    go_ret
    exact took_end (by omega) HV.out HM.out (bal (bal (Below.refl _ _) _).drew _) (.inr ⟨.inl rfl, _, rfl, by simp [go_sem], by simp [go_sem]⟩) (blk_lit _ _ _ _ (by simp))
  · have HOF := hid (fun W => offVerb_any 0 (by omega) W)
    go_enter Try.func54, Try.ntmps54
    go_wp2
    go_region_held3 (fun w' => w'.cell? ⟨w.heap.size, 0, none⟩ = some (.int .u8 n)) (first | exact HX.out | exact tbox_new (by simp)) (first | fail)
    rename_i hH
    clear hH
    go_wp2_with fail
    with_reducible refine (HOF.out _).mono ?_
    rintro e w1 ⟨rfl, rfl⟩
    go_wp2
    go_ret
    exact took_end (by omega) HV.out HM.out (bal (bal (Below.refl _ _) _).drew _) (.inr ⟨.inr rfl, _, rfl, by simp [go_sem], by simp [go_sem]⟩) (blk_lit _ _ _ _ (by simp))
set_option maxRecDepth 100000 in
set_option maxHeartbeats 2000000 in
theorem take_1 (g : Nat) (ag : Nat → Bool) (st : Nat → Int) (o : Nat) (ho : o < 256) (n say : Int) (hn : 0 ≤ n ∧ n ≤ 5) (hy : say = 0 ∨ say = 1 ∨ say = 2) (w : World) (hM : Mach w g ag st) : Calls Try.prog 54 #[.pointer (some ⟨g, 0, none⟩), .int .i64 1, .int .u8 o, .agg #[.int .u8 n, .int .u8 say]] w (Took g ag st 1 o n say w) := by
  have hg := hM.lt
  have hM1 := hM.step (bal (Below.refl w.heap.size w) (.cells #[.int .u8 n, .int .u8 say] 115))
  have c0 := hM1.cs (256 + o) (by omega)
  have f0 := hM1.fr (512 + (256 + o)) (by omega)
  have HX := hid (show (w.alloc (.cells #[.int .u8 n, .int .u8 say] 115)).cell? ⟨w.heap.size, 0, none⟩ = some (.int .u8 n) by simp [go_sem])
  have HM := hid (hM.set (256 + o) (by omega) n hn)
  have HV := hid (Moved.set (a := w) (S := [g]) (g := g) (by simp) (512 + (256 + o)) (.int .u8 n))
  rw [show 512 + (256 + o) = 768 + o by omega] at c0 f0 HM HV
  have hi : (o : Int) < 256 := by omega
  have hj : (0 : Int) ≤ o := by omega
  clear hM hM1
  rcases hy with rfl | rfl | rfl
  · go_enter Try.func54, Try.ntmps54
    go_wp2
    go_region_held3 (fun w' => w'.cell? ⟨w.heap.size, 0, none⟩ = some (.int .u8 n)) (first | exact HX.out | exact tbox_new (by simp)) (first | fail)
    rename_i hH
    clear hH
    go_wp2
    go_ret
    exact took_end (by omega) HV.out HM.out (bal (Below.refl _ _) _).drew (.inl ⟨rfl, rfl⟩) (fun k hk => by cases hk)
  · have HON := hid (fun W => onVerb_any 1 (by omega) W)
    go_enter Try.func54, Try.ntmps54
    go_wp2
    go_region_held3 (fun w' => w'.cell? ⟨w.heap.size, 0, none⟩ = some (.int .u8 n)) (first | exact HX.out | exact tbox_new (by simp)) (first | fail)
    rename_i hH
    clear hH
    go_wp2_with fail
    with_reducible refine (HON.out _).mono ?_
    rintro e w1 ⟨rfl, rfl⟩
    go_wp2
    go_ret
    exact took_end (by omega) HV.out HM.out (bal (bal (Below.refl _ _) _).drew _) (.inr ⟨.inl rfl, _, rfl, by simp [go_sem], by simp [go_sem]⟩) (blk_lit _ _ _ _ (by simp))
  · have HOF := hid (fun W => offVerb_any 1 (by omega) W)
    go_enter Try.func54, Try.ntmps54
    go_wp2
    go_region_held3 (fun w' => w'.cell? ⟨w.heap.size, 0, none⟩ = some (.int .u8 n)) (first | exact HX.out | exact tbox_new (by simp)) (first | fail)
    rename_i hH
    clear hH
    go_wp2_with fail
    with_reducible refine (HOF.out _).mono ?_
    rintro e w1 ⟨rfl, rfl⟩
    go_wp2
    go_ret
    exact took_end (by omega) HV.out HM.out (bal (bal (Below.refl _ _) _).drew _) (.inr ⟨.inr rfl, _, rfl, by simp [go_sem], by simp [go_sem]⟩) (blk_lit _ _ _ _ (by simp))
end Go.Proofs.Ytdpfjbpfafekfaa
