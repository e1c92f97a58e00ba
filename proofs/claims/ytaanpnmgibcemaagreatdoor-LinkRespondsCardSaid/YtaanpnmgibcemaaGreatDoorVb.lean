/-
  A link's mode.
-/
import Derived.Test.YtaanpnmgibcemaaGreatDoorVa
namespace Go.Proofs.YtaanpnmgibcemaaGreatDoor
open Go.RowKit Go.Lib

section
variable (L : Nat) (c : Cf) (y : Ly) (k : Lk) (w : World)
set_option maxRecDepth 100000 in
set_option maxHeartbeats 1000000 in
theorem both_any (B o : Nat) (ho : o < 256) (h : LkM w L c y k) (hB : w.cell? ⟨B, 0, none⟩ = some (.pointer (some ⟨L, 0, none⟩))) : Calls Tryz.prog 38 #[.int .u8 o, .pointer (some ⟨B, 0, none⟩)] w fun e w' => e = .returned (.bool (k.ms o == 1 && k.ms (256 + o) == 1)) ∧ w = w' := by
  have H0 := hid (Op.on_any y.M c.A k.ms 0 (.inl rfl) o ho w h.mac)
  have H1 := hid (Op.on_any y.M c.A k.ms 1 (.inr rfl) o ho w h.mac)
  rw [Op.idx_0] at H0
  rw [Op.idx_1] at H1
  have c1 := h.b.c1
  clear h
  cases e0 : (k.ms o == 1)
  · rw [e0] at H0
    clear H1 e0
    go_enter Tryz.func38, Tryz.ntmps38
    go_wp2_with fail
    with_reducible refine H0.out.mono ?_
    rintro e w1 ⟨rfl, rfl⟩
    go_wp2
    go_ret
    exact ⟨rfl, rfl⟩
  · rw [e0] at H0
    clear e0
    generalize (k.ms (256 + o) == 1) = b1 at *
    go_enter Tryz.func38, Tryz.ntmps38
    go_wp2_with fail
    with_reducible refine H0.out.mono ?_
    rintro e w1 ⟨rfl, rfl⟩
    go_wp2_with fail
    with_reducible refine H1.out.mono ?_
    rintro e w1 ⟨rfl, rfl⟩
    go_wp2
    go_ret
    exact ⟨by simp, rfl⟩
theorem on40_any (h : LkM w L c y k) : Calls Tryz.prog 36 #[.pointer (some ⟨y.M, 0, none⟩), .int .i64 0, .int .u8 40] w fun e w' => e = .returned (.bool (k.ms 40 == 1)) ∧ w = w' := by
  have := Op.on_any y.M c.A k.ms 0 (.inl rfl) 40 (by decide) w h.mac
  rw [Op.idx_0] at this
  exact this
theorem on24_any (h : LkM w L c y k) : Calls Tryz.prog 36 #[.pointer (some ⟨y.M, 0, none⟩), .int .i64 0, .int .u8 24] w fun e w' => e = .returned (.bool (k.ms 24 == 1)) ∧ w = w' := by
  have := Op.on_any y.M c.A k.ms 0 (.inl rfl) 24 (by decide) w h.mac
  rw [Op.idx_0] at this
  exact this
theorem both0_any (B : Nat) (h : LkM w L c y k) (hB : w.cell? ⟨B, 0, none⟩ = some (.pointer (some ⟨L, 0, none⟩))) : Calls Tryz.prog 38 #[.int .u8 0, .pointer (some ⟨B, 0, none⟩)] w fun e w' => e = .returned (.bool (k.ms 0 == 1 && k.ms 256 == 1)) ∧ w = w' :=
  both_any L c y k w B 0 (by decide) h hB
theorem both25_any (B : Nat) (h : LkM w L c y k) (hB : w.cell? ⟨B, 0, none⟩ = some (.pointer (some ⟨L, 0, none⟩))) : Calls Tryz.prog 38 #[.int .u8 25, .pointer (some ⟨B, 0, none⟩)] w fun e w' => e = .returned (.bool (k.ms 25 == 1 && k.ms 281 == 1)) ∧ w = w' :=
  both_any L c y k w B 25 (by decide) h hB
/-- A number comes, and nothing that was there has changed. -/
def IntD (n : Int) (w : World) (e : Ending) (w' : World) : Prop := e = .returned (.int .i64 n) ∧ Below w.heap.size w w'
def BoolD (b : Bool) (w : World) (e : Ending) (w' : World) : Prop := e = .returned (.bool b) ∧ Below w.heap.size w w'
set_option maxRecDepth 100000 in
theorem mode_nil : Calls Tryz.prog 15 #[.pointer none] w (IntD 0 w) := by
  go_enter Tryz.func15, Tryz.ntmps15
  go_wp2
  go_ret
  exact ⟨rfl, (Below.refl _ _).alloc (Nat.le_refl _) _⟩
set_option maxRecDepth 100000 in
set_option maxHeartbeats 2000000 in
theorem mode_any (h : LkM w L c y k) : Calls Tryz.prog 15 #[.pointer (some ⟨L, 0, none⟩)] w (IntD k.mode w) := by
  have hB := (Below.refl w.heap.size w).alloc (Nat.le_refl _) (.cells #[.pointer (some ⟨L, 0, none⟩)] 27)
  have h1 := h.step hB
  have HON := hid (on40_any L c y k _ h1)
  have HO24 := hid (on24_any L c y k _ h1)
  have HRD := hid (Ng.ready_any y.E y.sv y.av c.T c.D c.fs k.es k.dev k.ag _ h1.en)
  have hbx : (w.alloc (.cells #[.pointer (some ⟨L, 0, none⟩)] 27)).cell? ⟨w.heap.size, 0, none⟩ = some (.pointer (some ⟨L, 0, none⟩)) := by simp [go_sem]
  have HB0 := hid (both0_any L c y k _ w.heap.size h1 hbx)
  have HB25 := hid (both25_any L c y k _ w.heap.size h1 hbx)
  have c1 := h.b.c1
  have c2 := h.b.c2
  have hl := h.b.lt
  have HB := hid hB
  clear h h1 hB hbx
  by_cases e40 : k.ms 40 = 1
  · rw [show (k.ms 40 == 1) = true by simpa using e40] at HON
    by_cases e3 : k.es = 3
    · have hm : k.mode = 2 := by unfold Lk.mode modeF; rw [if_pos e40, if_pos e3]
      rw [hm]
      rw [show (k.es == 3) = true by simpa using e3] at HRD
      clear HB0 HB25 HO24 hm e3 e40
      go_enter Tryz.func15, Tryz.ntmps15
      go_wp2_with fail
      with_reducible refine HON.out.mono ?_
      rintro e w1 ⟨rfl, rfl⟩
      go_wp2_with fail
      with_reducible refine HRD.out.mono ?_
      rintro e w1 ⟨rfl, rfl⟩
      go_wp2
      go_ret
      exact ⟨rfl, HB.out⟩
    · have hm : k.mode = 0 := by unfold Lk.mode modeF; rw [if_pos e40, if_neg e3]
      rw [hm]
      rw [show (k.es == 3) = false by simpa using e3] at HRD
      clear HB0 HB25 HO24 hm e3 e40
      go_enter Tryz.func15, Tryz.ntmps15
      go_wp2_with fail
      with_reducible refine HON.out.mono ?_
      rintro e w1 ⟨rfl, rfl⟩
      go_wp2_with fail
      with_reducible refine HRD.out.mono ?_
      rintro e w1 ⟨rfl, rfl⟩
      go_wp2
      go_ret
      exact ⟨rfl, HB.out⟩
  · rw [show (k.ms 40 == 1) = false by simpa using e40] at HON
    have hm : k.mode = if ((k.ms 0 == 1 && k.ms 256 == 1) && (k.ms 25 == 1 && k.ms 281 == 1)) && k.ms 24 == 1 then 1 else 0 := by
      unfold Lk.mode modeF
      rw [if_neg e40]
      simp [and_assoc]
    rw [hm]
    generalize (k.ms 0 == 1 && k.ms 256 == 1) = b0 at *
    generalize (k.ms 25 == 1 && k.ms 281 == 1) = b1 at *
    generalize (k.ms 24 == 1) = b2 at *
    clear HRD hm e40
    cases b0
    · go_enter Tryz.func15, Tryz.ntmps15
      go_wp2_with fail
      with_reducible refine HON.out.mono ?_
      rintro e w1 ⟨rfl, rfl⟩
      go_wp2_with fail
      with_reducible refine HB0.out.mono ?_
      rintro e w1 ⟨rfl, rfl⟩
      go_wp2
      go_ret
      exact ⟨rfl, HB.out⟩
    · cases b1
      · go_enter Tryz.func15, Tryz.ntmps15
        go_wp2_with fail
        with_reducible refine HON.out.mono ?_
        rintro e w1 ⟨rfl, rfl⟩
        go_wp2_with fail
        with_reducible refine HB0.out.mono ?_
        rintro e w1 ⟨rfl, rfl⟩
        go_wp2_with fail
        with_reducible refine HB25.out.mono ?_
        rintro e w1 ⟨rfl, rfl⟩
        go_wp2
        go_ret
        exact ⟨rfl, HB.out⟩
      · cases b2
        all_goals
          go_enter Tryz.func15, Tryz.ntmps15
          go_wp2_with fail
          with_reducible refine HON.out.mono ?_
          rintro e w1 ⟨rfl, rfl⟩
          go_wp2_with fail
          with_reducible refine HB0.out.mono ?_
          rintro e w1 ⟨rfl, rfl⟩
          go_wp2_with fail
          with_reducible refine HB25.out.mono ?_
          rintro e w1 ⟨rfl, rfl⟩
          go_wp2_with fail
          with_reducible refine HO24.out.mono ?_
          rintro e w1 ⟨rfl, rfl⟩
          go_wp2
          go_ret
          exact ⟨rfl, HB.out⟩
end
end Go.Proofs.YtaanpnmgibcemaaGreatDoor
