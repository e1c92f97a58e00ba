/-
  What a link says of itself, and a nil link.
-/
import Derived.Test.YtaanpnmgibcemaaGreatDoorVq
namespace Go.Proofs.YtaanpnmgibcemaaGreatDoor
open Go.RowKit Go.Lib

/-- Does a link wait for more? -/
def Lk.waitB (k : Lk) : Bool := k.st.waits || decide ((0 : Int) < if k.lg = true then 8193 else (k.rc.length : Int))
section
variable {L : Nat} {c : Cf} {y : Ly} {k : Lk} {w : World}
set_option maxRecDepth 100000 in
theorem end_link (h : LkM w L c y k) : Calls Tryz.prog 17 #[.pointer (some ⟨L, 0, none⟩)] w fun e w' => e = .returned (.pointer (some ⟨y.E, 0, none⟩)) ∧ w = w' := by
  have c2 := h.b.c2
  clear h
  go_enter Tryz.func17, Tryz.ntmps17
  go_wp2
  go_ret
  exact ⟨rfl, rfl⟩
set_option maxRecDepth 100000 in
theorem end_nil : Calls Tryz.prog 17 #[.pointer none] w fun e w' => e = .returned (.pointer none) ∧ w = w' := by
  go_enter Tryz.func17, Tryz.ntmps17
  go_wp2
  go_ret
  exact ⟨rfl, rfl⟩
set_option maxRecDepth 100000 in
theorem options_any (h : LkM w L c y k) : Calls Tryz.prog 28 #[.pointer (some ⟨L, 0, none⟩)] w fun e w' => e = .returned (.pointer (some ⟨y.M, 0, none⟩)) ∧ w = w' := by
  have c1 := h.b.c1
  clear h
  go_enter Tryz.func28, Tryz.ntmps28
  go_wp2
  go_ret
  exact ⟨rfl, rfl⟩
set_option maxRecDepth 100000 in
theorem options_nil : Calls Tryz.prog 28 #[.pointer none] w fun e w' => e = .returned (.pointer none) ∧ w = w' := by
  go_enter Tryz.func28, Tryz.ntmps28
  go_wp2
  go_ret
  exact ⟨rfl, rfl⟩
set_option maxRecDepth 100000 in
theorem waiting_link_nil : Calls Tryz.prog 16 #[.pointer none] w fun e w' => e = .returned (.bool false) ∧ w = w' := by
  go_enter Tryz.func16, Tryz.ntmps16
  go_wp2
  go_ret
  exact ⟨rfl, rfl⟩
set_option maxRecDepth 100000 in
theorem waiting_link (h : LkM w L c y k) : Calls Tryz.prog 16 #[.pointer (some ⟨L, 0, none⟩)] w fun e w' => e = .returned (.bool k.waitB) ∧ w = w' := by
  have HW := hid (Tn.waiting_any y.R y.d k.st w h.rdr)
  have HS := hid (size_any h.mr)
  have c0 := h.b.c0
  have c3 := h.b.c3
  clear h
  unfold Lk.waitB
  generalize (if k.lg = true then (8193 : Int) else (k.rc.length : Int)) = sz at *
  cases hs : k.st.waits
  · rw [hs] at HW
    clear hs
    go_enter Tryz.func16, Tryz.ntmps16
    go_wp2_with fail
    with_reducible refine HW.out.mono ?_
    rintro e w1 ⟨rfl, rfl⟩
    go_wp2_with fail
    with_reducible refine HS.out.mono ?_
    rintro e w1 ⟨rfl, rfl⟩
    go_wp2
    go_ret
    exact ⟨by simp, rfl⟩
  · rw [hs] at HW
    clear hs HS
    go_enter Tryz.func16, Tryz.ntmps16
    go_wp2_with fail
    with_reducible refine HW.out.mono ?_
    rintro e w1 ⟨rfl, rfl⟩
    go_wp2
    go_ret
    exact ⟨by simp, rfl⟩
set_option maxRecDepth 100000 in
theorem say_nil (v : Value) : Calls Tryz.prog 26 #[.pointer none, v] w fun e w' => e = .returned (.tuple #[]) ∧ w = w' := by
  go_enter Tryz.func26, Tryz.ntmps26
  go_wp2
  go_end0
  exact ⟨rfl, rfl⟩
set_option maxRecDepth 100000 in
theorem send_nil (v : Value) : Calls Tryz.prog 27 #[.pointer none, v] w fun e w' => e = .returned (.int .i64 5) ∧ w = w' := by
  go_enter Tryz.func27, Tryz.ntmps27
  go_wp2
  go_ret
  exact ⟨rfl, rfl⟩
/-- Function 2, asked of the end. -/
theorem has2_any (h : LkM w L c y k) (hk : LkOK c k) : Calls Tryz.prog 44 #[.pointer (some ⟨y.E, 0, none⟩), .int .u8 2] w fun e w' => e = .returned (.bool k.has) ∧ w = w' := by
  unfold Lk.has
  by_cases e3 : k.es = 3
  · have := Ng.has_yes y.E y.sv y.av c.T c.D c.fs k.es k.dev k.ag w h.en e3 hk.ag 2
    rw [show (k.es == 3) = true by simpa using e3, Bool.true_and]
    exact this
  · have := Ng.has_no y.E y.sv y.av c.T c.D c.fs k.es k.dev k.ag w h.en e3 2
    rw [show (k.es == 3) = false by simpa using e3, Bool.false_and]
    exact this
end
end Go.Proofs.YtaanpnmgibcemaaGreatDoor
