/-
  A record is sent behind a header; where nothing is agreed, none is.
-/
import Derived.Test.YtaanpnmgibcemaaGreatDoorVv
namespace Go.Proofs.YtaanpnmgibcemaaGreatDoor
open Go.RowKit Go.Lib

section
variable {L : Nat} {c : Cf} {y : Ly} {k : Lk} {w : World}
/-- A record was sent. -/
def SentD (L : Nat) (c : Cf) (y : Ly) (k' : Lk) (er : Int) (w : World) (e : Ending) (w' : World) : Prop := ∃ y', e = .returned (.int .i64 er) ∧ LkM w' L c y' k' ∧ Moved w w' (y.foot L) (y'.foot L)
/-- The number that a record gets, and the link behind it. -/
def Lk.seqN (k : Lk) : Int := if k.has then k.sq else 0
def Lk.seqK (k : Lk) : Lk := if k.has then { k with sq := nextN k.sq } else k
theorem nextSeq_any (h : LkM w L c y k) (hk : LkOK c k) : Calls Tryz.prog 51 #[.pointer (some ⟨L, 0, none⟩)] w fun e w' => e = .returned (.int .u16 k.seqN) ∧ LkM w' L c y k.seqK ∧ Moved w w' (y.foot L) (y.foot L) := by
  unfold Lk.seqN Lk.seqK
  cases hh : k.has
  · refine (nextSeq_no h hk hh).mono ?_
    rintro e w1 ⟨rfl, rfl⟩
    exact ⟨rfl, h, Moved.refl _ _⟩
  · exact nextSeq_yes h hk hh
theorem seqN_fit (hk : LkOK c k) : 0 ≤ k.seqN ∧ k.seqN < 65536 := by
  have := hk.sq
  unfold Lk.seqN
  split <;> omega
set_option maxRecDepth 100000 in
theorem send_state (p : Value) (h : LkM w L c y k) (hm : k.mode = 0) : Calls Tryz.prog 27 #[.pointer (some ⟨L, 0, none⟩), p] w fun e w' => e = .returned (.int .i64 6) ∧ Below w.heap.size w w' := by
  have HM := hid (mode_any L c y k w h)
  rw [hm] at HM
  go_enter Tryz.func27, Tryz.ntmps27
  go_wp2_with fail
  refine HM.out.mono ?_
  rintro e w1 ⟨rfl, hb1⟩
  have HB := hid hb1
  clear hb1
  go_wp2
  go_ret
  exact ⟨rfl, HB.out⟩
end
end Go.Proofs.YtaanpnmgibcemaaGreatDoor
