/-
  The numbers of the records that a link sends.
-/
import Derived.Test.YtaanpnmgibcemaaGreatDoorVu
namespace Go.Proofs.YtaanpnmgibcemaaGreatDoor
open Go.RowKit Go.Lib

section
variable {L : Nat} {c : Cf} {y : Ly} {k : Lk} {w : World}
theorem LkM.setSeq (h : LkM w L c y k) (hk : LkOK c k) (q : Int) : LkM (w.setCell ⟨L, 5, none⟩ (.int .u16 q)) L c y { k with sq := q } ∧ Moved w (w.setCell ⟨L, 5, none⟩ (.int .u16 q)) (y.foot L) (y.foot L) := by
  have hb : LkB (w.setCell ⟨L, 5, none⟩ (.int .u16 q)) L y q := Go.heap_setCell_same w L 5 _ 84 (.int .u16 q) h.b
  exact h.buffer hk (ov' := y.ov) (out' := k.out) (sq' := q) (Moved.set (by simp) 5 _) hb (h.out.moved (Moved.set (S := [L]) (by simp) 5 _) (fun b q e => h.ln (by rw [← List.mem_singleton.1 e]; exact q))) h.ln
set_option maxRecDepth 100000 in
theorem nextSeq_no (h : LkM w L c y k) (hk : LkOK c k) (hh : k.has = false) : Calls Tryz.prog 51 #[.pointer (some ⟨L, 0, none⟩)] w fun e w' => e = .returned (.int .u16 0) ∧ w = w' := by
  have HH := hid (has2_any h hk)
  rw [hh] at HH
  have c2 := h.b.c2
  clear h
  go_enter Tryz.func51, Tryz.ntmps51
  go_wp2_with fail
  refine HH.out.mono ?_
  rintro e w1 ⟨rfl, rfl⟩
  go_wp2
  go_ret
  exact ⟨rfl, rfl⟩
set_option maxRecDepth 100000 in
theorem nextSeq_yes (h : LkM w L c y k) (hk : LkOK c k) (hh : k.has = true) : Calls Tryz.prog 51 #[.pointer (some ⟨L, 0, none⟩)] w fun e w' => e = .returned (.int .u16 k.sq) ∧ LkM w' L c y { k with sq := nextN k.sq } ∧ Moved w w' (y.foot L) (y.foot L) := by
  have HH := hid (has2_any h hk)
  rw [hh] at HH
  have c2 := h.b.c2
  have c5 := h.b.c5
  have f5 := h.b.free 5
  have hl := h.b.lt
  have HN := hid (Hd.next_any k.sq hk.sq.1 (by have := hk.sq.2; omega) w)
  have HS := hid (h.setSeq hk (nextN k.sq))
  have HE := hid (show nextN k.sq = (if k.sq < 32767 then k.sq + 1 else 0) from rfl)
  clear h
  rw [← HE.out] at HN
  generalize nextN k.sq = nq at *
  go_enter Tryz.func51, Tryz.ntmps51
  go_wp2_with fail
  refine HH.out.mono ?_
  rintro e w1 ⟨rfl, rfl⟩
  go_wp2_with fail
  refine HN.out.mono ?_
  rintro e w1 ⟨rfl, rfl⟩
  go_wp2
  go_ret
  exact ⟨rfl, HS.out.1, HS.out.2⟩
end
end Go.Proofs.YtaanpnmgibcemaaGreatDoor
