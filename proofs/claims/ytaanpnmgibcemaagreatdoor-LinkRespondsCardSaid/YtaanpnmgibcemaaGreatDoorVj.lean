/-
  What comes of an option.
-/
import Derived.Test.YtaanpnmgibcemaaGreatDoorVi
namespace Go.Proofs.YtaanpnmgibcemaaGreatDoor
open Go.RowKit Go.Lib

/-- The end has begun anew. -/
def ResetD (g : Nat) (sv : Value) (T D : ByteArray) (fs : List Int) (w : World) (e : Ending) (w' : World) : Prop := e = .returned (.tuple #[]) ∧ Ng.EndM w' g sv (.slice none 0 0) T D fs 0 ⟨#[]⟩ [] ∧ Moved w w' [g] [g]
set_option maxRecDepth 100000 in
set_option maxHeartbeats 1000000 in
theorem reset_any (g : Nat) (sv av : Value) (T D : ByteArray) (fs : List Int) (st : Int) (dev : ByteArray) (ag : List Int) (w : World) (h : Ng.EndM w g sv av T D fs st dev ag) : Calls Tryz.prog 99 #[.pointer (some ⟨g, 0, none⟩)] w (ResetD g sv T D fs w) := by
  have c3 := h.c3
  have c4 := h.c4
  have c5 := h.c5
  have f3 := h.fr 3 (by omega)
  have f4 := h.fr 4 (by omega)
  have f5 := h.fr 5 (by omega)
  have hg := h.lt
  have HX := hid (show ResetD g sv T D fs w (.returned (.tuple #[])) _ from ⟨rfl, ((h.set3 0).set4 ⟨#[]⟩).set5n, ((Ng.set_moved w g 3 (.int .i64 0)).trans (Ng.set_moved _ g 4 (.string ⟨#[]⟩))).trans (Ng.set_moved _ g 5 (.slice none 0 0))⟩)
  obtain ⟨ax, ac, rfl⟩ := own_len h.ra _ rfl
  clear h
  go_enter Tryz.func99, Tryz.ntmps99
  go_wp2
  go_end0
  exact HX.out
section
variable {L : Nat} {c : Cf} {y : Ly} {k : Lk} {w : World}
theorem LkOK.ms (hk : LkOK c k) (m : Nat → Int) : LkOK c { k with ms := m } := ⟨hk.T, hk.D, hk.fs, hk.es, hk.ag, hk.rc, hk.sq, hk.st⟩
theorem LkOK.out (hk : LkOK c k) (o : List Int) : LkOK c { k with out := o } := ⟨hk.T, hk.D, hk.fs, hk.es, hk.ag, hk.rc, hk.sq, hk.st⟩
theorem LkOK.step (hk : LkOK c k) (side : Int) (o : Nat) (n say : Int) : LkOK c (k.step side o n say) := ⟨hk.T, hk.D, hk.fs, hk.es, hk.ag, hk.rc, hk.sq, hk.st⟩
theorem LkOK.reset (hk : LkOK c k) : LkOK c k.reset := ⟨hk.T, hk.D, hk.fs, ⟨Int.le_refl 0, show (0 : Int) ≤ 4 by decide⟩, Nat.zero_le _, hk.rc, hk.sq, hk.st⟩
/-- A link has moved on; nothing is handed back. -/
def MovD (L : Nat) (c : Cf) (y : Ly) (k' : Lk) (w : World) (e : Ending) (w' : World) : Prop := e = .returned (.tuple #[]) ∧ ∃ y', LkM w' L c y' k' ∧ Moved w w' (y.foot L) (y'.foot L)
set_option maxRecDepth 100000 in
set_option maxHeartbeats 2000000 in
theorem takeOption_any (v o : Nat) (hv : Op.isVerb v) (ho : o < 256) (h : LkM w L c y k) (hk : LkOK c k) (hl : k.out.length ≤ 100000000) : Calls Tryz.prog 84 #[.pointer (some ⟨L, 0, none⟩), .int .u8 v, .int .u8 o] w (MovD L c y (optE c k v o) w) := by
  have HM := hid (Op.hear_any y.M c.A k.ms v o hv ho w h.mac)
  have HOE := hid (show optE c k v o = if (k.step (Op.sideOf v) o (Op.hearN v (k.ms (Op.idx (Op.sideOf v) o)) (c.A (Op.idx (Op.sideOf v) o))).1 (Op.hearN v (k.ms (Op.idx (Op.sideOf v) o)) (c.A (Op.idx (Op.sideOf v) o))).2).ms 40 = 1 then (k.step (Op.sideOf v) o (Op.hearN v (k.ms (Op.idx (Op.sideOf v) o)) (c.A (Op.idx (Op.sideOf v) o))).1 (Op.hearN v (k.ms (Op.idx (Op.sideOf v) o)) (c.A (Op.idx (Op.sideOf v) o))).2) else (k.step (Op.sideOf v) o (Op.hearN v (k.ms (Op.idx (Op.sideOf v) o)) (c.A (Op.idx (Op.sideOf v) o))).1 (Op.hearN v (k.ms (Op.idx (Op.sideOf v) o)) (c.A (Op.idx (Op.sideOf v) o))).2).reset from rfl)
  generalize (Op.hearN v (k.ms (Op.idx (Op.sideOf v) o)) (c.A (Op.idx (Op.sideOf v) o))).1 = N at HM HOE
  generalize (Op.hearN v (k.ms (Op.idx (Op.sideOf v) o)) (c.A (Op.idx (Op.sideOf v) o))).2 = Y at HM HOE
  generalize Op.sideOf v = S at HM HOE
  generalize optE c k v o = KF at HOE ⊢
  have c1 := h.b.c1
  have hL := h.b.lt
  have HH := hid h
  clear h hv
  go_enter Tryz.func84, Tryz.ntmps84
  go_wp2_with fail
  with_reducible refine HM.out.mono ?_
  rintro e w1 ⟨m, rfl, m', he, hmsg, hmac, hmv, hfr⟩
  obtain rfl : m = m' := by cases he; rfl
  obtain ⟨h1, mv1⟩ := HH.out.machine hmv hmac
  have HS := hid (sendMessages_any m S Y o h1 (hk.ms _) hmsg (by omega) hl)
  have HH1 := hid h1
  have HV1 := hid mv1
  have hL1 := h1.b.lt
  obtain ⟨mx, mn, mc, rfl⟩ : ∃ x n cc, m = .slice x n cc := by
    rcases hmsg with ⟨_, rfl⟩ | ⟨_, b, rfl, _⟩
    · exact ⟨_, _, _, rfl⟩
    · exact ⟨_, _, _, rfl⟩
  clear he hmsg hmac hmv hfr h1 mv1 HM
  go_wp2_with fail
  with_reducible refine HS.out.mono ?_
  rintro e w2 ⟨rfl, ov', h2, mv2⟩
  have h2' : LkM w2 L c { y with ov := ov' } (k.step S o N Y) := h2
  have HON := hid (on40_any L c _ _ w2 h2')
  have c12 := h2'.b.c1
  have c22 := h2'.b.c2
  have hL2 := h2'.b.lt
  have HH2 := hid h2'
  have HV2 := hid (HV1.out.trans mv2)
  clear h2 mv2 h2' HS
  by_cases hon : (k.step S o N Y).ms 40 = 1
  · rw [show ((k.step S o N Y).ms 40 == 1) = true by simpa using hon] at HON
    have HX := hid (show MovD L c y KF w (.returned (.tuple #[])) w2 from ⟨rfl, _, by rw [HOE.out, if_pos hon]; exact HH2.out, HV2.out⟩)
    clear hon
    go_wp2_with fail
    with_reducible refine HON.out.mono ?_
    rintro e w3 ⟨rfl, rfl⟩
    go_wp2
    go_end0
    exact HX.out
  · rw [show ((k.step S o N Y).ms 40 == 1) = false by simpa using hon] at HON
    have HR := hid (reset_any _ _ _ _ _ _ _ _ _ w2 HH2.out.en)
    have HX := hid (fun w4 (he : Ng.EndM w4 y.E y.sv (.slice none 0 0) c.T c.D c.fs 0 ⟨#[]⟩ []) (hm : Moved w2 w4 [y.E] [y.E]) => show MovD L c y KF w (.returned (.tuple #[])) w4 from by
      obtain ⟨h4, mv4⟩ := HH2.out.ending (hk.step S o N Y) hm he (.inr (fun _ q => by cases q))
      exact ⟨rfl, _, by rw [HOE.out, if_neg hon]; exact h4, HV2.out.trans mv4⟩)
    clear hon
    go_wp2_with fail
    with_reducible refine HON.out.mono ?_
    rintro e w3 ⟨rfl, rfl⟩
    go_wp2_with fail
    with_reducible refine HR.out.mono ?_
    rintro e w4 ⟨rfl, he, hm⟩
    have HX4 := hid (HX.out w4 he hm)
    clear he hm
    go_wp2
    go_end0
    exact HX4.out
end
end Go.Proofs.YtaanpnmgibcemaaGreatDoor
