/-
  A terminal's end: what it tells, and what is set.
-/
import Derived.Test.YtdpfjbpfafekfaaNd
namespace Go.Proofs.Ytdpfjbpfafekfaa
open Go.RowKit Go.Lib

set_option maxRecDepth 100000 in
set_option maxHeartbeats 2000000 in
theorem state_any (g : Nat) (sv av : Value) (T D : ByteArray) (fs : List Int) (st : Int) (dev : ByteArray) (ag : List Int) (w : World) (h : EndM w g sv av T D fs st dev ag) : Calls Try.prog 48 #[.pointer (some ⟨g, 0, none⟩)] w fun e w' => e = .returned (.int .i64 st) ∧ w = w' := by
  have c3 := h.c3
  clear h
  go_enter Try.func48, Try.ntmps48
  go_wp2
  go_ret
  exact ⟨rfl, rfl⟩
set_option maxRecDepth 100000 in
set_option maxHeartbeats 2000000 in
theorem ready_any (g : Nat) (sv av : Value) (T D : ByteArray) (fs : List Int) (st : Int) (dev : ByteArray) (ag : List Int) (w : World) (h : EndM w g sv av T D fs st dev ag) : Calls Try.prog 46 #[.pointer (some ⟨g, 0, none⟩)] w fun e w' => e = .returned (.bool (st == 3)) ∧ w = w' := by
  have H := hid (state_any g sv av T D fs st dev ag w h)
  clear h
  go_enter Try.func46, Try.ntmps46
  go_wp2_with fail
  with_reducible refine H.out.mono ?_
  rintro e w1 ⟨rfl, rfl⟩
  go_wp2
  go_ret
  exact ⟨rfl, rfl⟩
set_option maxRecDepth 100000 in
set_option maxHeartbeats 2000000 in
theorem device_any (g : Nat) (sv av : Value) (T D : ByteArray) (fs : List Int) (st : Int) (dev : ByteArray) (ag : List Int) (w : World) (h : EndM w g sv av T D fs st dev ag) : Calls Try.prog 44 #[.pointer (some ⟨g, 0, none⟩)] w fun e w' => e = .returned (.string dev) ∧ w = w' := by
  have c4 := h.c4
  clear h
  go_enter Try.func44, Try.ntmps44
  go_wp2
  go_ret
  exact ⟨rfl, rfl⟩
set_option maxRecDepth 100000 in
set_option maxHeartbeats 2000000 in
theorem functions_yes (g : Nat) (sv av : Value) (T D : ByteArray) (fs : List Int) (st : Int) (dev : ByteArray) (ag : List Int) (w : World) (h : EndM w g sv av T D fs st dev ag) (hs : st = 3) (hl : ag.length ≤ 1000) : Calls Try.prog 47 #[.pointer (some ⟨g, 0, none⟩)] w (OwnDone ag w) := by
  subst hs
  have H := hid (ready_any g sv av T D fs 3 dev ag w h)
  have HC := hid (clone_any av ag w h.ra.reads (by omega))
  have c5 := h.c5
  obtain ⟨ax, ac, rfl⟩ := own_len h.ra _ rfl
  clear h
  go_enter Try.func47, Try.ntmps47
  go_wp2_with fail
  with_reducible refine H.out.mono ?_
  rintro e w1 ⟨rfl, rfl⟩
  go_wp2_with fail
  with_reducible refine HC.out.mono ?_
  rintro e w2 ⟨v, rfl, h2⟩
  have H2 := hid h2
  clear h2
  go_wp2
  go_ret
  exact ⟨_, rfl, H2.out⟩
set_option maxRecDepth 100000 in
set_option maxHeartbeats 2000000 in
theorem functions_no (g : Nat) (sv av : Value) (T D : ByteArray) (fs : List Int) (st : Int) (dev : ByteArray) (ag : List Int) (w : World) (h : EndM w g sv av T D fs st dev ag) (hs : st ≠ 3) : Calls Try.prog 47 #[.pointer (some ⟨g, 0, none⟩)] w fun e w' => e = .returned (.slice none 0 0) ∧ w = w' := by
  have hs' : (st == 3) = false := by simpa using hs
  have H := hid (ready_any g sv av T D fs st dev ag w h)
  rw [hs'] at H
  clear h hs hs'
  go_enter Try.func47, Try.ntmps47
  go_wp2_with fail
  with_reducible refine H.out.mono ?_
  rintro e w1 ⟨rfl, rfl⟩
  go_wp2
  go_ret
  exact ⟨rfl, rfl⟩
set_option maxRecDepth 100000 in
set_option maxHeartbeats 2000000 in
theorem has_yes (g : Nat) (sv av : Value) (T D : ByteArray) (fs : List Int) (st : Int) (dev : ByteArray) (ag : List Int) (w : World) (h : EndM w g sv av T D fs st dev ag) (hs : st = 3) (hl : ag.length ≤ 1000) (o : Nat) : Calls Try.prog 68 #[.pointer (some ⟨g, 0, none⟩), .int .u8 o] w fun e w' => e = .returned (.bool (ag.any fun x => x == (o : Int))) ∧ w = w' := by
  subst hs
  have H := hid (ready_any g sv av T D fs 3 dev ag w h)
  have HC := hid (contains_any av ag o w h.ra.reads (by omega))
  have c5 := h.c5
  obtain ⟨ax, ac, rfl⟩ := own_len h.ra _ rfl
  clear h
  generalize (ag.any fun x => x == (o : Int)) = B at *
  go_enter Try.func68, Try.ntmps68
  go_wp2_with fail
  with_reducible refine H.out.mono ?_
  rintro e w1 ⟨rfl, rfl⟩
  go_wp2_with fail
  with_reducible refine HC.out.mono ?_
  rintro e w2 ⟨rfl, rfl⟩
  go_wp2
  go_ret
  exact ⟨rfl, rfl⟩
set_option maxRecDepth 100000 in
set_option maxHeartbeats 2000000 in
theorem has_no (g : Nat) (sv av : Value) (T D : ByteArray) (fs : List Int) (st : Int) (dev : ByteArray) (ag : List Int) (w : World) (h : EndM w g sv av T D fs st dev ag) (hs : st ≠ 3) (o : Nat) : Calls Try.prog 68 #[.pointer (some ⟨g, 0, none⟩), .int .u8 o] w fun e w' => e = .returned (.bool false) ∧ w = w' := by
  have hs' : (st == 3) = false := by simpa using hs
  have H := hid (ready_any g sv av T D fs st dev ag w h)
  rw [hs'] at H
  clear h hs hs'
  go_enter Try.func68, Try.ntmps68
  go_wp2_with fail
  with_reducible refine H.out.mono ?_
  rintro e w1 ⟨rfl, rfl⟩
  go_wp2
  go_ret
  exact ⟨rfl, rfl⟩
/-- All begins anew. -/
def ResetD (g : Nat) (sv : Value) (T D : ByteArray) (fs : List Int) (w : World) (e : Ending) (w' : World) : Prop := e = .returned (.tuple #[]) ∧ EndM w' g sv (.slice none 0 0) T D fs 0 ⟨#[]⟩ [] ∧ Moved w w' [g] [g]
set_option maxRecDepth 100000 in
set_option maxHeartbeats 2000000 in
theorem reset_any (g : Nat) (sv av : Value) (T D : ByteArray) (fs : List Int) (st : Int) (dev : ByteArray) (ag : List Int) (w : World) (h : EndM w g sv av T D fs st dev ag) : Calls Try.prog 37 #[.pointer (some ⟨g, 0, none⟩)] w (ResetD g sv T D fs w) := by
  have c3 := h.c3
  have c4 := h.c4
  have c5 := h.c5
  have f3 := h.fr 3 (by omega)
  have f4 := h.fr 4 (by omega)
  have f5 := h.fr 5 (by omega)
  have HE := hid (((h.set3 0).set4 ⟨#[]⟩).set5n)
  have HM := hid (((set_moved w g 3 (.int .i64 0)).trans (set_moved _ g 4 (.string ⟨#[]⟩))).trans (set_moved _ g 5 (.slice none 0 0)))
  obtain ⟨ax, ac, rfl⟩ := own_len h.ra _ rfl
  clear h
  go_enter Try.func37, Try.ntmps37
  go_wp2
  go_end0
  exact ⟨rfl, HE.out, HM.out⟩
/-- May a message be taken? -/
def permB (st k : Int) : Bool := if k = 1 then !(st == 4) else if k = 2 ∨ k = 3 then st == 1 else if k = 4 then st == 2 else if k = 5 then (st == 2 || st == 3) else false
set_option maxRecDepth 100000 in
set_option maxHeartbeats 2000000 in
theorem permits_any (g : Nat) (sv av : Value) (T D : ByteArray) (fs : List Int) (st : Int) (dev : ByteArray) (ag : List Int) (w : World) (h : EndM w g sv av T D fs st dev ag) (k : Int) (hk : 0 ≤ k ∧ k ≤ 5) (hst : 0 ≤ st ∧ st ≤ 4) : Calls Try.prog 76 #[.pointer (some ⟨g, 0, none⟩), .int .i64 k] w fun e w' => e = .returned (.bool (permB st k)) ∧ w = w' := by
  have c3 := h.c3
  clear h
  have h6 : k = 0 ∨ k = 1 ∨ k = 2 ∨ k = 3 ∨ k = 4 ∨ k = 5 := by omega
  have h5 : st = 0 ∨ st = 1 ∨ st = 2 ∨ st = 3 ∨ st = 4 := by omega
  clear hk hst
  rcases h6 with rfl | rfl | rfl | rfl | rfl | rfl
  all_goals
    rcases h5 with rfl | rfl | rfl | rfl | rfl
    all_goals
      go_enter Try.func76, Try.ntmps76
      go_wp2
      go_ret
      exact ⟨rfl, rfl⟩
end Go.Proofs.Ytdpfjbpfafekfaa
