/-
  The machine hears a verb; On; sides that are none; a nil machine.
-/
import Derived.Test.YtdpfjbpfafekfaaOd
namespace Go.Proofs.Ytdpfjbpfafekfaa
open Go.RowKit Go.Lib

set_option maxRecDepth 100000 in
set_option maxHeartbeats 2000000 in
theorem hear_251 (g : Nat) (ag : Nat → Bool) (st : Nat → Int) (o : Nat) (ho : o < 256) (w : World) (hM : Mach w g ag st) : Calls Try.prog 16 #[.pointer (some ⟨g, 0, none⟩), .int .u8 251, .int .u8 o] w (TookE g ag st 1 o (hOn (st (256 + o)) (ag (256 + o))).1 (hOn (st (256 + o)) (ag (256 + o))).2 0 w) := by
  have H := hid (hearOn_1 g ag st o ho w hM)
  clear hM
  go_enter Try.func16, Try.ntmps16
  go_wp2_with fail
  with_reducible refine H.out.mono ?_
  rintro e w1 ⟨v, rfl, h⟩
  have H1 := hid h
  clear h
  go_wp2
  go_ret2
  exact ⟨_, rfl, _, rfl, H1.out⟩
set_option maxRecDepth 100000 in
set_option maxHeartbeats 2000000 in
theorem hear_252 (g : Nat) (ag : Nat → Bool) (st : Nat → Int) (o : Nat) (ho : o < 256) (w : World) (hM : Mach w g ag st) : Calls Try.prog 16 #[.pointer (some ⟨g, 0, none⟩), .int .u8 252, .int .u8 o] w (TookE g ag st 1 o (hOff (st (256 + o))).1 (hOff (st (256 + o))).2 0 w) := by
  have H := hid (hearOff_1 g ag st o ho w hM)
  clear hM
  go_enter Try.func16, Try.ntmps16
  go_wp2_with fail
  with_reducible refine H.out.mono ?_
  rintro e w1 ⟨v, rfl, h⟩
  have H1 := hid h
  clear h
  go_wp2
  go_ret2
  exact ⟨_, rfl, _, rfl, H1.out⟩
set_option maxRecDepth 100000 in
set_option maxHeartbeats 2000000 in
theorem hear_253 (g : Nat) (ag : Nat → Bool) (st : Nat → Int) (o : Nat) (ho : o < 256) (w : World) (hM : Mach w g ag st) : Calls Try.prog 16 #[.pointer (some ⟨g, 0, none⟩), .int .u8 253, .int .u8 o] w (TookE g ag st 0 o (hOn (st o) (ag o)).1 (hOn (st o) (ag o)).2 0 w) := by
  have H := hid (hearOn_0 g ag st o ho w hM)
  clear hM
  go_enter Try.func16, Try.ntmps16
  go_wp2_with fail
  with_reducible refine H.out.mono ?_
  rintro e w1 ⟨v, rfl, h⟩
  have H1 := hid h
  clear h
  go_wp2
  go_ret2
  exact ⟨_, rfl, _, rfl, H1.out⟩
set_option maxRecDepth 100000 in
set_option maxHeartbeats 2000000 in
theorem hear_254 (g : Nat) (ag : Nat → Bool) (st : Nat → Int) (o : Nat) (ho : o < 256) (w : World) (hM : Mach w g ag st) : Calls Try.prog 16 #[.pointer (some ⟨g, 0, none⟩), .int .u8 254, .int .u8 o] w (TookE g ag st 0 o (hOff (st o)).1 (hOff (st o)).2 0 w) := by
  have H := hid (hearOff_0 g ag st o ho w hM)
  clear hM
  go_enter Try.func16, Try.ntmps16
  go_wp2_with fail
  with_reducible refine H.out.mono ?_
  rintro e w1 ⟨v, rfl, h⟩
  have H1 := hid h
  clear h
  go_wp2
  go_ret2
  exact ⟨_, rfl, _, rfl, H1.out⟩
/-- The place of a side's option. -/
def idx (side : Int) (o : Nat) : Nat := (side * 256 + o).toNat
theorem idx_0 (o : Nat) : idx 0 o = o := by unfold idx; omega
theorem idx_1 (o : Nat) : idx 1 o = 256 + o := by unfold idx; omega
theorem idx_lt {side : Int} (hs : side = 0 ∨ side = 1) {o : Nat} (ho : o < 256) : idx side o < 512 := by rcases hs with rfl | rfl <;> unfold idx <;> omega
/-- Of whose side a verb speaks, and what follows of it. -/
def sideOf (v : Nat) : Int := if v = 251 ∨ v = 252 then 1 else 0
def hearN (v : Nat) (s : Int) (ag : Bool) : Int × Int := if v = 251 ∨ v = 253 then hOn s ag else hOff s
theorem sideOf_or (v : Nat) : sideOf v = 0 ∨ sideOf v = 1 := by unfold sideOf; split <;> simp
def isVerb (v : Nat) : Prop := v = 251 ∨ v = 252 ∨ v = 253 ∨ v = 254
theorem hear_any (g : Nat) (ag : Nat → Bool) (st : Nat → Int) (v o : Nat) (hv : isVerb v) (ho : o < 256) (w : World) (hM : Mach w g ag st) : Calls Try.prog 16 #[.pointer (some ⟨g, 0, none⟩), .int .u8 v, .int .u8 o] w (TookE g ag st (sideOf v) o (hearN v (st (idx (sideOf v) o)) (ag (idx (sideOf v) o))).1 (hearN v (st (idx (sideOf v) o)) (ag (idx (sideOf v) o))).2 0 w) := by
  rcases hv with rfl | rfl | rfl | rfl
  · rw [show sideOf 251 = 1 from rfl, idx_1]
    exact hear_251 g ag st o ho w hM
  · rw [show sideOf 252 = 1 from rfl, idx_1]
    exact hear_252 g ag st o ho w hM
  · rw [show sideOf 253 = 0 from rfl, idx_0]
    exact hear_253 g ag st o ho w hM
  · rw [show sideOf 254 = 0 from rfl, idx_0]
    exact hear_254 g ag st o ho w hM
set_option maxRecDepth 100000 in
set_option maxHeartbeats 2000000 in
theorem hear_no (g : Nat) (v o : Nat) (hv : ¬ isVerb v) (w : World) : Calls Try.prog 16 #[.pointer (some ⟨g, 0, none⟩), .int .u8 v, .int .u8 o] w fun e w' => e = .returned (.tuple #[.slice none 0 0, .int .i64 1]) ∧ w = w' := by
  have h1 : ((v : Int) == 251) = false := by simpa using fun h => hv (.inl (by omega))
  have h2 : ((v : Int) == 252) = false := by simpa using fun h => hv (.inr (.inl (by omega)))
  have h3 : ((v : Int) == 253) = false := by simpa using fun h => hv (.inr (.inr (.inl (by omega))))
  have h4 : ((v : Int) == 254) = false := by simpa using fun h => hv (.inr (.inr (.inr (by omega))))
  clear hv
  go_enter Try.func16, Try.ntmps16
  go_wp2
  go_ret2
  exact ⟨rfl, rfl⟩
theorem state_any (g : Nat) (ag : Nat → Bool) (st : Nat → Int) (side : Int) (hs : side = 0 ∨ side = 1) (o : Nat) (ho : o < 256) (w : World) (hM : Mach w g ag st) : Calls Try.prog 22 #[.pointer (some ⟨g, 0, none⟩), .int .i64 side, .int .u8 o] w fun e w' => e = .returned (.int .i64 (st (idx side o))) ∧ w = w' := by
  rcases hs with rfl | rfl
  · rw [idx_0]; exact state_0 g ag st o ho w hM
  · rw [idx_1]; exact state_1 g ag st o ho w hM
set_option maxRecDepth 100000 in
set_option maxHeartbeats 2000000 in
theorem state_no (g : Nat) (side : Int) (hs : ¬ (side = 0 ∨ side = 1)) (o : Nat) (w : World) : Calls Try.prog 22 #[.pointer (some ⟨g, 0, none⟩), .int .i64 side, .int .u8 o] w fun e w' => e = .returned (.int .i64 0) ∧ w = w' := by
  have HIS := hid (fun W => isSide_no side hs W)
  clear hs
  go_enter Try.func22, Try.ntmps22
  go_wp2_with fail
  with_reducible refine (HIS.out _).mono ?_
  rintro e w0 ⟨rfl, rfl⟩
  go_wp2
  go_ret
  exact ⟨rfl, rfl⟩
set_option maxRecDepth 100000 in
theorem state_nil (side : Int) (o : Nat) (w : World) : Calls Try.prog 22 #[.pointer none, .int .i64 side, .int .u8 o] w fun e w' => e = .returned (.int .i64 0) ∧ w = w' := by
  go_enter Try.func22, Try.ntmps22
  go_wp2
  go_ret
  exact ⟨rfl, rfl⟩
set_option maxRecDepth 100000 in
theorem on_of (p : Value) (hp : ∃ x, p = .pointer x) (side x : Int) (o : Nat) (w : World) (h : Calls Try.prog 22 #[p, .int .i64 side, .int .u8 o] w fun e w' => e = .returned (.int .i64 x) ∧ w = w') : Calls Try.prog 26 #[p, .int .i64 side, .int .u8 o] w fun e w' => e = .returned (.bool (x == 1)) ∧ w = w' := by
  have H := hid h
  obtain ⟨q, rfl⟩ := hp
  clear h
  go_enter Try.func26, Try.ntmps26
  go_wp2_with fail
  with_reducible refine H.out.mono ?_
  rintro e w0 ⟨rfl, rfl⟩
  go_wp2
  go_ret
  exact ⟨rfl, rfl⟩
theorem on_any (g : Nat) (ag : Nat → Bool) (st : Nat → Int) (side : Int) (hs : side = 0 ∨ side = 1) (o : Nat) (ho : o < 256) (w : World) (hM : Mach w g ag st) : Calls Try.prog 26 #[.pointer (some ⟨g, 0, none⟩), .int .i64 side, .int .u8 o] w fun e w' => e = .returned (.bool (st (idx side o) == 1)) ∧ w = w' := on_of _ ⟨_, rfl⟩ side _ o w (state_any g ag st side hs o ho w hM)
theorem on_no (g : Nat) (side : Int) (hs : ¬ (side = 0 ∨ side = 1)) (o : Nat) (w : World) : Calls Try.prog 26 #[.pointer (some ⟨g, 0, none⟩), .int .i64 side, .int .u8 o] w fun e w' => e = .returned (.bool false) ∧ w = w' := on_of _ ⟨_, rfl⟩ side 0 o w (state_no g side hs o w)
theorem on_nil (side : Int) (o : Nat) (w : World) : Calls Try.prog 26 #[.pointer none, .int .i64 side, .int .u8 o] w fun e w' => e = .returned (.bool false) ∧ w = w' := on_of _ ⟨_, rfl⟩ side 0 o w (state_nil side o w)
set_option maxRecDepth 100000 in
theorem hear_nil (v o : Nat) (w : World) : Calls Try.prog 16 #[.pointer none, .int .u8 v, .int .u8 o] w fun e w' => e = .returned (.tuple #[.slice none 0 0, .int .i64 5]) ∧ w = w' := by
  go_enter Try.func16, Try.ntmps16
  go_wp2
  go_ret2
  exact ⟨rfl, rfl⟩
set_option maxRecDepth 100000 in
theorem ask_nil (side : Int) (o : Nat) (on : Bool) (w : World) : Calls Try.prog 18 #[.pointer none, .int .i64 side, .int .u8 o, .bool on] w fun e w' => e = .returned (.tuple #[.slice none 0 0, .int .i64 5]) ∧ w = w' := by
  go_enter Try.func18, Try.ntmps18
  go_wp2
  go_ret2
  exact ⟨rfl, rfl⟩
set_option maxRecDepth 100000 in
theorem quiet_nil (w : World) : Calls Try.prog 25 #[.pointer none] w fun e w' => e = .returned (.bool true) ∧ w = w' := by
  go_enter Try.func25, Try.ntmps25
  go_wp2
  go_ret
  exact ⟨rfl, rfl⟩
set_option maxRecDepth 100000 in
set_option maxHeartbeats 2000000 in
theorem ask_bad (g : Nat) (side : Int) (hs : ¬ (side = 0 ∨ side = 1)) (o : Nat) (on : Bool) (w : World) : Calls Try.prog 18 #[.pointer (some ⟨g, 0, none⟩), .int .i64 side, .int .u8 o, .bool on] w fun e w' => e = .returned (.tuple #[.slice none 0 0, .int .i64 1]) ∧ w = w' := by
  have HIS := hid (fun W => isSide_no side hs W)
  clear hs
  go_enter Try.func18, Try.ntmps18
  go_wp2_with fail
  with_reducible refine (HIS.out _).mono ?_
  rintro e w0 ⟨rfl, rfl⟩
  go_wp2
  go_ret2
  exact ⟨rfl, rfl⟩
theorem ask_any (g : Nat) (ag : Nat → Bool) (st : Nat → Int) (side : Int) (hs : side = 0 ∨ side = 1) (o : Nat) (ho : o < 256) (on : Bool) (w : World) (hM : Mach w g ag st) (ha : (askN (st (idx side o)) on).2.2 = true) : Calls Try.prog 18 #[.pointer (some ⟨g, 0, none⟩), .int .i64 side, .int .u8 o, .bool on] w (TookE g ag st side o (askN (st (idx side o)) on).1 (askN (st (idx side o)) on).2.1 0 w) := by
  rcases hs with rfl | rfl
  · rw [idx_0] at ha ⊢; exact ask_0 g ag st o ho on w hM ha
  · rw [idx_1] at ha ⊢; exact ask_1 g ag st o ho on w hM ha
theorem ask_no (g : Nat) (ag : Nat → Bool) (st : Nat → Int) (side : Int) (hs : side = 0 ∨ side = 1) (o : Nat) (ho : o < 256) (on : Bool) (w : World) (hM : Mach w g ag st) (ha : (askN (st (idx side o)) on).2.2 = false) : Calls Try.prog 18 #[.pointer (some ⟨g, 0, none⟩), .int .i64 side, .int .u8 o, .bool on] w fun e w' => e = .returned (.tuple #[.slice none 0 0, .int .i64 6]) ∧ Below w.heap.size w w' := by
  rcases hs with rfl | rfl
  · rw [idx_0] at ha; exact ask_no_0 g ag st o ho on w hM ha
  · rw [idx_1] at ha; exact ask_no_1 g ag st o ho on w hM ha
end Go.Proofs.Ytdpfjbpfafekfaa
