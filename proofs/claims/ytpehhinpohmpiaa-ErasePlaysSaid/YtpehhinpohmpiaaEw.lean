/-
  The law's edits: End, Delete, Insert.
-/
import Derived.Test.YtpehhinpohmpiaaEv
namespace Go.Proofs.Ytpehhinpohmpiaa
open Go.RowKit Go.Lib Go.Deep

section
variable {b g : Nat} {s : Spc}
set_option maxRecDepth 100000 in
set_option maxHeartbeats 4000000 in
theorem do14_any (k : Nat) (hk : k = 3 ∨ k = 4 ∨ k = 5) (p q : Int) (hp : I64 p) (c : Cel) (hc : c.OK) (hf : FitC s) (w : World) (h : SpM w b g s) : Calls Try.prog 15 #[.pointer (some ⟨b, 0, none⟩), .agg #[.int .u8 k, .int .i64 p, .int .i64 q, .int .u8 c.ch, .bool c.at_, .int .u8 c.fa, .int .u8 c.hi, .int .u8 c.co, .int .u8 c.se]] w fun e w' => (∃ v, e = .returned v) ∧ (∃ t, SpM w' b g t ∧ Safe s t p ∧ (openB s p = false → t = s)) ∧ Moved w w' [b, g] [b, g] := by
  have hok := h.ok
  have HH := hid h
  have HEN := hid (fun W h => callsIn_wide.1 (end_in (b := b) (g := g) (s := s) 10 (by omega) p hp W h))
  have HDE := hid (fun W h => callsIn_wide.1 (delete_in (b := b) (g := g) (s := s) 8 (by omega) p hp W h))
  have HIN := hid (fun W h => insert_any (b := b) (g := g) (s := s) p hp c.ch hc.ch W h)
  have HS1 := hid (end_safe hok hf p)
  have HS2 := hid (del_safe hok hf p)
  have HS3 := hid (ins_safe hok hf p c.ch)
  have HS0 := hid (Near.refl s p).safe
  have HIO := hid (show openB s p = false → insB s p = false from fun q => by unfold insB; rw [q]; rfl)
  obtain ⟨x0, x1, x2, x3, x4, x5⟩ := c
  dsimp only at HIN HS3 ⊢
  obtain ⟨W0, hW0⟩ : ∃ W0, w.alloc (.cells #[.int .u8 k, .int .i64 p, .int .i64 q, .int .u8 x0, .bool x1, .int .u8 x2, .int .u8 x3, .int .u8 x4, .int .u8 x5] 32) = W0 := ⟨_, rfl⟩
  have z0 : W0.cell? ⟨w.heap.size, 0, none⟩ = some (.int .u8 k) := by rw [← hW0]; simp [go_sem]
  have z1 : W0.cell? ⟨w.heap.size, 1, none⟩ = some (.int .i64 p) := by rw [← hW0]; simp [go_sem]
  have z3 : W0.cell? ⟨w.heap.size, 3, none⟩ = some (.int .u8 x0) := by rw [← hW0]; simp [go_sem]
  have hb0 : Below w.heap.size w W0 := by rw [← hW0]; exact bal (Below.refl _ _) _
  have lz := World.block_lt_of_cell? W0 _ z0
  have HB0 := hid hb0
  have HW := hid hW0
  clear h hc hp hf hb0 hW0 hok
  rcases hk with rfl | rfl | rfl
  · have HWk := hid (show w.alloc (.cells #[.int .u8 3, .int .i64 p, .int .i64 q, .int .u8 x0, .bool x1, .int .u8 x2, .int .u8 x3, .int .u8 x4, .int .u8 x5] 32) = W0 from HW.out)
    replace z0 : W0.cell? ⟨w.heap.size, 0, none⟩ = some (.int .u8 3) := z0
    cases ho : openB s p
    · rw [ho] at HEN
      clear HW
      go_enter Try.func15, Try.ntmps15
      go_wp2_with fail
      try simp only [HWk.out]
      with_reducible refine (HEN.out _ (HH.out.below HB0.out)).mono ?_
      rintro e w1 ⟨rfl, hs, hm⟩
      go_wp2
      go_ret
      refine ⟨⟨_, rfl⟩, ⟨s, by simpa using hs, HS0.out, fun _ => rfl⟩, (Moved.below HB0.out _).trans hm⟩
    · rw [ho] at HEN
      clear HW
      go_enter Try.func15, Try.ntmps15
      go_wp2_with fail
      try simp only [HWk.out]
      with_reducible refine (HEN.out _ (HH.out.below HB0.out)).mono ?_
      rintro e w1 ⟨rfl, hs, hm⟩
      go_wp2
      go_ret
      refine ⟨⟨_, rfl⟩, ⟨endS s p, by simpa using hs, HS1.out, fun q => by cases q⟩, (Moved.below HB0.out _).trans hm⟩
  · have HWk := hid (show w.alloc (.cells #[.int .u8 4, .int .i64 p, .int .i64 q, .int .u8 x0, .bool x1, .int .u8 x2, .int .u8 x3, .int .u8 x4, .int .u8 x5] 32) = W0 from HW.out)
    replace z0 : W0.cell? ⟨w.heap.size, 0, none⟩ = some (.int .u8 4) := z0
    cases ho : openB s p
    · rw [ho] at HDE
      clear HW
      go_enter Try.func15, Try.ntmps15
      go_wp2_with fail
      try simp only [HWk.out]
      with_reducible refine (HDE.out _ (HH.out.below HB0.out)).mono ?_
      rintro e w1 ⟨rfl, hs, hm⟩
      go_wp2
      go_ret
      refine ⟨⟨_, rfl⟩, ⟨s, by simpa using hs, HS0.out, fun _ => rfl⟩, (Moved.below HB0.out _).trans hm⟩
    · rw [ho] at HDE
      clear HW
      go_enter Try.func15, Try.ntmps15
      go_wp2_with fail
      try simp only [HWk.out]
      with_reducible refine (HDE.out _ (HH.out.below HB0.out)).mono ?_
      rintro e w1 ⟨rfl, hs, hm⟩
      go_wp2
      go_ret
      refine ⟨⟨_, rfl⟩, ⟨delS s p, by simpa using hs, HS2.out, fun q => by cases q⟩, (Moved.below HB0.out _).trans hm⟩
  · have HWk := hid (show w.alloc (.cells #[.int .u8 5, .int .i64 p, .int .i64 q, .int .u8 x0, .bool x1, .int .u8 x2, .int .u8 x3, .int .u8 x4, .int .u8 x5] 32) = W0 from HW.out)
    replace z0 : W0.cell? ⟨w.heap.size, 0, none⟩ = some (.int .u8 5) := z0
    cases ho : insB s p
    · rw [ho] at HIN
      clear HW
      go_enter Try.func15, Try.ntmps15
      go_wp2_with fail
      try simp only [HWk.out]
      with_reducible refine (HIN.out _ (HH.out.below HB0.out)).mono ?_
      rintro e w1 ⟨rfl, hs, hm⟩
      go_wp2
      go_ret
      refine ⟨⟨_, rfl⟩, ⟨s, by simpa using hs, HS0.out, fun _ => rfl⟩, (Moved.below HB0.out _).trans hm⟩
    · rw [ho] at HIN
      clear HW
      go_enter Try.func15, Try.ntmps15
      go_wp2_with fail
      try simp only [HWk.out]
      with_reducible refine (HIN.out _ (HH.out.below HB0.out)).mono ?_
      rintro e w1 ⟨rfl, hs, hm⟩
      go_wp2
      go_ret
      refine ⟨⟨_, rfl⟩, ⟨insS s p x0, by simpa using hs, HS3.out, fun q => by rw [HIO.out q] at ho; cases ho⟩, (Moved.below HB0.out _).trans hm⟩
end
end Go.Proofs.Ytpehhinpohmpiaa
