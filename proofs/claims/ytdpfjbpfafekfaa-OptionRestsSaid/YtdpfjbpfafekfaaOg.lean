/-
  awake, of layer 8: the document's examples.
-/
import Derived.Test.YtdpfjbpfafekfaaOf
namespace Go.Proofs.Ytdpfjbpfafekfaa
open Go.RowKit Go.Lib

theorem Msg.one {w : World} {v : Value} {side say o : Int} (h : Msg w v side say o) (hs : say ≠ 0) : ∃ b, v = .slice (some ⟨b, 0, none⟩) 1 1 ∧ w.cell? ⟨b, 0, none⟩ = some (.int .u8 (verbN side say)) ∧ w.cell? ⟨b, 1, none⟩ = some (.int .u8 o) := by
  rcases h with ⟨h, _⟩ | ⟨_, h⟩
  · exact absurd h hs
  · exact h
theorem Msg.zero {w : World} {v : Value} {side say o : Int} (h : Msg w v side say o) (hs : say = 0) : v = .slice none 0 0 := by
  rcases h with ⟨_, h⟩ | ⟨h | h, _⟩
  · exact h
  · omega
  · omega
theorem mach_new_below {w w1 : World} {us hs : List Int} {e : Ending} (h : NewM us hs w e w1) : Below w.heap.size w w1 := h.2.2
theorem Moved.grow {w0 w w' : World} {g : Nat} (hb : Below w0.heap.size w0 w) (m : Moved w w' [g] [g]) (hg : w0.heap.size ≤ g) : Below w0.heap.size w0 w' := hb.trans (m.toBelow hb.size (fun k h => by rw [List.mem_singleton.1 h]; exact hg))
set_option maxRecDepth 100000 in
set_option maxHeartbeats 2000000 in
theorem oawake_true (w : World) : Calls Try.prog 11 #[] w fun e w' => e = .returned (.bool true) ∧ Below w.heap.size w w' := by
  have HL : Hid (OwnB (w.alloc (.cells #[.int .u8 25] 5)) (.slice (some ⟨w.heap.size, 0, none⟩) 1 1) [25]) := own_lit w _ 1 [25] (by decide) rfl rfl (by omega) _ rfl
  have HN := hid (new_any _ (.slice none 0 0) [25] [] _ HL.out.reads (reads_nil _) (by simp) (by simp))
  have H1 := hid (fun W g (h : Mach W g (agN [25] []) (fun _ => 0)) => show Calls Try.prog 16 #[.pointer (some ⟨g, 0, none⟩), .int .u8 253, .int .u8 25] W (TookE g _ _ 0 25 1 1 0 W) from hear_253 g _ _ 25 (by omega) W h)
  have H2 := hid (fun W g (h : Mach W g (agN [25] []) (upd (fun _ => 0) 25 1)) => show Calls Try.prog 16 #[.pointer (some ⟨g, 0, none⟩), .int .u8 253, .int .u8 25] W (TookE g _ _ 0 25 1 0 0 W) from hear_253 g _ _ 25 (by omega) W h)
  have H3 := hid (fun W g (h : Mach W g (agN [25] []) (upd (upd (fun _ => 0) 25 1) 25 1)) => show Calls Try.prog 16 #[.pointer (some ⟨g, 0, none⟩), .int .u8 253, .int .u8 1] W (TookE g _ _ 0 1 0 2 0 W) from hear_253 g _ _ 1 (by omega) W h)
  have H4 := hid (fun W g (h : Mach W g (agN [25] []) (upd (upd (upd (fun _ => 0) 25 1) 25 1) 1 0)) => show Calls Try.prog 26 #[.pointer (some ⟨g, 0, none⟩), .int .i64 0, .int .u8 25] W (fun e w' => e = .returned (.bool true) ∧ W = w') from on_any g _ _ 0 (by simp) 25 (by omega) W h)
  have HB0 := hid (bal (Below.refl w.heap.size w) (.cells #[.int .u8 25] 5))
  have HG := hid (show w.heap.size ≤ (w.alloc (.cells #[.int .u8 25] 5)).heap.size by simp)
  clear HL
  go_enter Try.func11, Try.ntmps11
  go_wp2_with fail
  with_reducible refine HN.out.mono ?_
  rintro e w1 ⟨rfl, hm1, hb1⟩
  have HM1 := hid hm1
  have HB1 := hid (below_t HB0.out hb1)
  obtain ⟨g, hg⟩ : ∃ g, g = (w.alloc (.cells #[.int .u8 25] 5)).heap.size := ⟨_, rfl⟩
  rw [← hg] at HM1 HG ⊢
  clear hm1 hb1 hg HN
  go_wp2_with fail
  with_reducible refine (H1.out _ _ HM1.out).mono ?_
  rintro e w2 ⟨v2, rfl, v2', hv, hm, hM, hV, hk⟩
  cases hv
  obtain ⟨b2, rfl, a0, a1⟩ := hm.one (by decide)
  have HM2 := hid hM
  have HB2 := hid (Moved.grow HB1.out hV HG.out)
  have HK2 := hid (show b2 ≠ g ∧ b2 < w2.heap.size from ⟨fun e => by have := hk b2 (by simp [blkV, Value.ownBlock]); have := HM1.out.lt; omega, World.block_lt_of_cell? w2 _ a0⟩)
  clear hm hM hV hk
  go_wp2_with fail
  with_reducible refine (H2.out _ _ HM2.out).mono ?_
  rintro e w3 ⟨v3, rfl, v3', hv, hm, hM, hV, hk⟩
  cases hv
  obtain rfl := hm.zero (by decide)
  have a0 := cell_moved hV a0 (fun h => HK2.out.1 (List.mem_singleton.1 h))
  have a1 := cell_moved hV a1 (fun h => HK2.out.1 (List.mem_singleton.1 h))
  have HM3 := hid hM
  have HB3 := hid (Moved.grow HB2.out hV HG.out)
  clear hm hM hV hk
  go_wp2_with fail
  with_reducible refine (H3.out _ _ HM3.out).mono ?_
  rintro e w4 ⟨v4, rfl, v4', hv, hm, hM, hV, hk⟩
  cases hv
  obtain ⟨b4, rfl, c0, c1⟩ := hm.one (by decide)
  have a0 := cell_moved hV a0 (fun h => HK2.out.1 (List.mem_singleton.1 h))
  have a1 := cell_moved hV a1 (fun h => HK2.out.1 (List.mem_singleton.1 h))
  have HM4 := hid hM
  have HB4 := hid (Moved.grow HB3.out hV HG.out)
  clear hm hM hV hk
  rw [show verbN 0 1 = 251 from rfl] at a0
  rw [show verbN 0 2 = 252 from rfl] at c0
  go_wp2_with fail
  with_reducible refine (H4.out _ _ HM4.out).mono ?_
  rintro e w5 ⟨rfl, rfl⟩
  go_wp2
  go_ret
  exact ⟨rfl, HB4.out⟩
end Go.Proofs.Ytdpfjbpfafekfaa
