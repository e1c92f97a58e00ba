/-
  The law's awake.
-/
import Derived.Test.YtdpfjbpfafekfaaNt
namespace Go.Proofs.Ytdpfjbpfafekfaa
open Go.RowKit Go.Lib

set_option maxRecDepth 100000 in
set_option maxHeartbeats 2000000 in
theorem nawake_true (w : World) : Calls Try.prog 32 #[] w fun e w' => e = .returned (.bool true) ∧ Below w.heap.size w w' := by
  have HL := hid (own_lit w #[.int .u8 2] 1 [2] (fun q hq => by simp at hq; omega) rfl rfl (by omega) w.heap.size rfl)
  have HB0 := hid (bal (Below.refl w.heap.size w) (.cells #[.int .u8 2] 5))
  have HN := hid (new_ok_none ⟨#[73, 66, 77, 45, 51, 50, 55, 56, 45, 50, 45, 69]⟩ ⟨#[]⟩ (some ⟨w.heap.size, 0, none⟩) 1 1 [2] _ HL.out.rdg rfl (by omega) (by decide) (by decide) rfl (by decide) (by decide))
  go_enter Try.func32, Try.ntmps32
  go_wp2_with fail
  with_reducible refine HN.out.mono ?_
  rintro e w1 ⟨g, sv, rfl, hE, hb, hg, hk⟩
  have HL2 := hid (own_lit w1 #[.int .u8 8, .int .u8 2] 2 [8, 2] (fun q hq => by simp at hq; omega) rfl rfl (by omega) w1.heap.size rfl)
  have HB1 := hid (below_t HB0.out hb)
  have hgl := hE.lt
  have hgb : w.heap.size ≤ g := Nat.le_trans HB0.out.size hg
  have HH := hid (show Calls Try.prog 38 #[.pointer (some ⟨g, 0, none⟩), .int .u8 40, .slice (some ⟨w1.heap.size, 0, none⟩) 2 2] (w1.alloc (.cells #[.int .u8 8, .int .u8 2] 5)) (HDone g sv ⟨#[73, 66, 77, 45, 51, 50, 55, 56, 45, 50, 45, 69]⟩ ⟨#[]⟩ [2] 1 ⟨#[]⟩ [] [2, 7, 73, 66, 77, 45, 51, 50, 55, 56, 45, 50, 45, 69] 0 (w1.alloc (.cells #[.int .u8 8, .int .u8 2] 5))) from by
    have := hear_any g sv (.slice none 0 0) ⟨#[73, 66, 77, 45, 51, 50, 55, 56, 45, 50, 45, 69]⟩ ⟨#[]⟩ [2] 0 ⟨#[]⟩ [] _ (hE.step (bal (Below.refl w1.heap.size w1) (.cells #[.int .u8 8, .int .u8 2] 5))) (by decide) (by decide) (by decide) (by decide) (by decide) (some ⟨w1.heap.size, 0, none⟩) 2 2 [8, 2] HL2.out.rdg rfl (by omega) (fun q => by simp [mem_blkV, Value.ownBlock] at q; omega) 40
    rw [show stH [2] 0 40 [8, 2] = 1 by decide, show devH ⟨#[]⟩ 0 40 [8, 2] = ⟨#[]⟩ from rfl, show agH [2] [] 0 40 [8, 2] = [] by decide, show ansH ⟨#[73, 66, 77, 45, 51, 50, 55, 56, 45, 50, 45, 69]⟩ ⟨#[]⟩ [2] 0 40 [8, 2] = [2, 7, 73, 66, 77, 45, 51, 50, 55, 56, 45, 50, 45, 69] by decide, show erH 0 40 [8, 2] = 0 by decide] at this
    exact this)
  clear hE hb hg hk HN HL HB0
  go_wp2_with fail
  with_reducible refine HH.out.mono ?_
  rintro e w2 ⟨v, av', rfl, ho, hE2, hM, hk2⟩
  have kk := reads_conv ho.reads
  rw [show strOfNums [2, 7, 73, 66, 77, 45, 51, 50, 55, 56, 45, 50, 45, 69] = ⟨#[2, 7, 73, 66, 77, 45, 51, 50, 55, 56, 45, 50, 45, 69]⟩ by decide] at kk
  have HST := hid (state_any g sv av' ⟨#[73, 66, 77, 45, 51, 50, 55, 56, 45, 50, 45, 69]⟩ ⟨#[]⟩ [2] 1 ⟨#[]⟩ [] w2 hE2)
  have HB2 := hid (show Below w.heap.size w w2 from HB1.out.trans ((bal (Below.refl w1.heap.size w1) (.cells #[.int .u8 8, .int .u8 2] 5)).mono HB1.out.size |>.trans (hM.toBelow (by have := HB1.out.size; simp; omega) (fun k hk => by rw [List.mem_singleton.1 hk]; exact hgb))))
  obtain ⟨vx, vn, vc, rfl⟩ := own_slice ho
  clear ho hE2 hM hk2 HH HB1
  go_wp2_with fail
  with_reducible refine HST.out.mono ?_
  rintro e w3 ⟨rfl, rfl⟩
  go_wp2
  go_ret
  exact ⟨rfl, HB2.out⟩
end Go.Proofs.Ytdpfjbpfafekfaa
