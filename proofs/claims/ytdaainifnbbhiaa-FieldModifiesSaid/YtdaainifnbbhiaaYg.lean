/-
  The cells of a space are told one by one.
-/
import Derived.Test.YtdaainifnbbhiaaYf
import Derived.RangeFuncNested
import Derived.RangeFuncBound
import Derived.Shelf.Abstract
import Derived.Shelf.RegionOpen
import Derived.OwnWalkIn
import Derived.TacticsInMore
import Derived.LoopNIn
import Derived.LoopIn
namespace Go.Proofs.Ytdaainifnbbhiaa
open Go.RowKit Go.Lib Go.Shelf
attribute [local go_sem] Oper.semAt_some

abbrev encA (x : Nat × Cel) : Array Value := #[.int .i64 x.1, x.2.v]
/-- The k-th cell of the space at b. -/
def elA (b N : Nat) (k : Nat) (x : Nat × Cel) (V : World) : Prop := x.1 = k ∧ ∃ g s, SpM V b g s ∧ s.L.length = N ∧ s.cel k = x.2
/-- The space at b, of N cells, whose pointer lies in the box bx. -/
def RA (bx b N : Nat) (V : World) : Prop := V.cell? ⟨bx, 0, none⟩ = some (.pointer (some ⟨b, 0, none⟩)) ∧ ∃ g s, SpM V b g s ∧ s.L.length = N
set_option maxRecDepth 100000 in
set_option maxHeartbeats 2000000 in
theorem all_seq (n : Nat) (_hn : 1 ≤ n) (bx b N : Nat) (hN : N ≤ 3564) (W : World) : SeqF Fence.wide n Try.prog 94 #[.pointer (some ⟨bx, 0, none⟩)] encA (elA b N) N (RA bx b N) W := fun l I Ix _ _ hR h0 hY => by
  obtain ⟨hb, _⟩ := hR _ _ _ h0
  have hlt : bx < W.heap.size := World.block_lt_of_cell? W _ hb
  have HY := hid hY
  have HR := hid hR
  have H0 := hid h0
  clear hY hR h0
  refine callsIn_of_wp Try.func94 rfl trivial ?_ rfl
  simp only [Try.ntmps94, List.size_toArray, List.length_cons, List.length_nil, Nat.reduceAdd, Nat.reduceSub, Array.replicate_succ, Array.replicate_zero, List.push_toArray, List.append_toArray, List.nil_append, List.cons_append]
  gi_wp2
  gi_loopw [3] (fun i wr => ∃ k : Nat, k ≤ N ∧ i = .int .i64 k ∧ Hid (∃ S, I k S wr) ∧ W.heap.size ≤ wr.heap.size) (fun i _ => N - (intOf i).toNat)
  case atStart => exact ⟨0, by omega, rfl, ⟨_, H0.out⟩, Nat.le_refl _⟩
  case round =>
    obtain ⟨k, hk, rfl, ⟨S, hi⟩, hsz⟩ := hrel
    clear hb hlt
    obtain ⟨hb, g, s, hs, hl⟩ := HR.out _ _ _ hi
    have hlt : bx < wr.heap.size := World.block_lt_of_cell? wr _ hb
    have h2 := hs.h2
    have hbl := hs.lt.1
    have hgl := hs.lt.2
    rw [hl] at h2
    by_cases hlt2 : k < N
    · obtain ⟨c, hc⟩ : ∃ c, s.cel k = c := ⟨_, rfl⟩
      obtain ⟨a0, a1, a2, a3, a4, a5⟩ := hs.row.six k (by omega) c hc
      obtain ⟨f1, t1, a6, b1, hy, hr⟩ := HY.out k (k, c) S wr hlt2 ⟨rfl, g, s, hs, hl, hc⟩ hi hsz
      obtain ⟨x0, x1, x2, x3, x4, x5⟩ := c
      dsimp only at a0 a1 a2 a3 a4 a5 hy
      have HRR := hid hr
      have hki : (k : Int) < N := by omega
      clear hr hs hc hi
      gi_wp2
      refine HRR.out.mono ?_
      rintro e W1 ⟨S', ht, ⟨rfl, hj⟩ | ⟨rfl, hj⟩⟩
      · have HJ := hid (show ∃ S, I (k + 1) S W1 from ⟨S', hj⟩)
        have hsz1 := Nat.le_trans hsz ht.size
        clear hj ht h2 a0 a1 a2 a3 a4 a5 hb
        gi_wp2
        go_roundw
        case rel => exact ⟨k + 1, by omega, by go_num, HJ, hsz1⟩
        case measure => simp [intOf]; omega
      · have HJ := hid hj
        clear hj ht h2 a0 a1 a2 a3 a4 a5 hb
        gi_wp2
        refine bodyPost_ret (results_none rfl _ _ _) rfl ?_
        exact ⟨⟨_, rfl⟩, .inr ⟨k, S', hlt2, HJ.out⟩⟩
    · obtain rfl : k = N := by omega
      clear hs
      gi_wp2
      go_end0
      exact ⟨⟨_, rfl⟩, .inl ⟨S, hi⟩⟩
end Go.Proofs.Ytdaainifnbbhiaa
