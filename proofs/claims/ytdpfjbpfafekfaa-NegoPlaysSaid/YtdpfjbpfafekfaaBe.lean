/-
  bytes.Clone and Flip, over bytes of one's own.
-/
import Derived.Test.YtdpfjbpfafekfaaBd
import Derived.Lib.LazyBuf
namespace Go.Proofs.Ytdpfjbpfafekfaa
open Go.RowKit Go.Lib

/-- A copy is there. -/
def CloneDone (xs : List Int) (w : World) (e : Ending) (w' : World) : Prop := ∃ v, e = .returned v ∧ OwnB w' v xs ∧ Below w.heap.size w w' ∧ ∀ k ∈ blkV v, w.heap.size ≤ k
set_option maxRecDepth 100000 in
theorem clone_any (v : Value) (xs : List Int) (w : World) (h : Reads w v xs) (hlen : xs.length ≤ 140737488355328) : Calls Try.prog 62 #[v] w (CloneDone xs w) := by
  obtain ⟨hb, ⟨rfl, rfl⟩ | ⟨a, cap, rfl, hlc, hcm, hcell⟩⟩ := h
  · clear hb hlen
    have hnil := fun w' => run_eql_slice_nil (P := Try.prog) w' 22 5 none 0 0 Try.underlying22
    go_enter Try.func62, Try.ntmps62
    go_wp2
    go_ret
    exact ⟨_, rfl, OwnB.nil w, Below.refl _ _, fun k hk => by cases hk⟩
  · obtain ⟨i0, hi, hz0, hz1, hz2⟩ := info_parts info5
    have HB := hid hb
    have HC := hid (reads_src (reads_below ⟨hb, .inr ⟨a, cap, rfl, hlc, hcm, hcell⟩⟩ ((Below.refl w.heap.size w).alloc (Nat.le_refl _) (.cells #[] 5)))).2
    have HM : Hid (0 + xs.length ≤ maxLen) := by show _ ≤ _; omega
    have HL : Hid ((0 + xs.length) * 1 ≤ 140737488355328) := by show _ ≤ _; omega
    have HLL : Hid ((xs.map (Value.int .u8)).length = xs.length * 1) := by show _ = _; rw [List.length_map]; omega
    clear hcell hb hlc hcm hlen
    obtain ⟨L, hL⟩ : ∃ L, L = xs.length := ⟨_, rfl⟩
    rw [← hL] at HM HL HLL ⊢
    have HLE := hid hL
    clear hL
    have hnil := fun w' => run_eql_slice_nil (P := Try.prog) w' 22 5 (some a) L cap Try.underlying22
    go_enter Try.func62, Try.ntmps62
    go_wp2_with (first
      | (at_builtin; refine wpList_append_own _ rfl _ _ 22 rfl w.heap.size 5 i0 (.int .u8 0) 1 1 Try.underlying22 hi hz0 hz1 hz2 rfl (by decide) _ 0 [] rfl (World.ownsRow_lit _ #[] 0 (Nat.le_refl _) (Nat.zero_le _) rfl) a L cap (xs.map (Value.int .u8)) rfl HLL.out HC.out (ints_oneCell .u8 _) HM.out HL.out (by simp) ?_; intro v1 w1 hown1 hgrow1 hnil1; have HO := hid hown1; have HG := hid hgrow1; have HNL := hid hnil1; clear hown1 hgrow1 hnil1))
    go_ret
    refine ⟨_, rfl, ⟨HB.out, ?_⟩, ((Below.refl _ _).alloc (Nat.le_refl _) _).grown HG.out (by simp) (fun k hk => by have e : w.heap.size = k := Option.some.inj hk; omega), fun k hk => (HO.out.lt k (mem_blkV.1 hk)).1⟩
    have := HO.out
    rw [Nat.zero_add, List.nil_append] at this
    rw [← HLE.out]
    exact this.mono (Nat.zero_le _)
set_option maxRecDepth 100000 in
set_option maxHeartbeats 2000000 in
theorem flip_any (v : Value) (zs : List Int) (w : World) (h : w.ownsRow 0 5 1 v zs.length (zs.map (Value.int .u8))) (hl : zs.length ≤ 1000000) : Calls Try.prog 36 #[v] w fun e w' => e = .returned (.tuple #[]) ∧ Moved w w' (blkV v) (blkV v) := by
  obtain ⟨n, hn⟩ : ∃ n, n = zs.length := ⟨_, rfl⟩
  rw [← hn] at h hl
  rcases h.2 with ⟨rfl, e⟩ | ⟨g, cap, cur, rfl, hg, hh, h1, h2, h3, h4⟩
  · clear h hn
    subst e
    go_enter Try.func36, Try.ntmps36
    go_wp2
    go_loopw [5] (fun i w' => i = .int .i64 0 ∧ w' = w) (fun _ _ => 0)
    case atStart => exact ⟨rfl, rfl⟩
    case round =>
      obtain ⟨rfl, rfl⟩ := hrel
      go_wp2
      go_end0
      exact ⟨rfl, Moved.refl _ _⟩
  · have HO := hid (show ∃ ys : List Int, ys.length = n ∧ w.ownsRow 0 5 1 (.slice (some ⟨g, 0, none⟩) n cap) n (ys.map (Value.int .u8)) from ⟨zs, hn.symm, h⟩)
    clear h hn hg hh h1 h2 h3 h4
    go_enter Try.func36, Try.ntmps36
    go_wp2
    go_loopw [5] (fun i w' => ∃ k : Nat, k ≤ n ∧ i = .int .i64 k ∧ Hid (∃ ys : List Int, ys.length = n ∧ w'.ownsRow 0 5 1 (.slice (some ⟨g, 0, none⟩) n cap) n (ys.map (Value.int .u8))) ∧ Hid (Moved w w' (blkV (.slice (some ⟨g, 0, none⟩) n cap)) (blkV (.slice (some ⟨g, 0, none⟩) n cap)))) (fun i _ => n - (intOf i).toNat)
    case atStart => exact ⟨0, Nat.zero_le _, rfl, HO.out, Moved.refl _ _⟩
    case round =>
      obtain ⟨k, hk, rfl, HY, HM⟩ := hrel
      by_cases hlt : k < n
      · obtain ⟨ys, hyl, hy⟩ := HY.out
        have c0 : wr.cell? ⟨g, k, none⟩ = some (.int .u8 (ys.getD k 0)) := by
          rw [World.ownsRow.cellAt hy k (by omega), List.getElem?_map, List.getD, List.getElem?_eq_getElem (by omega)]
          rfl
        have f0 := World.ownsRow.frozenAt hy k
        have HS : Hid (∀ z : Int, (wr.setCell ⟨g, k, none⟩ (.int .u8 z)).ownsRow 0 5 1 (.slice (some ⟨g, 0, none⟩) n cap) n ((ys.set k z).map (Value.int .u8))) := fun z => by
          have q := (World.ownsRow.stored hy k (.int .u8 z)).1
          rw [List.map_set]
          exact q
        have HL := hid hyl
        have hki : (k : Int) < n := by omega
        clear hy hyl HY
        generalize ys.getD k 0 = y at c0
        go_wp2
        go_roundw
        case rel => exact ⟨k + 1, by omega, by go_num, ⟨ys.set k _, by rw [List.length_set]; exact HL.out, HS.out _⟩, HM.out.trans (Moved.set (by simp [blkV, Value.ownBlock]) _ _)⟩
        case measure => simp [intOf]; omega
      · go_wp2
        go_end0
        exact ⟨rfl, HM.out⟩
end Go.Proofs.Ytdpfjbpfafekfaa
