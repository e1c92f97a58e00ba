/-
  bytes.Clone and Flip, over bytes of one's own.
-/
import Derived.Test.YtdpfjbpfafekfaaDoorBd
import Derived.Lib.LazyBuf
namespace Go.Proofs.YtdpfjbpfafekfaaDoor
open Go.RowKit Go.Lib

/-- A copy is there. -/
def CloneDone (xs : List Int) (w : World) (e : Ending) (w' : World) : Prop := ∃ v, e = .returned v ∧ OwnB w' v xs ∧ Below w.heap.size w w' ∧ ∀ k ∈ blkV v, w.heap.size ≤ k
set_option maxRecDepth 100000 in
theorem clone_any (v : Value) (xs : List Int) (w : World) (h : Reads w v xs) (hlen : xs.length ≤ 140737488355328) : Calls Tryd.prog 22 #[v] w (CloneDone xs w) := by
  obtain ⟨hb, ⟨rfl, rfl⟩ | ⟨a, cap, rfl, hlc, hcm, hcell⟩⟩ := h
  · clear hb hlen
    have hnil := fun w' => run_eql_slice_nil (P := Tryd.prog) w' 22 5 none 0 0 Tryd.underlying22
    go_enter Tryd.func22, Tryd.ntmps22
    go_wp2
    go_ret
    exact ⟨_, rfl, OwnB.nil w, Below.refl _ _, fun k hk => by cases hk⟩
  · obtain ⟨i0, hi, hz0, hz1, hz2⟩ := info_parts info5
    have HB := hid hb
    have HC := hid (reads_src (reads_below ⟨hb, .inr ⟨a, cap, rfl, hlc, hcm, hcell⟩⟩ ((Below.refl w.heap.size w).alloc (Nat.le_refl _) (.cells #[] 5)))).2
    have HM : Hid (0 + xs.length ≤ maxLen) := by show _ ≤ _; omega
    have HL : Hid ((0 + xs.length) * 1 ≤ 140737488355328) := by show _ ≤ _; omega
    have HLL : Hid ((xs.map (Value.int .u8)).length = xs.length * 1) := by show _ = _; rw [List.length_map]; omega
    clear hcell hb hlc hcm hlen
    obtain ⟨L, hL⟩ : ∃ L, L = xs.length := ⟨_, rfl⟩
    rw [← hL] at HM HL HLL ⊢
    have HLE := hid hL
    clear hL
    have hnil := fun w' => run_eql_slice_nil (P := Tryd.prog) w' 22 5 (some a) L cap Tryd.underlying22
    go_enter Tryd.func22, Tryd.ntmps22
    go_wp2_with (first
      | (at_builtin; refine wpList_append_own _ rfl _ _ 22 rfl w.heap.size 5 i0 (.int .u8 0) 1 1 Tryd.underlying22 hi hz0 hz1 hz2 rfl (by decide) _ 0 [] rfl (World.ownsRow_lit _ #[] 0 (Nat.le_refl _) (Nat.zero_le _) rfl) a L cap (xs.map (Value.int .u8)) rfl HLL.out HC.out (ints_oneCell .u8 _) HM.out HL.out (by simp) ?_; intro v1 w1 hown1 hgrow1 hnil1; have HO := hid hown1; have HG := hid hgrow1; have HNL := hid hnil1; clear hown1 hgrow1 hnil1))
    go_ret
    refine ⟨_, rfl, ⟨HB.out, ?_⟩, ((Below.refl _ _).alloc (Nat.le_refl _) _).grown HG.out (by simp) (fun k hk => by have e : w.heap.size = k := Option.some.inj hk; omega), fun k hk => (HO.out.lt k (mem_blkV.1 hk)).1⟩
    have := HO.out
    rw [Nat.zero_add, List.nil_append] at this
    rw [← HLE.out]
    exact this.mono (Nat.zero_le _)
end Go.Proofs.YtdpfjbpfafekfaaDoor
