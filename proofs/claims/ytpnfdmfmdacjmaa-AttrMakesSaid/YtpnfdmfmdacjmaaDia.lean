/-
  What isn't the same between two cells: the reference's Diff.
-/
import Derived.Test.YtpnfdmfmdacjmaaPra
import Derived.Deep.DeepCutAuto
namespace Go.Proofs.Ytpnfdmfmdacjmaa
open Go.RowKit Go.Lib

/-- What isn't the same. -/
def diffL (h c s h' c' s' : Nat) : List (Nat × Nat) := (if h = h' then [] else [(65, h')]) ++ ((if c = c' then [] else [(66, c')]) ++ (if s = s' then [] else [(67, s')]))
/-- Pairs are there. -/
def PairsDone (ps : List (Nat × Nat)) (w : World) (e : Ending) (w' : World) : Prop := ∃ v, e = .returned v ∧ PairsIn w' v ps ∧ Below w.heap.size w w' ∧ ∀ k, v.ownBlock = some k → w.heap.size ≤ k
theorem pairs_done {t : TypeId} {ps : List (Nat × Nat)} {w w' : World} {v : Value} {B n : Nat} {cs : List Value} (hn : n = ps.length) (hc : cs = cellsP ps) (h : w'.ownsRow B t 2 v n cs) (hb : Below w.heap.size w w') (hB : w.heap.size ≤ B) : PairsDone ps w (.returned v) w' := by
  subst hn hc
  exact ⟨v, rfl, pairs_owned h, hb, fun k hk => Nat.le_trans hB (own_ge h k hk)⟩
set_option maxRecDepth 100000 in
set_option maxHeartbeats 2000000 in
theorem rdiff_fff (ch fa ch' fa' : Int) (a a' : Bool) (h c s h' c' s' : Nat) (e0 : h = h') (e1 : c = c') (e2 : s = s') (w : World) : Calls Try.prog 69 #[.agg #[.int .u8 ch, .bool a, .int .u8 fa, .int .u8 h, .int .u8 c, .int .u8 s], .agg #[.int .u8 ch', .bool a', .int .u8 fa', .int .u8 h', .int .u8 c', .int .u8 s']] w (PairsDone [] w) := by
  obtain ⟨i0, hi, hz0, hz1, hz2⟩ := info_parts info78
  subst e0
  subst e1
  subst e2
  go_enter Try.func69, Try.ntmps69
  go_upto_region 2 with fail
  have HB0 := hid (((Below.refl w.heap.size w).alloc (Nat.le_refl _) (.cells #[.int .u8 ch, .bool a, .int .u8 fa, .int .u8 h, .int .u8 c, .int .u8 s] 80)).alloc (by simp) (.cells #[.int .u8 ch', .bool a', .int .u8 fa', .int .u8 h, .int .u8 c, .int .u8 s] 80))
  have a0 : ((w.alloc (.cells #[.int .u8 ch, .bool a, .int .u8 fa, .int .u8 h, .int .u8 c, .int .u8 s] 80)).alloc (.cells #[.int .u8 ch', .bool a', .int .u8 fa', .int .u8 h, .int .u8 c, .int .u8 s] 80)).cell? ⟨w.heap.size, 3, none⟩ = some (.int .u8 h) := by simp [go_sem]
  have b0 : ((w.alloc (.cells #[.int .u8 ch, .bool a, .int .u8 fa, .int .u8 h, .int .u8 c, .int .u8 s] 80)).alloc (.cells #[.int .u8 ch', .bool a', .int .u8 fa', .int .u8 h, .int .u8 c, .int .u8 s] 80)).cell? ⟨w.heap.size + 1, 3, none⟩ = some (.int .u8 h) := by simp [go_sem]
  have a1 : ((w.alloc (.cells #[.int .u8 ch, .bool a, .int .u8 fa, .int .u8 h, .int .u8 c, .int .u8 s] 80)).alloc (.cells #[.int .u8 ch', .bool a', .int .u8 fa', .int .u8 h, .int .u8 c, .int .u8 s] 80)).cell? ⟨w.heap.size, 4, none⟩ = some (.int .u8 c) := by simp [go_sem]
  have b1 : ((w.alloc (.cells #[.int .u8 ch, .bool a, .int .u8 fa, .int .u8 h, .int .u8 c, .int .u8 s] 80)).alloc (.cells #[.int .u8 ch', .bool a', .int .u8 fa', .int .u8 h, .int .u8 c, .int .u8 s] 80)).cell? ⟨w.heap.size + 1, 4, none⟩ = some (.int .u8 c) := by simp [go_sem]
  have a2 : ((w.alloc (.cells #[.int .u8 ch, .bool a, .int .u8 fa, .int .u8 h, .int .u8 c, .int .u8 s] 80)).alloc (.cells #[.int .u8 ch', .bool a', .int .u8 fa', .int .u8 h, .int .u8 c, .int .u8 s] 80)).cell? ⟨w.heap.size, 5, none⟩ = some (.int .u8 s) := by simp [go_sem]
  have b2 : ((w.alloc (.cells #[.int .u8 ch, .bool a, .int .u8 fa, .int .u8 h, .int .u8 c, .int .u8 s] 80)).alloc (.cells #[.int .u8 ch', .bool a', .int .u8 fa', .int .u8 h, .int .u8 c, .int .u8 s] 80)).cell? ⟨w.heap.size + 1, 5, none⟩ = some (.int .u8 s) := by simp [go_sem]
  generalize ((w.alloc (.cells #[.int .u8 ch, .bool a, .int .u8 fa, .int .u8 h, .int .u8 c, .int .u8 s] 80)).alloc (.cells #[.int .u8 ch', .bool a', .int .u8 fa', .int .u8 h, .int .u8 c, .int .u8 s] 80)) = W at HB0 a0 a1 a2 b0 b1 b2 ⊢
  have HX := hid (And.intro a0 (And.intro a1 (And.intro a2 (And.intro b0 (And.intro b1 b2)))))
  have HO0 := hid (World.ownsRow_nil W W.heap.size 78 2)
  have HW0 := hid (Below.refl W.heap.size W)
  go_wp2
  go_ret
  exact pairs_done rfl rfl HO0.out (HB0.out.trans (HW0.out.mono HB0.out.size)) HB0.out.size
set_option maxRecDepth 100000 in
set_option maxHeartbeats 2000000 in
theorem rdiff_fft (ch fa ch' fa' : Int) (a a' : Bool) (h c s h' c' s' : Nat) (e0 : h = h') (e1 : c = c') (e2 : ¬ s = s') (w : World) : Calls Try.prog 69 #[.agg #[.int .u8 ch, .bool a, .int .u8 fa, .int .u8 h, .int .u8 c, .int .u8 s], .agg #[.int .u8 ch', .bool a', .int .u8 fa', .int .u8 h', .int .u8 c', .int .u8 s']] w (PairsDone [(67, s')] w) := by
  obtain ⟨i0, hi, hz0, hz1, hz2⟩ := info_parts info78
  subst e0
  subst e1
  have q2 : ((s : Int) != s') = true := by simp; omega
  go_enter Try.func69, Try.ntmps69
  go_upto_region 2 with fail
  have HB0 := hid (((Below.refl w.heap.size w).alloc (Nat.le_refl _) (.cells #[.int .u8 ch, .bool a, .int .u8 fa, .int .u8 h, .int .u8 c, .int .u8 s] 80)).alloc (by simp) (.cells #[.int .u8 ch', .bool a', .int .u8 fa', .int .u8 h, .int .u8 c, .int .u8 s'] 80))
  have a0 : ((w.alloc (.cells #[.int .u8 ch, .bool a, .int .u8 fa, .int .u8 h, .int .u8 c, .int .u8 s] 80)).alloc (.cells #[.int .u8 ch', .bool a', .int .u8 fa', .int .u8 h, .int .u8 c, .int .u8 s'] 80)).cell? ⟨w.heap.size, 3, none⟩ = some (.int .u8 h) := by simp [go_sem]
  have b0 : ((w.alloc (.cells #[.int .u8 ch, .bool a, .int .u8 fa, .int .u8 h, .int .u8 c, .int .u8 s] 80)).alloc (.cells #[.int .u8 ch', .bool a', .int .u8 fa', .int .u8 h, .int .u8 c, .int .u8 s'] 80)).cell? ⟨w.heap.size + 1, 3, none⟩ = some (.int .u8 h) := by simp [go_sem]
  have a1 : ((w.alloc (.cells #[.int .u8 ch, .bool a, .int .u8 fa, .int .u8 h, .int .u8 c, .int .u8 s] 80)).alloc (.cells #[.int .u8 ch', .bool a', .int .u8 fa', .int .u8 h, .int .u8 c, .int .u8 s'] 80)).cell? ⟨w.heap.size, 4, none⟩ = some (.int .u8 c) := by simp [go_sem]
  have b1 : ((w.alloc (.cells #[.int .u8 ch, .bool a, .int .u8 fa, .int .u8 h, .int .u8 c, .int .u8 s] 80)).alloc (.cells #[.int .u8 ch', .bool a', .int .u8 fa', .int .u8 h, .int .u8 c, .int .u8 s'] 80)).cell? ⟨w.heap.size + 1, 4, none⟩ = some (.int .u8 c) := by simp [go_sem]
  have a2 : ((w.alloc (.cells #[.int .u8 ch, .bool a, .int .u8 fa, .int .u8 h, .int .u8 c, .int .u8 s] 80)).alloc (.cells #[.int .u8 ch', .bool a', .int .u8 fa', .int .u8 h, .int .u8 c, .int .u8 s'] 80)).cell? ⟨w.heap.size, 5, none⟩ = some (.int .u8 s) := by simp [go_sem]
  have b2 : ((w.alloc (.cells #[.int .u8 ch, .bool a, .int .u8 fa, .int .u8 h, .int .u8 c, .int .u8 s] 80)).alloc (.cells #[.int .u8 ch', .bool a', .int .u8 fa', .int .u8 h, .int .u8 c, .int .u8 s'] 80)).cell? ⟨w.heap.size + 1, 5, none⟩ = some (.int .u8 s') := by simp [go_sem]
  generalize ((w.alloc (.cells #[.int .u8 ch, .bool a, .int .u8 fa, .int .u8 h, .int .u8 c, .int .u8 s] 80)).alloc (.cells #[.int .u8 ch', .bool a', .int .u8 fa', .int .u8 h, .int .u8 c, .int .u8 s'] 80)) = W at HB0 a0 a1 a2 b0 b1 b2 ⊢
  have HX := hid (And.intro a0 (And.intro a1 (And.intro a2 (And.intro b0 (And.intro b1 b2)))))
  have HO0 := hid (World.ownsRow_nil W W.heap.size 78 2)
  have HW0 := hid (Below.refl W.heap.size W)
  go_wp2_with (first
    | (at_builtin; refine wpList_append_own _ rfl _ _ 93 rfl W.heap.size 78 i0 (.agg #[.int .u8 0, .int .u8 0]) 2 2 Try.underlying93 hi hz0 hz1 hz2 rfl (by decide) _ 0 _ rfl (HO0.out.alloc (.cells #[.int .u8 67, .int .u8 s'] 78)) ⟨W.heap.size, 0, none⟩ 1 1 [.int .u8 67, .int .u8 s'] rfl rfl (news_two W _ _ 78) (one_two _ _) (by unfold maxLen; decide) (by decide) (Nat.le_trans HW0.out.size (by simp)) ?_; intro v1 x1 ho hg hn; have HO1 := hid ho; have HW1 := hid ((HW0.out.alloc HW0.out.size (.cells #[.int .u8 67, .int .u8 s'] 78)).grown hg (Nat.le_trans HW0.out.size (by simp)) (own_ge HO0.out)); clear ho hg hn; have a0 := keepc HW1.out HX.out.1; have a1 := keepc HW1.out HX.out.2.1; have a2 := keepc HW1.out HX.out.2.2.1; have b0 := keepc HW1.out HX.out.2.2.2.1; have b1 := keepc HW1.out HX.out.2.2.2.2.1; have b2 := keepc HW1.out HX.out.2.2.2.2.2))
  go_ret
  exact pairs_done rfl rfl HO1.out (HB0.out.trans (HW1.out.mono HB0.out.size)) HB0.out.size
set_option maxRecDepth 100000 in
set_option maxHeartbeats 2000000 in
theorem rdiff_ftf (ch fa ch' fa' : Int) (a a' : Bool) (h c s h' c' s' : Nat) (e0 : h = h') (e1 : ¬ c = c') (e2 : s = s') (w : World) : Calls Try.prog 69 #[.agg #[.int .u8 ch, .bool a, .int .u8 fa, .int .u8 h, .int .u8 c, .int .u8 s], .agg #[.int .u8 ch', .bool a', .int .u8 fa', .int .u8 h', .int .u8 c', .int .u8 s']] w (PairsDone [(66, c')] w) := by
  obtain ⟨i0, hi, hz0, hz1, hz2⟩ := info_parts info78
  subst e0
  have q1 : ((c : Int) != c') = true := by simp; omega
  subst e2
  go_enter Try.func69, Try.ntmps69
  go_upto_region 2 with fail
  have HB0 := hid (((Below.refl w.heap.size w).alloc (Nat.le_refl _) (.cells #[.int .u8 ch, .bool a, .int .u8 fa, .int .u8 h, .int .u8 c, .int .u8 s] 80)).alloc (by simp) (.cells #[.int .u8 ch', .bool a', .int .u8 fa', .int .u8 h, .int .u8 c', .int .u8 s] 80))
  have a0 : ((w.alloc (.cells #[.int .u8 ch, .bool a, .int .u8 fa, .int .u8 h, .int .u8 c, .int .u8 s] 80)).alloc (.cells #[.int .u8 ch', .bool a', .int .u8 fa', .int .u8 h, .int .u8 c', .int .u8 s] 80)).cell? ⟨w.heap.size, 3, none⟩ = some (.int .u8 h) := by simp [go_sem]
  have b0 : ((w.alloc (.cells #[.int .u8 ch, .bool a, .int .u8 fa, .int .u8 h, .int .u8 c, .int .u8 s] 80)).alloc (.cells #[.int .u8 ch', .bool a', .int .u8 fa', .int .u8 h, .int .u8 c', .int .u8 s] 80)).cell? ⟨w.heap.size + 1, 3, none⟩ = some (.int .u8 h) := by simp [go_sem]
  have a1 : ((w.alloc (.cells #[.int .u8 ch, .bool a, .int .u8 fa, .int .u8 h, .int .u8 c, .int .u8 s] 80)).alloc (.cells #[.int .u8 ch', .bool a', .int .u8 fa', .int .u8 h, .int .u8 c', .int .u8 s] 80)).cell? ⟨w.heap.size, 4, none⟩ = some (.int .u8 c) := by simp [go_sem]
  have b1 : ((w.alloc (.cells #[.int .u8 ch, .bool a, .int .u8 fa, .int .u8 h, .int .u8 c, .int .u8 s] 80)).alloc (.cells #[.int .u8 ch', .bool a', .int .u8 fa', .int .u8 h, .int .u8 c', .int .u8 s] 80)).cell? ⟨w.heap.size + 1, 4, none⟩ = some (.int .u8 c') := by simp [go_sem]
  have a2 : ((w.alloc (.cells #[.int .u8 ch, .bool a, .int .u8 fa, .int .u8 h, .int .u8 c, .int .u8 s] 80)).alloc (.cells #[.int .u8 ch', .bool a', .int .u8 fa', .int .u8 h, .int .u8 c', .int .u8 s] 80)).cell? ⟨w.heap.size, 5, none⟩ = some (.int .u8 s) := by simp [go_sem]
  have b2 : ((w.alloc (.cells #[.int .u8 ch, .bool a, .int .u8 fa, .int .u8 h, .int .u8 c, .int .u8 s] 80)).alloc (.cells #[.int .u8 ch', .bool a', .int .u8 fa', .int .u8 h, .int .u8 c', .int .u8 s] 80)).cell? ⟨w.heap.size + 1, 5, none⟩ = some (.int .u8 s) := by simp [go_sem]
  generalize ((w.alloc (.cells #[.int .u8 ch, .bool a, .int .u8 fa, .int .u8 h, .int .u8 c, .int .u8 s] 80)).alloc (.cells #[.int .u8 ch', .bool a', .int .u8 fa', .int .u8 h, .int .u8 c', .int .u8 s] 80)) = W at HB0 a0 a1 a2 b0 b1 b2 ⊢
  have HX := hid (And.intro a0 (And.intro a1 (And.intro a2 (And.intro b0 (And.intro b1 b2)))))
  have HO0 := hid (World.ownsRow_nil W W.heap.size 78 2)
  have HW0 := hid (Below.refl W.heap.size W)
  go_wp2_with (first
    | (at_builtin; refine wpList_append_own _ rfl _ _ 93 rfl W.heap.size 78 i0 (.agg #[.int .u8 0, .int .u8 0]) 2 2 Try.underlying93 hi hz0 hz1 hz2 rfl (by decide) _ 0 _ rfl (HO0.out.alloc (.cells #[.int .u8 66, .int .u8 c'] 78)) ⟨W.heap.size, 0, none⟩ 1 1 [.int .u8 66, .int .u8 c'] rfl rfl (news_two W _ _ 78) (one_two _ _) (by unfold maxLen; decide) (by decide) (Nat.le_trans HW0.out.size (by simp)) ?_; intro v1 x1 ho hg hn; have HO1 := hid ho; have HW1 := hid ((HW0.out.alloc HW0.out.size (.cells #[.int .u8 66, .int .u8 c'] 78)).grown hg (Nat.le_trans HW0.out.size (by simp)) (own_ge HO0.out)); clear ho hg hn; have a0 := keepc HW1.out HX.out.1; have a1 := keepc HW1.out HX.out.2.1; have a2 := keepc HW1.out HX.out.2.2.1; have b0 := keepc HW1.out HX.out.2.2.2.1; have b1 := keepc HW1.out HX.out.2.2.2.2.1; have b2 := keepc HW1.out HX.out.2.2.2.2.2))
  go_ret
  exact pairs_done rfl rfl HO1.out (HB0.out.trans (HW1.out.mono HB0.out.size)) HB0.out.size
set_option maxRecDepth 100000 in
set_option maxHeartbeats 2000000 in
theorem rdiff_ftt (ch fa ch' fa' : Int) (a a' : Bool) (h c s h' c' s' : Nat) (e0 : h = h') (e1 : ¬ c = c') (e2 : ¬ s = s') (w : World) : Calls Try.prog 69 #[.agg #[.int .u8 ch, .bool a, .int .u8 fa, .int .u8 h, .int .u8 c, .int .u8 s], .agg #[.int .u8 ch', .bool a', .int .u8 fa', .int .u8 h', .int .u8 c', .int .u8 s']] w (PairsDone [(66, c'), (67, s')] w) := by
  obtain ⟨i0, hi, hz0, hz1, hz2⟩ := info_parts info78
  subst e0
  have q1 : ((c : Int) != c') = true := by simp; omega
  have q2 : ((s : Int) != s') = true := by simp; omega
  go_enter Try.func69, Try.ntmps69
  go_upto_region 2 with fail
  have HB0 := hid (((Below.refl w.heap.size w).alloc (Nat.le_refl _) (.cells #[.int .u8 ch, .bool a, .int .u8 fa, .int .u8 h, .int .u8 c, .int .u8 s] 80)).alloc (by simp) (.cells #[.int .u8 ch', .bool a', .int .u8 fa', .int .u8 h, .int .u8 c', .int .u8 s'] 80))
  have a0 : ((w.alloc (.cells #[.int .u8 ch, .bool a, .int .u8 fa, .int .u8 h, .int .u8 c, .int .u8 s] 80)).alloc (.cells #[.int .u8 ch', .bool a', .int .u8 fa', .int .u8 h, .int .u8 c', .int .u8 s'] 80)).cell? ⟨w.heap.size, 3, none⟩ = some (.int .u8 h) := by simp [go_sem]
  have b0 : ((w.alloc (.cells #[.int .u8 ch, .bool a, .int .u8 fa, .int .u8 h, .int .u8 c, .int .u8 s] 80)).alloc (.cells #[.int .u8 ch', .bool a', .int .u8 fa', .int .u8 h, .int .u8 c', .int .u8 s'] 80)).cell? ⟨w.heap.size + 1, 3, none⟩ = some (.int .u8 h) := by simp [go_sem]
  have a1 : ((w.alloc (.cells #[.int .u8 ch, .bool a, .int .u8 fa, .int .u8 h, .int .u8 c, .int .u8 s] 80)).alloc (.cells #[.int .u8 ch', .bool a', .int .u8 fa', .int .u8 h, .int .u8 c', .int .u8 s'] 80)).cell? ⟨w.heap.size, 4, none⟩ = some (.int .u8 c) := by simp [go_sem]
  have b1 : ((w.alloc (.cells #[.int .u8 ch, .bool a, .int .u8 fa, .int .u8 h, .int .u8 c, .int .u8 s] 80)).alloc (.cells #[.int .u8 ch', .bool a', .int .u8 fa', .int .u8 h, .int .u8 c', .int .u8 s'] 80)).cell? ⟨w.heap.size + 1, 4, none⟩ = some (.int .u8 c') := by simp [go_sem]
  have a2 : ((w.alloc (.cells #[.int .u8 ch, .bool a, .int .u8 fa, .int .u8 h, .int .u8 c, .int .u8 s] 80)).alloc (.cells #[.int .u8 ch', .bool a', .int .u8 fa', .int .u8 h, .int .u8 c', .int .u8 s'] 80)).cell? ⟨w.heap.size, 5, none⟩ = some (.int .u8 s) := by simp [go_sem]
  have b2 : ((w.alloc (.cells #[.int .u8 ch, .bool a, .int .u8 fa, .int .u8 h, .int .u8 c, .int .u8 s] 80)).alloc (.cells #[.int .u8 ch', .bool a', .int .u8 fa', .int .u8 h, .int .u8 c', .int .u8 s'] 80)).cell? ⟨w.heap.size + 1, 5, none⟩ = some (.int .u8 s') := by simp [go_sem]
  generalize ((w.alloc (.cells #[.int .u8 ch, .bool a, .int .u8 fa, .int .u8 h, .int .u8 c, .int .u8 s] 80)).alloc (.cells #[.int .u8 ch', .bool a', .int .u8 fa', .int .u8 h, .int .u8 c', .int .u8 s'] 80)) = W at HB0 a0 a1 a2 b0 b1 b2 ⊢
  have HX := hid (And.intro a0 (And.intro a1 (And.intro a2 (And.intro b0 (And.intro b1 b2)))))
  have HO0 := hid (World.ownsRow_nil W W.heap.size 78 2)
  have HW0 := hid (Below.refl W.heap.size W)
  go_wp2_with (first
    | (at_builtin; refine wpList_append_own _ rfl _ _ 93 rfl W.heap.size 78 i0 (.agg #[.int .u8 0, .int .u8 0]) 2 2 Try.underlying93 hi hz0 hz1 hz2 rfl (by decide) _ 0 _ rfl (HO0.out.alloc (.cells #[.int .u8 66, .int .u8 c'] 78)) ⟨W.heap.size, 0, none⟩ 1 1 [.int .u8 66, .int .u8 c'] rfl rfl (news_two W _ _ 78) (one_two _ _) (by unfold maxLen; decide) (by decide) (Nat.le_trans HW0.out.size (by simp)) ?_; intro v1 x1 ho hg hn; have HO1 := hid ho; have HW1 := hid ((HW0.out.alloc HW0.out.size (.cells #[.int .u8 66, .int .u8 c'] 78)).grown hg (Nat.le_trans HW0.out.size (by simp)) (own_ge HO0.out)); clear ho hg hn; have a0 := keepc HW1.out HX.out.1; have a1 := keepc HW1.out HX.out.2.1; have a2 := keepc HW1.out HX.out.2.2.1; have b0 := keepc HW1.out HX.out.2.2.2.1; have b1 := keepc HW1.out HX.out.2.2.2.2.1; have b2 := keepc HW1.out HX.out.2.2.2.2.2)
    | (at_builtin; refine wpList_append_own _ rfl _ _ 93 rfl W.heap.size 78 i0 (.agg #[.int .u8 0, .int .u8 0]) 2 2 Try.underlying93 hi hz0 hz1 hz2 rfl (by decide) _ 1 _ rfl (HO1.out.alloc (.cells #[.int .u8 67, .int .u8 s'] 78)) ⟨x1.heap.size, 0, none⟩ 1 1 [.int .u8 67, .int .u8 s'] rfl rfl (news_two x1 _ _ 78) (one_two _ _) (by unfold maxLen; decide) (by decide) (Nat.le_trans HW1.out.size (by simp)) ?_; intro v2 x2 ho hg hn; have HO2 := hid ho; have HW2 := hid ((HW1.out.alloc HW1.out.size (.cells #[.int .u8 67, .int .u8 s'] 78)).grown hg (Nat.le_trans HW1.out.size (by simp)) (own_ge HO1.out)); clear ho hg hn; have a0 := keepc HW2.out HX.out.1; have a1 := keepc HW2.out HX.out.2.1; have a2 := keepc HW2.out HX.out.2.2.1; have b0 := keepc HW2.out HX.out.2.2.2.1; have b1 := keepc HW2.out HX.out.2.2.2.2.1; have b2 := keepc HW2.out HX.out.2.2.2.2.2))
  go_ret
  exact pairs_done rfl rfl HO2.out (HB0.out.trans (HW2.out.mono HB0.out.size)) HB0.out.size
set_option maxRecDepth 100000 in
set_option maxHeartbeats 2000000 in
theorem rdiff_tff (ch fa ch' fa' : Int) (a a' : Bool) (h c s h' c' s' : Nat) (e0 : ¬ h = h') (e1 : c = c') (e2 : s = s') (w : World) : Calls Try.prog 69 #[.agg #[.int .u8 ch, .bool a, .int .u8 fa, .int .u8 h, .int .u8 c, .int .u8 s], .agg #[.int .u8 ch', .bool a', .int .u8 fa', .int .u8 h', .int .u8 c', .int .u8 s']] w (PairsDone [(65, h')] w) := by
  obtain ⟨i0, hi, hz0, hz1, hz2⟩ := info_parts info78
  have q0 : ((h : Int) != h') = true := by simp; omega
  subst e1
  subst e2
  go_enter Try.func69, Try.ntmps69
  go_upto_region 2 with fail
  have HB0 := hid (((Below.refl w.heap.size w).alloc (Nat.le_refl _) (.cells #[.int .u8 ch, .bool a, .int .u8 fa, .int .u8 h, .int .u8 c, .int .u8 s] 80)).alloc (by simp) (.cells #[.int .u8 ch', .bool a', .int .u8 fa', .int .u8 h', .int .u8 c, .int .u8 s] 80))
  have a0 : ((w.alloc (.cells #[.int .u8 ch, .bool a, .int .u8 fa, .int .u8 h, .int .u8 c, .int .u8 s] 80)).alloc (.cells #[.int .u8 ch', .bool a', .int .u8 fa', .int .u8 h', .int .u8 c, .int .u8 s] 80)).cell? ⟨w.heap.size, 3, none⟩ = some (.int .u8 h) := by simp [go_sem]
  have b0 : ((w.alloc (.cells #[.int .u8 ch, .bool a, .int .u8 fa, .int .u8 h, .int .u8 c, .int .u8 s] 80)).alloc (.cells #[.int .u8 ch', .bool a', .int .u8 fa', .int .u8 h', .int .u8 c, .int .u8 s] 80)).cell? ⟨w.heap.size + 1, 3, none⟩ = some (.int .u8 h') := by simp [go_sem]
  have a1 : ((w.alloc (.cells #[.int .u8 ch, .bool a, .int .u8 fa, .int .u8 h, .int .u8 c, .int .u8 s] 80)).alloc (.cells #[.int .u8 ch', .bool a', .int .u8 fa', .int .u8 h', .int .u8 c, .int .u8 s] 80)).cell? ⟨w.heap.size, 4, none⟩ = some (.int .u8 c) := by simp [go_sem]
  have b1 : ((w.alloc (.cells #[.int .u8 ch, .bool a, .int .u8 fa, .int .u8 h, .int .u8 c, .int .u8 s] 80)).alloc (.cells #[.int .u8 ch', .bool a', .int .u8 fa', .int .u8 h', .int .u8 c, .int .u8 s] 80)).cell? ⟨w.heap.size + 1, 4, none⟩ = some (.int .u8 c) := by simp [go_sem]
  have a2 : ((w.alloc (.cells #[.int .u8 ch, .bool a, .int .u8 fa, .int .u8 h, .int .u8 c, .int .u8 s] 80)).alloc (.cells #[.int .u8 ch', .bool a', .int .u8 fa', .int .u8 h', .int .u8 c, .int .u8 s] 80)).cell? ⟨w.heap.size, 5, none⟩ = some (.int .u8 s) := by simp [go_sem]
  have b2 : ((w.alloc (.cells #[.int .u8 ch, .bool a, .int .u8 fa, .int .u8 h, .int .u8 c, .int .u8 s] 80)).alloc (.cells #[.int .u8 ch', .bool a', .int .u8 fa', .int .u8 h', .int .u8 c, .int .u8 s] 80)).cell? ⟨w.heap.size + 1, 5, none⟩ = some (.int .u8 s) := by simp [go_sem]
  generalize ((w.alloc (.cells #[.int .u8 ch, .bool a, .int .u8 fa, .int .u8 h, .int .u8 c, .int .u8 s] 80)).alloc (.cells #[.int .u8 ch', .bool a', .int .u8 fa', .int .u8 h', .int .u8 c, .int .u8 s] 80)) = W at HB0 a0 a1 a2 b0 b1 b2 ⊢
  have HX := hid (And.intro a0 (And.intro a1 (And.intro a2 (And.intro b0 (And.intro b1 b2)))))
  have HO0 := hid (World.ownsRow_nil W W.heap.size 78 2)
  have HW0 := hid (Below.refl W.heap.size W)
  go_wp2_with (first
    | (at_builtin; refine wpList_append_own _ rfl _ _ 93 rfl W.heap.size 78 i0 (.agg #[.int .u8 0, .int .u8 0]) 2 2 Try.underlying93 hi hz0 hz1 hz2 rfl (by decide) _ 0 _ rfl (HO0.out.alloc (.cells #[.int .u8 65, .int .u8 h'] 78)) ⟨W.heap.size, 0, none⟩ 1 1 [.int .u8 65, .int .u8 h'] rfl rfl (news_two W _ _ 78) (one_two _ _) (by unfold maxLen; decide) (by decide) (Nat.le_trans HW0.out.size (by simp)) ?_; intro v1 x1 ho hg hn; have HO1 := hid ho; have HW1 := hid ((HW0.out.alloc HW0.out.size (.cells #[.int .u8 65, .int .u8 h'] 78)).grown hg (Nat.le_trans HW0.out.size (by simp)) (own_ge HO0.out)); clear ho hg hn; have a0 := keepc HW1.out HX.out.1; have a1 := keepc HW1.out HX.out.2.1; have a2 := keepc HW1.out HX.out.2.2.1; have b0 := keepc HW1.out HX.out.2.2.2.1; have b1 := keepc HW1.out HX.out.2.2.2.2.1; have b2 := keepc HW1.out HX.out.2.2.2.2.2))
  go_ret
  exact pairs_done rfl rfl HO1.out (HB0.out.trans (HW1.out.mono HB0.out.size)) HB0.out.size
set_option maxRecDepth 100000 in
set_option maxHeartbeats 2000000 in
theorem rdiff_tft (ch fa ch' fa' : Int) (a a' : Bool) (h c s h' c' s' : Nat) (e0 : ¬ h = h') (e1 : c = c') (e2 : ¬ s = s') (w : World) : Calls Try.prog 69 #[.agg #[.int .u8 ch, .bool a, .int .u8 fa, .int .u8 h, .int .u8 c, .int .u8 s], .agg #[.int .u8 ch', .bool a', .int .u8 fa', .int .u8 h', .int .u8 c', .int .u8 s']] w (PairsDone [(65, h'), (67, s')] w) := by
  obtain ⟨i0, hi, hz0, hz1, hz2⟩ := info_parts info78
  have q0 : ((h : Int) != h') = true := by simp; omega
  subst e1
  have q2 : ((s : Int) != s') = true := by simp; omega
  go_enter Try.func69, Try.ntmps69
  go_upto_region 2 with fail
  have HB0 := hid (((Below.refl w.heap.size w).alloc (Nat.le_refl _) (.cells #[.int .u8 ch, .bool a, .int .u8 fa, .int .u8 h, .int .u8 c, .int .u8 s] 80)).alloc (by simp) (.cells #[.int .u8 ch', .bool a', .int .u8 fa', .int .u8 h', .int .u8 c, .int .u8 s'] 80))
  have a0 : ((w.alloc (.cells #[.int .u8 ch, .bool a, .int .u8 fa, .int .u8 h, .int .u8 c, .int .u8 s] 80)).alloc (.cells #[.int .u8 ch', .bool a', .int .u8 fa', .int .u8 h', .int .u8 c, .int .u8 s'] 80)).cell? ⟨w.heap.size, 3, none⟩ = some (.int .u8 h) := by simp [go_sem]
  have b0 : ((w.alloc (.cells #[.int .u8 ch, .bool a, .int .u8 fa, .int .u8 h, .int .u8 c, .int .u8 s] 80)).alloc (.cells #[.int .u8 ch', .bool a', .int .u8 fa', .int .u8 h', .int .u8 c, .int .u8 s'] 80)).cell? ⟨w.heap.size + 1, 3, none⟩ = some (.int .u8 h') := by simp [go_sem]
  have a1 : ((w.alloc (.cells #[.int .u8 ch, .bool a, .int .u8 fa, .int .u8 h, .int .u8 c, .int .u8 s] 80)).alloc (.cells #[.int .u8 ch', .bool a', .int .u8 fa', .int .u8 h', .int .u8 c, .int .u8 s'] 80)).cell? ⟨w.heap.size, 4, none⟩ = some (.int .u8 c) := by simp [go_sem]
  have b1 : ((w.alloc (.cells #[.int .u8 ch, .bool a, .int .u8 fa, .int .u8 h, .int .u8 c, .int .u8 s] 80)).alloc (.cells #[.int .u8 ch', .bool a', .int .u8 fa', .int .u8 h', .int .u8 c, .int .u8 s'] 80)).cell? ⟨w.heap.size + 1, 4, none⟩ = some (.int .u8 c) := by simp [go_sem]
  have a2 : ((w.alloc (.cells #[.int .u8 ch, .bool a, .int .u8 fa, .int .u8 h, .int .u8 c, .int .u8 s] 80)).alloc (.cells #[.int .u8 ch', .bool a', .int .u8 fa', .int .u8 h', .int .u8 c, .int .u8 s'] 80)).cell? ⟨w.heap.size, 5, none⟩ = some (.int .u8 s) := by simp [go_sem]
  have b2 : ((w.alloc (.cells #[.int .u8 ch, .bool a, .int .u8 fa, .int .u8 h, .int .u8 c, .int .u8 s] 80)).alloc (.cells #[.int .u8 ch', .bool a', .int .u8 fa', .int .u8 h', .int .u8 c, .int .u8 s'] 80)).cell? ⟨w.heap.size + 1, 5, none⟩ = some (.int .u8 s') := by simp [go_sem]
  generalize ((w.alloc (.cells #[.int .u8 ch, .bool a, .int .u8 fa, .int .u8 h, .int .u8 c, .int .u8 s] 80)).alloc (.cells #[.int .u8 ch', .bool a', .int .u8 fa', .int .u8 h', .int .u8 c, .int .u8 s'] 80)) = W at HB0 a0 a1 a2 b0 b1 b2 ⊢
  have HX := hid (And.intro a0 (And.intro a1 (And.intro a2 (And.intro b0 (And.intro b1 b2)))))
  have HO0 := hid (World.ownsRow_nil W W.heap.size 78 2)
  have HW0 := hid (Below.refl W.heap.size W)
  go_wp2_with (first
    | (at_builtin; refine wpList_append_own _ rfl _ _ 93 rfl W.heap.size 78 i0 (.agg #[.int .u8 0, .int .u8 0]) 2 2 Try.underlying93 hi hz0 hz1 hz2 rfl (by decide) _ 0 _ rfl (HO0.out.alloc (.cells #[.int .u8 65, .int .u8 h'] 78)) ⟨W.heap.size, 0, none⟩ 1 1 [.int .u8 65, .int .u8 h'] rfl rfl (news_two W _ _ 78) (one_two _ _) (by unfold maxLen; decide) (by decide) (Nat.le_trans HW0.out.size (by simp)) ?_; intro v1 x1 ho hg hn; have HO1 := hid ho; have HW1 := hid ((HW0.out.alloc HW0.out.size (.cells #[.int .u8 65, .int .u8 h'] 78)).grown hg (Nat.le_trans HW0.out.size (by simp)) (own_ge HO0.out)); clear ho hg hn; have a0 := keepc HW1.out HX.out.1; have a1 := keepc HW1.out HX.out.2.1; have a2 := keepc HW1.out HX.out.2.2.1; have b0 := keepc HW1.out HX.out.2.2.2.1; have b1 := keepc HW1.out HX.out.2.2.2.2.1; have b2 := keepc HW1.out HX.out.2.2.2.2.2)
    | (at_builtin; refine wpList_append_own _ rfl _ _ 93 rfl W.heap.size 78 i0 (.agg #[.int .u8 0, .int .u8 0]) 2 2 Try.underlying93 hi hz0 hz1 hz2 rfl (by decide) _ 1 _ rfl (HO1.out.alloc (.cells #[.int .u8 67, .int .u8 s'] 78)) ⟨x1.heap.size, 0, none⟩ 1 1 [.int .u8 67, .int .u8 s'] rfl rfl (news_two x1 _ _ 78) (one_two _ _) (by unfold maxLen; decide) (by decide) (Nat.le_trans HW1.out.size (by simp)) ?_; intro v2 x2 ho hg hn; have HO2 := hid ho; have HW2 := hid ((HW1.out.alloc HW1.out.size (.cells #[.int .u8 67, .int .u8 s'] 78)).grown hg (Nat.le_trans HW1.out.size (by simp)) (own_ge HO1.out)); clear ho hg hn; have a0 := keepc HW2.out HX.out.1; have a1 := keepc HW2.out HX.out.2.1; have a2 := keepc HW2.out HX.out.2.2.1; have b0 := keepc HW2.out HX.out.2.2.2.1; have b1 := keepc HW2.out HX.out.2.2.2.2.1; have b2 := keepc HW2.out HX.out.2.2.2.2.2))
  go_ret
  exact pairs_done rfl rfl HO2.out (HB0.out.trans (HW2.out.mono HB0.out.size)) HB0.out.size
set_option maxRecDepth 100000 in
set_option maxHeartbeats 2000000 in
theorem rdiff_ttf (ch fa ch' fa' : Int) (a a' : Bool) (h c s h' c' s' : Nat) (e0 : ¬ h = h') (e1 : ¬ c = c') (e2 : s = s') (w : World) : Calls Try.prog 69 #[.agg #[.int .u8 ch, .bool a, .int .u8 fa, .int .u8 h, .int .u8 c, .int .u8 s], .agg #[.int .u8 ch', .bool a', .int .u8 fa', .int .u8 h', .int .u8 c', .int .u8 s']] w (PairsDone [(65, h'), (66, c')] w) := by
  obtain ⟨i0, hi, hz0, hz1, hz2⟩ := info_parts info78
  have q0 : ((h : Int) != h') = true := by simp; omega
  have q1 : ((c : Int) != c') = true := by simp; omega
  subst e2
  go_enter Try.func69, Try.ntmps69
  go_upto_region 2 with fail
  have HB0 := hid (((Below.refl w.heap.size w).alloc (Nat.le_refl _) (.cells #[.int .u8 ch, .bool a, .int .u8 fa, .int .u8 h, .int .u8 c, .int .u8 s] 80)).alloc (by simp) (.cells #[.int .u8 ch', .bool a', .int .u8 fa', .int .u8 h', .int .u8 c', .int .u8 s] 80))
  have a0 : ((w.alloc (.cells #[.int .u8 ch, .bool a, .int .u8 fa, .int .u8 h, .int .u8 c, .int .u8 s] 80)).alloc (.cells #[.int .u8 ch', .bool a', .int .u8 fa', .int .u8 h', .int .u8 c', .int .u8 s] 80)).cell? ⟨w.heap.size, 3, none⟩ = some (.int .u8 h) := by simp [go_sem]
  have b0 : ((w.alloc (.cells #[.int .u8 ch, .bool a, .int .u8 fa, .int .u8 h, .int .u8 c, .int .u8 s] 80)).alloc (.cells #[.int .u8 ch', .bool a', .int .u8 fa', .int .u8 h', .int .u8 c', .int .u8 s] 80)).cell? ⟨w.heap.size + 1, 3, none⟩ = some (.int .u8 h') := by simp [go_sem]
  have a1 : ((w.alloc (.cells #[.int .u8 ch, .bool a, .int .u8 fa, .int .u8 h, .int .u8 c, .int .u8 s] 80)).alloc (.cells #[.int .u8 ch', .bool a', .int .u8 fa', .int .u8 h', .int .u8 c', .int .u8 s] 80)).cell? ⟨w.heap.size, 4, none⟩ = some (.int .u8 c) := by simp [go_sem]
  have b1 : ((w.alloc (.cells #[.int .u8 ch, .bool a, .int .u8 fa, .int .u8 h, .int .u8 c, .int .u8 s] 80)).alloc (.cells #[.int .u8 ch', .bool a', .int .u8 fa', .int .u8 h', .int .u8 c', .int .u8 s] 80)).cell? ⟨w.heap.size + 1, 4, none⟩ = some (.int .u8 c') := by simp [go_sem]
  have a2 : ((w.alloc (.cells #[.int .u8 ch, .bool a, .int .u8 fa, .int .u8 h, .int .u8 c, .int .u8 s] 80)).alloc (.cells #[.int .u8 ch', .bool a', .int .u8 fa', .int .u8 h', .int .u8 c', .int .u8 s] 80)).cell? ⟨w.heap.size, 5, none⟩ = some (.int .u8 s) := by simp [go_sem]
  have b2 : ((w.alloc (.cells #[.int .u8 ch, .bool a, .int .u8 fa, .int .u8 h, .int .u8 c, .int .u8 s] 80)).alloc (.cells #[.int .u8 ch', .bool a', .int .u8 fa', .int .u8 h', .int .u8 c', .int .u8 s] 80)).cell? ⟨w.heap.size + 1, 5, none⟩ = some (.int .u8 s) := by simp [go_sem]
  generalize ((w.alloc (.cells #[.int .u8 ch, .bool a, .int .u8 fa, .int .u8 h, .int .u8 c, .int .u8 s] 80)).alloc (.cells #[.int .u8 ch', .bool a', .int .u8 fa', .int .u8 h', .int .u8 c', .int .u8 s] 80)) = W at HB0 a0 a1 a2 b0 b1 b2 ⊢
  have HX := hid (And.intro a0 (And.intro a1 (And.intro a2 (And.intro b0 (And.intro b1 b2)))))
  have HO0 := hid (World.ownsRow_nil W W.heap.size 78 2)
  have HW0 := hid (Below.refl W.heap.size W)
  go_wp2_with (first
    | (at_builtin; refine wpList_append_own _ rfl _ _ 93 rfl W.heap.size 78 i0 (.agg #[.int .u8 0, .int .u8 0]) 2 2 Try.underlying93 hi hz0 hz1 hz2 rfl (by decide) _ 0 _ rfl (HO0.out.alloc (.cells #[.int .u8 65, .int .u8 h'] 78)) ⟨W.heap.size, 0, none⟩ 1 1 [.int .u8 65, .int .u8 h'] rfl rfl (news_two W _ _ 78) (one_two _ _) (by unfold maxLen; decide) (by decide) (Nat.le_trans HW0.out.size (by simp)) ?_; intro v1 x1 ho hg hn; have HO1 := hid ho; have HW1 := hid ((HW0.out.alloc HW0.out.size (.cells #[.int .u8 65, .int .u8 h'] 78)).grown hg (Nat.le_trans HW0.out.size (by simp)) (own_ge HO0.out)); clear ho hg hn; have a0 := keepc HW1.out HX.out.1; have a1 := keepc HW1.out HX.out.2.1; have a2 := keepc HW1.out HX.out.2.2.1; have b0 := keepc HW1.out HX.out.2.2.2.1; have b1 := keepc HW1.out HX.out.2.2.2.2.1; have b2 := keepc HW1.out HX.out.2.2.2.2.2)
    | (at_builtin; refine wpList_append_own _ rfl _ _ 93 rfl W.heap.size 78 i0 (.agg #[.int .u8 0, .int .u8 0]) 2 2 Try.underlying93 hi hz0 hz1 hz2 rfl (by decide) _ 1 _ rfl (HO1.out.alloc (.cells #[.int .u8 66, .int .u8 c'] 78)) ⟨x1.heap.size, 0, none⟩ 1 1 [.int .u8 66, .int .u8 c'] rfl rfl (news_two x1 _ _ 78) (one_two _ _) (by unfold maxLen; decide) (by decide) (Nat.le_trans HW1.out.size (by simp)) ?_; intro v2 x2 ho hg hn; have HO2 := hid ho; have HW2 := hid ((HW1.out.alloc HW1.out.size (.cells #[.int .u8 66, .int .u8 c'] 78)).grown hg (Nat.le_trans HW1.out.size (by simp)) (own_ge HO1.out)); clear ho hg hn; have a0 := keepc HW2.out HX.out.1; have a1 := keepc HW2.out HX.out.2.1; have a2 := keepc HW2.out HX.out.2.2.1; have b0 := keepc HW2.out HX.out.2.2.2.1; have b1 := keepc HW2.out HX.out.2.2.2.2.1; have b2 := keepc HW2.out HX.out.2.2.2.2.2))
  go_ret
  exact pairs_done rfl rfl HO2.out (HB0.out.trans (HW2.out.mono HB0.out.size)) HB0.out.size
set_option maxRecDepth 100000 in
set_option maxHeartbeats 2000000 in
theorem rdiff_ttt (ch fa ch' fa' : Int) (a a' : Bool) (h c s h' c' s' : Nat) (e0 : ¬ h = h') (e1 : ¬ c = c') (e2 : ¬ s = s') (w : World) : Calls Try.prog 69 #[.agg #[.int .u8 ch, .bool a, .int .u8 fa, .int .u8 h, .int .u8 c, .int .u8 s], .agg #[.int .u8 ch', .bool a', .int .u8 fa', .int .u8 h', .int .u8 c', .int .u8 s']] w (PairsDone [(65, h'), (66, c'), (67, s')] w) := by
  obtain ⟨i0, hi, hz0, hz1, hz2⟩ := info_parts info78
  have q0 : ((h : Int) != h') = true := by simp; omega
  have q1 : ((c : Int) != c') = true := by simp; omega
  have q2 : ((s : Int) != s') = true := by simp; omega
  go_enter Try.func69, Try.ntmps69
  go_upto_region 2 with fail
  have HB0 := hid (((Below.refl w.heap.size w).alloc (Nat.le_refl _) (.cells #[.int .u8 ch, .bool a, .int .u8 fa, .int .u8 h, .int .u8 c, .int .u8 s] 80)).alloc (by simp) (.cells #[.int .u8 ch', .bool a', .int .u8 fa', .int .u8 h', .int .u8 c', .int .u8 s'] 80))
  have a0 : ((w.alloc (.cells #[.int .u8 ch, .bool a, .int .u8 fa, .int .u8 h, .int .u8 c, .int .u8 s] 80)).alloc (.cells #[.int .u8 ch', .bool a', .int .u8 fa', .int .u8 h', .int .u8 c', .int .u8 s'] 80)).cell? ⟨w.heap.size, 3, none⟩ = some (.int .u8 h) := by simp [go_sem]
  have b0 : ((w.alloc (.cells #[.int .u8 ch, .bool a, .int .u8 fa, .int .u8 h, .int .u8 c, .int .u8 s] 80)).alloc (.cells #[.int .u8 ch', .bool a', .int .u8 fa', .int .u8 h', .int .u8 c', .int .u8 s'] 80)).cell? ⟨w.heap.size + 1, 3, none⟩ = some (.int .u8 h') := by simp [go_sem]
  have a1 : ((w.alloc (.cells #[.int .u8 ch, .bool a, .int .u8 fa, .int .u8 h, .int .u8 c, .int .u8 s] 80)).alloc (.cells #[.int .u8 ch', .bool a', .int .u8 fa', .int .u8 h', .int .u8 c', .int .u8 s'] 80)).cell? ⟨w.heap.size, 4, none⟩ = some (.int .u8 c) := by simp [go_sem]
  have b1 : ((w.alloc (.cells #[.int .u8 ch, .bool a, .int .u8 fa, .int .u8 h, .int .u8 c, .int .u8 s] 80)).alloc (.cells #[.int .u8 ch', .bool a', .int .u8 fa', .int .u8 h', .int .u8 c', .int .u8 s'] 80)).cell? ⟨w.heap.size + 1, 4, none⟩ = some (.int .u8 c') := by simp [go_sem]
  have a2 : ((w.alloc (.cells #[.int .u8 ch, .bool a, .int .u8 fa, .int .u8 h, .int .u8 c, .int .u8 s] 80)).alloc (.cells #[.int .u8 ch', .bool a', .int .u8 fa', .int .u8 h', .int .u8 c', .int .u8 s'] 80)).cell? ⟨w.heap.size, 5, none⟩ = some (.int .u8 s) := by simp [go_sem]
  have b2 : ((w.alloc (.cells #[.int .u8 ch, .bool a, .int .u8 fa, .int .u8 h, .int .u8 c, .int .u8 s] 80)).alloc (.cells #[.int .u8 ch', .bool a', .int .u8 fa', .int .u8 h', .int .u8 c', .int .u8 s'] 80)).cell? ⟨w.heap.size + 1, 5, none⟩ = some (.int .u8 s') := by simp [go_sem]
  generalize ((w.alloc (.cells #[.int .u8 ch, .bool a, .int .u8 fa, .int .u8 h, .int .u8 c, .int .u8 s] 80)).alloc (.cells #[.int .u8 ch', .bool a', .int .u8 fa', .int .u8 h', .int .u8 c', .int .u8 s'] 80)) = W at HB0 a0 a1 a2 b0 b1 b2 ⊢
  have HX := hid (And.intro a0 (And.intro a1 (And.intro a2 (And.intro b0 (And.intro b1 b2)))))
  have HO0 := hid (World.ownsRow_nil W W.heap.size 78 2)
  have HW0 := hid (Below.refl W.heap.size W)
  go_wp2_with (first
    | (at_builtin; refine wpList_append_own _ rfl _ _ 93 rfl W.heap.size 78 i0 (.agg #[.int .u8 0, .int .u8 0]) 2 2 Try.underlying93 hi hz0 hz1 hz2 rfl (by decide) _ 0 _ rfl (HO0.out.alloc (.cells #[.int .u8 65, .int .u8 h'] 78)) ⟨W.heap.size, 0, none⟩ 1 1 [.int .u8 65, .int .u8 h'] rfl rfl (news_two W _ _ 78) (one_two _ _) (by unfold maxLen; decide) (by decide) (Nat.le_trans HW0.out.size (by simp)) ?_; intro v1 x1 ho hg hn; have HO1 := hid ho; have HW1 := hid ((HW0.out.alloc HW0.out.size (.cells #[.int .u8 65, .int .u8 h'] 78)).grown hg (Nat.le_trans HW0.out.size (by simp)) (own_ge HO0.out)); clear ho hg hn; have a0 := keepc HW1.out HX.out.1; have a1 := keepc HW1.out HX.out.2.1; have a2 := keepc HW1.out HX.out.2.2.1; have b0 := keepc HW1.out HX.out.2.2.2.1; have b1 := keepc HW1.out HX.out.2.2.2.2.1; have b2 := keepc HW1.out HX.out.2.2.2.2.2)
    | (at_builtin; refine wpList_append_own _ rfl _ _ 93 rfl W.heap.size 78 i0 (.agg #[.int .u8 0, .int .u8 0]) 2 2 Try.underlying93 hi hz0 hz1 hz2 rfl (by decide) _ 1 _ rfl (HO1.out.alloc (.cells #[.int .u8 66, .int .u8 c'] 78)) ⟨x1.heap.size, 0, none⟩ 1 1 [.int .u8 66, .int .u8 c'] rfl rfl (news_two x1 _ _ 78) (one_two _ _) (by unfold maxLen; decide) (by decide) (Nat.le_trans HW1.out.size (by simp)) ?_; intro v2 x2 ho hg hn; have HO2 := hid ho; have HW2 := hid ((HW1.out.alloc HW1.out.size (.cells #[.int .u8 66, .int .u8 c'] 78)).grown hg (Nat.le_trans HW1.out.size (by simp)) (own_ge HO1.out)); clear ho hg hn; have a0 := keepc HW2.out HX.out.1; have a1 := keepc HW2.out HX.out.2.1; have a2 := keepc HW2.out HX.out.2.2.1; have b0 := keepc HW2.out HX.out.2.2.2.1; have b1 := keepc HW2.out HX.out.2.2.2.2.1; have b2 := keepc HW2.out HX.out.2.2.2.2.2)
    | (at_builtin; refine wpList_append_own _ rfl _ _ 93 rfl W.heap.size 78 i0 (.agg #[.int .u8 0, .int .u8 0]) 2 2 Try.underlying93 hi hz0 hz1 hz2 rfl (by decide) _ 2 _ rfl (HO2.out.alloc (.cells #[.int .u8 67, .int .u8 s'] 78)) ⟨x2.heap.size, 0, none⟩ 1 1 [.int .u8 67, .int .u8 s'] rfl rfl (news_two x2 _ _ 78) (one_two _ _) (by unfold maxLen; decide) (by decide) (Nat.le_trans HW2.out.size (by simp)) ?_; intro v3 x3 ho hg hn; have HO3 := hid ho; have HW3 := hid ((HW2.out.alloc HW2.out.size (.cells #[.int .u8 67, .int .u8 s'] 78)).grown hg (Nat.le_trans HW2.out.size (by simp)) (own_ge HO2.out)); clear ho hg hn; have a0 := keepc HW3.out HX.out.1; have a1 := keepc HW3.out HX.out.2.1; have a2 := keepc HW3.out HX.out.2.2.1; have b0 := keepc HW3.out HX.out.2.2.2.1; have b1 := keepc HW3.out HX.out.2.2.2.2.1; have b2 := keepc HW3.out HX.out.2.2.2.2.2))
  go_ret
  exact pairs_done rfl rfl HO3.out (HB0.out.trans (HW3.out.mono HB0.out.size)) HB0.out.size
end Go.Proofs.Ytpnfdmfmdacjmaa
