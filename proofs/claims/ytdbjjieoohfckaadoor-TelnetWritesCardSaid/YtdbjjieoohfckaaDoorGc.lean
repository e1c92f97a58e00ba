/-
  The reference's Same, of events that are alike.
-/
import Derived.Test.YtdbjjieoohfckaaDoorGb
namespace Go.Proofs.YtdbjjieoohfckaaDoor
open Go.RowKit Go.Lib

set_option maxRecDepth 100000 in
set_option maxHeartbeats 4000000 in
theorem sameE_true (v u : Value) (xs ys : List (Ev × Value)) (w : World) (h : EvsX w v xs) (h' : EvsX w u ys) (he : xs.map (·.1) = ys.map (·.1)) (hlen : xs.length ≤ 100000) : Calls Tryd.prog 13 #[v, u] w fun e w' => e = .returned (.bool true) ∧ Below w.heap.size w w' := by
  obtain ⟨x, cap, rfl, hc⟩ := h
  obtain ⟨x', cap', rfl, hc'⟩ := h'
  have hll : ys.length = xs.length := by have := congrArg List.length he; simpa using this.symm
  have HC := hid hc
  have HC' := hid hc'
  have HE := hid (show ∀ k (h1 : k < xs.length) (h2 : k < ys.length), ys[k].1 = xs[k].1 from fun k h1 h2 => by
    have := congrArg (fun l => l[k]?) he
    simp [List.getElem?_map, List.getElem?_eq_getElem h1, List.getElem?_eq_getElem h2] at this
    exact this.symm)
  clear hc hc' he
  obtain ⟨n, hn⟩ : ∃ n, n = xs.length := ⟨_, rfl⟩
  rw [hll, ← hn]
  rw [← hn] at hlen hll
  have HLN := hid hn
  have HLL := hid hll
  clear hn hll
  go_enter Tryd.func13, Tryd.ntmps13
  go_wp2
  go_loopw [15] (fun i w' => ∃ (k : Nat), k ≤ n ∧ i = .int .i64 k ∧ Hid (Below w.heap.size w w')) (fun i _ => n - (intOf i).toNat)
  case atStart => exact ⟨0, Nat.zero_le _, rfl, Below.refl _ _⟩
  case round =>
    obtain ⟨k, hk, rfl, HB⟩ := hrel
    by_cases hlt : k < n
    · have hkx : k < xs.length := by rw [← HLN.out]; exact hlt
      have hky : k < ys.length := by rw [HLL.out]; exact hlt
      obtain ⟨g, off, rfl, h6, hrd⟩ := HC.out k hkx
      obtain ⟨g', off', rfl, h6', hrd'⟩ := HC'.out k hky
      have hee := HE.out k hkx hky
      have HE6 := hid ((six_of h6).below HB.out)
      have HRD := hid (reads_below hrd HB.out)
      have HE6' := hid ((six_of h6').below HB.out)
      have HRD' := hid (reads_below hrd' HB.out)
      have hki : (k : Int) < n := by omega
      have hgl := HE6'.out.blt
      clear h6 hrd h6' hrd'
      generalize xs[k] = xk at HE6 HRD hee
      generalize ys[k] = yk at HE6' HRD' hee
      obtain ⟨⟨ek, ev, eo, ed, el, eb⟩, dv⟩ := xk
      obtain ⟨e', dv'⟩ := yk
      dsimp only at hee
      subst hee
      obtain ⟨xd, nd, cd, hde⟩ := reads_any_slice HRD.out
      obtain ⟨xd', nd', cd', hde'⟩ := reads_any_slice HRD'.out
      dsimp only at hde hde'
      subst hde hde'
      have z0 := HE6.out.c0
      have z1 := HE6.out.c1
      have z2 := HE6.out.c2
      have z3 := HE6.out.c3
      have z4 := HE6.out.c4
      have z5 := HE6.out.c5
      have y0 := HE6'.out.c0
      have y1 := HE6'.out.c1
      have y2 := HE6'.out.c2
      have y3 := HE6'.out.c3
      have y4 := HE6'.out.c4
      have y5 := HE6'.out.c5
      dsimp only at z0 z1 z2 z3 z4 z5 y0 y1 y2 y3 y4 y5
      have hb2 : Below wr.heap.size wr ((wr.alloc (.cells #[.int .i64 ek, .int .u8 ev, .int .u8 eo, .slice xd nd cd, .bool el, .bool eb] 27)).alloc (.cells #[.int .i64 ek, .int .u8 ev, .int .u8 eo, .slice xd' nd' cd', .bool el, .bool eb] 27)) := ((Below.refl _ _).alloc (Nat.le_refl _) _).alloc (by simp) _
      have HSM := hid (same_true _ _ ed _ (reads_below HRD.out hb2) (reads_below HRD'.out hb2))
      have HB2 := hid (below_t HB.out hb2)
      clear hb2
      go_wp2_with fail
      refine HSM.out.mono ?_
      rintro e w2 ⟨rfl, rfl⟩
      go_wp2
      go_roundw
      case rel => exact ⟨k + 1, by omega, by go_num, HB2.out⟩
      case measure => simp [intOf]; omega
    · go_wp2
      go_ret
      exact ⟨rfl, HB.out⟩
end Go.Proofs.YtdbjjieoohfckaaDoor
