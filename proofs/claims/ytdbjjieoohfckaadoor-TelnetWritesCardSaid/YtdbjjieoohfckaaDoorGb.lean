/-
  back, Flip, the reference's Same.
-/
import Derived.Test.YtdbjjieoohfckaaDoorGa
namespace Go.Proofs.YtdbjjieoohfckaaDoor
open Go.RowKit Go.Lib

theorem cellsE_take (xs : List (Ev × Value)) (k : Nat) (h : k < xs.length) : cellsE (xs.take (k + 1)) = cellsE (xs.take k) ++ evC xs[k].1 xs[k].2 := by
  rw [List.take_succ_eq_append_getElem h, cellsE_append]
  show _ ++ (evC _ _ ++ []) = _
  rw [List.append_nil]
/-- Events are there. -/
def EvsDone (xs : List (Ev × Value)) (w : World) (e : Ending) (w' : World) : Prop := ∃ v, e = .returned v ∧ EvsX w' v xs ∧ Below w.heap.size w w'
theorem own_ge {w : World} {B : Nat} {t : TypeId} {n m : Nat} {v : Value} {xs : List Value} (h : w.ownsRow B t m v n xs) : ∀ k, v.ownBlock = some k → B ≤ k := fun k hk => (h.lt k hk).1
set_option maxRecDepth 100000 in
set_option maxHeartbeats 4000000 in
theorem back_any (v : Value) (xs : List (Ev × Value)) (w : World) (h : EvsX w v xs) (hlen : xs.length ≤ 100000) : Calls Tryd.prog 14 #[v] w (EvsDone xs w) := by
  obtain ⟨i0, hi, hz0, hz1, hz2⟩ := info_parts info36
  obtain ⟨x, cap, rfl, hc⟩ := h
  have HC := hid hc
  have HMT := hid (cellsE_take xs)
  have HEND := hid (show cellsE (xs.take xs.length) = cellsE xs by rw [List.take_length])
  clear hc
  obtain ⟨n, hn⟩ : ∃ n, n = xs.length := ⟨_, rfl⟩
  rw [← hn] at hlen ⊢
  have HLN := hid hn
  clear hn
  go_enter Tryd.func14, Tryd.ntmps14
  go_wp2
  go_loopw [3, 8] (fun s i w' => ∃ (k : Nat), k ≤ n ∧ i = .int .i64 k ∧ Hid (w'.ownsRow w.heap.size 27 6 s k (cellsE (xs.take k))) ∧ Hid (Below w.heap.size w w')) (fun _ i _ => n - (intOf i).toNat)
  case atStart => exact ⟨0, Nat.zero_le _, rfl, World.ownsRow_nil _ _ _ _, Below.refl _ _⟩
  case round =>
    obtain ⟨k, hk, rfl, HO, HB⟩ := hrel
    by_cases hlt : k < n
    · have hkx : k < xs.length := by rw [← HLN.out]; exact hlt
      obtain ⟨g, off, rfl, h6, hrd⟩ := HC.out k hkx
      have HS := hid (HMT.out k hkx)
      have HE6 := hid ((six_of h6).below HB.out)
      have HRD := hid (reads_below hrd HB.out)
      have hki : (k : Int) < n := by omega
      clear h6 hrd
      generalize xs[k] = xk at HS HE6 HRD
      obtain ⟨⟨ek, ev, eo, ed, el, eb⟩, dv⟩ := xk
      obtain ⟨xd, nd, cd, hde⟩ := reads_any_slice HRD.out
      dsimp only at hde
      subst hde
      have z0 := HE6.out.c0
      have z1 := HE6.out.c1
      have z2 := HE6.out.c2
      have z3 := HE6.out.c3
      have z4 := HE6.out.c4
      have z5 := HE6.out.c5
      dsimp only at z0 z1 z2 z3 z4 z5
      have HO2 := hid ((HO.out.alloc (.cells #[.int .i64 ek, .int .u8 ev, .int .u8 eo, .slice xd nd cd, .bool el, .bool eb] 34)).alloc (.cells #[.int .i64 ek, .int .u8 ev, .int .u8 eo, .slice xd nd cd, .bool el, .bool eb] 27))
      have HB2 := hid ((HB.out.alloc HB.out.size (.cells #[.int .i64 ek, .int .u8 ev, .int .u8 eo, .slice xd nd cd, .bool el, .bool eb] 34)).alloc (by have := HB.out.size; simp; omega) (.cells #[.int .i64 ek, .int .u8 ev, .int .u8 eo, .slice xd nd cd, .bool el, .bool eb] 27))
      have HNS := hid (news_six (wr.alloc (.cells #[.int .i64 ek, .int .u8 ev, .int .u8 eo, .slice xd nd cd, .bool el, .bool eb] 34)) (.int .i64 ek) (.int .u8 ev) (.int .u8 eo) (.slice xd nd cd) (.bool el) (.bool eb) 27)
      rw [show (wr.alloc (.cells #[.int .i64 ek, .int .u8 ev, .int .u8 eo, .slice xd nd cd, .bool el, .bool eb] 34)).heap.size = wr.heap.size + 1 by simp] at HNS
      have HSZ := hid (show w.heap.size ≤ ((wr.alloc (.cells #[.int .i64 ek, .int .u8 ev, .int .u8 eo, .slice xd nd cd, .bool el, .bool eb] 34)).alloc (.cells #[.int .i64 ek, .int .u8 ev, .int .u8 eo, .slice xd nd cd, .bool el, .bool eb] 27)).heap.size by have := HB.out.size; simp; omega)
      go_wp2_with (first
        | (at_builtin; refine wpList_append_own _ rfl _ _ 22 rfl w.heap.size 27 i0 _ 6 48 Tryd.underlying22 hi hz0 hz1 hz2 rfl (by decide) _ k _ rfl HO2.out ⟨wr.heap.size + 1, 0, none⟩ 1 1 (evC ⟨ek, ev, eo, ed, el, eb⟩ (.slice xd nd cd)) rfl rfl HNS.out (one_evC _ _ rfl) (by unfold maxLen; omega) (by omega) HSZ.out ?_; intro v1 w1 hown1 hgrow1 hnil1; have HO1 := hid hown1; have HG1 := hid hgrow1; clear hown1 hgrow1 hnil1))
      go_roundw
      case rel =>
        refine ⟨k + 1, by omega, by go_num, ?_, ?_⟩
        · show World.ownsRow _ _ _ _ _ _ _
          rw [HS.out]
          exact HO1.out
        · exact HB2.out.grown HG1.out HSZ.out (own_ge HO.out)
      case measure => simp [intOf]; omega
    · have hkn : k = n := by omega
      have HP : Hid (EvsDone xs w (.returned u3) wr) := by
        have q := HO.out
        rw [hkn, HLN.out, HEND.out] at q
        refine ⟨_, rfl, row_evs q (fun y hy => ?_), HB.out⟩
        obtain ⟨j, hj, rfl⟩ := List.getElem_of_mem hy
        obtain ⟨g, off, _, _, hrd⟩ := HC.out j hj
        exact reads_below hrd HB.out
      clear hkn
      go_wp2
      go_ret
      exact HP.out
set_option maxRecDepth 100000 in
set_option maxHeartbeats 2000000 in
theorem flip_any (v : Value) (zs : List Int) (w : World) (h : w.ownsRow 0 5 1 v zs.length (zs.map (Value.int .u8))) (hl : zs.length ≤ 1000000) : Calls Tryd.prog 22 #[v] w fun e w' => e = .returned (.tuple #[]) ∧ Moved w w' (blkV v) (blkV v) := by
  obtain ⟨n, hn⟩ : ∃ n, n = zs.length := ⟨_, rfl⟩
  rw [← hn] at h hl
  rcases h.2 with ⟨rfl, e⟩ | ⟨g, cap, cur, rfl, hg, hh, h1, h2, h3, h4⟩
  · clear h hn
    subst e
    go_enter Tryd.func22, Tryd.ntmps22
    go_wp2
    go_loopw [5] (fun i w' => i = .int .i64 0 ∧ w' = w) (fun _ _ => 0)
    case atStart => exact ⟨rfl, rfl⟩
    case round =>
      obtain ⟨rfl, rfl⟩ := hrel
      go_wp2
      go_end0
      exact ⟨rfl, Moved.refl _ _⟩
  · have HO := hid (show ∃ ys : List Int, ys.length = n ∧ w.ownsRow 0 5 1 (.slice (some ⟨g, 0, none⟩) n cap) n (ys.map (Value.int .u8)) from ⟨zs, hn.symm, h⟩)
    clear h hn hg hh h1 h2 h3 h4
    go_enter Tryd.func22, Tryd.ntmps22
    go_wp2
    go_loopw [5] (fun i w' => ∃ k : Nat, k ≤ n ∧ i = .int .i64 k ∧ Hid (∃ ys : List Int, ys.length = n ∧ w'.ownsRow 0 5 1 (.slice (some ⟨g, 0, none⟩) n cap) n (ys.map (Value.int .u8))) ∧ Hid (Moved w w' (blkV (.slice (some ⟨g, 0, none⟩) n cap)) (blkV (.slice (some ⟨g, 0, none⟩) n cap)))) (fun i _ => n - (intOf i).toNat)
    case atStart => exact ⟨0, Nat.zero_le _, rfl, HO.out, Moved.refl _ _⟩
    case round =>
      obtain ⟨k, hk, rfl, HY, HM⟩ := hrel
      by_cases hlt : k < n
      · obtain ⟨ys, hyl, hy⟩ := HY.out
        have c0 : wr.cell? ⟨g, k, none⟩ = some (.int .u8 (ys.getD k 0)) := by
          rw [World.ownsRow.cellAt hy k (by omega), List.getElem?_map, List.getD, List.getElem?_eq_getElem (by omega)]
          rfl
        have f0 := World.ownsRow.frozenAt hy k
        have HS : Hid (∀ z : Int, (wr.setCell ⟨g, k, none⟩ (.int .u8 z)).ownsRow 0 5 1 (.slice (some ⟨g, 0, none⟩) n cap) n ((ys.set k z).map (Value.int .u8))) := fun z => by
          have q := (World.ownsRow.stored hy k (.int .u8 z)).1
          rw [List.map_set]
          exact q
        have HL := hid hyl
        have hki : (k : Int) < n := by omega
        clear hy hyl HY
        generalize ys.getD k 0 = y at c0
        go_wp2
        go_roundw
        case rel => exact ⟨k + 1, by omega, by go_num, ⟨ys.set k _, by rw [List.length_set]; exact HL.out, HS.out _⟩, HM.out.trans (Moved.set (by simp [blkV, Value.ownBlock]) _ _)⟩
        case measure => simp [intOf]; omega
      · go_wp2
        go_end0
        exact ⟨rfl, HM.out⟩
end Go.Proofs.YtdbjjieoohfckaaDoor
