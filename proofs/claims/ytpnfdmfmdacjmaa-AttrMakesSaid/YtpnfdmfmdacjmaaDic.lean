/-
  What isn't the same between two cells: the program's Diff.
-/
import Derived.Test.YtpnfdmfmdacjmaaDib
namespace Go.Proofs.Ytpnfdmfmdacjmaa
open Go.RowKit Go.Lib

theorem info5b : (Try.prog.info? 5).map (·.size) = some 1 := by kernel_rfl
theorem index_112 (a b c k : Nat) (hk : k < 3) (w : World) : (Instr.index 112 (.agg #[.int .u8 a, .int .u8 b, .int .u8 c]) (.int .i64 k)).run Try.prog w = .ok (.int .u8 (pick3 a b c k)) w := by
  obtain ⟨i, hi, hs⟩ := Option.map_eq_some_iff.1 info5b
  have h : k = 0 ∨ k = 1 ∨ k = 2 := by omega
  rcases h with rfl | rfl | rfl <;> simp [Instr.index, asIntOf, run_underlying Try.underlying112, sizeOf, typeInfo, hi, hs, part, isAgg, run_underlying Try.underlying5, pick3]
theorem diffN_same (h c s h' c' s' k : Nat) (e : pick3 h c s k = pick3 h' c' s' k) : diffN (pick3 h c s) (pick3 h' c' s') (k + 1) = diffN (pick3 h c s) (pick3 h' c' s') k := by
  show _ ++ (if _ then _ else _) = _
  rw [if_pos e, List.append_nil]
theorem diffN_step (h c s h' c' s' k : Nat) (e : ¬ pick3 h c s k = pick3 h' c' s' k) : (diffN (pick3 h c s) (pick3 h' c' s') (k + 1)).length = (diffN (pick3 h c s) (pick3 h' c' s') k).length + 1 ∧ cellsP (diffN (pick3 h c s) (pick3 h' c' s') (k + 1)) = cellsP (diffN (pick3 h c s) (pick3 h' c' s') k) ++ [.int .u8 (65 + (k : Int)), .int .u8 (pick3 h' c' s' k)] := by
  have q : diffN (pick3 h c s) (pick3 h' c' s') (k + 1) = diffN (pick3 h c s) (pick3 h' c' s') k ++ [(65 + k, pick3 h' c' s' k)] := by
    show _ ++ (if _ then _ else _) = _
    rw [if_neg e]
  rw [q, cellsP_append, List.length_append]
  exact ⟨rfl, by simp [cellsP]⟩
set_option maxRecDepth 100000 in
set_option maxHeartbeats 8000000 in
theorem diff_any (ch fa ch' fa' : Int) (a a' : Bool) (h c s h' c' s' : Nat) (w : World) : Calls Try.prog 68 #[.agg #[.int .u8 ch, .bool a, .int .u8 fa, .int .u8 h, .int .u8 c, .int .u8 s], .agg #[.int .u8 ch', .bool a', .int .u8 fa', .int .u8 h', .int .u8 c', .int .u8 s']] w (PairsDone (diffL h c s h' c' s') w) := by
  obtain ⟨i0, hi, hz0, hz1, hz2⟩ := info_parts info82
  obtain ⟨D, hD⟩ : ∃ D, D = diffL h c s h' c' s' := ⟨_, rfl⟩
  rw [← hD]
  have HD := hid hD
  clear hD
  go_enter Try.func68, Try.ntmps68
  go_upto_region 1 with fail
  go_cut [5, 6] (fun p q wx => ∃ g5 g6 : Nat, p = .pointer (some ⟨g5, 0, none⟩) ∧ q = .pointer (some ⟨g6, 0, none⟩) ∧ wx.cell? ⟨g5, 0, none⟩ = some (.int .u8 h) ∧ wx.cell? ⟨g5, 1, none⟩ = some (.int .u8 c) ∧ wx.cell? ⟨g5, 2, none⟩ = some (.int .u8 s) ∧ wx.cell? ⟨g6, 0, none⟩ = some (.int .u8 h') ∧ wx.cell? ⟨g6, 1, none⟩ = some (.int .u8 c') ∧ wx.cell? ⟨g6, 2, none⟩ = some (.int .u8 s') ∧ Below w.heap.size w wx)
  case first =>
    go_region_held3 (fun w' => w'.cell? ⟨w.heap.size, 0, none⟩ = some (.int .u8 ch) ∧ w'.cell? ⟨w.heap.size, 1, none⟩ = some (.bool a) ∧ w'.cell? ⟨w.heap.size, 2, none⟩ = some (.int .u8 fa) ∧ w'.cell? ⟨w.heap.size, 3, none⟩ = some (.int .u8 h) ∧ w'.cell? ⟨w.heap.size, 4, none⟩ = some (.int .u8 c) ∧ w'.cell? ⟨w.heap.size, 5, none⟩ = some (.int .u8 s) ∧ w'.cell? ⟨w.heap.size + 1, 0, none⟩ = some (.int .u8 ch') ∧ w'.cell? ⟨w.heap.size + 1, 1, none⟩ = some (.bool a') ∧ w'.cell? ⟨w.heap.size + 1, 2, none⟩ = some (.int .u8 fa') ∧ w'.cell? ⟨w.heap.size + 1, 3, none⟩ = some (.int .u8 h') ∧ w'.cell? ⟨w.heap.size + 1, 4, none⟩ = some (.int .u8 c') ∧ w'.cell? ⟨w.heap.size + 1, 5, none⟩ = some (.int .u8 s')) (simp [go_sem]) (first | (go_at_call 78; (with_reducible refine (display_any _ _ _ _ _ _ _).mono ?_); rintro e w2 ⟨rfl, rfl⟩))
    all_goals
      rename_i hH
      clear hH
      go_wp2_with fail
      go_meet
      refine ⟨_, _, rfl, rfl, by simp [go_sem], by simp [go_sem], by simp [go_sem], by simp [go_sem], by simp [go_sem], by simp [go_sem], ?_⟩
      repeat (first | exact Below.refl _ _ | refine Below.alloc ?_ (by first | (simp; done) | (simp; omega)) _ | refine Below.setCell ?_ (by first | (simp; done) | (simp; omega)) _ | refine Below.drew ?_)
  case rest =>
    obtain ⟨g5, g6, rfl, rfl, x0, x1, x2, y0, y1, y2, hb⟩ := hcut
    have HB := hid hb
    clear hb
    have HXC : Hid (∀ k, k < 3 → wc.cell? ⟨g5, k, none⟩ = some (.int .u8 (pick3 h c s k))) := fun k hk => by
      match k, hk with
      | 0, _ => exact x0
      | 1, _ => exact x1
      | 2, _ => exact x2
    have HEQ := fun w => eq3 h c s h' c' s' w
    by_cases hall : h = h' ∧ c = c' ∧ s = s'
    · obtain ⟨rfl, rfl, rfl⟩ := hall
      have HD0 : Hid (D = []) := by show _ = _; rw [HD.out]; simp [diffL]
      have HEQ' := fun w => (HEQ w).trans (by simp : _ = Result.ok true w)
      clear HEQ
      go_wp2
      go_ret
      exact ⟨_, rfl, .inl ⟨rfl, HD0.out⟩, HB.out, fun k hk => by cases hk⟩
    · have hbf : ((h : Int) == h' && ((c : Int) == c' && (s : Int) == s')) = false := by
        simp
        omega
      have HEQ' := fun w => (HEQ w).trans (congrArg (fun b => Result.ok b w) hbf)
      clear HEQ hbf hall
      have HLE : Hid (∀ k, (diffN (pick3 h c s) (pick3 h' c' s') k).length ≤ k) := fun k => by
        induction k with
        | zero => exact Nat.le_refl _
        | succ k ih =>
          show (_ ++ _ : List _).length ≤ _
          rw [List.length_append]
          split <;> simp <;> omega
      go_wp2
      clear HEQ'
      go_loopw [7, 18] (fun v i w' => ∃ k : Nat, k ≤ 3 ∧ i = .int .i64 k ∧ Hid (w'.ownsRow wc.heap.size 82 2 v (diffN (pick3 h c s) (pick3 h' c' s') k).length (cellsP (diffN (pick3 h c s) (pick3 h' c' s') k))) ∧ Hid (Below wc.heap.size wc w')) (fun _ i _ => 3 - (intOf i).toNat)
      case atStart => exact ⟨0, by omega, rfl, World.ownsRow_nil _ _ _ _, Below.refl _ _⟩
      case round =>
        obtain ⟨k, hk, rfl, HO, HW⟩ := hrel
        by_cases hlt : k < 3
        · have z0 := keepc HW.out (HXC.out k hlt)
          have hix := index_112 h' c' s' k hlt wr
          have HST := hid (diffN_step h c s h' c' s' k)
          have HSN := hid (diffN_same h c s h' c' s' k)
          generalize pick3 h c s k = X at z0 HST HSN
          generalize pick3 h' c' s' k = Y at hix HST HSN
          have hki : (k : Int) < 3 := by omega
          have hk5 : k < 5 := by omega
          by_cases hh : X = Y
          · have HS := hid (HSN.out hh)
            subst hh
            go_wp2
            go_roundw
            case rel => exact ⟨k + 1, by omega, by go_num, by show World.ownsRow _ _ _ _ _ _ _; rw [HS.out]; exact HO.out, HW.out⟩
            case measure => simp [intOf]; omega
          · have HS := hid (HST.out hh)
            have q1 : ((Y : Int) != (X : Int)) = true := by simp; omega
            have HL3 := hid (HLE.out k)
            go_wp2_with (first
              | (at_builtin; refine wpList_append_own _ rfl _ _ 90 rfl wc.heap.size 82 i0 (.agg #[.int .u8 0, .int .u8 0]) 2 2 Try.underlying90 hi hz0 hz1 hz2 rfl (by decide) _ _ _ rfl (HO.out.alloc (.cells #[.int .u8 (65 + (k : Int)), .int .u8 Y] 82)) ⟨wr.heap.size, 0, none⟩ 1 1 [.int .u8 (65 + (k : Int)), .int .u8 Y] rfl rfl (news_two wr _ _ 82) (one_two _ _) (by have := HL3.out; unfold maxLen; omega) (by have := HL3.out; omega) (Nat.le_trans HW.out.size (by simp)) ?_; intro v3 w3 ho hg hn; have HO3 := hid ho; have HW3 := hid ((HW.out.alloc HW.out.size (.cells #[.int .u8 (65 + (k : Int)), .int .u8 Y] 82)).grown hg (Nat.le_trans HW.out.size (by simp)) (own_ge HO.out)); clear ho hg hn))
            go_roundw
            case rel => exact ⟨k + 1, by omega, by go_num, by show World.ownsRow _ _ _ _ _ _ _; rw [HS.out.1, HS.out.2]; exact HO3.out, HW3.out⟩
            case measure => simp [intOf]; omega
        · obtain rfl : k = 3 := by omega
          have HO3 := HO.out
          rw [diffN_three, ← HD.out] at HO3
          have HO5 := hid HO3
          clear HO3
          go_wp2
          go_ret
          exact pairs_done rfl rfl HO5.out (HB.out.trans (HW.out.mono HB.out.size)) HB.out.size
end Go.Proofs.Ytpnfdmfmdacjmaa
