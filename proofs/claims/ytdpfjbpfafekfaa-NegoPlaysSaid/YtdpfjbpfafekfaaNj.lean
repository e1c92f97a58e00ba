/-
  slices.Sort of few bytes: the walk.
-/
import Derived.Test.YtdpfjbpfafekfaaNi
namespace Go.Proofs.Ytdpfjbpfafekfaa
open Go.RowKit Go.Lib

theorem OwnB.atn {w : World} {g n cap : Nat} {xs : List Int} (h : OwnB w (.slice (some ⟨g, 0, none⟩) n cap) xs) (hn : n = xs.length) (i : Nat) (hi : i < xs.length) : w.cell? ⟨g, i, none⟩ = some (.int .u8 (xs.getD i 0)) := by
  subst hn
  exact OwnB.at h i hi
theorem OwnB.storedn {w : World} {g n cap : Nat} {xs : List Int} (h : OwnB w (.slice (some ⟨g, 0, none⟩) n cap) xs) (hn : n = xs.length) (i : Nat) (z : Int) (hz : 0 ≤ z ∧ z < 256) : OwnB (w.setCell ⟨g, i, none⟩ (.int .u8 z)) (.slice (some ⟨g, 0, none⟩) n cap) (xs.set i z) := by
  subst hn
  exact OwnB.stored h i z hz
theorem own_frozen {w : World} {g n cap : Nat} {xs : List Int} (h : OwnB w (.slice (some ⟨g, 0, none⟩) n cap) xs) (i : Nat) : w.frozen? ⟨g, i, none⟩ = false := by
  rcases h.2.2 with ⟨e, _⟩ | ⟨g', cap', cur, e, _, hh, _⟩
  · cases e
  · cases e
    simp [World.frozen?, hh]
theorem below_dn {w w' : World} (h : Below w.heap.size w w') (n : Nat) : Below w.heap.size w (w'.drewN n) := h.trans ⟨rfl, rfl, rfl, Nat.le_refl _, fun _ _ => rfl⟩
set_option maxRecDepth 100000 in
set_option maxHeartbeats 4000000 in
theorem isort_any (g n cap : Nat) (xs : List Int) (w : World) (h : OwnB w (.slice (some ⟨g, 0, none⟩) n cap) xs) (hn : n = xs.length) (h1 : 1 ≤ n) (hl : n ≤ 12) : Calls Try.prog 100 #[.slice (some ⟨g, 0, none⟩) n cap, .int .i64 0, .int .i64 n] w (SortD xs g n cap w) := by
  have H := hid h
  have HN := hid hn
  clear h hn
  go_enter Try.func100, Try.ntmps100
  go_wp2
  go_loopw [6] (fun i W => ∃ (k : Nat) (s : List Int), 1 ≤ k ∧ k ≤ n ∧ i = .int .i64 k ∧ Hid (s.Perm (xs.take k)) ∧ Hid (s.Pairwise (· ≤ ·)) ∧ Hid (OwnB W (.slice (some ⟨g, 0, none⟩) n cap) (s ++ xs.drop k)) ∧ Hid (Moved w W [g] [g])) (fun i _ => n - (intOf i).toNat)
  case atStart =>
    refine ⟨1, xs.take 1, by omega, by omega, rfl, List.Perm.refl _, ?_, ?_, Moved.refl _ _⟩
    · show List.Pairwise _ _
      obtain ⟨x, t, e⟩ := List.exists_cons_of_length_pos (show 0 < xs.length by have := HN.out; omega)
      rw [e]
      simp
    · show OwnB _ _ _
      rw [List.take_append_drop]
      exact H.out
  case round =>
    obtain ⟨k, s, hk1, hkn, rfl, HP, HS, HO, HM⟩ := hrel
    clear H
    by_cases hlt : k < n
    · have hki : (k : Int) < n := by omega
      have HSL : Hid (s.length = k) := by show _ = _; rw [HP.out.length_eq, List.length_take]; have := HN.out; omega
      have hdk : xs.drop k = xs.getD k 0 :: xs.drop (k + 1) := by
        have hkx : k < xs.length := by have := HN.out; omega
        rw [List.drop_eq_getElem_cons hkx, List.getD, List.getElem?_eq_getElem hkx]
        rfl
      have HTK := hid (take_succD (show k < xs.length by have := HN.out; omega))
      have HO0 : Hid (OwnB wr (.slice (some ⟨g, 0, none⟩) n cap) (insAt s k (xs.getD k 0) (xs.drop (k + 1)))) := by
        show OwnB _ _ _
        have := HO.out
        rw [hdk] at this
        unfold insAt
        rw [List.take_of_length_le (by rw [HSL.out]; omega), List.drop_of_length_le (by rw [HSL.out]; omega), List.append_assoc]
        exact this
      have HRL : Hid (k + 1 + (xs.drop (k + 1)).length = n) := by show _ = _; rw [List.length_drop]; have := HN.out; omega
      clear hdk HO
      generalize xs.getD k 0 = x at *
      generalize hrr : xs.drop (k + 1) = r at *
      have HRR := hid hrr
      clear hrr
      go_wp2
      go_loopw [7] (fun j W => ∃ q : Nat, q ≤ k ∧ j = .int .i64 q ∧ Hid (OwnB W (.slice (some ⟨g, 0, none⟩) n cap) (insAt s q x r)) ∧ Hid (∀ y ∈ s.drop q, x < y) ∧ Hid (Moved w W [g] [g])) (fun j _ => (intOf j).toNat)
      case atStart => exact ⟨k, by omega, rfl, HO0.out, (fun y hy => by rw [List.drop_of_length_le (by rw [HSL.out]; omega)] at hy; cases hy), HM.out⟩
      case round =>
        obtain ⟨q, hqk, rfl, HI, HG, HM2⟩ := hrel
        clear HO0 HM
        have HIL : Hid (n = (insAt s q x r).length) := by show _ = _; rw [insAt_length, HSL.out]; have := HRL.out; omega
        by_cases h0 : q = 0
        · subst h0
          have HF := hid (show insAt s 0 x r = insAt s 0 x [] ++ r by unfold insAt; simp)
          have HP2 := hid (show (insAt s 0 x []).Perm (xs.take (k + 1)) by rw [HTK.out]; exact (insAt_perm s 0 x).trans (HP.out.append_right _))
          have HS2 := hid (insAt_sorted HS.out 0 (by rw [HSL.out]; omega) x HG.out (.inl rfl))
          have HO2 := hid (fun W (hb : Below wr.heap.size wr W) => show OwnB W (.slice (some ⟨g, 0, none⟩) n cap) (insAt s 0 x [] ++ r) by rw [← HF.out]; exact HI.out.step hb)
          have HM3 := hid (fun W (hb : Below wr.heap.size wr W) => HM2.out.trans (Moved.below hb [g]))
          clear HF HI HG HIL HM2
          go_wp2
          go_quiet (fail)
          go_wp2
          go_roundw
          case rel => exact ⟨k + 1, insAt s 0 x [], by omega, by omega, by go_num, HP2.out, HS2.out, (by show OwnB _ _ _; rw [HRR.out]; exact HO2.out _ (below_dn (Below.refl _ _) _)), HM3.out _ (below_dn (Below.refl _ _) _)⟩
          case measure => simp [intOf]; omega
        · have hq0 : (0 : Int) < q := by omega
          have c0 := HI.out.atn HIL.out q (by rw [← HIL.out]; omega)
          have c1 := HI.out.atn HIL.out (q - 1) (by rw [← HIL.out]; omega)
          rw [insAt_q s q x r (by rw [HSL.out]; exact hqk)] at c0
          rw [insAt_p s q x r (by rw [HSL.out]; exact hqk) (by omega)] at c1
          have f0 := own_frozen HI.out q
          have f1 := own_frozen HI.out (q - 1)
          have hw : IntKind.i64.wrap ((q : Int) - 1) = (q : Int) - 1 := IntWalk.i64_in _ (by omega)
          have hqn : ((q : Int) - 1).toNat = q - 1 := by omega
          have hqp : (0 : Int) ≤ (q : Int) - 1 := by omega
          have hql : (q : Int) - 1 < n := by omega
          have hql2 : (q : Int) < n := by omega
          by_cases hx : x < s.getD (q - 1) 0
          · have hqd : decide (0 < q) = true := decide_eq_true (by omega)
            have HO2 := hid (show OwnB ((wr.setCell ⟨g, q, none⟩ (.int .u8 (s.getD (q - 1) 0))).setCell ⟨g, q - 1, none⟩ (.int .u8 x)) (.slice (some ⟨g, 0, none⟩) n cap) (insAt s (q - 1) x r) by
              have hb := fun y hy => HI.out.1 y hy
              have hxb : 0 ≤ x ∧ x < 256 := hb x (by unfold insAt; simp)
              have hzb : 0 ≤ s.getD (q - 1) 0 ∧ s.getD (q - 1) 0 < 256 := by
                rw [List.getD, List.getElem?_eq_getElem (show q - 1 < s.length by rw [HSL.out]; omega)]
                refine hb _ ?_
                unfold insAt
                rw [List.append_assoc]
                refine List.mem_append_left _ ?_
                rw [List.mem_take_iff_getElem]
                exact ⟨q - 1, by rw [HSL.out]; omega, rfl⟩
              have a := HI.out.storedn HIL.out q (s.getD (q - 1) 0) hzb
              have b := a.storedn (by rw [List.length_set]; exact HIL.out) (q - 1) x hxb
              rw [insAt_swap s q x r (by rw [HSL.out]; exact hqk) (by omega)] at b
              exact b)
            have HG2 := hid (show ∀ y ∈ s.drop (q - 1), x < y from fun y hy => by
              have hp : q - 1 < s.length := by rw [HSL.out]; omega
              rw [List.drop_eq_getElem_cons hp] at hy
              rcases List.mem_cons.1 hy with rfl | hy
              · rw [List.getD, List.getElem?_eq_getElem hp] at hx
                exact hx
              · rw [show q - 1 + 1 = q by omega] at hy
                exact HG.out y hy)
            have HM3 := hid (HM2.out.trans ((Moved.set (a := wr) (S := [g]) (g := g) (by simp) q (.int .u8 (s.getD (q - 1) 0))).trans (Moved.set (S := [g]) (g := g) (by simp) (q - 1) (.int .u8 x))))
            have hne : q ≠ q - 1 := by omega
            clear HI HG HIL HM2
            generalize s.getD (q - 1) 0 = z at *
            have hdx : decide (x < z) = true := decide_eq_true hx
            have sd : ∀ (W : World) j a v, (W.drewN j).setCell a v = (W.setCell a v).drewN j := fun _ _ _ _ => rfl
            go_wp2
            go_quiet ((go_at_call 106; exact Calls.quiet_of_same (less_any _ _ _)))
            go_wp2
            go_region
            go_wp2
            go_roundw
            case rel => exact ⟨q - 1, by omega, by go_num, HO2.out.step (below_dn (Below.refl _ _) _), HG2.out, HM3.out.trans (Moved.below (below_dn (Below.refl _ _) _) _)⟩
            case measure => simp [intOf]; omega
          · have hqd : decide (0 < q) = true := decide_eq_true (by omega)
            have hdx : decide (x < s.getD (q - 1) 0) = false := decide_eq_false hx
            have HF := hid (show insAt s q x r = insAt s q x [] ++ r by unfold insAt; simp)
            have HP2 := hid (show (insAt s q x []).Perm (xs.take (k + 1)) by rw [HTK.out]; exact (insAt_perm s q x).trans (HP.out.append_right _))
            have HS2 := hid (insAt_sorted HS.out q (by rw [HSL.out]; omega) x HG.out (.inr hx))
            have HO2 := hid (fun W (hb : Below wr.heap.size wr W) => show OwnB W (.slice (some ⟨g, 0, none⟩) n cap) (insAt s q x [] ++ r) by rw [← HF.out]; exact HI.out.step hb)
            have HM3 := hid (fun W (hb : Below wr.heap.size wr W) => HM2.out.trans (Moved.below hb [g]))
            clear HF HI HG HIL HM2
            generalize s.getD (q - 1) 0 = z at *
            go_wp2
            go_quiet ((go_at_call 106; exact Calls.quiet_of_same (less_any _ _ _)))
            go_wp2
            go_roundw
            case rel => exact ⟨k + 1, insAt s q x [], by omega, by omega, by go_num, HP2.out, HS2.out, (by show OwnB _ _ _; rw [HRR.out]; exact HO2.out _ (below_dn (Below.refl _ _) _)), HM3.out _ (below_dn (Below.refl _ _) _)⟩
            case measure => simp [intOf]; omega
    · obtain rfl : k = n := by omega
      have HX := hid (show SortD xs g k cap w (.returned (.tuple #[])) wr from ⟨rfl, s, by have := HP.out; rw [HN.out, List.take_length] at this; exact this, HS.out, by have := HO.out; rw [HN.out, List.drop_length, List.append_nil, ← HN.out] at this; exact this, HM.out⟩)
      go_wp2
      go_end0
      exact HX.out
end Go.Proofs.Ytdpfjbpfafekfaa
