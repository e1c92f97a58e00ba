/-
  nego: few bytes are sorted; an end.
-/
import Derived.Test.YtaanpnmgibcemaaGreatDoorNa
import Derived.RegionTactic
import Derived.ChangeAlike
import Derived.Deep.QuietTactic
import Derived.BigQuiet
import Derived.Lib.Strings
import Derived.Lib.Slices
import Derived.Lib.Small
import Derived.Lib.Walk
import Derived.Lib.BitFns
namespace Go.Proofs.YtaanpnmgibcemaaGreatDoor.Ng
/-! XNi -/
section
open Go.RowKit Go.Lib
set_option maxRecDepth 100000 in
theorem less_any (a b : Int) (w : World) : Calls Tryz.prog 161 #[.int .u8 a, .int .u8 b] w fun e w' => e = .returned (.bool (decide (a < b))) ∧ w' = w := by
  go_enter Tryz.func161, Tryz.ntmps161
  go_wp2
  go_ret
  exact ⟨rfl, rfl⟩
/-- A byte among others that are sorted. -/
def insAt (s : List Int) (q : Nat) (x : Int) (r : List Int) : List Int := s.take q ++ x :: s.drop q ++ r
theorem insAt_length (s : List Int) (q : Nat) (x : Int) (r : List Int) : (insAt s q x r).length = s.length + 1 + r.length := by
  unfold insAt
  have := congrArg List.length (List.take_append_drop q s)
  simp only [List.length_append, List.length_cons] at this ⊢
  omega
theorem insAt_q (s : List Int) (q : Nat) (x : Int) (r : List Int) (hq : q ≤ s.length) : (insAt s q x r).getD q 0 = x := by
  unfold insAt
  rw [List.getD, List.append_assoc, List.getElem?_append_right (by rw [List.length_take]; omega)]
  simp [List.length_take, Nat.min_eq_left hq]
theorem insAt_p (s : List Int) (q : Nat) (x : Int) (r : List Int) (hq : q ≤ s.length) (h0 : 0 < q) : (insAt s q x r).getD (q - 1) 0 = s.getD (q - 1) 0 := by
  unfold insAt
  rw [List.getD, List.getD, List.append_assoc, List.getElem?_append_left (by rw [List.length_take]; omega), List.getElem?_take, if_pos (by omega)]
theorem insAt_swap (s : List Int) (q : Nat) (x : Int) (r : List Int) (hq : q ≤ s.length) (h0 : 0 < q) : ((insAt s q x r).set q (s.getD (q - 1) 0)).set (q - 1) x = insAt s (q - 1) x r := by
  obtain ⟨p, rfl⟩ : ∃ p, q = p + 1 := ⟨q - 1, by omega⟩
  simp only [Nat.add_sub_cancel]
  have hp : p < s.length := by omega
  have e1 : s.take (p + 1) = s.take p ++ [s.getD p 0] := take_succD hp
  have e2 : s.drop p = s.getD p 0 :: s.drop (p + 1) := by
    rw [List.drop_eq_getElem_cons hp, List.getD, List.getElem?_eq_getElem hp]
    rfl
  have l1 : (s.take p).length = p := by rw [List.length_take]; omega
  unfold insAt
  rw [e1, e2]
  generalize s.getD p 0 = y
  generalize s.drop (p + 1) = t
  rw [show (s.take p ++ [y]) ++ x :: t ++ r = s.take p ++ (y :: x :: (t ++ r)) by simp]
  rw [List.set_append_right _ _ (by omega), l1, show p + 1 - p = 1 by omega, List.set_append_right _ _ (by omega), l1, Nat.sub_self]
  simp
theorem insAt_perm (s : List Int) (q : Nat) (x : Int) : (insAt s q x []).Perm (s ++ [x]) := by
  unfold insAt
  rw [List.append_nil]
  refine List.perm_middle.trans ?_
  rw [List.take_append_drop]
  exact (List.perm_append_singleton x s).symm
theorem insAt_sorted {s : List Int} (hs : s.Pairwise (· ≤ ·)) (q : Nat) (hq : q ≤ s.length) (x : Int) (hgt : ∀ y ∈ s.drop q, x < y) (hle : q = 0 ∨ ¬ x < s.getD (q - 1) 0) : (insAt s q x []).Pairwise (· ≤ ·) := by
  unfold insAt
  rw [List.append_nil, List.pairwise_append]
  have hs2 : (s.take q ++ s.drop q).Pairwise (· ≤ ·) := by rw [List.take_append_drop]; exact hs
  rw [List.pairwise_append] at hs2
  refine ⟨hs2.1, List.pairwise_cons.2 ⟨fun y hy => Int.le_of_lt (hgt y hy), hs2.2.1⟩, fun a ha b hb => ?_⟩
  rcases List.mem_cons.1 hb with rfl | hb
  · rcases hle with rfl | hle
    · simp at ha
    · have h0 : 0 < q := by
        rcases Nat.eq_zero_or_pos q with rfl | h
        · simp at ha
        · exact h
      obtain ⟨p, rfl⟩ : ∃ p, q = p + 1 := ⟨q - 1, by omega⟩
      simp only [Nat.add_sub_cancel] at hle
      rw [take_succD (by omega)] at ha hs2
      rcases List.mem_append.1 ha with h1 | h1
      · have := (List.pairwise_append.1 hs2.1).2.2 a h1 (s.getD p 0) (by simp)
        omega
      · have : a = s.getD p 0 := by simpa using h1
        omega
  · exact hs2.2.2 a ha b hb
/-- A row that was sorted. -/
def SortD (xs : List Int) (g n cap : Nat) (w : World) (e : Ending) (w' : World) : Prop := e = .returned (.tuple #[]) ∧ ∃ s, s.Perm xs ∧ s.Pairwise (· ≤ ·) ∧ OwnB w' (.slice (some ⟨g, 0, none⟩) n cap) s ∧ Moved w w' [g] [g]
end
/-! XNj -/
section
open Go.RowKit Go.Lib
theorem _root_.Go.Proofs.YtaanpnmgibcemaaGreatDoor.OwnB.atn {w : World} {g n cap : Nat} {xs : List Int} (h : OwnB w (.slice (some ⟨g, 0, none⟩) n cap) xs) (hn : n = xs.length) (i : Nat) (hi : i < xs.length) : w.cell? ⟨g, i, none⟩ = some (.int .u8 (xs.getD i 0)) := by
  subst hn
  exact OwnB.at h i hi
theorem _root_.Go.Proofs.YtaanpnmgibcemaaGreatDoor.OwnB.storedn {w : World} {g n cap : Nat} {xs : List Int} (h : OwnB w (.slice (some ⟨g, 0, none⟩) n cap) xs) (hn : n = xs.length) (i : Nat) (z : Int) (hz : 0 ≤ z ∧ z < 256) : OwnB (w.setCell ⟨g, i, none⟩ (.int .u8 z)) (.slice (some ⟨g, 0, none⟩) n cap) (xs.set i z) := by
  subst hn
  exact OwnB.stored h i z hz
theorem own_frozen {w : World} {g n cap : Nat} {xs : List Int} (h : OwnB w (.slice (some ⟨g, 0, none⟩) n cap) xs) (i : Nat) : w.frozen? ⟨g, i, none⟩ = false := by
  rcases h.2.2 with ⟨e, _⟩ | ⟨g', cap', cur, e, _, hh, _⟩
  · cases e
  · cases e
    simp [World.frozen?, hh]
theorem below_dn {w w' : World} (h : Below w.heap.size w w') (n : Nat) : Below w.heap.size w (w'.drewN n) := h.trans ⟨rfl, rfl, rfl, Nat.le_refl _, fun _ _ => rfl⟩
set_option maxRecDepth 100000 in
set_option maxHeartbeats 4000000 in
theorem isort_any (g n cap : Nat) (xs : List Int) (w : World) (h : OwnB w (.slice (some ⟨g, 0, none⟩) n cap) xs) (hn : n = xs.length) (h1 : 1 ≤ n) (hl : n ≤ 12) : Calls Tryz.prog 155 #[.slice (some ⟨g, 0, none⟩) n cap, .int .i64 0, .int .i64 n] w (SortD xs g n cap w) := by
  have H := hid h
  have HN := hid hn
  clear h hn
  go_enter Tryz.func155, Tryz.ntmps155
  go_wp2
  go_loopw [6] (fun i W => ∃ (k : Nat) (s : List Int), 1 ≤ k ∧ k ≤ n ∧ i = .int .i64 k ∧ Hid (s.Perm (xs.take k)) ∧ Hid (s.Pairwise (· ≤ ·)) ∧ Hid (OwnB W (.slice (some ⟨g, 0, none⟩) n cap) (s ++ xs.drop k)) ∧ Hid (Moved w W [g] [g])) (fun i _ => n - (Lib.intOf i).toNat)
  case atStart =>
    refine ⟨1, xs.take 1, by omega, by omega, rfl, List.Perm.refl _, ?_, ?_, Moved.refl _ _⟩
    · show List.Pairwise _ _
      obtain ⟨x, t, e⟩ := List.exists_cons_of_length_pos (show 0 < xs.length by have := HN.out; omega)
      rw [e]
      simp
    · show OwnB _ _ _
      rw [List.take_append_drop]
      exact H.out
  case round =>
    obtain ⟨k, s, hk1, hkn, rfl, HP, HS, HO, HM⟩ := hrel
    clear H
    by_cases hlt : k < n
    · have hki : (k : Int) < n := by omega
      have HSL : Hid (s.length = k) := by show _ = _; rw [HP.out.length_eq, List.length_take]; have := HN.out; omega
      have hdk : xs.drop k = xs.getD k 0 :: xs.drop (k + 1) := by
        have hkx : k < xs.length := by have := HN.out; omega
        rw [List.drop_eq_getElem_cons hkx, List.getD, List.getElem?_eq_getElem hkx]
        rfl
      have HTK := hid (take_succD (show k < xs.length by have := HN.out; omega))
      have HO0 : Hid (OwnB wr (.slice (some ⟨g, 0, none⟩) n cap) (insAt s k (xs.getD k 0) (xs.drop (k + 1)))) := by
        show OwnB _ _ _
        have := HO.out
        rw [hdk] at this
        unfold insAt
        rw [List.take_of_length_le (by rw [HSL.out]; omega), List.drop_of_length_le (by rw [HSL.out]; omega), List.append_assoc]
        exact this
      have HRL : Hid (k + 1 + (xs.drop (k + 1)).length = n) := by show _ = _; rw [List.length_drop]; have := HN.out; omega
      clear hdk HO
      generalize xs.getD k 0 = x at *
      generalize hrr : xs.drop (k + 1) = r at *
      have HRR := hid hrr
      clear hrr
      go_wp2
      go_loopw [7] (fun j W => ∃ q : Nat, q ≤ k ∧ j = .int .i64 q ∧ Hid (OwnB W (.slice (some ⟨g, 0, none⟩) n cap) (insAt s q x r)) ∧ Hid (∀ y ∈ s.drop q, x < y) ∧ Hid (Moved w W [g] [g])) (fun j _ => (Lib.intOf j).toNat)
      case atStart => exact ⟨k, by omega, rfl, HO0.out, (fun y hy => by rw [List.drop_of_length_le (by rw [HSL.out]; omega)] at hy; cases hy), HM.out⟩
      case round =>
        obtain ⟨q, hqk, rfl, HI, HG, HM2⟩ := hrel
        clear HO0 HM
        have HIL : Hid (n = (insAt s q x r).length) := by show _ = _; rw [insAt_length, HSL.out]; have := HRL.out; omega
        by_cases h0 : q = 0
        · subst h0
          have HF := hid (show insAt s 0 x r = insAt s 0 x [] ++ r by unfold insAt; simp)
          have HP2 := hid (show (insAt s 0 x []).Perm (xs.take (k + 1)) by rw [HTK.out]; exact (insAt_perm s 0 x).trans (HP.out.append_right _))
          have HS2 := hid (insAt_sorted HS.out 0 (by rw [HSL.out]; omega) x HG.out (.inl rfl))
          have HO2 := hid (fun W (hb : Below wr.heap.size wr W) => show OwnB W (.slice (some ⟨g, 0, none⟩) n cap) (insAt s 0 x [] ++ r) by rw [← HF.out]; exact HI.out.step hb)
          have HM3 := hid (fun W (hb : Below wr.heap.size wr W) => HM2.out.trans (Moved.below hb [g]))
          clear HF HI HG HIL HM2
          go_wp2
          go_quiet (fail)
          go_wp2
          go_roundw
          case rel => exact ⟨k + 1, insAt s 0 x [], by omega, by omega, by go_num, HP2.out, HS2.out, (by show OwnB _ _ _; rw [HRR.out]; exact HO2.out _ (below_dn (Below.refl _ _) _)), HM3.out _ (below_dn (Below.refl _ _) _)⟩
          case measure => simp [Lib.intOf]; omega
        · have hq0 : (0 : Int) < q := by omega
          have c0 := HI.out.atn HIL.out q (by rw [← HIL.out]; omega)
          have c1 := HI.out.atn HIL.out (q - 1) (by rw [← HIL.out]; omega)
          rw [insAt_q s q x r (by rw [HSL.out]; exact hqk)] at c0
          rw [insAt_p s q x r (by rw [HSL.out]; exact hqk) (by omega)] at c1
          have f0 := own_frozen HI.out q
          have f1 := own_frozen HI.out (q - 1)
          have hw : IntKind.i64.wrap ((q : Int) - 1) = (q : Int) - 1 := IntWalk.i64_in _ (by omega)
          have hqn : ((q : Int) - 1).toNat = q - 1 := by omega
          have hqp : (0 : Int) ≤ (q : Int) - 1 := by omega
          have hql : (q : Int) - 1 < n := by omega
          have hql2 : (q : Int) < n := by omega
          by_cases hx : x < s.getD (q - 1) 0
          · have hqd : decide (0 < q) = true := decide_eq_true (by omega)
            have HO2 := hid (show OwnB ((wr.setCell ⟨g, q, none⟩ (.int .u8 (s.getD (q - 1) 0))).setCell ⟨g, q - 1, none⟩ (.int .u8 x)) (.slice (some ⟨g, 0, none⟩) n cap) (insAt s (q - 1) x r) by
              have hb := fun y hy => HI.out.1 y hy
              have hxb : 0 ≤ x ∧ x < 256 := hb x (by unfold insAt; simp)
              have hzb : 0 ≤ s.getD (q - 1) 0 ∧ s.getD (q - 1) 0 < 256 := by
                rw [List.getD, List.getElem?_eq_getElem (show q - 1 < s.length by rw [HSL.out]; omega)]
                refine hb _ ?_
                unfold insAt
                rw [List.append_assoc]
                refine List.mem_append_left _ ?_
                rw [List.mem_take_iff_getElem]
                exact ⟨q - 1, by rw [HSL.out]; omega, rfl⟩
              have a := HI.out.storedn HIL.out q (s.getD (q - 1) 0) hzb
              have b := a.storedn (by rw [List.length_set]; exact HIL.out) (q - 1) x hxb
              rw [insAt_swap s q x r (by rw [HSL.out]; exact hqk) (by omega)] at b
              exact b)
            have HG2 := hid (show ∀ y ∈ s.drop (q - 1), x < y from fun y hy => by
              have hp : q - 1 < s.length := by rw [HSL.out]; omega
              rw [List.drop_eq_getElem_cons hp] at hy
              rcases List.mem_cons.1 hy with rfl | hy
              · rw [List.getD, List.getElem?_eq_getElem hp] at hx
                exact hx
              · rw [show q - 1 + 1 = q by omega] at hy
                exact HG.out y hy)
            have HM3 := hid (HM2.out.trans ((Moved.set (a := wr) (S := [g]) (g := g) (by simp) q (.int .u8 (s.getD (q - 1) 0))).trans (Moved.set (S := [g]) (g := g) (by simp) (q - 1) (.int .u8 x))))
            have hne : q ≠ q - 1 := by omega
            clear HI HG HIL HM2
            generalize s.getD (q - 1) 0 = z at *
            have hdx : decide (x < z) = true := decide_eq_true hx
            have sd : ∀ (W : World) j a v, (W.drewN j).setCell a v = (W.setCell a v).drewN j := fun _ _ _ _ => rfl
            go_wp2
            go_quiet ((go_at_call 161; exact Calls.quiet_of_same (less_any _ _ _)))
            go_wp2
            go_region
            go_wp2
            go_roundw
            case rel => exact ⟨q - 1, by omega, by go_num, HO2.out.step (below_dn (Below.refl _ _) _), HG2.out, HM3.out.trans (Moved.below (below_dn (Below.refl _ _) _) _)⟩
            case measure => simp [Lib.intOf]; omega
          · have hqd : decide (0 < q) = true := decide_eq_true (by omega)
            have hdx : decide (x < s.getD (q - 1) 0) = false := decide_eq_false hx
            have HF := hid (show insAt s q x r = insAt s q x [] ++ r by unfold insAt; simp)
            have HP2 := hid (show (insAt s q x []).Perm (xs.take (k + 1)) by rw [HTK.out]; exact (insAt_perm s q x).trans (HP.out.append_right _))
            have HS2 := hid (insAt_sorted HS.out q (by rw [HSL.out]; omega) x HG.out (.inr hx))
            have HO2 := hid (fun W (hb : Below wr.heap.size wr W) => show OwnB W (.slice (some ⟨g, 0, none⟩) n cap) (insAt s q x [] ++ r) by rw [← HF.out]; exact HI.out.step hb)
            have HM3 := hid (fun W (hb : Below wr.heap.size wr W) => HM2.out.trans (Moved.below hb [g]))
            clear HF HI HG HIL HM2
            generalize s.getD (q - 1) 0 = z at *
            go_wp2
            go_quiet ((go_at_call 161; exact Calls.quiet_of_same (less_any _ _ _)))
            go_wp2
            go_roundw
            case rel => exact ⟨k + 1, insAt s q x [], by omega, by omega, by go_num, HP2.out, HS2.out, (by show OwnB _ _ _; rw [HRR.out]; exact HO2.out _ (below_dn (Below.refl _ _) _)), HM3.out _ (below_dn (Below.refl _ _) _)⟩
            case measure => simp [Lib.intOf]; omega
    · obtain rfl : k = n := by omega
      have HX := hid (show SortD xs g k cap w (.returned (.tuple #[])) wr from ⟨rfl, s, by have := HP.out; rw [HN.out, List.take_length] at this; exact this, HS.out, by have := HO.out; rw [HN.out, List.drop_length, List.append_nil, ← HN.out] at this; exact this, HM.out⟩)
      go_wp2
      go_end0
      exact HX.out
end
/-! XNk -/
section
open Go.RowKit Go.Lib
/-- Some number is returned, and the world is as it was. -/
def SomeN (w : World) (e : Ending) (w' : World) : Prop := ∃ r : Int, e = .returned (.int .i64 r) ∧ w = w'
set_option maxRecDepth 100000 in
set_option maxHeartbeats 4000000 in
theorem len64_few (x : Int) (h0 : 0 ≤ x) (h1 : x ≤ 12) (w : World) : Calls Tryz.prog 165 #[.int .u64 x] w (SomeN w) := by
  go_enter Tryz.func165, Tryz.ntmps165
  go_wp2
  all_goals first
    | (go_ret; exact ⟨_, rfl, rfl⟩)
    | (exfalso; omega)
set_option maxRecDepth 100000 in
theorem len_few (x : Nat) (hx : x ≤ 12) (w : World) : Calls Tryz.prog 154 #[.int .u64 x] w (SomeN w) := by
  have H := hid (len64_few x (by omega) (by omega) w)
  go_enter Tryz.func154, Tryz.ntmps154
  go_wp2_with fail
  with_reducible refine H.out.mono ?_
  rintro e w1 ⟨r, rfl, rfl⟩
  go_wp2
  go_ret
  exact ⟨_, rfl, rfl⟩
set_option maxRecDepth 100000 in
set_option maxHeartbeats 4000000 in
theorem pdq_few (g n cap : Nat) (xs : List Int) (r : Int) (w : World) (h : OwnB w (.slice (some ⟨g, 0, none⟩) n cap) xs) (hn : n = xs.length) (h1 : 1 ≤ n) (hl : n ≤ 12) : Calls Tryz.prog 153 #[.slice (some ⟨g, 0, none⟩) n cap, .int .i64 0, .int .i64 n, .int .i64 r] w (SortD xs g n cap w) := by
  have H := hid (isort_any g n cap xs w h hn h1 hl)
  clear h hn
  have h12 : (n : Int) ≤ 12 := by omega
  go_enter Tryz.func153, Tryz.ntmps153
  go_wp2
  go_loopw [1, 2] (fun a b W => a = .int .i64 0 ∧ b = .int .i64 n ∧ W = w) (fun _ _ _ => 0)
  case atStart => exact ⟨rfl, rfl, rfl⟩
  case round =>
    obtain ⟨rfl, rfl, rfl⟩ := hrel
    go_wp2_with fail
    with_reducible refine H.out.mono ?_
    rintro e w1 ⟨rfl, hs⟩
    have HS := hid hs
    clear hs
    go_wp2
    refine bodyPost_ret (results_none rfl _ _ _) rfl ?_
    exact ⟨rfl, HS.out⟩
/-- Bytes that were sorted. -/
def SortV (xs : List Int) (v : Value) (w : World) (e : Ending) (w' : World) : Prop := e = .returned (.tuple #[]) ∧ ∃ s, s.Perm xs ∧ s.Pairwise (· ≤ ·) ∧ OwnB w' v s ∧ Moved w w' (blkV v) (blkV v)
set_option maxRecDepth 100000 in
theorem isort_none (x : Option Addr) (c : Nat) (w : World) : Calls Tryz.prog 155 #[.slice x 0 c, .int .i64 0, .int .i64 0] w fun e w' => e = .returned (.tuple #[]) ∧ w = w' := by
  go_enter Tryz.func155, Tryz.ntmps155
  go_wp2
  go_loopw [6] (fun i W => i = .int .i64 1 ∧ W = w) (fun _ _ => 0)
  case atStart => exact ⟨rfl, rfl⟩
  case round =>
    obtain ⟨rfl, hw⟩ := hrel
    subst hw
    go_wp2
    go_end0
    exact ⟨rfl, rfl⟩
set_option maxRecDepth 100000 in
set_option maxHeartbeats 4000000 in
theorem pdq_none (x : Option Addr) (c : Nat) (r : Int) (w : World) : Calls Tryz.prog 153 #[.slice x 0 c, .int .i64 0, .int .i64 0, .int .i64 r] w fun e w' => e = .returned (.tuple #[]) ∧ w = w' := by
  have H := hid (isort_none x c w)
  go_enter Tryz.func153, Tryz.ntmps153
  go_wp2
  go_loopw [1, 2] (fun a b W => a = .int .i64 0 ∧ b = .int .i64 0 ∧ W = w) (fun _ _ _ => 0)
  case atStart => exact ⟨rfl, rfl, rfl⟩
  case round =>
    obtain ⟨rfl, rfl, hw⟩ := hrel
    subst hw
    go_wp2_with fail
    with_reducible refine H.out.mono ?_
    rintro e w1 ⟨rfl, rfl⟩
    go_wp2
    refine bodyPost_ret (results_none rfl _ _ _) rfl ?_
    exact ⟨rfl, rfl⟩
set_option maxRecDepth 100000 in
set_option maxHeartbeats 4000000 in
theorem sort_any (v : Value) (xs : List Int) (w : World) (h : OwnB w v xs) (hl : xs.length ≤ 12) : Calls Tryz.prog 152 #[v] w (SortV xs v w) := by
  by_cases hx : xs = []
  · subst hx
    obtain ⟨x, c, rfl⟩ := own_empty h
    have HL := hid (show Calls Tryz.prog 154 #[.int .u64 0] w (SomeN w) from len_few 0 (by omega) w)
    have HP := hid (fun r => pdq_none x c r w)
    have HO := hid h
    clear h
    go_enter Tryz.func152, Tryz.ntmps152
    go_wp2_with fail
    with_reducible refine HL.out.mono ?_
    rintro e w1 ⟨r, rfl, rfl⟩
    go_wp2_with fail
    with_reducible refine (HP.out r).mono ?_
    rintro e w1 ⟨rfl, rfl⟩
    go_wp2
    go_end0
    exact ⟨rfl, [], List.Perm.refl _, List.Pairwise.nil, HO.out, Moved.refl _ _⟩
  · obtain ⟨g, cap, rfl, hc, hm, hg⟩ := h.slice hx
    have h1 : 1 ≤ xs.length := List.length_pos_iff.2 hx
    obtain ⟨n, hn⟩ : ∃ n, n = xs.length := ⟨_, rfl⟩
    rw [← hn] at h hl h1 ⊢
    have HL := hid (len_few n hl w)
    have HP := hid (fun r => pdq_few g n cap xs r w h hn h1 hl)
    have hw : IntKind.u64.wrap (n : Int) = n := by
      have : n = 1 ∨ n = 2 ∨ n = 3 ∨ n = 4 ∨ n = 5 ∨ n = 6 ∨ n = 7 ∨ n = 8 ∨ n = 9 ∨ n = 10 ∨ n = 11 ∨ n = 12 := by omega
      rcases this with rfl | rfl | rfl | rfl | rfl | rfl | rfl | rfl | rfl | rfl | rfl | rfl <;> decide
    have HBK : Hid (blkV (.slice (some ⟨g, 0, none⟩) n cap) = [g]) := rfl
    clear h hn hx hc hm hg
    go_enter Tryz.func152, Tryz.ntmps152
    go_wp2_with fail
    with_reducible refine HL.out.mono ?_
    rintro e w1 ⟨r, rfl, rfl⟩
    go_wp2_with fail
    with_reducible refine (HP.out r).mono ?_
    rintro e w2 ⟨rfl, hs⟩
    have HS := hid hs
    clear hs
    go_wp2
    go_end0
    refine ⟨rfl, ?_⟩
    rw [HBK.out]
    exact HS.out
/-- Of the functions those that a list has, rising. -/
def sortL (xs : List Int) : List Int := [0, 1, 2, 3, 4].filter fun f => xs.any fun x => x == f
theorem strict_eq : ∀ {a b : List Int}, a.Pairwise (· < ·) → b.Pairwise (· < ·) → (∀ x, x ∈ a ↔ x ∈ b) → a = b
  | [], [], _, _, _ => rfl
  | [], y :: b, _, _, h => by have := (h y).2 (by simp); cases this
  | x :: a, [], _, _, h => by have := (h x).1 (by simp); cases this
  | x :: a, y :: b, ha, hb, h => by
    have ha' := List.pairwise_cons.1 ha
    have hb' := List.pairwise_cons.1 hb
    have hxy : x = y := by
      rcases List.mem_cons.1 ((h x).1 (by simp)) with e | e
      · exact e
      · rcases List.mem_cons.1 ((h y).2 (by simp)) with e' | e'
        · exact e'.symm
        · have := ha'.1 y e'
          have := hb'.1 x e
          omega
    subst hxy
    congr 1
    refine strict_eq ha'.2 hb'.2 fun z => ⟨fun hz => ?_, fun hz => ?_⟩
    · rcases List.mem_cons.1 ((h z).1 (List.mem_cons_of_mem _ hz)) with e | e
      · have := ha'.1 z hz
        omega
      · exact e
    · rcases List.mem_cons.1 ((h z).2 (List.mem_cons_of_mem _ hz)) with e | e
      · have := hb'.1 z hz
        omega
      · exact e
theorem strict_of {s : List Int} (h : s.Pairwise (· ≤ ·)) (hn : s.Nodup) : s.Pairwise (· < ·) := by
  refine List.Pairwise.imp ?_ (List.pairwise_and_iff.2 ⟨h, hn⟩)
  intro a b ⟨h1, h2⟩
  omega
theorem sort_is {s xs : List Int} (hp : s.Perm xs) (hs : s.Pairwise (· ≤ ·)) (hn : xs.Nodup) (hb : ∀ x ∈ xs, 0 ≤ x ∧ x ≤ 4) : s = sortL xs := by
  refine strict_eq (strict_of hs (hp.nodup_iff.2 hn)) ?_ fun x => ?_
  · unfold sortL
    exact List.Pairwise.filter _ (by decide)
  · rw [hp.mem_iff]
    unfold sortL
    rw [List.mem_filter, any_mem]
    refine ⟨fun h => ⟨?_, h⟩, fun h => h.2⟩
    have := hb x h
    have h5 : x = 0 ∨ x = 1 ∨ x = 2 ∨ x = 3 ∨ x = 4 := by omega
    rcases h5 with rfl | rfl | rfl | rfl | rfl <;> decide
end
/-! XNl -/
section
open Go.RowKit Go.Lib
set_option maxRecDepth 100000 in
set_option maxHeartbeats 2000000 in
theorem state_any (g : Nat) (sv av : Value) (T D : ByteArray) (fs : List Int) (st : Int) (dev : ByteArray) (ag : List Int) (w : World) (h : EndM w g sv av T D fs st dev ag) : Calls Tryz.prog 18 #[.pointer (some ⟨g, 0, none⟩)] w fun e w' => e = .returned (.int .i64 st) ∧ w = w' := by
  have c3 := h.c3
  clear h
  go_enter Tryz.func18, Tryz.ntmps18
  go_wp2
  go_ret
  exact ⟨rfl, rfl⟩
set_option maxRecDepth 100000 in
set_option maxHeartbeats 2000000 in
theorem ready_any (g : Nat) (sv av : Value) (T D : ByteArray) (fs : List Int) (st : Int) (dev : ByteArray) (ag : List Int) (w : World) (h : EndM w g sv av T D fs st dev ag) : Calls Tryz.prog 37 #[.pointer (some ⟨g, 0, none⟩)] w fun e w' => e = .returned (.bool (st == 3)) ∧ w = w' := by
  have H := hid (state_any g sv av T D fs st dev ag w h)
  clear h
  go_enter Tryz.func37, Tryz.ntmps37
  go_wp2_with fail
  with_reducible refine H.out.mono ?_
  rintro e w1 ⟨rfl, rfl⟩
  go_wp2
  go_ret
  exact ⟨rfl, rfl⟩
set_option maxRecDepth 100000 in
set_option maxHeartbeats 2000000 in
theorem has_yes (g : Nat) (sv av : Value) (T D : ByteArray) (fs : List Int) (st : Int) (dev : ByteArray) (ag : List Int) (w : World) (h : EndM w g sv av T D fs st dev ag) (hs : st = 3) (hl : ag.length ≤ 1000) (o : Nat) : Calls Tryz.prog 44 #[.pointer (some ⟨g, 0, none⟩), .int .u8 o] w fun e w' => e = .returned (.bool (ag.any fun x => x == (o : Int))) ∧ w = w' := by
  subst hs
  have H := hid (ready_any g sv av T D fs 3 dev ag w h)
  have HC := hid (contains_any av ag o w h.ra.reads (by omega))
  have c5 := h.c5
  obtain ⟨ax, ac, rfl⟩ := own_len h.ra _ rfl
  clear h
  generalize (ag.any fun x => x == (o : Int)) = B at *
  go_enter Tryz.func44, Tryz.ntmps44
  go_wp2_with fail
  with_reducible refine H.out.mono ?_
  rintro e w1 ⟨rfl, rfl⟩
  go_wp2_with fail
  with_reducible refine HC.out.mono ?_
  rintro e w2 ⟨rfl, rfl⟩
  go_wp2
  go_ret
  exact ⟨rfl, rfl⟩
set_option maxRecDepth 100000 in
set_option maxHeartbeats 2000000 in
theorem has_no (g : Nat) (sv av : Value) (T D : ByteArray) (fs : List Int) (st : Int) (dev : ByteArray) (ag : List Int) (w : World) (h : EndM w g sv av T D fs st dev ag) (hs : st ≠ 3) (o : Nat) : Calls Tryz.prog 44 #[.pointer (some ⟨g, 0, none⟩), .int .u8 o] w fun e w' => e = .returned (.bool false) ∧ w = w' := by
  have hs' : (st == 3) = false := by simpa using hs
  have H := hid (ready_any g sv av T D fs st dev ag w h)
  rw [hs'] at H
  clear h hs hs'
  go_enter Tryz.func44, Tryz.ntmps44
  go_wp2_with fail
  with_reducible refine H.out.mono ?_
  rintro e w1 ⟨rfl, rfl⟩
  go_wp2
  go_ret
  exact ⟨rfl, rfl⟩
/-- All begins anew. -/
def ResetD (g : Nat) (sv : Value) (T D : ByteArray) (fs : List Int) (w : World) (e : Ending) (w' : World) : Prop := e = .returned (.tuple #[]) ∧ EndM w' g sv (.slice none 0 0) T D fs 0 ⟨#[]⟩ [] ∧ Moved w w' [g] [g]
set_option maxRecDepth 100000 in
set_option maxHeartbeats 2000000 in
theorem reset_any (g : Nat) (sv av : Value) (T D : ByteArray) (fs : List Int) (st : Int) (dev : ByteArray) (ag : List Int) (w : World) (h : EndM w g sv av T D fs st dev ag) : Calls Tryz.prog 99 #[.pointer (some ⟨g, 0, none⟩)] w (ResetD g sv T D fs w) := by
  have c3 := h.c3
  have c4 := h.c4
  have c5 := h.c5
  have f3 := h.fr 3 (by omega)
  have f4 := h.fr 4 (by omega)
  have f5 := h.fr 5 (by omega)
  have HE := hid (((h.set3 0).set4 ⟨#[]⟩).set5n)
  have HM := hid (((set_moved w g 3 (.int .i64 0)).trans (set_moved _ g 4 (.string ⟨#[]⟩))).trans (set_moved _ g 5 (.slice none 0 0)))
  obtain ⟨ax, ac, rfl⟩ := own_len h.ra _ rfl
  clear h
  go_enter Tryz.func99, Tryz.ntmps99
  go_wp2
  go_end0
  exact ⟨rfl, HE.out, HM.out⟩
/-- May a message be taken? -/
def permB (st k : Int) : Bool := if k = 1 then !(st == 4) else if k = 2 ∨ k = 3 then st == 1 else if k = 4 then st == 2 else if k = 5 then (st == 2 || st == 3) else false
set_option maxRecDepth 100000 in
set_option maxHeartbeats 2000000 in
theorem permits_any (g : Nat) (sv av : Value) (T D : ByteArray) (fs : List Int) (st : Int) (dev : ByteArray) (ag : List Int) (w : World) (h : EndM w g sv av T D fs st dev ag) (k : Int) (hk : 0 ≤ k ∧ k ≤ 5) (hst : 0 ≤ st ∧ st ≤ 4) : Calls Tryz.prog 131 #[.pointer (some ⟨g, 0, none⟩), .int .i64 k] w fun e w' => e = .returned (.bool (permB st k)) ∧ w = w' := by
  have c3 := h.c3
  clear h
  have h6 : k = 0 ∨ k = 1 ∨ k = 2 ∨ k = 3 ∨ k = 4 ∨ k = 5 := by omega
  have h5 : st = 0 ∨ st = 1 ∨ st = 2 ∨ st = 3 ∨ st = 4 := by omega
  clear hk hst
  rcases h6 with rfl | rfl | rfl | rfl | rfl | rfl
  all_goals
    rcases h5 with rfl | rfl | rfl | rfl | rfl
    all_goals
      go_enter Tryz.func131, Tryz.ntmps131
      go_wp2
      go_ret
      exact ⟨rfl, rfl⟩
end
/-! XNm -/
section
open Go.RowKit Go.Lib
/-- Of functions those that are supported. -/
def inF (fs : List Int) (x : Int) : Bool := fs.any fun y => y == x
def keepL (fs r : List Int) : List Int := r.filter (inF fs)
def allF (fs r : List Int) : Bool := r.all (inF fs)
theorem keep_lt {fs r : List Int} : (keepL fs r).length < r.length ↔ allF fs r = false := by
  unfold keepL allF
  rw [List.all_eq_false]
  constructor
  · intro h
    apply Classical.byContradiction
    intro hn
    have : r.filter (inF fs) = r := List.filter_eq_self.2 fun a ha => by
      cases hb : inF fs a with
      | true => rfl
      | false => exact absurd ⟨a, ha, by simp [hb]⟩ hn
    rw [this] at h
    omega
  · rintro ⟨x, hx, hf⟩
    exact List.length_filter_lt_length_iff_exists.2 ⟨x, hx, hf⟩
theorem keep_take {fs r : List Int} {k : Nat} (hk : k < r.length) : keepL fs (r.take (k + 1)) = keepL fs (r.take k) ++ (if inF fs (r.getD k 0) = true then [r.getD k 0] else []) := by
  unfold keepL
  rw [take_succD hk, List.filter_append]
  congr 1
  by_cases h : inF fs (r.getD k 0) = true
  · rw [if_pos h, List.filter_cons_of_pos h, List.filter_nil]
  · rw [if_neg h, List.filter_cons_of_neg h, List.filter_nil]
theorem keep_le (fs r : List Int) : (keepL fs r).length ≤ r.length := List.length_filter_le _ _
theorem fresh_nil (w : World) : Fresh w w (.slice none 0 0) [] := ⟨OwnB.nil w, Below.refl _ _, fun k hk => by cases hk⟩
set_option maxRecDepth 100000 in
set_option maxHeartbeats 2000000 in
theorem supported_any (g : Nat) (sv av : Value) (T D : ByteArray) (fs : List Int) (st : Int) (dev : ByteArray) (ag : List Int) (w : World) (h : EndM w g sv av T D fs st dev ag) (y : Option Addr) (n c : Nat) (r : List Int) (hr : RdG w (.slice y n c) r) (hn : n = r.length) (hl : n ≤ 1000) (hfl : fs.length ≤ 1000) : Calls Tryz.prog 149 #[.pointer (some ⟨g, 0, none⟩), .slice y n c] w (OwnDone (keepL fs r) w) := by
  have HH := hid h
  obtain ⟨sx, sc, rfl⟩ := own_len h.rs _ rfl
  by_cases hx : r = []
  · subst hx
    obtain rfl : n = 0 := by simpa using hn
    clear h hr hn hl
    go_enter Tryz.func149, Tryz.ntmps149
    go_wp2
    go_loopw [5, 10] (fun kn i W => kn = .slice none 0 0 ∧ i = .int .i64 0 ∧ W = w) (fun _ _ _ => 0)
    case atStart => exact ⟨rfl, rfl, rfl⟩
    case round =>
      obtain ⟨rfl, rfl, hw⟩ := hrel
      subst hw
      go_wp2
      go_ret
      exact (fresh_nil _).done
  obtain ⟨g2, off, cap, e, h1, h2, h3⟩ := hr.row hx
  cases e
  have HC := hid h3
  have HBY := hid (getD_byte hr.1)
  have HCT := hid (fun (W : World) (o : Nat) (hW : OwnB W (.slice sx fs.length sc) fs) => contains_any _ fs o W hW.reads (by omega))
  obtain ⟨n, hn'⟩ : ∃ n, n = r.length := ⟨_, rfl⟩
  have HN := hid hn'
  rw [← hn'] at hl ⊢
  clear h hr h3 hx h1 h2 hn hn'
  go_enter Tryz.func149, Tryz.ntmps149
  go_wp2
  go_loopw [5, 10] (fun kn i W => ∃ (k : Nat) (x : Option Addr) (m c2 : Nat), k ≤ n ∧ i = .int .i64 k ∧ kn = .slice x m c2 ∧ Hid (m = (keepL fs (r.take k)).length) ∧ Hid (Fresh w W (.slice x m c2) (keepL fs (r.take k)))) (fun _ i _ => n - (RowKit.intOf i).toNat)
  case atStart => exact ⟨0, none, 0, 0, Nat.zero_le _, rfl, rfl, hid (by simp [keepL]), fresh_nil w⟩
  case round =>
    obtain ⟨k, x, m, c2, hk, rfl, rfl, HMM, HF⟩ := hrel
    have HB := hid HF.out.2.1
    by_cases hlt : k < n
    · have hlx : k < r.length := by rw [← HN.out]; exact hlt
      have c0 := keepc HB.out (HC.out k hlx)
      obtain ⟨b0, b1⟩ := HBY.out k hlx
      have hki : (k : Int) < n := by omega
      obtain ⟨z, hz⟩ : ∃ z : Nat, r.getD k 0 = z := ⟨(r.getD k 0).toNat, by omega⟩
      rw [hz] at c0 b0 b1
      have s2 := (HH.out.step HB.out).c2
      have HKT := hid (keep_take (fs := fs) hlx)
      have HCC := hid (HCT.out wr z (HH.out.step HB.out).rs)
      have hmk : m ≤ k := by
        rw [HMM.out]
        refine Nat.le_trans (keep_le _ _) ?_
        rw [List.length_take]
        omega
      rw [hz] at HKT
      clear hz
      cases hin : inF fs z
      · rw [hin, if_neg (by decide), List.append_nil] at HKT
        rw [show (fs.any fun y => y == (z : Int)) = false from hin] at HCC
        clear hin
        go_wp2_with fail
        with_reducible refine HCC.out.mono ?_
        rintro e w1 ⟨rfl, rfl⟩
        go_wp2
        go_roundw
        case rel => exact ⟨k + 1, x, m, c2, by omega, by go_num, rfl, hid (by rw [HKT.out]; exact HMM.out), hid (by rw [HKT.out]; exact HF.out)⟩
        case measure => simp [RowKit.intOf]; omega
      · rw [hin, if_pos rfl] at HKT
        rw [show (fs.any fun y => y == (z : Int)) = true from hin] at HCC
        clear hin
        have HF1 := hid (HF.out.step (bal (Below.refl wr.heap.size wr) (.cells #[.int .u8 z] 5)))
        have HRD := hid (own_lit wr #[.int .u8 z] 1 [(z : Int)] (fun q hq => by simp at hq; omega) rfl rfl (by omega) wr.heap.size rfl).reads
        go_wp2_with fail
        with_reducible refine HCC.out.mono ?_
        rintro e w1 ⟨rfl, rfl⟩
        go_wp2_with (first
          | (at_builtin; refine wpList_append_rd rfl _ _ rfl rfl HF1.out _ [(z : Int)] rfl HRD.out (by rw [← HMM.out]; simp; omega) ?_; intro x' c' w' hF'; have HF' := hid hF'; clear hF'))
        go_roundw
        case rel => exact ⟨k + 1, x', _, c', by omega, by go_num, rfl, hid (by rw [HKT.out]; simp), hid (by rw [HKT.out]; exact HF'.out)⟩
        case measure => simp [RowKit.intOf]; omega
    · obtain rfl : k = n := by omega
      have HD := hid (show OwnDone (keepL fs r) w (.returned (.slice x m c2)) wr by have := HF.out.done; rw [HN.out, List.take_length] at this; exact this)
      go_wp2
      go_ret
      exact HD.out
/-- What is agreed on lies where it lay, or in new memory. -/
def OldNew (w : World) (g : Nat) (av : Value) : Prop := w.cell? ⟨g, 5, none⟩ = some av ∨ ∀ k ∈ blkV av, w.heap.size ≤ k
theorem OldNew.since {w w1 : World} {g : Nat} {av : Value} (hb : Below w.heap.size w w1) (hg : g < w.heap.size) (h : OldNew w1 g av) : OldNew w g av := h.elim (fun q => .inl ((hb.cell (p := ⟨g, 5, none⟩) hg).symm.trans q)) (fun q => .inr fun k hk => Nat.le_trans hb.size (q k hk))
/-- An answer, and an end that has moved. -/
def EDone (g : Nat) (sv : Value) (T D : ByteArray) (fs : List Int) (st : Int) (dev : ByteArray) (ag : List Int) (ans : List Int) (w : World) (e : Ending) (w' : World) : Prop :=
  ∃ v av', e = .returned v ∧ OwnB w' v ans ∧ EndM w' g sv av' T D fs st dev ag ∧ Moved w w' [g] [g] ∧ (∀ k ∈ blkV v, w.heap.size ≤ k ∧ k ∉ blkV av') ∧ OldNew w g av'
set_option maxRecDepth 100000 in
set_option maxHeartbeats 2000000 in
theorem askFunctions_any (g : Nat) (sv av : Value) (T D : ByteArray) (fs : List Int) (st : Int) (dev : ByteArray) (ag : List Int) (w : World) (h : EndM w g sv av T D fs st dev ag) (y : Option Addr) (n c : Nat) (r : List Int) (hr : Reads w (.slice y n c) r) (hg : g ∉ blkV (.slice y n c)) (hn : r.length ≤ 1000) : Calls Tryz.prog 144 #[.pointer (some ⟨g, 0, none⟩), .slice y n c] w (EDone g sv T D fs 2 dev [] (3 :: 7 :: r) w) := by
  have c3 := h.c3
  have c5 := h.c5
  have f3 := h.fr 3 (by omega)
  have f5 := h.fr 5 (by omega)
  obtain ⟨ax, ac, rfl⟩ := own_len h.ra _ rfl
  have HE := hid ((h.set3 2).set5n)
  have hm := (set_moved w g 3 (.int .i64 2)).trans (set_moved _ g 5 (.slice none 0 0))
  have HR := hid (reads_moved hr hm (fun k hk q => hg (by rw [← List.mem_singleton.1 q]; exact hk)))
  have HM := hid hm
  clear h hr hg hm
  go_enter Tryz.func144, Tryz.ntmps144
  obtain ⟨W, hW⟩ : ∃ W, W = (w.setCell ⟨g, 3, none⟩ (.int .i64 2)).setCell ⟨g, 5, none⟩ (.slice none 0 0) := ⟨_, rfl⟩
  rw [← hW] at HE HR HM
  have HW := hid hW
  clear hW
  have HF := hid (Fresh.lit W #[.int .u8 3, .int .u8 7] 2 [3, 7] (fun q hq => by simp at hq; omega) rfl rfl (by omega) W.heap.size rfl)
  have HR1 := hid (reads_below HR.out HF.out.2.1)
  have HS := hid (show W.heap.size = w.heap.size by rw [HW.out]; simp)
  rw [HS.out] at HF
  rw [HW.out] at HF HR1
  go_wp2_with (first
    | (at_builtin; refine wpList_append_rd rfl _ _ rfl rfl HF.out _ r rfl HR1.out (by simp; omega) ?_; intro x' c' w' hF'; have HF' := hid hF'; clear hF'))
  go_ret
  have hF := HF'.out
  rw [← HW.out] at hF
  exact ⟨_, _, rfl, hF.1, HE.out.step hF.2.1, HM.out.trans (Moved.below hF.2.1 _), (fun k hk => ⟨by rw [← HS.out]; exact hF.2.2 k hk, fun q => by cases q⟩), .inr (fun k q => by cases q)⟩
/-- The device that is asked for. -/
def devT (D : ByteArray) : List Int := if D.size = 0 then [] else 1 :: strL D
theorem eq_empty {D : ByteArray} (h : D.size = 0) : D = ⟨#[]⟩ := by
  obtain ⟨a⟩ := D
  have : a.size = 0 := h
  rw [Array.eq_empty_of_size_eq_zero this]
set_option maxRecDepth 100000 in
set_option maxHeartbeats 2000000 in
theorem askDevice_none (g : Nat) (sv av : Value) (T D : ByteArray) (fs : List Int) (st : Int) (dev : ByteArray) (ag : List Int) (w : World) (h : EndM w g sv av T D fs st dev ag) (hT : T.size ≤ 1000) (hD : D.size ≤ 1000) (hd : D.size = 0) : Calls Tryz.prog 143 #[.pointer (some ⟨g, 0, none⟩)] w (EDone g sv T D fs 1 ⟨#[]⟩ [] (2 :: 7 :: (strL T ++ devT D)) w) := by
  have H := hid (reset_any g sv av T D fs st dev ag w h)
  have HDV := hid (show devT D = [] from if_pos hd)
  obtain rfl := eq_empty hd
  rw [HDV.out]
  clear h hd HDV
  go_enter Tryz.func143, Tryz.ntmps143
  go_wp2_with fail
  with_reducible refine H.out.mono ?_
  rintro e w1 ⟨rfl, hE, hM⟩
  have c3 := hE.c3
  have f3 := hE.fr 3 (by omega)
  have HE1 := hid (hE.set3 1)
  have HM1 := hid (hM.trans (set_moved w1 g 3 (.int .i64 1)))
  have c0 := HE1.out.c0
  have c1 := HE1.out.c1
  clear hE hM H
  obtain ⟨W, hW⟩ : ∃ W, W = w1.setCell ⟨g, 3, none⟩ (.int .i64 1) := ⟨_, rfl⟩
  rw [← hW] at HE1 HM1 c0 c1
  have hgl := HE1.out.lt
  have HW := hid hW
  have HS := hid (show W.heap.size = w1.heap.size by rw [hW]; simp)
  have HF := hid (Fresh.lit W #[.int .u8 2, .int .u8 7] 2 [2, 7] (fun q hq => by simp at hq; omega) rfl rfl (by omega) W.heap.size rfl)
  have hwl := HM1.out.size
  rw [hW] at c0 c1
  clear hW
  rw [HS.out] at HF hgl hwl
  rw [HW.out] at HF
  go_wp2_with (first
    | (at_builtin; refine wpList_append_str rfl _ _ rfl rfl HF.out T rfl (by simp; omega) ?_; intro x' c' w' hF'; have HF' := hid hF'; have c1' := keepc hF'.2.1 c1; clear hF'))
  go_ret
  have hF := HF'.out
  rw [← HW.out] at hF
  rw [List.append_nil]
  exact ⟨_, _, rfl, hF.1, HE1.out.step hF.2.1, HM1.out.trans (Moved.below hF.2.1 _), (fun k hk => ⟨Nat.le_trans (by rw [HS.out]; exact hwl) (hF.2.2 k hk), fun q => by cases q⟩), .inr (fun k q => by cases q)⟩
set_option maxRecDepth 100000 in
set_option maxHeartbeats 2000000 in
theorem askDevice_some (g : Nat) (sv av : Value) (T D : ByteArray) (fs : List Int) (st : Int) (dev : ByteArray) (ag : List Int) (w : World) (h : EndM w g sv av T D fs st dev ag) (hT : T.size ≤ 1000) (hD : D.size ≤ 1000) (hd : D.size ≠ 0) : Calls Tryz.prog 143 #[.pointer (some ⟨g, 0, none⟩)] w (EDone g sv T D fs 1 ⟨#[]⟩ [] (2 :: 7 :: (strL T ++ devT D)) w) := by
  have H := hid (reset_any g sv av T D fs st dev ag w h)
  have HDV := hid (show devT D = 1 :: strL D from if_neg hd)
  have hd1 : D.toList.isEmpty = false := by
    rw [Lib.toList_data, List.isEmpty_eq_false_iff]
    intro q
    refine hd ?_
    show D.data.size = 0
    rw [← Array.length_toList, q]
    rfl
  rw [HDV.out]
  clear h hd HDV
  go_enter Tryz.func143, Tryz.ntmps143
  go_wp2_with fail
  with_reducible refine H.out.mono ?_
  rintro e w1 ⟨rfl, hE, hM⟩
  have c3 := hE.c3
  have f3 := hE.fr 3 (by omega)
  have HE1 := hid (hE.set3 1)
  have HM1 := hid (hM.trans (set_moved w1 g 3 (.int .i64 1)))
  have c0 := HE1.out.c0
  have c1 := HE1.out.c1
  clear hE hM H
  obtain ⟨W, hW⟩ : ∃ W, W = w1.setCell ⟨g, 3, none⟩ (.int .i64 1) := ⟨_, rfl⟩
  rw [← hW] at HE1 HM1 c0 c1
  have hgl := HE1.out.lt
  have HW := hid hW
  have HS := hid (show W.heap.size = w1.heap.size by rw [hW]; simp)
  have HF := hid (Fresh.lit W #[.int .u8 2, .int .u8 7] 2 [2, 7] (fun q hq => by simp at hq; omega) rfl rfl (by omega) W.heap.size rfl)
  have hwl := HM1.out.size
  rw [hW] at c0 c1
  clear hW
  rw [HS.out] at HF hgl hwl
  rw [HW.out] at HF
  go_wp2_with (first
    | (at_builtin; refine wpList_append_str rfl _ _ rfl rfl HF3.out D rfl (by simp [strL_length]; omega) ?_; intro x4 c4 w4 hF4; have HF4 := hid hF4; clear hF4)
    | (at_builtin; refine wpList_append_rd rfl _ _ rfl rfl HF2.out _ [1] rfl HRD.out (by simp [strL_length]; omega) ?_; intro x3 c3' w3 hF3; have c13 := keepc hF3.2.1 c1; have HF3 := hid hF3; clear hF3)
    | (at_builtin; refine wpList_append_str rfl _ _ rfl rfl HF.out T rfl (by simp; omega) ?_; intro x' c' w' hF'; have hgl' : g < w'.heap.size := Nat.lt_of_lt_of_le (by simpa using hgl) hF'.2.1.size; have c1' := keepc hF'.2.1 c1; have HF2 := hid (hF'.step (bal (Below.refl w'.heap.size w') (.cells #[.int .u8 1] 5))); have HRD := hid (own_lit w' #[.int .u8 1] 1 [1] (fun q hq => by simp at hq; omega) rfl rfl (by omega) w'.heap.size rfl).reads; clear hF'))
  go_ret
  have hF := HF4.out
  rw [← HW.out] at hF
  rw [show (([2, 7] : List Int) ++ strL T ++ ([1] : List Int)).length = (strL T).length + 1 + 1 + 1 by simp] at hF
  have e : [2, 7] ++ strL T ++ [1] ++ strL D = 2 :: 7 :: (strL T ++ 1 :: strL D) := by simp
  rw [e] at hF
  exact ⟨_, _, rfl, hF.1, HE1.out.step hF.2.1, HM1.out.trans (Moved.below hF.2.1 _), (fun k hk => ⟨Nat.le_trans (by rw [HS.out]; exact hwl) (hF.2.2 k hk), fun q => by cases q⟩), .inr (fun k q => by cases q)⟩
end
/-! XNn -/
section
open Go.RowKit Go.Lib
theorem _root_.Go.Proofs.YtaanpnmgibcemaaGreatDoor.Moved.fresh {a b c : World} {S B : List Nat} (h : Moved a b S S) (k : Moved b c B B) (hB : ∀ x ∈ B, a.heap.size ≤ x) : Moved a c S S :=
  ⟨k.os.trans h.os, k.tape.trans h.tape, k.output.trans h.output, Nat.le_trans h.size k.size,
    fun i hi hs => (k.block i (Nat.lt_of_lt_of_le hi h.size) (fun q => by have := hB i q; omega)).trans (h.block i hi hs), fun i hi => .inl hi⟩
/-- Functions are agreed on. -/
def AccD (g : Nat) (sv : Value) (T D : ByteArray) (fs : List Int) (dev : ByteArray) (r : List Int) (w : World) (e : Ending) (w' : World) : Prop :=
  e = .returned (.tuple #[]) ∧ ∃ av', EndM w' g sv av' T D fs 3 dev (sortL r) ∧ Moved w w' [g] [g] ∧ ∀ k ∈ blkV av', w.heap.size ≤ k
set_option maxRecDepth 100000 in
set_option maxHeartbeats 2000000 in
theorem accept_any (g : Nat) (sv av : Value) (T D : ByteArray) (fs : List Int) (st : Int) (dev : ByteArray) (ag : List Int) (w : World) (h : EndM w g sv av T D fs st dev ag) (p : Value) (r : List Int) (hr : Reads w p r) (hg : g ∉ blkV p) (hnd : r.Nodup) (h04 : ∀ x ∈ r, 0 ≤ x ∧ x ≤ 4) (hl : r.length ≤ 12) : Calls Tryz.prog 150 #[.pointer (some ⟨g, 0, none⟩), p] w (AccD g sv T D fs dev r w) := by
  have c3 := h.c3
  have f3 := h.fr 3 (by omega)
  have hE1 := h.set3 3
  have hM1 := set_moved w g 3 (.int .i64 3)
  have HCL := hid (clone_any p r _ (reads_moved hr hM1 (fun k hk q => hg (by rw [← List.mem_singleton.1 q]; exact hk))) (by omega))
  obtain ⟨px, pn, pc, rfl⟩ : ∃ x n c, p = .slice x n c := by
    rcases hr.2 with ⟨rfl, _⟩ | ⟨a, cap, rfl, _⟩
    · exact ⟨_, _, _, rfl⟩
    · exact ⟨_, _, _, rfl⟩
  obtain ⟨ax, ac, rfl⟩ := own_len h.ra _ rfl
  have HE1 := hid hE1
  have HM1 := hid hM1
  clear h hr hg hE1 hM1
  go_enter Tryz.func150, Tryz.ntmps150
  go_wp2_with fail
  with_reducible refine HCL.out.mono ?_
  rintro e w2 ⟨v, rfl, ho, hb, hk⟩
  have hE2 := HE1.out.step hb
  have c5 := hE2.c5
  have f5 := hE2.fr 5 (by omega)
  have hgl := HE1.out.lt
  have hgv : g ∉ blkV v := fun q => by have := hk g q; omega
  have hE3 := hE2.set5 ho hgv
  have hov := ho.moved (set_moved w2 g 5 v) (fun k hk' q => hgv (by rw [← List.mem_singleton.1 q]; exact hk'))
  have HSO := hid (sort_any v r _ hov hl)
  have c5' := hE3.c5
  have HM3 := hid ((HM1.out.trans (Moved.below hb [g])).trans (set_moved w2 g 5 v))
  have HE3 := hid hE3
  have HK := hid (show ∀ k ∈ blkV v, w.heap.size ≤ k from fun k hk' => by have := hk k hk'; simpa using this)
  have HGV := hid hgv
  have HSV := hid (show ∀ k ∈ blkV sv, k ∉ blkV v from fun k hk' q => by have h1 := HE1.out.rs.lt k hk'; have h2 := hk k q; omega)
  obtain ⟨vx, vc, rfl⟩ := own_len ho _ rfl
  clear ho hb hk hE2 hE3 hov HE1 HCL HM1
  go_wp2_with fail
  with_reducible refine HSO.out.mono ?_
  rintro e w4 ⟨rfl, s, hp, hs, hos, hms⟩
  have HX := hid (show AccD g sv T D fs dev r w (.returned (.tuple #[])) w4 by
    have e := sort_is hp hs hnd h04
    subst e
    refine ⟨rfl, _, ⟨cell_moved hms HE3.out.c0 HGV.out, cell_moved hms HE3.out.c1 HGV.out, cell_moved hms HE3.out.c2 HGV.out, cell_moved hms HE3.out.c3 HGV.out, cell_moved hms HE3.out.c4 HGV.out, cell_moved hms HE3.out.c5 HGV.out, fun i hi => (frozen_moved hms (a := ⟨g, i, none⟩) HE3.out.lt HGV.out).trans (HE3.out.fr i hi), HE3.out.rs.moved hms (HSV.out), hos, HE3.out.ns, HGV.out⟩, ?_, HK.out⟩
    exact HM3.out.fresh hms HK.out)
  clear hp hs hos hms HSO
  go_wp2
  go_end0
  exact HX.out
end
/-! XNo -/
section
open Go.RowKit Go.Lib
theorem few_of_nodup : ∀ (n : Nat) {r : List Int}, r.Nodup → (∀ x ∈ r, 0 ≤ x ∧ x < n) → r.length ≤ n
  | 0, [], _, _ => Nat.le_refl _
  | 0, x :: r, _, h => by have := h x (by simp); omega
  | n + 1, r, hn, h => by
    have h1 := few_of_nodup n (r := r.erase (n : Int)) (hn.erase _) fun x hx => by
      obtain ⟨h2, h3⟩ := hn.mem_erase_iff.1 hx
      have := h x h3
      omega
    rw [List.length_erase] at h1
    split at h1
    · omega
    · omega
theorem all_in {fs r : List Int} (h : allF fs r = true) (hf : ∀ x ∈ fs, 0 ≤ x ∧ x ≤ 4) : ∀ x ∈ r, 0 ≤ x ∧ x ≤ 4 := fun x hx => by
  unfold allF at h
  exact hf x (any_mem.1 (List.all_eq_true.1 h x hx))
theorem all_few {fs r : List Int} (h : allF fs r = true) (hf : ∀ x ∈ fs, 0 ≤ x ∧ x ≤ 4) (hn : r.Nodup) : r.length ≤ 12 := by
  have := few_of_nodup 5 hn (fun x hx => by have := all_in h hf x hx; omega)
  omega
theorem EDone.since {g : Nat} {sv : Value} {T D : ByteArray} {fs : List Int} {st : Int} {dev : ByteArray} {ag ans : List Int} {w w1 w' : World} {e : Ending} (hb : Below w.heap.size w w1) (hg : g < w.heap.size) (h : EDone g sv T D fs st dev ag ans w1 e w') : EDone g sv T D fs st dev ag ans w e w' := by
  obtain ⟨v, av', he, ho, hE, hM, hk, hn⟩ := h
  exact ⟨v, av', he, ho, hE, (Moved.below hb [g]).trans hM, (fun k q => ⟨Nat.le_trans hb.size (hk k q).1, (hk k q).2⟩), hn.since hb hg⟩
/-- An end has moved; nothing is answered. -/
def VDone (g : Nat) (sv : Value) (T D : ByteArray) (fs : List Int) (st : Int) (dev : ByteArray) (ag : List Int) (w : World) (e : Ending) (w' : World) : Prop :=
  e = .returned (.tuple #[]) ∧ ∃ av', EndM w' g sv av' T D fs st dev ag ∧ Moved w w' [g] [g] ∧ OldNew w g av'
set_option maxRecDepth 100000 in
set_option maxHeartbeats 2000000 in
theorem acceptOrRefuse_no (g : Nat) (sv av : Value) (T D : ByteArray) (fs : List Int) (st : Int) (dev : ByteArray) (ag : List Int) (w : World) (h : EndM w g sv av T D fs st dev ag) (y : Option Addr) (n c : Nat) (r : List Int) (hr : RdG w (.slice y n c) r) (hn : n = r.length) (hl : n ≤ 1000) (hfl : fs.length ≤ 1000) (_hg : g ∉ blkV (.slice y n c)) (ha : allF fs r = false) : Calls Tryz.prog 145 #[.pointer (some ⟨g, 0, none⟩), .slice y n c] w (VDone g sv T D fs 4 dev ag w) := by
  have hgl := h.lt
  have HS := hid (supported_any g sv av T D fs st dev ag w h y n c r hr hn hl hfl)
  have hlt := keep_lt.2 ha
  rw [← hn] at hlt
  have hli : ((keepL fs r).length : Int) < n := by omega
  have HH := hid h
  obtain ⟨ax, ac, rfl⟩ := own_len h.ra _ rfl
  clear h hr hn ha
  go_enter Tryz.func145, Tryz.ntmps145
  go_wp2_with fail
  with_reducible refine HS.out.mono ?_
  rintro e w1 ⟨v1, rfl, ho1, hb1, hk1⟩
  obtain ⟨x1, c1, rfl⟩ := own_len ho1 _ rfl
  have hE1 := HH.out.step hb1
  have c3 := hE1.c3
  have f3 := hE1.fr 3 (by omega)
  have HX := hid (show VDone g sv T D fs 4 dev ag w (.returned (.tuple #[])) (w1.setCell ⟨g, 3, none⟩ (.int .i64 4)) from ⟨rfl, _, hE1.set3 4, (Moved.below hb1 [g]).trans (set_moved w1 g 3 _), .inl HH.out.c5⟩)
  clear hE1 ho1 hb1 hk1 HS HH
  generalize (keepL fs r).length = m at *
  go_wp2
  refine bodyPost_ret (results_none rfl _ _ _) rfl ?_
  exact HX.out
set_option maxRecDepth 100000 in
set_option maxHeartbeats 2000000 in
theorem acceptOrRefuse_yes (g : Nat) (sv av : Value) (T D : ByteArray) (fs : List Int) (st : Int) (dev : ByteArray) (ag : List Int) (w : World) (h : EndM w g sv av T D fs st dev ag) (y : Option Addr) (n c : Nat) (r : List Int) (hr : RdG w (.slice y n c) r) (hn : n = r.length) (hl : n ≤ 1000) (hfl : fs.length ≤ 1000) (hg : g ∉ blkV (.slice y n c)) (ha : allF fs r = true) (hf : ∀ x ∈ fs, 0 ≤ x ∧ x ≤ 4) (hnd : r.Nodup) : Calls Tryz.prog 145 #[.pointer (some ⟨g, 0, none⟩), .slice y n c] w (VDone g sv T D fs 3 dev (sortL r) w) := by
  have hgl := h.lt
  have HS := hid (supported_any g sv av T D fs st dev ag w h y n c r hr hn hl hfl)
  have hlt : ¬ (keepL fs r).length < n := by rw [hn, keep_lt, ha]; decide
  have hli : ¬ ((keepL fs r).length : Int) < n := by omega
  have HAC := hid (fun (W : World) (hb : Below w.heap.size w W) => accept_any g sv av T D fs st dev ag W (h.step hb) (.slice y n c) r (hr.step hb).reads hg hnd (all_in ha hf) (all_few ha hf hnd))
  clear h hr hn ha hg
  go_enter Tryz.func145, Tryz.ntmps145
  go_wp2_with fail
  with_reducible refine HS.out.mono ?_
  rintro e w1 ⟨v1, rfl, ho1, hb1, hk1⟩
  obtain ⟨x1, c1, rfl⟩ := own_len ho1 _ rfl
  have HA1 := hid (HAC.out w1 hb1)
  have HB1 := hid hb1
  clear ho1 hb1 hk1 HS HAC
  generalize (keepL fs r).length = m at *
  go_wp2_with fail
  with_reducible refine HA1.out.mono ?_
  rintro e w2 ⟨rfl, av', hE, hM, hk⟩
  have HX := hid (show VDone g sv T D fs 3 dev (sortL r) w (.returned (.tuple #[])) w2 from ⟨rfl, _, hE, (Moved.below HB1.out [g]).trans hM, .inr (fun k q => Nat.le_trans HB1.out.size (hk k q))⟩)
  clear hE hM hk HA1
  go_wp2
  go_end0
  exact HX.out
set_option maxRecDepth 100000 in
set_option maxHeartbeats 2000000 in
theorem acceptOrAsk_no (g : Nat) (sv av : Value) (T D : ByteArray) (fs : List Int) (st : Int) (dev : ByteArray) (ag : List Int) (w : World) (h : EndM w g sv av T D fs st dev ag) (y : Option Addr) (n c : Nat) (r : List Int) (hr : RdG w (.slice y n c) r) (hn : n = r.length) (hl : n ≤ 1000) (hfl : fs.length ≤ 1000) (_hg : g ∉ blkV (.slice y n c)) (ha : allF fs r = false) : Calls Tryz.prog 146 #[.pointer (some ⟨g, 0, none⟩), .slice y n c] w (EDone g sv T D fs 2 dev [] (3 :: 7 :: keepL fs r) w) := by
  have hgl := h.lt
  have HS := hid (supported_any g sv av T D fs st dev ag w h y n c r hr hn hl hfl)
  have hlt := keep_lt.2 ha
  rw [← hn] at hlt
  have hli : ((keepL fs r).length : Int) < n := by omega
  have hkl : (keepL fs r).length ≤ 1000 := by omega
  have HH := hid h
  clear h hr hn ha
  go_enter Tryz.func146, Tryz.ntmps146
  go_wp2_with fail
  with_reducible refine HS.out.mono ?_
  rintro e w1 ⟨v1, rfl, ho1, hb1, hk1⟩
  obtain ⟨x1, c1, rfl⟩ := own_len ho1 _ rfl
  have HAF := hid (askFunctions_any g sv av T D fs st dev ag w1 (HH.out.step hb1) x1 _ c1 (keepL fs r) ho1.reads (fun q => by have := hk1 g q; have := HH.out.lt; omega) hkl)
  have HB1 := hid hb1
  clear ho1 hb1 hk1 HS HH hkl
  generalize keepL fs r = K at *
  generalize K.length = m at *
  go_wp2_with fail
  with_reducible refine HAF.out.mono ?_
  rintro e w2 ⟨v2, av', rfl, h2⟩
  have HX := hid (EDone.since HB1.out hgl ⟨v2, av', rfl, h2⟩)
  obtain ⟨x2, n2, c2, rfl⟩ := own_slice h2.1
  clear h2 HAF
  go_wp2
  go_ret
  exact HX.out
set_option maxRecDepth 100000 in
set_option maxHeartbeats 2000000 in
theorem acceptOrAsk_yes (g : Nat) (sv av : Value) (T D : ByteArray) (fs : List Int) (st : Int) (dev : ByteArray) (ag : List Int) (w : World) (h : EndM w g sv av T D fs st dev ag) (y : Option Addr) (n c : Nat) (r : List Int) (hr : RdG w (.slice y n c) r) (hn : n = r.length) (hl : n ≤ 1000) (hfl : fs.length ≤ 1000) (hg : g ∉ blkV (.slice y n c)) (ha : allF fs r = true) (hf : ∀ x ∈ fs, 0 ≤ x ∧ x ≤ 4) (hnd : r.Nodup) : Calls Tryz.prog 146 #[.pointer (some ⟨g, 0, none⟩), .slice y n c] w (EDone g sv T D fs 3 dev (sortL r) (3 :: 4 :: r) w) := by
  have hgl := h.lt
  have HS := hid (supported_any g sv av T D fs st dev ag w h y n c r hr hn hl hfl)
  have hlt : ¬ (keepL fs r).length < n := by rw [hn, keep_lt, ha]; decide
  have hli : ¬ ((keepL fs r).length : Int) < n := by omega
  have HAC := hid (fun (W : World) (hb : Below w.heap.size w W) => accept_any g sv av T D fs st dev ag W (h.step hb) (.slice y n c) r (hr.step hb).reads hg hnd (all_in ha hf) (all_few ha hf hnd))
  have HRD := hid (fun (W W' : World) (hb : Below w.heap.size w W) (hM : Moved W W' [g] [g]) => (hr.step hb).moved hM (fun k hk q => hg (by rw [← List.mem_singleton.1 q]; exact hk)))
  have hrl : r.length ≤ 1000 := by omega
  clear h hr hn ha hg
  go_enter Tryz.func146, Tryz.ntmps146
  go_wp2_with fail
  with_reducible refine HS.out.mono ?_
  rintro e w1 ⟨v1, rfl, ho1, hb1, hk1⟩
  obtain ⟨x1, c1, rfl⟩ := own_len ho1 _ rfl
  have HA1 := hid (HAC.out w1 hb1)
  have HB1 := hid hb1
  clear ho1 hb1 hk1 HS HAC
  generalize (keepL fs r).length = m at *
  go_wp2_with fail
  with_reducible refine HA1.out.mono ?_
  rintro e w2 ⟨rfl, av', hE, hM, hk⟩
  have HE := hid hE
  have HM := hid ((Moved.below HB1.out [g]).trans hM)
  have HF := hid (Fresh.lit w2 #[.int .u8 3, .int .u8 4] 2 [3, 4] (fun q hq => by simp at hq; omega) rfl rfl (by omega) w2.heap.size rfl)
  have HR2 := hid ((HRD.out w1 w2 HB1.out hM).step HF.out.2.1).reads
  have HKA := hid hk
  clear hE hM hk HA1 HRD
  go_wp2_with (first
    | (at_builtin; refine wpList_append_rd rfl _ _ rfl rfl HF.out _ r rfl HR2.out (by simp; omega) ?_; intro x' c' w' hF'; have HF' := hid hF'; clear hF'))
  go_ret
  have hF := HF'.out
  exact ⟨_, _, rfl, hF.1, HE.out.step hF.2.1, HM.out.trans (Moved.below hF.2.1 _), (fun k hk => ⟨Nat.le_trans HM.out.size (hF.2.2 k hk), fun q => by have h1 := HE.out.ra.lt k q; have h2 := hF.2.2 k hk; omega⟩), .inr (fun k q => Nat.le_trans HB1.out.size (HKA.out k q))⟩
end
end Go.Proofs.YtaanpnmgibcemaaGreatDoor.Ng
