/-
  slices.Sort of few bytes.
-/
import Derived.Test.YtdpfjbpfafekfaaNc
import Derived.Test.YtdpfjbpfafekfaaNd
import Derived.RegionTactic
import Derived.ChangeAlike
import Derived.Deep.QuietTactic
import Derived.BigQuiet
namespace Go.Proofs.Ytdpfjbpfafekfaa
open Go.RowKit Go.Lib

set_option maxRecDepth 100000 in
theorem less_any (a b : Int) (w : World) : Calls Try.prog 106 #[.int .u8 a, .int .u8 b] w fun e w' => e = .returned (.bool (decide (a < b))) ∧ w' = w := by
  go_enter Try.func106, Try.ntmps106
  go_wp2
  go_ret
  exact ⟨rfl, rfl⟩
/-- A byte among others that are sorted. -/
def insAt (s : List Int) (q : Nat) (x : Int) (r : List Int) : List Int := s.take q ++ x :: s.drop q ++ r
theorem insAt_length (s : List Int) (q : Nat) (x : Int) (r : List Int) : (insAt s q x r).length = s.length + 1 + r.length := by
  unfold insAt
  have := congrArg List.length (List.take_append_drop q s)
  simp only [List.length_append, List.length_cons] at this ⊢
  omega
theorem insAt_q (s : List Int) (q : Nat) (x : Int) (r : List Int) (hq : q ≤ s.length) : (insAt s q x r).getD q 0 = x := by
  unfold insAt
  rw [List.getD, List.append_assoc, List.getElem?_append_right (by rw [List.length_take]; omega)]
  simp [List.length_take, Nat.min_eq_left hq]
theorem insAt_p (s : List Int) (q : Nat) (x : Int) (r : List Int) (hq : q ≤ s.length) (h0 : 0 < q) : (insAt s q x r).getD (q - 1) 0 = s.getD (q - 1) 0 := by
  unfold insAt
  rw [List.getD, List.getD, List.append_assoc, List.getElem?_append_left (by rw [List.length_take]; omega), List.getElem?_take, if_pos (by omega)]
theorem insAt_swap (s : List Int) (q : Nat) (x : Int) (r : List Int) (hq : q ≤ s.length) (h0 : 0 < q) : ((insAt s q x r).set q (s.getD (q - 1) 0)).set (q - 1) x = insAt s (q - 1) x r := by
  obtain ⟨p, rfl⟩ : ∃ p, q = p + 1 := ⟨q - 1, by omega⟩
  simp only [Nat.add_sub_cancel]
  have hp : p < s.length := by omega
  have e1 : s.take (p + 1) = s.take p ++ [s.getD p 0] := take_succD hp
  have e2 : s.drop p = s.getD p 0 :: s.drop (p + 1) := by
    rw [List.drop_eq_getElem_cons hp, List.getD, List.getElem?_eq_getElem hp]
    rfl
  have l1 : (s.take p).length = p := by rw [List.length_take]; omega
  unfold insAt
  rw [e1, e2]
  generalize s.getD p 0 = y
  generalize s.drop (p + 1) = t
  rw [show (s.take p ++ [y]) ++ x :: t ++ r = s.take p ++ (y :: x :: (t ++ r)) by simp]
  rw [List.set_append_right _ _ (by omega), l1, show p + 1 - p = 1 by omega, List.set_append_right _ _ (by omega), l1, Nat.sub_self]
  simp
theorem insAt_perm (s : List Int) (q : Nat) (x : Int) : (insAt s q x []).Perm (s ++ [x]) := by
  unfold insAt
  rw [List.append_nil]
  refine List.perm_middle.trans ?_
  rw [List.take_append_drop]
  exact (List.perm_append_singleton x s).symm
theorem insAt_sorted {s : List Int} (hs : s.Pairwise (· ≤ ·)) (q : Nat) (hq : q ≤ s.length) (x : Int) (hgt : ∀ y ∈ s.drop q, x < y) (hle : q = 0 ∨ ¬ x < s.getD (q - 1) 0) : (insAt s q x []).Pairwise (· ≤ ·) := by
  unfold insAt
  rw [List.append_nil, List.pairwise_append]
  have hs2 : (s.take q ++ s.drop q).Pairwise (· ≤ ·) := by rw [List.take_append_drop]; exact hs
  rw [List.pairwise_append] at hs2
  refine ⟨hs2.1, List.pairwise_cons.2 ⟨fun y hy => Int.le_of_lt (hgt y hy), hs2.2.1⟩, fun a ha b hb => ?_⟩
  rcases List.mem_cons.1 hb with rfl | hb
  · rcases hle with rfl | hle
    · simp at ha
    · have h0 : 0 < q := by
        rcases Nat.eq_zero_or_pos q with rfl | h
        · simp at ha
        · exact h
      obtain ⟨p, rfl⟩ : ∃ p, q = p + 1 := ⟨q - 1, by omega⟩
      simp only [Nat.add_sub_cancel] at hle
      rw [take_succD (by omega)] at ha hs2
      rcases List.mem_append.1 ha with h1 | h1
      · have := (List.pairwise_append.1 hs2.1).2.2 a h1 (s.getD p 0) (by simp)
        omega
      · have : a = s.getD p 0 := by simpa using h1
        omega
  · exact hs2.2.2 a ha b hb
/-- A row that was sorted. -/
def SortD (xs : List Int) (g n cap : Nat) (w : World) (e : Ending) (w' : World) : Prop := e = .returned (.tuple #[]) ∧ ∃ s, s.Perm xs ∧ s.Pairwise (· ≤ ·) ∧ OwnB w' (.slice (some ⟨g, 0, none⟩) n cap) s ∧ Moved w w' [g] [g]
end Go.Proofs.Ytdpfjbpfafekfaa
