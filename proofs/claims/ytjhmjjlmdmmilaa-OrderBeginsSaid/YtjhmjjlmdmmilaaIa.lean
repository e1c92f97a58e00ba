/-
  Orders: what bytes say, and what a beginning of them says (pure).
-/
import Derived.Test.YtjhmjjlmdmmilaaAc
namespace Go.Proofs.Ytjhmjjlmdmmilaa
open Go.RowKit Go.Lib

/-- An order, or a text. -/
structure OpD where
  kind : Int
  addr : Int
  code : Int
  graph : Bool
  fa : Int
  pairs : List (Nat × Nat)
  text : List Int
def opZ : OpD := ⟨0, 0, 0, false, 0, [], []⟩
def opT (t : List Int) : OpD := { opZ with text := t }
def ordL : List Int := [5, 8, 17, 18, 19, 29, 40, 41, 44, 60]
/-- Does an order begin with it? -/
def isO (b : Int) : Bool := ordL.contains b
/-- A code: the error, the code. -/
def codF (xs : List Int) : Int × Int := match xs with
  | [] => (2, 0)
  | b :: _ => if isO b then (10, 0) else (0, b)
def repF (xs : List Int) : Int × OpD × Nat :=
  if (decZ 12 xs).2 ≠ 0 then ((decZ 12 xs).2, opZ, 0) else
  if 2 < xs.length ∧ xs.getD 2 0 = 8 then
    ((codF (xs.drop 3)).1, { opZ with kind := 60, addr := (decZ 12 xs).1, graph := true, code := (codF (xs.drop 3)).2 }, 4)
  else ((codF (xs.drop 2)).1, { opZ with kind := 60, addr := (decZ 12 xs).1, code := (codF (xs.drop 2)).2 }, 3)
def pairF (xs : List Int) : Int × List (Nat × Nat) := match xs with
  | t :: v :: _ => (if knownB t.toNat v.toNat then 0 else 10, [(t.toNat, v.toNat)])
  | _ => (2, [])
def sinF (xs : List Int) : Int × Int := match xs with
  | [] => (2, 0)
  | b :: _ => (0, b)
def parF (xs : List Int) : Int × List (Nat × Nat) × Nat :=
  if xs.length < 1 + 2 * (xs.getD 0 0).toNat then (2, [], 0) else
  if allK xs (xs.getD 0 0).toNat then (0, pairsL xs (xs.getD 0 0).toNat, 1 + 2 * (xs.getD 0 0).toNat) else (10, [], 0)
/-- What is behind the byte of an order: the error, the order, how many bytes it has. -/
def behF (k : Int) (xs : List Int) : Int × OpD × Nat :=
  if k = 17 ∨ k = 18 then ((decZ 12 xs).2, { opZ with kind := k, addr := (decZ 12 xs).1 }, 2) else
  if k = 60 then repF xs else
  if k = 29 then ((sinF xs).1, { opZ with kind := k, fa := (sinF xs).2 }, 1) else
  if k = 40 then ((pairF xs).1, { opZ with kind := k, pairs := (pairF xs).2 }, 2) else
  if k = 41 ∨ k = 44 then ((parF xs).1, { opZ with kind := k, pairs := (parF xs).2.1 }, (parF xs).2.2) else
  if k = 8 then ((codF xs).1, { opZ with kind := k, code := (codF xs).2 }, 1) else
  (0, { opZ with kind := k }, 0)
def tkO (xs : List Int) : List Int := xs.takeWhile fun b => !isO b
/-- What bytes begin with. -/
def firF (xs : List Int) : Int × OpD × Nat := match xs with
  | [] => (0, opT [], 0)
  | b :: r => if isO b then (if (behF b r).1 = 0 then (0, (behF b r).2.1, 1 + (behF b r).2.2) else ((behF b r).1, opZ, 0)) else (0, opT (tkO (b :: r)), (tkO (b :: r)).length)
/-- All up to where one isn't there. -/
def allF : Nat → List Int → List OpD × Nat × Int
  | 0, _ => ([], 0, 0)
  | f + 1, xs => if xs = [] then ([], 0, 0) else if (firF xs).1 = 0 then ((firF xs).2.1 :: (allF f (xs.drop (firF xs).2.2)).1, (firF xs).2.2 + (allF f (xs.drop (firF xs).2.2)).2.1, (allF f (xs.drop (firF xs).2.2)).2.2) else ([], 0, (firF xs).1)
theorem allF_nil (f : Nat) : allF f [] = ([], 0, 0) := by cases f <;> rfl
theorem allF_one (f : Nat) (xs : List Int) (h : xs ≠ []) (h0 : (firF xs).1 = 0) : allF (f + 1) xs = ((firF xs).2.1 :: (allF f (xs.drop (firF xs).2.2)).1, (firF xs).2.2 + (allF f (xs.drop (firF xs).2.2)).2.1, (allF f (xs.drop (firF xs).2.2)).2.2) := by
  show (if xs = [] then _ else if _ then _ else _) = _
  rw [if_neg h, if_pos h0]
theorem allF_bad (f : Nat) (xs : List Int) (h : xs ≠ []) (h0 : (firF xs).1 ≠ 0) : allF (f + 1) xs = ([], 0, (firF xs).1) := by
  show (if xs = [] then _ else if _ then _ else _) = _
  rw [if_neg h, if_neg h0]
theorem decZ_take {xs : List Int} {m : Nat} (h : (decZ 12 (xs.take m)).2 = 0) : decZ 12 xs = decZ 12 (xs.take m) ∧ 2 ≤ m ∧ 2 ≤ xs.length := by
  by_cases hl : (xs.take m).length < 2
  · rw [decZ_short (by omega) hl] at h
    exact absurd h (by decide)
  · match m, xs, hl with
    | 0, _, hl => simp at hl
    | 1, xs, hl => simp at hl; omega
    | _ + 2, [], hl => simp at hl
    | _ + 2, [_], hl => simp at hl
    | m + 2, a :: b :: xs, hl => exact ⟨rfl, by omega, by simp⟩
theorem codF_take {xs : List Int} {m : Nat} (h : (codF (xs.take m)).1 = 0) : codF xs = codF (xs.take m) ∧ 1 ≤ m ∧ 1 ≤ xs.length := by
  match m, xs, h with
  | 0, _, h => simp [codF] at h
  | m + 1, [], h => simp [codF] at h
  | m + 1, b :: xs, h => exact ⟨rfl, by omega, by simp⟩
theorem sinF_take {xs : List Int} {m : Nat} (h : (sinF (xs.take m)).1 = 0) : sinF xs = sinF (xs.take m) ∧ 1 ≤ m ∧ 1 ≤ xs.length := by
  match m, xs, h with
  | 0, _, h => simp [sinF] at h
  | m + 1, [], h => simp [sinF] at h
  | m + 1, b :: xs, h => exact ⟨rfl, by omega, by simp⟩
theorem pairF_take {xs : List Int} {m : Nat} (h : (pairF (xs.take m)).1 = 0) : pairF xs = pairF (xs.take m) ∧ 2 ≤ m ∧ 2 ≤ xs.length := by
  match m, xs, h with
  | 0, _, h => simp [pairF] at h
  | 1, [], h => simp [pairF] at h
  | 1, _ :: _, h => simp [pairF] at h
  | m + 2, [], h => simp [pairF] at h
  | m + 2, [_], h => simp [pairF] at h
  | m + 2, a :: b :: xs, h => exact ⟨rfl, by omega, by simp⟩
theorem getD_take (xs : List Int) {m i : Nat} (h : i < m) : (xs.take m).getD i 0 = xs.getD i 0 := by
  rw [List.getD, List.getD, List.getElem?_take_of_lt h]
theorem pairsL_take (xs : List Int) {m n : Nat} (h : 1 + 2 * n ≤ m) : pairsL (xs.take m) n = pairsL xs n := by
  unfold pairsL
  refine List.map_congr_left fun i hi => ?_
  have : i < n := by simpa using hi
  unfold pairAt
  rw [getD_take _ (by omega), getD_take _ (by omega)]
theorem parF_take {xs : List Int} {m : Nat} (h : (parF (xs.take m)).1 = 0) : parF xs = parF (xs.take m) ∧ (parF xs).2.2 ≤ m ∧ 1 ≤ m ∧ (parF xs).2.2 ≤ xs.length := by
  obtain ⟨n, hn⟩ : ∃ n, ((xs.take m).getD 0 0).toNat = n := ⟨_, rfl⟩
  unfold parF at h
  rw [hn] at h
  by_cases h1 : (xs.take m).length < 1 + 2 * n
  · rw [if_pos h1] at h; exact absurd h (by decide)
  rw [if_neg h1] at h
  by_cases h2 : allK (xs.take m) n = true
  · have hm : 1 + 2 * n ≤ m := by rw [List.length_take] at h1; omega
    have hx : 1 + 2 * n ≤ xs.length := by rw [List.length_take] at h1; omega
    have hg := getD_take xs (m := m) (i := 0) (by omega)
    have hn' : (xs.getD 0 0).toNat = n := by rw [← hg]; exact hn
    have ha : allK xs n = true := by unfold allK at h2 ⊢; rwa [pairsL_take xs hm] at h2
    unfold parF
    rw [hn, hn', if_neg (by omega : ¬ xs.length < 1 + 2 * n), if_neg h1, if_pos ha, if_pos h2, pairsL_take xs hm]
    exact ⟨rfl, hm, by omega, hx⟩
  · rw [if_neg h2] at h; exact absurd h (by decide)
theorem repF_take {xs : List Int} {m : Nat} (h : (repF (xs.take m)).1 = 0) : repF xs = repF (xs.take m) ∧ (repF xs).2.2 ≤ m ∧ (repF xs).2.2 ≤ xs.length := by
  unfold repF at h
  by_cases h1 : (decZ 12 (xs.take m)).2 = 0
  · obtain ⟨hd, hm, hx⟩ := decZ_take h1
    rw [if_neg (by simpa using h1)] at h
    by_cases h2 : 2 < (xs.take m).length ∧ (xs.take m).getD 2 0 = 8
    · rw [if_pos h2] at h
      have hl := h2.1
      rw [List.length_take] at hl
      rw [List.drop_take] at h
      obtain ⟨hc, h4, h5⟩ := codF_take h
      have h6 : xs.getD 2 0 = 8 := by rw [← getD_take xs (m := m) (i := 2) (by omega)]; exact h2.2
      rw [List.length_drop] at h5
      have e1 : repF xs = ((codF (xs.drop 3)).1, { opZ with kind := 60, addr := (decZ 12 xs).1, graph := true, code := (codF (xs.drop 3)).2 }, 4) := by
        unfold repF
        rw [if_neg (by rw [hd]; simpa using h1), if_pos ⟨by omega, h6⟩]
      have e2 : repF (xs.take m) = ((codF ((xs.take m).drop 3)).1, { opZ with kind := 60, addr := (decZ 12 (xs.take m)).1, graph := true, code := (codF ((xs.take m).drop 3)).2 }, 4) := by
        unfold repF
        rw [if_neg (by simpa using h1), if_pos h2]
      rw [e1, e2, List.drop_take, hc, hd]
      exact ⟨rfl, by show 4 ≤ m; omega, by show 4 ≤ xs.length; omega⟩
    · rw [if_neg h2] at h
      rw [List.drop_take] at h
      obtain ⟨hc, h4, h5⟩ := codF_take h
      rw [List.length_drop] at h5
      have h6 : ¬ (2 < xs.length ∧ xs.getD 2 0 = 8) := fun q => h2 ⟨by rw [List.length_take]; omega, by rw [getD_take xs (by omega)]; exact q.2⟩
      have e1 : repF xs = ((codF (xs.drop 2)).1, { opZ with kind := 60, addr := (decZ 12 xs).1, code := (codF (xs.drop 2)).2 }, 3) := by
        unfold repF
        rw [if_neg (by rw [hd]; simpa using h1), if_neg h6]
      have e2 : repF (xs.take m) = ((codF ((xs.take m).drop 2)).1, { opZ with kind := 60, addr := (decZ 12 (xs.take m)).1, code := (codF ((xs.take m).drop 2)).2 }, 3) := by
        unfold repF
        rw [if_neg (by simpa using h1), if_neg h2]
      rw [e1, e2, List.drop_take, hc, hd]
      exact ⟨rfl, by show 3 ≤ m; omega, by show 3 ≤ xs.length; omega⟩
  · rw [if_pos (by simpa using h1)] at h
    exact absurd h h1
theorem behF_take {k : Int} {xs : List Int} {m : Nat} (h : (behF k (xs.take m)).1 = 0) : behF k xs = behF k (xs.take m) ∧ (behF k xs).2.2 ≤ m ∧ (behF k xs).2.2 ≤ xs.length := by
  unfold behF at h ⊢
  by_cases h1 : k = 17 ∨ k = 18
  · rw [if_pos h1] at h
    rw [if_pos h1, if_pos h1]
    obtain ⟨a, b, c⟩ := decZ_take h
    rw [a]
    exact ⟨rfl, b, c⟩
  rw [if_neg h1] at h
  rw [if_neg h1, if_neg h1]
  by_cases h2 : k = 60
  · rw [if_pos h2] at h
    rw [if_pos h2, if_pos h2]
    exact repF_take h
  rw [if_neg h2] at h
  rw [if_neg h2, if_neg h2]
  by_cases h3 : k = 29
  · rw [if_pos h3] at h
    rw [if_pos h3, if_pos h3]
    obtain ⟨a, b, c⟩ := sinF_take h
    rw [a]
    exact ⟨rfl, b, c⟩
  rw [if_neg h3] at h
  rw [if_neg h3, if_neg h3]
  by_cases h4 : k = 40
  · rw [if_pos h4] at h
    rw [if_pos h4, if_pos h4]
    obtain ⟨a, b, c⟩ := pairF_take h
    rw [a]
    exact ⟨rfl, b, c⟩
  rw [if_neg h4] at h
  rw [if_neg h4, if_neg h4]
  by_cases h5 : k = 41 ∨ k = 44
  · rw [if_pos h5] at h
    rw [if_pos h5, if_pos h5]
    obtain ⟨a, b, c, d⟩ := parF_take h
    rw [a] at b d ⊢
    exact ⟨rfl, b, d⟩
  rw [if_neg h5] at h
  rw [if_neg h5, if_neg h5]
  by_cases h6 : k = 8
  · rw [if_pos h6] at h
    rw [if_pos h6, if_pos h6]
    obtain ⟨a, b, c⟩ := codF_take h
    rw [a]
    exact ⟨rfl, b, c⟩
  rw [if_neg h6, if_neg h6]
  exact ⟨rfl, Nat.zero_le _, Nat.zero_le _⟩
theorem tkO_cons {b : Int} {r : List Int} (h : isO b = false) : tkO (b :: r) = b :: tkO r := by simp [tkO, h]
theorem tkO_le (xs : List Int) : (tkO xs).length ≤ xs.length := by
  unfold tkO
  exact (List.takeWhile_prefix _).length_le
theorem tkO_take (xs : List Int) : ∀ m, tkO (xs.take m) = (tkO xs).take m := by
  induction xs with
  | nil => intro m; simp [tkO]
  | cons b r ih =>
    intro m
    match m with
    | 0 => simp [tkO]
    | m + 1 =>
      rw [List.take_succ_cons]
      cases h : isO b
      · rw [tkO_cons h, tkO_cons h, List.take_succ_cons, ih m]
      · simp [tkO, h]
/-- Where a beginning says an order the whole says it; of a text it may say less. -/
theorem firF_take {xs : List Int} {m : Nat} (hm : m ≤ xs.length) (hx : xs.take m ≠ []) (h : (firF (xs.take m)).1 = 0) :
    (firF xs).1 = 0 ∧ 1 ≤ (firF (xs.take m)).2.2 ∧ (firF (xs.take m)).2.2 ≤ m ∧
    (firF xs = firF (xs.take m) ∨ ((firF (xs.take m)).2.2 = m ∧ ∃ t, (firF xs).2.1 = opT t ∧ (firF (xs.take m)).2.1 = opT (t.take m) ∧ m ≤ t.length)) := by
  match m, xs, hm, hx, h with
  | 0, _, _, hx, _ => simp at hx
  | m + 1, [], hm, _, _ => simp at hm
  | m + 1, b :: r, hm, hx, h =>
    have hr : m ≤ r.length := by simpa using hm
    rw [List.take_succ_cons] at h hx ⊢
    cases hb : isO b
    · have e1 : firF (b :: r) = (0, opT (tkO (b :: r)), (tkO (b :: r)).length) := by show (if isO b = true then _ else _) = _; rw [hb]; rfl
      have e2 : firF (b :: r.take m) = (0, opT ((tkO (b :: r)).take (m + 1)), ((tkO (b :: r)).take (m + 1)).length) := by
        show (if isO b = true then _ else _) = _
        rw [hb, ← tkO_take, List.take_succ_cons]
        rfl
      have hp : 1 ≤ (tkO (b :: r)).length := by rw [tkO_cons hb]; simp
      rw [e1, e2]
      refine ⟨rfl, by show 1 ≤ ((tkO (b :: r)).take (m + 1)).length; rw [List.length_take]; omega, by show ((tkO (b :: r)).take (m + 1)).length ≤ m + 1; rw [List.length_take]; omega, ?_⟩
      by_cases hs : (tkO (b :: r)).length ≤ m + 1
      · left
        rw [List.take_of_length_le hs]
      · right
        exact ⟨by show ((tkO (b :: r)).take (m + 1)).length = m + 1; rw [List.length_take]; omega, _, rfl, rfl, by omega⟩
    · have e2 : firF (b :: r.take m) = if (behF b (r.take m)).1 = 0 then (0, (behF b (r.take m)).2.1, 1 + (behF b (r.take m)).2.2) else ((behF b (r.take m)).1, opZ, 0) := by show (if isO b = true then _ else _) = _; rw [hb]; rfl
      have e1 : firF (b :: r) = if (behF b r).1 = 0 then (0, (behF b r).2.1, 1 + (behF b r).2.2) else ((behF b r).1, opZ, 0) := by show (if isO b = true then _ else _) = _; rw [hb]; rfl
      rw [e2] at h
      by_cases h0 : (behF b (r.take m)).1 = 0
      · obtain ⟨a, c, d⟩ := behF_take h0
        rw [e1, e2, a, if_pos h0]
        rw [a] at c
        exact ⟨rfl, by show 1 ≤ 1 + _; omega, by show 1 + _ ≤ _; omega, .inl rfl⟩
      · rw [if_neg h0] at h
        exact absurd h h0
/-- How what a beginning says lies to what the whole says, place by place. -/
def Agree (few all : List OpD) : Prop := few.length ≤ all.length ∧ ∀ i (h : i < few.length) (h' : i < all.length), few[i] = all[i] ∨ (i + 1 = few.length ∧ ∃ t k, all[i] = opT t ∧ few[i] = opT (t.take k) ∧ k ≤ t.length)
theorem allF_take : ∀ (f : Nat) (xs : List Int) (m : Nat), m ≤ xs.length → m ≤ f →
    Agree (allF f (xs.take m)).1 (allF f xs).1 ∧ (allF f (xs.take m)).2.1 ≤ m ∧ ((allF f (xs.take m)).2.2 = 0 → (allF f (xs.take m)).2.1 = m) := by
  intro f
  induction f with
  | zero => intro xs m hm hf; exact ⟨⟨Nat.le_refl _, fun i h => absurd h (Nat.not_lt_zero _)⟩, by show 0 ≤ m; omega, fun _ => by show 0 = m; omega⟩
  | succ f ih =>
    intro xs m hm hf
    by_cases hx : xs.take m = []
    · have h0 : m = 0 := by
        have := congrArg List.length hx
        rw [List.length_take] at this
        simp at this
        rcases this with h | h
        · exact h
        · rw [h] at hm; simpa using hm
      rw [hx, allF_nil]
      exact ⟨⟨Nat.zero_le _, fun i h => absurd h (Nat.not_lt_zero _)⟩, Nat.zero_le _, fun _ => h0.symm⟩
    · have hx' : xs ≠ [] := fun h => hx (by rw [h]; simp)
      by_cases he : (firF (xs.take m)).1 = 0
      · obtain ⟨h1, h2, h3, h4⟩ := firF_take hm hx he
        rw [allF_one f _ hx he, allF_one f _ hx' h1, List.drop_take]
        generalize hu : (firF (xs.take m)).2.2 = u at h2 h3 h4
        rcases h4 with h4 | ⟨h4, t, h5, h6, h7⟩
        · rw [h4, hu]
          obtain ⟨⟨i1, i2⟩, i3, i4⟩ := ih (xs.drop u) (m - u) (by rw [List.length_drop]; omega) (by omega)
          refine ⟨⟨by simpa using i1, fun i h h' => ?_⟩, by show u + _ ≤ m; omega, fun h => by have := i4 h; show u + _ = m; omega⟩
          match i, h, h' with
          | 0, h, h' => exact .inl rfl
          | i + 1, h, h' =>
            rcases i2 i (by simpa using h) (by simpa using h') with q | ⟨q1, t, k, q2, q3, q4⟩
            · exact .inl q
            · exact .inr ⟨by simpa using q1, t, k, q2, q3, q4⟩
        · subst h4
          rw [Nat.sub_self, List.take_zero, allF_nil]
          refine ⟨⟨by simp, fun i h h' => ?_⟩, by show u + 0 ≤ u; omega, fun _ => by show u + 0 = u; omega⟩
          match i, h, h' with
          | 0, h, h' => exact .inr ⟨rfl, t, u, h5, h6, h7⟩
          | i + 1, h, h' => simp at h
      · rw [allF_bad f _ hx he]
        exact ⟨⟨Nat.zero_le _, fun i h => absurd h (Nat.not_lt_zero _)⟩, Nat.zero_le _, fun h => absurd h he⟩
end Go.Proofs.Ytjhmjjlmdmmilaa
