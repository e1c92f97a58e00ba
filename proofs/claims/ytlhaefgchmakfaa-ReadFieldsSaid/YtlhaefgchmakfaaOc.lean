/-
  Orders: what bytes say, and what a beginning of them says (pure).
  The names of orders, and which bytes begin one.
  Orders: boxes of seven cells; one byte, a code, a pair.
  Orders: what is behind the byte of an order.
-/
import Derived.Test.YtlhaefgchmakfaaOb
import Derived.Deep.RegionWith
namespace Go.Proofs.Ytlhaefgchmakfaa
open Go.RowKit Go.Lib

/-- An order, or a text. -/
structure OpD where
  kind : Int
  addr : Int
  code : Int
  graph : Bool
  fa : Int
  pairs : List (Nat × Nat)
  text : List Int
def opZ : OpD := ⟨0, 0, 0, false, 0, [], []⟩
def opT (t : List Int) : OpD := { opZ with text := t }
def ordL : List Int := [5, 8, 17, 18, 19, 29, 40, 41, 44, 60]
/-- Does an order begin with it? -/
def isO (b : Int) : Bool := ordL.contains b
/-- A code: the error, the code. -/
def codF (xs : List Int) : Int × Int := match xs with
  | [] => (2, 0)
  | b :: _ => if isO b then (10, 0) else (0, b)
def repF (xs : List Int) : Int × OpD × Nat :=
  if (decZ 12 xs).2 ≠ 0 then ((decZ 12 xs).2, opZ, 0) else
  if 2 < xs.length ∧ xs.getD 2 0 = 8 then
    ((codF (xs.drop 3)).1, { opZ with kind := 60, addr := (decZ 12 xs).1, graph := true, code := (codF (xs.drop 3)).2 }, 4)
  else ((codF (xs.drop 2)).1, { opZ with kind := 60, addr := (decZ 12 xs).1, code := (codF (xs.drop 2)).2 }, 3)
def pairF (xs : List Int) : Int × List (Nat × Nat) := match xs with
  | t :: v :: _ => (if knownB t.toNat v.toNat then 0 else 10, [(t.toNat, v.toNat)])
  | _ => (2, [])
def sinF (xs : List Int) : Int × Int := match xs with
  | [] => (2, 0)
  | b :: _ => (0, b)
def parF (xs : List Int) : Int × List (Nat × Nat) × Nat :=
  if xs.length < 1 + 2 * (xs.getD 0 0).toNat then (2, [], 0) else
  if allK xs (xs.getD 0 0).toNat then (0, pairsL xs (xs.getD 0 0).toNat, 1 + 2 * (xs.getD 0 0).toNat) else (10, [], 0)
/-- What is behind the byte of an order: the error, the order, how many bytes it has. -/
def behF (k : Int) (xs : List Int) : Int × OpD × Nat :=
  if k = 17 ∨ k = 18 then ((decZ 12 xs).2, { opZ with kind := k, addr := (decZ 12 xs).1 }, 2) else
  if k = 60 then repF xs else
  if k = 29 then ((sinF xs).1, { opZ with kind := k, fa := (sinF xs).2 }, 1) else
  if k = 40 then ((pairF xs).1, { opZ with kind := k, pairs := (pairF xs).2 }, 2) else
  if k = 41 ∨ k = 44 then ((parF xs).1, { opZ with kind := k, pairs := (parF xs).2.1 }, (parF xs).2.2) else
  if k = 8 then ((codF xs).1, { opZ with kind := k, code := (codF xs).2 }, 1) else
  (0, { opZ with kind := k }, 0)
def tkO (xs : List Int) : List Int := xs.takeWhile fun b => !isO b
/-- What bytes begin with. -/
def firF (xs : List Int) : Int × OpD × Nat := match xs with
  | [] => (0, opT [], 0)
  | b :: r => if isO b then (if (behF b r).1 = 0 then (0, (behF b r).2.1, 1 + (behF b r).2.2) else ((behF b r).1, opZ, 0)) else (0, opT (tkO (b :: r)), (tkO (b :: r)).length)
/-- All up to where one isn't there. -/
def allF : Nat → List Int → List OpD × Nat × Int
  | 0, _ => ([], 0, 0)
  | f + 1, xs => if xs = [] then ([], 0, 0) else if (firF xs).1 = 0 then ((firF xs).2.1 :: (allF f (xs.drop (firF xs).2.2)).1, (firF xs).2.2 + (allF f (xs.drop (firF xs).2.2)).2.1, (allF f (xs.drop (firF xs).2.2)).2.2) else ([], 0, (firF xs).1)
theorem allF_nil (f : Nat) : allF f [] = ([], 0, 0) := by cases f <;> rfl
theorem allF_one (f : Nat) (xs : List Int) (h : xs ≠ []) (h0 : (firF xs).1 = 0) : allF (f + 1) xs = ((firF xs).2.1 :: (allF f (xs.drop (firF xs).2.2)).1, (firF xs).2.2 + (allF f (xs.drop (firF xs).2.2)).2.1, (allF f (xs.drop (firF xs).2.2)).2.2) := by
  show (if xs = [] then _ else if _ then _ else _) = _
  rw [if_neg h, if_pos h0]
theorem allF_bad (f : Nat) (xs : List Int) (h : xs ≠ []) (h0 : (firF xs).1 ≠ 0) : allF (f + 1) xs = ([], 0, (firF xs).1) := by
  show (if xs = [] then _ else if _ then _ else _) = _
  rw [if_neg h, if_neg h0]
theorem decZ_take {xs : List Int} {m : Nat} (h : (decZ 12 (xs.take m)).2 = 0) : decZ 12 xs = decZ 12 (xs.take m) ∧ 2 ≤ m ∧ 2 ≤ xs.length := by
  by_cases hl : (xs.take m).length < 2
  · rw [decZ_short (by omega) hl] at h
    exact absurd h (by decide)
  · match m, xs, hl with
    | 0, _, hl => simp at hl
    | 1, xs, hl => simp at hl; omega
    | _ + 2, [], hl => simp at hl
    | _ + 2, [_], hl => simp at hl
    | m + 2, a :: b :: xs, hl => exact ⟨rfl, by omega, by simp⟩
theorem codF_take {xs : List Int} {m : Nat} (h : (codF (xs.take m)).1 = 0) : codF xs = codF (xs.take m) ∧ 1 ≤ m ∧ 1 ≤ xs.length := by
  match m, xs, h with
  | 0, _, h => simp [codF] at h
  | m + 1, [], h => simp [codF] at h
  | m + 1, b :: xs, h => exact ⟨rfl, by omega, by simp⟩
theorem sinF_take {xs : List Int} {m : Nat} (h : (sinF (xs.take m)).1 = 0) : sinF xs = sinF (xs.take m) ∧ 1 ≤ m ∧ 1 ≤ xs.length := by
  match m, xs, h with
  | 0, _, h => simp [sinF] at h
  | m + 1, [], h => simp [sinF] at h
  | m + 1, b :: xs, h => exact ⟨rfl, by omega, by simp⟩
theorem pairF_take {xs : List Int} {m : Nat} (h : (pairF (xs.take m)).1 = 0) : pairF xs = pairF (xs.take m) ∧ 2 ≤ m ∧ 2 ≤ xs.length := by
  match m, xs, h with
  | 0, _, h => simp [pairF] at h
  | 1, [], h => simp [pairF] at h
  | 1, _ :: _, h => simp [pairF] at h
  | m + 2, [], h => simp [pairF] at h
  | m + 2, [_], h => simp [pairF] at h
  | m + 2, a :: b :: xs, h => exact ⟨rfl, by omega, by simp⟩
theorem getD_take (xs : List Int) {m i : Nat} (h : i < m) : (xs.take m).getD i 0 = xs.getD i 0 := by
  rw [List.getD, List.getD, List.getElem?_take_of_lt h]
theorem pairsL_take (xs : List Int) {m n : Nat} (h : 1 + 2 * n ≤ m) : pairsL (xs.take m) n = pairsL xs n := by
  unfold pairsL
  refine List.map_congr_left fun i hi => ?_
  have : i < n := by simpa using hi
  unfold pairAt
  rw [getD_take _ (by omega), getD_take _ (by omega)]
theorem parF_take {xs : List Int} {m : Nat} (h : (parF (xs.take m)).1 = 0) : parF xs = parF (xs.take m) ∧ (parF xs).2.2 ≤ m ∧ 1 ≤ m ∧ (parF xs).2.2 ≤ xs.length := by
  obtain ⟨n, hn⟩ : ∃ n, ((xs.take m).getD 0 0).toNat = n := ⟨_, rfl⟩
  unfold parF at h
  rw [hn] at h
  by_cases h1 : (xs.take m).length < 1 + 2 * n
  · rw [if_pos h1] at h; exact absurd h (by decide)
  rw [if_neg h1] at h
  by_cases h2 : allK (xs.take m) n = true
  · have hm : 1 + 2 * n ≤ m := by rw [List.length_take] at h1; omega
    have hx : 1 + 2 * n ≤ xs.length := by rw [List.length_take] at h1; omega
    have hg := getD_take xs (m := m) (i := 0) (by omega)
    have hn' : (xs.getD 0 0).toNat = n := by rw [← hg]; exact hn
    have ha : allK xs n = true := by unfold allK at h2 ⊢; rwa [pairsL_take xs hm] at h2
    unfold parF
    rw [hn, hn', if_neg (by omega : ¬ xs.length < 1 + 2 * n), if_neg h1, if_pos ha, if_pos h2, pairsL_take xs hm]
    exact ⟨rfl, hm, by omega, hx⟩
  · rw [if_neg h2] at h; exact absurd h (by decide)
theorem repF_take {xs : List Int} {m : Nat} (h : (repF (xs.take m)).1 = 0) : repF xs = repF (xs.take m) ∧ (repF xs).2.2 ≤ m ∧ (repF xs).2.2 ≤ xs.length := by
  unfold repF at h
  by_cases h1 : (decZ 12 (xs.take m)).2 = 0
  · obtain ⟨hd, hm, hx⟩ := decZ_take h1
    rw [if_neg (by simpa using h1)] at h
    by_cases h2 : 2 < (xs.take m).length ∧ (xs.take m).getD 2 0 = 8
    · rw [if_pos h2] at h
      have hl := h2.1
      rw [List.length_take] at hl
      rw [List.drop_take] at h
      obtain ⟨hc, h4, h5⟩ := codF_take h
      have h6 : xs.getD 2 0 = 8 := by rw [← getD_take xs (m := m) (i := 2) (by omega)]; exact h2.2
      rw [List.length_drop] at h5
      have e1 : repF xs = ((codF (xs.drop 3)).1, { opZ with kind := 60, addr := (decZ 12 xs).1, graph := true, code := (codF (xs.drop 3)).2 }, 4) := by
        unfold repF
        rw [if_neg (by rw [hd]; simpa using h1), if_pos ⟨by omega, h6⟩]
      have e2 : repF (xs.take m) = ((codF ((xs.take m).drop 3)).1, { opZ with kind := 60, addr := (decZ 12 (xs.take m)).1, graph := true, code := (codF ((xs.take m).drop 3)).2 }, 4) := by
        unfold repF
        rw [if_neg (by simpa using h1), if_pos h2]
      rw [e1, e2, List.drop_take, hc, hd]
      exact ⟨rfl, by show 4 ≤ m; omega, by show 4 ≤ xs.length; omega⟩
    · rw [if_neg h2] at h
      rw [List.drop_take] at h
      obtain ⟨hc, h4, h5⟩ := codF_take h
      rw [List.length_drop] at h5
      have h6 : ¬ (2 < xs.length ∧ xs.getD 2 0 = 8) := fun q => h2 ⟨by rw [List.length_take]; omega, by rw [getD_take xs (by omega)]; exact q.2⟩
      have e1 : repF xs = ((codF (xs.drop 2)).1, { opZ with kind := 60, addr := (decZ 12 xs).1, code := (codF (xs.drop 2)).2 }, 3) := by
        unfold repF
        rw [if_neg (by rw [hd]; simpa using h1), if_neg h6]
      have e2 : repF (xs.take m) = ((codF ((xs.take m).drop 2)).1, { opZ with kind := 60, addr := (decZ 12 (xs.take m)).1, code := (codF ((xs.take m).drop 2)).2 }, 3) := by
        unfold repF
        rw [if_neg (by simpa using h1), if_neg h2]
      rw [e1, e2, List.drop_take, hc, hd]
      exact ⟨rfl, by show 3 ≤ m; omega, by show 3 ≤ xs.length; omega⟩
  · rw [if_pos (by simpa using h1)] at h
    exact absurd h h1
theorem behF_take {k : Int} {xs : List Int} {m : Nat} (h : (behF k (xs.take m)).1 = 0) : behF k xs = behF k (xs.take m) ∧ (behF k xs).2.2 ≤ m ∧ (behF k xs).2.2 ≤ xs.length := by
  unfold behF at h ⊢
  by_cases h1 : k = 17 ∨ k = 18
  · rw [if_pos h1] at h
    rw [if_pos h1, if_pos h1]
    obtain ⟨a, b, c⟩ := decZ_take h
    rw [a]
    exact ⟨rfl, b, c⟩
  rw [if_neg h1] at h
  rw [if_neg h1, if_neg h1]
  by_cases h2 : k = 60
  · rw [if_pos h2] at h
    rw [if_pos h2, if_pos h2]
    exact repF_take h
  rw [if_neg h2] at h
  rw [if_neg h2, if_neg h2]
  by_cases h3 : k = 29
  · rw [if_pos h3] at h
    rw [if_pos h3, if_pos h3]
    obtain ⟨a, b, c⟩ := sinF_take h
    rw [a]
    exact ⟨rfl, b, c⟩
  rw [if_neg h3] at h
  rw [if_neg h3, if_neg h3]
  by_cases h4 : k = 40
  · rw [if_pos h4] at h
    rw [if_pos h4, if_pos h4]
    obtain ⟨a, b, c⟩ := pairF_take h
    rw [a]
    exact ⟨rfl, b, c⟩
  rw [if_neg h4] at h
  rw [if_neg h4, if_neg h4]
  by_cases h5 : k = 41 ∨ k = 44
  · rw [if_pos h5] at h
    rw [if_pos h5, if_pos h5]
    obtain ⟨a, b, c, d⟩ := parF_take h
    rw [a] at b d ⊢
    exact ⟨rfl, b, d⟩
  rw [if_neg h5] at h
  rw [if_neg h5, if_neg h5]
  by_cases h6 : k = 8
  · rw [if_pos h6] at h
    rw [if_pos h6, if_pos h6]
    obtain ⟨a, b, c⟩ := codF_take h
    rw [a]
    exact ⟨rfl, b, c⟩
  rw [if_neg h6, if_neg h6]
  exact ⟨rfl, Nat.zero_le _, Nat.zero_le _⟩
theorem tkO_cons {b : Int} {r : List Int} (h : isO b = false) : tkO (b :: r) = b :: tkO r := by simp [tkO, h]
theorem tkO_le (xs : List Int) : (tkO xs).length ≤ xs.length := by
  unfold tkO
  exact (List.takeWhile_prefix _).length_le
theorem tkO_take (xs : List Int) : ∀ m, tkO (xs.take m) = (tkO xs).take m := by
  induction xs with
  | nil => intro m; simp [tkO]
  | cons b r ih =>
    intro m
    match m with
    | 0 => simp [tkO]
    | m + 1 =>
      rw [List.take_succ_cons]
      cases h : isO b
      · rw [tkO_cons h, tkO_cons h, List.take_succ_cons, ih m]
      · simp [tkO, h]
/-- Where a beginning says an order the whole says it; of a text it may say less. -/
theorem firF_take {xs : List Int} {m : Nat} (hm : m ≤ xs.length) (hx : xs.take m ≠ []) (h : (firF (xs.take m)).1 = 0) :
    (firF xs).1 = 0 ∧ 1 ≤ (firF (xs.take m)).2.2 ∧ (firF (xs.take m)).2.2 ≤ m ∧
    (firF xs = firF (xs.take m) ∨ ((firF (xs.take m)).2.2 = m ∧ ∃ t, (firF xs).2.1 = opT t ∧ (firF (xs.take m)).2.1 = opT (t.take m) ∧ m ≤ t.length)) := by
  match m, xs, hm, hx, h with
  | 0, _, _, hx, _ => simp at hx
  | m + 1, [], hm, _, _ => simp at hm
  | m + 1, b :: r, hm, hx, h =>
    have hr : m ≤ r.length := by simpa using hm
    rw [List.take_succ_cons] at h hx ⊢
    cases hb : isO b
    · have e1 : firF (b :: r) = (0, opT (tkO (b :: r)), (tkO (b :: r)).length) := by show (if isO b = true then _ else _) = _; rw [hb]; rfl
      have e2 : firF (b :: r.take m) = (0, opT ((tkO (b :: r)).take (m + 1)), ((tkO (b :: r)).take (m + 1)).length) := by
        show (if isO b = true then _ else _) = _
        rw [hb, ← tkO_take, List.take_succ_cons]
        rfl
      have hp : 1 ≤ (tkO (b :: r)).length := by rw [tkO_cons hb]; simp
      rw [e1, e2]
      refine ⟨rfl, by show 1 ≤ ((tkO (b :: r)).take (m + 1)).length; rw [List.length_take]; omega, by show ((tkO (b :: r)).take (m + 1)).length ≤ m + 1; rw [List.length_take]; omega, ?_⟩
      by_cases hs : (tkO (b :: r)).length ≤ m + 1
      · left
        rw [List.take_of_length_le hs]
      · right
        exact ⟨by show ((tkO (b :: r)).take (m + 1)).length = m + 1; rw [List.length_take]; omega, _, rfl, rfl, by omega⟩
    · have e2 : firF (b :: r.take m) = if (behF b (r.take m)).1 = 0 then (0, (behF b (r.take m)).2.1, 1 + (behF b (r.take m)).2.2) else ((behF b (r.take m)).1, opZ, 0) := by show (if isO b = true then _ else _) = _; rw [hb]; rfl
      have e1 : firF (b :: r) = if (behF b r).1 = 0 then (0, (behF b r).2.1, 1 + (behF b r).2.2) else ((behF b r).1, opZ, 0) := by show (if isO b = true then _ else _) = _; rw [hb]; rfl
      rw [e2] at h
      by_cases h0 : (behF b (r.take m)).1 = 0
      · obtain ⟨a, c, d⟩ := behF_take h0
        rw [e1, e2, a, if_pos h0]
        rw [a] at c
        exact ⟨rfl, by show 1 ≤ 1 + _; omega, by show 1 + _ ≤ _; omega, .inl rfl⟩
      · rw [if_neg h0] at h
        exact absurd h h0
/-- How what a beginning says lies to what the whole says, place by place. -/
def Agree (few all : List OpD) : Prop := few.length ≤ all.length ∧ ∀ i (h : i < few.length) (h' : i < all.length), few[i] = all[i] ∨ (i + 1 = few.length ∧ ∃ t k, all[i] = opT t ∧ few[i] = opT (t.take k) ∧ k ≤ t.length)
theorem allF_take : ∀ (f : Nat) (xs : List Int) (m : Nat), m ≤ xs.length → m ≤ f →
    Agree (allF f (xs.take m)).1 (allF f xs).1 ∧ (allF f (xs.take m)).2.1 ≤ m ∧ ((allF f (xs.take m)).2.2 = 0 → (allF f (xs.take m)).2.1 = m) := by
  intro f
  induction f with
  | zero => intro xs m hm hf; exact ⟨⟨Nat.le_refl _, fun i h => absurd h (Nat.not_lt_zero _)⟩, by show 0 ≤ m; omega, fun _ => by show 0 = m; omega⟩
  | succ f ih =>
    intro xs m hm hf
    by_cases hx : xs.take m = []
    · have h0 : m = 0 := by
        have := congrArg List.length hx
        rw [List.length_take] at this
        simp at this
        rcases this with h | h
        · exact h
        · rw [h] at hm; simpa using hm
      rw [hx, allF_nil]
      exact ⟨⟨Nat.zero_le _, fun i h => absurd h (Nat.not_lt_zero _)⟩, Nat.zero_le _, fun _ => h0.symm⟩
    · have hx' : xs ≠ [] := fun h => hx (by rw [h]; simp)
      by_cases he : (firF (xs.take m)).1 = 0
      · obtain ⟨h1, h2, h3, h4⟩ := firF_take hm hx he
        rw [allF_one f _ hx he, allF_one f _ hx' h1, List.drop_take]
        generalize hu : (firF (xs.take m)).2.2 = u at h2 h3 h4
        rcases h4 with h4 | ⟨h4, t, h5, h6, h7⟩
        · rw [h4, hu]
          obtain ⟨⟨i1, i2⟩, i3, i4⟩ := ih (xs.drop u) (m - u) (by rw [List.length_drop]; omega) (by omega)
          refine ⟨⟨by simpa using i1, fun i h h' => ?_⟩, by show u + _ ≤ m; omega, fun h => by have := i4 h; show u + _ = m; omega⟩
          match i, h, h' with
          | 0, h, h' => exact .inl rfl
          | i + 1, h, h' =>
            rcases i2 i (by simpa using h) (by simpa using h') with q | ⟨q1, t, k, q2, q3, q4⟩
            · exact .inl q
            · exact .inr ⟨by simpa using q1, t, k, q2, q3, q4⟩
        · subst h4
          rw [Nat.sub_self, List.take_zero, allF_nil]
          refine ⟨⟨by simp, fun i h h' => ?_⟩, by show u + 0 ≤ u; omega, fun _ => by show u + 0 = u; omega⟩
          match i, h, h' with
          | 0, h, h' => exact .inr ⟨rfl, t, u, h5, h6, h7⟩
          | i + 1, h, h' => simp at h
      · rw [allF_bad f _ hx he]
        exact ⟨⟨Nat.zero_le _, fun i h => absurd h (Nat.not_lt_zero _)⟩, Nat.zero_le _, fun h => absurd h he⟩
end Go.Proofs.Ytlhaefgchmakfaa
namespace Go.Proofs.Ytlhaefgchmakfaa
open Go.RowKit Go.Lib

/-- The name of a kind. -/
def nameV (k : Int) : ByteArray := if k = 0 then ⟨#[84, 101, 120, 116]⟩ else if k = 5 then ⟨#[80, 84]⟩ else if k = 8 then ⟨#[71, 69]⟩ else if k = 17 then ⟨#[83, 66, 65]⟩ else if k = 18 then ⟨#[69, 85, 65]⟩ else if k = 19 then ⟨#[73, 67]⟩ else if k = 29 then ⟨#[83, 70]⟩ else if k = 40 then ⟨#[83, 65]⟩ else if k = 41 then ⟨#[83, 70, 69]⟩ else if k = 44 then ⟨#[77, 70]⟩ else if k = 60 then ⟨#[82, 65]⟩ else ⟨#[]⟩
set_option maxRecDepth 100000 in
set_option maxHeartbeats 2000000 in
theorem name_any (k : Int) (w : World) : Calls Try.prog 118 #[.int .i64 k] w fun e w' => e = .returned (.string (nameV k)) ∧ w = w' := by
  by_cases h0 : k = 0
  · subst h0
    go_enter Try.func118, Try.ntmps118
    go_wp2
    go_ret
    exact ⟨rfl, rfl⟩
  by_cases h5 : k = 5
  · subst h5
    go_enter Try.func118, Try.ntmps118
    go_wp2
    go_ret
    exact ⟨rfl, rfl⟩
  by_cases h8 : k = 8
  · subst h8
    go_enter Try.func118, Try.ntmps118
    go_wp2
    go_ret
    exact ⟨rfl, rfl⟩
  by_cases h17 : k = 17
  · subst h17
    go_enter Try.func118, Try.ntmps118
    go_wp2
    go_ret
    exact ⟨rfl, rfl⟩
  by_cases h18 : k = 18
  · subst h18
    go_enter Try.func118, Try.ntmps118
    go_wp2
    go_ret
    exact ⟨rfl, rfl⟩
  by_cases h19 : k = 19
  · subst h19
    go_enter Try.func118, Try.ntmps118
    go_wp2
    go_ret
    exact ⟨rfl, rfl⟩
  by_cases h29 : k = 29
  · subst h29
    go_enter Try.func118, Try.ntmps118
    go_wp2
    go_ret
    exact ⟨rfl, rfl⟩
  by_cases h40 : k = 40
  · subst h40
    go_enter Try.func118, Try.ntmps118
    go_wp2
    go_ret
    exact ⟨rfl, rfl⟩
  by_cases h41 : k = 41
  · subst h41
    go_enter Try.func118, Try.ntmps118
    go_wp2
    go_ret
    exact ⟨rfl, rfl⟩
  by_cases h44 : k = 44
  · subst h44
    go_enter Try.func118, Try.ntmps118
    go_wp2
    go_ret
    exact ⟨rfl, rfl⟩
  by_cases h60 : k = 60
  · subst h60
    go_enter Try.func118, Try.ntmps118
    go_wp2
    go_ret
    exact ⟨rfl, rfl⟩
  have hn : nameV k = ⟨#[]⟩ := by unfold nameV; simp only [h0, h5, h8, h17, h18, h19, h29, h40, h41, h44, h60, if_false]
  rw [hn]
  have e0 : (k == 0) = false := by simpa using h0
  have e5 : (k == 5) = false := by simpa using h5
  have e8 : (k == 8) = false := by simpa using h8
  have e17 : (k == 17) = false := by simpa using h17
  have e18 : (k == 18) = false := by simpa using h18
  have e19 : (k == 19) = false := by simpa using h19
  have e29 : (k == 29) = false := by simpa using h29
  have e40 : (k == 40) = false := by simpa using h40
  have e41 : (k == 41) = false := by simpa using h41
  have e44 : (k == 44) = false := by simpa using h44
  have e60 : (k == 60) = false := by simpa using h60
  clear hn h0 h5 h8 h17 h18 h19 h29 h40 h41 h44 h60
  go_enter Try.func118, Try.ntmps118
  go_wp2
  go_ret
  exact ⟨rfl, rfl⟩
theorem isO_no {b : Int} (h : isO b = false) : b ≠ 5 ∧ b ≠ 8 ∧ b ≠ 17 ∧ b ≠ 18 ∧ b ≠ 19 ∧ b ≠ 29 ∧ b ≠ 40 ∧ b ≠ 41 ∧ b ≠ 44 ∧ b ≠ 60 := by
  refine ⟨?_, ?_, ?_, ?_, ?_, ?_, ?_, ?_, ?_, ?_⟩ <;> (rintro rfl; exact absurd h (by decide))
theorem isO_yes {b : Int} (h : isO b = true) : b = 5 ∨ b = 8 ∨ b = 17 ∨ b = 18 ∨ b = 19 ∨ b = 29 ∨ b = 40 ∨ b = 41 ∨ b = 44 ∨ b = 60 := by
  simpa [isO, ordL] using h
theorem nameV_no {b : Int} (h : isO b = false) (h0 : b ≠ 0) : nameV b = ⟨#[]⟩ := by
  obtain ⟨h1, h2, h3, h4, h5, h6, h7, h8, h9, h10⟩ := isO_no h
  unfold nameV
  simp only [h0, h1, h2, h3, h4, h5, h6, h7, h8, h9, h10, if_false]
set_option maxRecDepth 100000 in
set_option maxHeartbeats 2000000 in
theorem is_hit (b : Int) (h : isO b = true) (w : World) : Calls Try.prog 103 #[.int .u8 b] w fun e w' => e = .returned (.bool true) ∧ w = w' := by
  have HV := hid (show (!(nameV b).toList.isEmpty) = true by rcases isO_yes h with rfl | rfl | rfl | rfl | rfl | rfl | rfl | rfl | rfl | rfl <;> (rw [ByteArray.toList_eq]; rfl))
  rcases isO_yes h with rfl | rfl | rfl | rfl | rfl | rfl | rfl | rfl | rfl | rfl
  all_goals
    clear h
    have H := hid (fun k => name_any k)
    go_enter Try.func103, Try.ntmps103
    go_wp2_with fail
    with_reducible refine (H.out _ _).mono ?_
    rintro e w1 ⟨rfl, rfl⟩
    go_wp2
    go_ret
    exact ⟨congrArg (fun x => Ending.returned (.bool x)) HV.out, rfl⟩
set_option maxRecDepth 100000 in
set_option maxHeartbeats 2000000 in
theorem is_miss (b : Nat) (hb : b < 256) (h : isO (b : Int) = false) (w : World) : Calls Try.prog 103 #[.int .u8 b] w fun e w' => e = .returned (.bool false) ∧ w = w' := by
  by_cases h0 : b = 0
  · subst h0
    clear h
    go_enter Try.func103, Try.ntmps103
    go_wp2
    go_ret
    exact ⟨rfl, rfl⟩
  · have h1 : (b : Int) ≠ 0 := by omega
    have H := hid (show ∀ w, Calls Try.prog 118 #[.int .i64 b] w fun e w' => e = .returned (.string ⟨#[]⟩) ∧ w = w' from fun w => by
      have q := name_any b w
      rwa [nameV_no h h1] at q)
    have e0 : ((b : Int) == 0) = false := by simpa using h1
    have e1 : ((b : Int) != 0) = true := by simpa using h1
    clear h h0 h1
    go_enter Try.func103, Try.ntmps103
    go_wp2_with fail
    with_reducible refine (H.out _).mono ?_
    rintro e w1 ⟨rfl, rfl⟩
    go_wp2
    go_ret
    exact ⟨rfl, rfl⟩
theorem is_one (b : Int) (hb : 0 ≤ b ∧ b < 256) (w : World) : Calls Try.prog 103 #[.int .u8 b] w fun e w' => e = .returned (.bool (isO b)) ∧ w = w' := by
  cases h : isO b
  · obtain ⟨n, rfl⟩ : ∃ n : Nat, b = n := ⟨b.toNat, by omega⟩
    exact is_miss n (by omega) h w
  · exact is_hit b h w
theorem tkO_ge {xs : List Int} : ∀ {k : Nat}, k ≤ (tkO xs).length → (h : k < xs.length) → isO (xs.getD k 0) = false → k + 1 ≤ (tkO xs).length := by
  induction xs with
  | nil => intro k _ h; simp at h
  | cons b r ih =>
    intro k hk h hi
    match k with
    | 0 => rw [tkO_cons (by simpa using hi)]; simp
    | k + 1 =>
      cases hb : isO b
      · rw [tkO_cons hb] at hk ⊢
        have := ih (k := k) (by simpa using hk) (by simpa using h) (by simpa using hi)
        simpa using this
      · have : tkO (b :: r) = [] := by simp [tkO, hb]
        rw [this] at hk
        simp at hk
theorem tkO_eq {xs : List Int} : ∀ {k : Nat}, k ≤ (tkO xs).length → (h : k < xs.length) → isO (xs.getD k 0) = true → (tkO xs).length = k := by
  induction xs with
  | nil => intro k _ h; simp at h
  | cons b r ih =>
    intro k hk h hi
    match k with
    | 0 =>
      have : tkO (b :: r) = [] := by simp [tkO, show isO b = true by simpa using hi]
      rw [this]; rfl
    | k + 1 =>
      cases hb : isO b
      · rw [tkO_cons hb] at hk ⊢
        have := ih (k := k) (by simpa using hk) (by simpa using h) (by simpa using hi)
        simpa using this
      · have : tkO (b :: r) = [] := by simp [tkO, hb]
        rw [this] at hk
        simp at hk
/-- Where the first order begins. -/
def IdxD (xs : List Int) (w : World) (e : Ending) (w' : World) : Prop := ∃ r : Int, e = .returned (.int .i64 r) ∧ ((r = (tkO xs).length) ∨ (r = -1 ∧ (tkO xs).length = xs.length)) ∧ w = w'
theorem reads_cases {w : World} {v : Value} {xs : List Int} (h : Reads w v xs) : (∃ x c, v = .slice x 0 c ∧ xs = []) ∨ ∃ g o n c, v = .slice (some ⟨g, o, none⟩) n c ∧ n = xs.length ∧ g < w.heap.size ∧ ∀ i, i < xs.length → w.cell? ⟨g, o + i, none⟩ = some (.int .u8 (xs.getD i 0)) := by
  obtain ⟨hb, ⟨rfl, rfl⟩ | ⟨a, cap, rfl, h1, h2, h3⟩⟩ := h
  · exact .inl ⟨_, _, rfl, rfl⟩
  · by_cases hx : xs = []
    · subst hx
      exact .inl ⟨_, _, rfl, rfl⟩
    · have hp : 0 < xs.length := List.length_pos_iff.2 hx
      have c0 := h3 0 hp
      obtain ⟨g, off, spot⟩ := a
      obtain rfl : spot = none := by simpa [Addr.add] using World.cell?_spot c0
      refine .inr ⟨g, off, _, cap, rfl, rfl, ?_, fun i hi => ?_⟩
      · have := World.block_lt_of_cell? w _ c0
        rw [addr_add] at this
        exact this
      · have := h3 i hi
        rw [addr_add] at this
        exact this
set_option maxRecDepth 100000 in
set_option maxHeartbeats 1000000 in
theorem idx_empty (x : Option Addr) (c : Nat) (w : World) : Calls Try.prog 130 #[.slice x 0 c, .func (.func 103) #[] #[]] w (IdxD [] w) := by
  go_enter Try.func130, Try.ntmps130
  go_wp2
  go_loopw [8] (fun i W => i = .int .i64 0 ∧ W = w) (fun _ _ => 0)
  case atStart => exact ⟨rfl, rfl⟩
  case round =>
    obtain ⟨rfl, rfl⟩ := hrel
    go_wp2
    go_ret
    exact ⟨-1, rfl, .inr ⟨rfl, rfl⟩, rfl⟩
set_option maxRecDepth 100000 in
set_option maxHeartbeats 1000000 in
theorem idx_row (g off n c : Nat) (xs : List Int) (hx : ∀ x ∈ xs, 0 ≤ x ∧ x < 256) (hn : n = xs.length) (nb : n ≤ 1000000) (w : World) (hc : ∀ i, i < xs.length → w.cell? ⟨g, off + i, none⟩ = some (.int .u8 (xs.getD i 0))) : Calls Try.prog 130 #[.slice (some ⟨g, off, none⟩) n c, .func (.func 103) #[] #[]] w (IdxD xs w) := by
  have HC := hid (fun i (h : i < n) => hc i (hn ▸ h))
  have HBY := hid (fun i (h : i < n) => byte_at hx i (hn ▸ h))
  have HGE := hid (fun k h1 (h2 : k < n) h3 => tkO_ge (xs := xs) (k := k) h1 (hn ▸ h2) h3)
  have HEQ := hid (fun k h1 (h2 : k < n) h3 => tkO_eq (xs := xs) (k := k) h1 (hn ▸ h2) h3)
  have HLE := hid (show (tkO xs).length ≤ n from hn ▸ tkO_le xs)
  have HN := hid hn
  clear hc hn hx
  go_enter Try.func130, Try.ntmps130
  go_wp2
  go_loopw [8] (fun i W => ∃ k : Nat, k ≤ n ∧ i = .int .i64 k ∧ Hid (k ≤ (tkO xs).length) ∧ W = w) (fun i _ => n - (intOf i).toNat)
  case atStart => exact ⟨0, Nat.zero_le _, rfl, Nat.zero_le _, rfl⟩
  case round =>
    obtain ⟨k, hk, rfl, HK, rfl⟩ := hrel
    by_cases hlt : k < n
    · have c0 := HC.out k hlt
      obtain ⟨b, hb1, hb2, hb3⟩ := HBY.out k hlt
      have HG := hid (HGE.out k HK.out hlt)
      have HQ := hid (HEQ.out k HK.out hlt)
      have HS := hid (is_one b (by omega))
      rw [hb2] at c0 HG HQ
      have hki : (k : Int) < n := by omega
      clear hb2 hb3
      cases hi : isO (b : Int)
      · rw [hi] at HS HG
        have HG1 := hid (HG.out rfl)
        clear hi HG HQ
        go_wp2_with fail
        with_reducible refine (HS.out _).mono ?_
        rintro e w1 ⟨rfl, rfl⟩
        go_wp2
        go_roundw
        case rel => exact ⟨k + 1, by omega, by go_num, HG1.out, trivial⟩
        case measure => simp [intOf]; omega
      · rw [hi] at HS HQ
        have HQ1 := hid (HQ.out rfl)
        clear hi HG HQ
        go_wp2_with fail
        with_reducible refine (HS.out _).mono ?_
        rintro e w1 ⟨rfl, rfl⟩
        go_wp2
        go_ret
        exact ⟨k, rfl, .inl (by rw [HQ1.out]), rfl⟩
    · go_wp2
      go_ret
      exact ⟨-1, rfl, .inr ⟨rfl, by have := HK.out; have := HLE.out; have := HN.out; omega⟩, rfl⟩
theorem idx_any (v : Value) (xs : List Int) (w : World) (h : Reads w v xs) (hl : xs.length ≤ 1000000) : Calls Try.prog 130 #[v, .func (.func 103) #[] #[]] w (IdxD xs w) := by
  rcases reads_cases h with ⟨x, c, rfl, rfl⟩ | ⟨g, o, n, c, rfl, hn, _, hc⟩
  · exact idx_empty x c w
  · exact idx_row g o n c xs h.1 hn (by omega) w hc
set_option maxRecDepth 100000 in
set_option maxHeartbeats 1000000 in
theorem tlen_any (v : Value) (xs : List Int) (w : World) (h : Reads w v xs) (hl : xs.length ≤ 1000000) : Calls Try.prog 126 #[v] w fun e w' => e = .returned (.int .i64 (tkO xs).length) ∧ w = w' := by
  have HI := hid (idx_any v xs w h hl)
  obtain ⟨x, n, c, hv, hn⟩ : ∃ x n c, v = .slice x n c ∧ n = xs.length := by
    rcases reads_cases h with ⟨x, c, rfl, rfl⟩ | ⟨g, o, n, c, rfl, hn, _, hc⟩
    · exact ⟨_, _, _, rfl, rfl⟩
    · exact ⟨_, _, _, rfl, hn⟩
  subst hv
  have HN := hid hn
  clear h hl hn
  go_enter Try.func126, Try.ntmps126
  go_wp2_with fail
  with_reducible refine HI.out.mono ?_
  rintro e w1 ⟨r, rfl, hr, rfl⟩
  rcases hr with hr | ⟨hr, h2⟩
  · have h3 : ¬ r < 0 := by omega
    have HR := hid hr
    clear hr
    go_wp2
    go_ret
    exact ⟨ret_int HR.out, rfl⟩
  · have h3 : r < 0 := by omega
    have HR := hid h2
    clear hr h2
    go_wp2
    go_ret
    exact ⟨ret_int (by rw [HR.out, HN.out]), rfl⟩
end Go.Proofs.Ytlhaefgchmakfaa
namespace Go.Proofs.Ytlhaefgchmakfaa
open Go.RowKit Go.Lib

theorem Moved.late {w w1 : World} {S S' : List Nat} (m : Moved w w1 S S') {b : Nat} (hb : w.heap.size ≤ b) (i : Nat) (u : Value) : Moved w (w1.setCell ⟨b, i, none⟩ u) S S' :=
  ⟨m.os, m.tape, m.output, Nat.le_trans m.size (by simp [World.setCell]), fun j hj hs => (Go.heap_setCell_other w1 _ j u (fun e => by have : j = b := e; omega)).trans (m.block j hj hs), m.from'⟩
/-- A box of seven cells. -/
structure Box7 (w : World) (b : Nat) (v0 v1 v2 v3 v4 v5 v6 : Value) : Prop where
  c0 : w.cell? ⟨b, 0, none⟩ = some v0
  c1 : w.cell? ⟨b, 1, none⟩ = some v1
  c2 : w.cell? ⟨b, 2, none⟩ = some v2
  c3 : w.cell? ⟨b, 3, none⟩ = some v3
  c4 : w.cell? ⟨b, 4, none⟩ = some v4
  c5 : w.cell? ⟨b, 5, none⟩ = some v5
  c6 : w.cell? ⟨b, 6, none⟩ = some v6
  fr : ∀ i, i < 7 → w.frozen? ⟨b, i, none⟩ = false
def put7 (w : World) (b : Nat) (v0 v1 v2 v3 v4 v5 v6 : Value) : World := ((((((w.setCell ⟨b, 0, none⟩ v0).setCell ⟨b, 1, none⟩ v1).setCell ⟨b, 2, none⟩ v2).setCell ⟨b, 3, none⟩ v3).setCell ⟨b, 4, none⟩ v4).setCell ⟨b, 5, none⟩ v5).setCell ⟨b, 6, none⟩ v6
section
variable {w w' : World} {b : Nat} {v0 v1 v2 v3 v4 v5 v6 : Value}
theorem Box7.new (w : World) (t : TypeId) : Box7 (w.alloc (.cells #[v0, v1, v2, v3, v4, v5, v6] t)) w.heap.size v0 v1 v2 v3 v4 v5 v6 :=
  ⟨by simp [go_sem], by simp [go_sem], by simp [go_sem], by simp [go_sem], by simp [go_sem], by simp [go_sem], by simp [go_sem], fun i _ => by simp [go_sem]⟩
theorem Box7.lt (h : Box7 w b v0 v1 v2 v3 v4 v5 v6) : b < w.heap.size := World.block_lt_of_cell? w _ h.c0
theorem Box7.moved {S S' : List Nat} (h : Box7 w b v0 v1 v2 v3 v4 v5 v6) (m : Moved w w' S S') (hb : b ∉ S) : Box7 w' b v0 v1 v2 v3 v4 v5 v6 :=
  ⟨cell_moved m h.c0 hb, cell_moved m h.c1 hb, cell_moved m h.c2 hb, cell_moved m h.c3 hb, cell_moved m h.c4 hb, cell_moved m h.c5 hb, cell_moved m h.c6 hb, fun i hi => (World.frozen?_of_block (m.block _ h.lt hb)).trans (h.fr i hi)⟩
theorem Box7.step (h : Box7 w b v0 v1 v2 v3 v4 v5 v6) (hb : Below w.heap.size w w') : Box7 w' b v0 v1 v2 v3 v4 v5 v6 := h.moved (Moved.below hb []) (fun q => by cases q)
theorem set_o {g i j : Nat} (hij : j ≠ i) {u x : Value} (c : w.cell? ⟨g, j, none⟩ = some u) : (w.setCell ⟨g, i, none⟩ x).cell? ⟨g, j, none⟩ = some u := by
  rw [World.cell?_setCell_other _ _ _ _ (fun q => by injection q; omega)]
  exact c
theorem set_s {g i : Nat} {u x : Value} (c : w.cell? ⟨g, i, none⟩ = some u) : (w.setCell ⟨g, i, none⟩ x).cell? ⟨g, i, none⟩ = some x := World.cell?_setCell_same _ _ _ c
theorem Box7.put (h : Box7 w b v0 v1 v2 v3 v4 v5 v6) (u0 u1 u2 u3 u4 u5 u6 : Value) : Box7 (put7 w b u0 u1 u2 u3 u4 u5 u6) b u0 u1 u2 u3 u4 u5 u6 := by
  refine ⟨?_, ?_, ?_, ?_, ?_, ?_, ?_, fun i hi => by unfold put7; simp [h.fr i hi]⟩
  · exact set_o (by omega) (set_o (by omega) (set_o (by omega) (set_o (by omega) (set_o (by omega) (set_o (by omega) (set_s h.c0))))))
  · exact set_o (by omega) (set_o (by omega) (set_o (by omega) (set_o (by omega) (set_o (by omega) (set_s (set_o (by omega) h.c1))))))
  · exact set_o (by omega) (set_o (by omega) (set_o (by omega) (set_o (by omega) (set_s (set_o (by omega) (set_o (by omega) h.c2))))))
  · exact set_o (by omega) (set_o (by omega) (set_o (by omega) (set_s (set_o (by omega) (set_o (by omega) (set_o (by omega) h.c3))))))
  · exact set_o (by omega) (set_o (by omega) (set_s (set_o (by omega) (set_o (by omega) (set_o (by omega) (set_o (by omega) h.c4))))))
  · exact set_o (by omega) (set_s (set_o (by omega) (set_o (by omega) (set_o (by omega) (set_o (by omega) (set_o (by omega) h.c5))))))
  · exact set_s (set_o (by omega) (set_o (by omega) (set_o (by omega) (set_o (by omega) (set_o (by omega) (set_o (by omega) h.c6))))))
theorem Moved.late7 {w w1 : World} {S S' : List Nat} (m : Moved w w1 S S') {b : Nat} (hb : w.heap.size ≤ b) (v0 v1 v2 v3 v4 v5 v6 : Value) : Moved w (put7 w1 b v0 v1 v2 v3 v4 v5 v6) S S' :=
  ((((((m.late hb 0 v0).late hb 1 v1).late hb 2 v2).late hb 3 v3).late hb 4 v4).late hb 5 v5).late hb 6 v6
theorem put7_moved (w : World) (b : Nat) (v0 v1 v2 v3 v4 v5 v6 : Value) : Moved w (put7 w b v0 v1 v2 v3 v4 v5 v6) [b] [b] :=
  have h : ∀ (w : World) (i : Nat) (v : Value), Moved w (w.setCell ⟨b, i, none⟩ v) [b] [b] := fun w i v => Moved.set (by simp) i v
  ((((((h _ 0 v0).trans (h _ 1 v1)).trans (h _ 2 v2)).trans (h _ 3 v3)).trans (h _ 4 v4)).trans (h _ 5 v5)).trans (h _ 6 v6)
end
theorem run_to {w : World} {p : Value} {xs : List Int} (hr : Reads w p xs) (n : Nat) (hn : n ≤ xs.length) : ∃ q, (Instr.sliceAt 31 p none (some (.int .i64 n)) none).run Try.prog w = .ok q w ∧ Reads w q (xs.take n) ∧ ∀ k ∈ blkV q, k ∈ blkV p := by
  obtain ⟨hb, ⟨rfl, rfl⟩ | ⟨a, cap, rfl, h1, h2, h3⟩⟩ := hr
  · have : n = 0 := by simpa using hn
    subst this
    refine ⟨.slice none 0 0, ?_, reads_nil w, fun k hk => hk⟩
    simp [Instr.sliceAt, Instr.slice, run_underlying Try.underlying31, Instr.sliceBounds, Instr.sliceBound, asIntOf]
  · refine ⟨.slice (some a) n cap, ?_, reads_take ⟨hb, .inr ⟨a, cap, rfl, h1, h2, h3⟩⟩ rfl n hn, fun k hk => hk⟩
    have hnc : n ≤ cap := by omega
    simp [Instr.sliceAt, Instr.slice, run_underlying Try.underlying31, Instr.sliceBounds, Instr.sliceBound, asIntOf, hnc]
    intro _
    simp [Addr.add]
theorem run_from {w : World} {p : Value} {xs : List Int} (hr : Reads w p xs) (n : Nat) (hn : n ≤ xs.length) : ∃ q, (Instr.sliceAt 31 p (some (.int .i64 n)) none none).run Try.prog w = .ok q w ∧ Reads w q (xs.drop n) ∧ ∀ k ∈ blkV q, k ∈ blkV p := by
  obtain ⟨hb, ⟨rfl, rfl⟩ | ⟨a, cap, rfl, h1, h2, h3⟩⟩ := hr
  · have : n = 0 := by simpa using hn
    subst this
    refine ⟨.slice none 0 0, ?_, reads_nil w, fun k hk => hk⟩
    simp [Instr.sliceAt, Instr.slice, run_underlying Try.underlying31, Instr.sliceBounds, Instr.sliceBound, asIntOf]
  · have hlen : (xs.drop n).length = xs.length - n := List.length_drop
    refine ⟨.slice (some (if cap = n then a else a.add n)) (xs.length - n) (cap - n), ?_, ⟨fun y hy => hb y (List.mem_of_mem_drop hy), .inr ⟨_, cap - n, by rw [hlen], by omega, by omega, fun i hi => ?_⟩⟩, fun k hk => ?_⟩
    · simp [Instr.sliceAt, Instr.slice, run_underlying Try.underlying31, Instr.sliceBounds, Instr.sliceBound, asIntOf, hn]
      split <;> rfl
    · rw [hlen] at hi
      rw [if_neg (by omega)]
      have c0 := h3 0 (by omega)
      obtain ⟨g, off, spot⟩ := a
      obtain rfl : spot = none := by simpa [Addr.add] using World.cell?_spot c0
      have c := h3 (n + i) (by omega)
      rw [addr_add] at c
      rw [addr_add, addr_add, Nat.add_assoc, c, List.getD, List.getD, List.getElem?_drop]
    · rw [mem_blkV] at hk ⊢
      have e : (a.add n).block = a.block := by unfold Addr.add; split <;> rfl
      by_cases hc : cap = n
      · rw [if_pos hc] at hk; exact hk
      · rw [if_neg hc] at hk
        simpa [Value.ownBlock, e] using hk
theorem run_from_all {w : World} {p : Value} {xs : List Int} (hr : Reads w p xs) (n : Nat) (hn : n ≤ xs.length) : ∃ q, (∀ w', (Instr.sliceAt 31 p (some (.int .i64 n)) none none).run Try.prog w' = .ok q w') ∧ Reads w q (xs.drop n) := by
  obtain ⟨q0, h1, h2, h3⟩ := run_from hr n hn
  obtain ⟨hb, ⟨rfl, rfl⟩ | ⟨a, cap, rfl, k1, k2, k3⟩⟩ := hr
  · have : n = 0 := by simpa using hn
    subst this
    refine ⟨.slice none 0 0, fun w' => ?_, reads_nil w⟩
    simp [Instr.sliceAt, Instr.slice, run_underlying Try.underlying31, Instr.sliceBounds, Instr.sliceBound, asIntOf]
  · have e : ∀ w', (Instr.sliceAt 31 (.slice (some a) xs.length cap) (some (.int .i64 n)) none none).run Try.prog w' = .ok (.slice (some (if cap = n then a else a.add n)) (xs.length - n) (cap - n)) w' := fun w' => by
      simp [Instr.sliceAt, Instr.slice, run_underlying Try.underlying31, Instr.sliceBounds, Instr.sliceBound, asIntOf, hn]
      split <;> rfl
    rw [e w] at h1
    injection h1 with e1 _
    subst e1
    exact ⟨_, e, h2⟩
theorem reads_sl {w : World} {v : Value} {xs : List Int} (h : Reads w v xs) : ∃ x c, v = .slice x xs.length c := by
  rcases h.2 with ⟨rfl, rfl⟩ | ⟨x, cap, rfl, _⟩
  · exact ⟨_, _, rfl⟩
  · exact ⟨_, _, rfl⟩
/-- Bytes: none, or a first one. -/
theorem reads_cons {w : World} {v : Value} {xs : List Int} (h : Reads w v xs) : (∃ x c, v = .slice x 0 c ∧ xs = []) ∨ ∃ g o c r, ∃ b : Nat, b < 256 ∧ v = .slice (some ⟨g, o, none⟩) (r.length + 1) c ∧ xs = (b : Int) :: r ∧ w.cell? ⟨g, o, none⟩ = some (.int .u8 b) ∧ r.length + 1 ≤ c ∧ c ≤ maxLen := by
  match xs, h with
  | [], h =>
    obtain ⟨x, c, rfl⟩ := reads_sl h
    exact .inl ⟨_, _, rfl, rfl⟩
  | b :: r, ⟨hb, h⟩ =>
    rcases h with ⟨_, h⟩ | ⟨a, cap, rfl, h1, h2, h3⟩
    · cases h
    · have c0 := h3 0 (by simp)
      obtain ⟨g, off, spot⟩ := a
      obtain rfl : spot = none := by simpa [Addr.add] using World.cell?_spot c0
      rw [addr_add, Nat.add_zero] at c0
      have h0 := hb b (by simp)
      obtain ⟨n, rfl⟩ : ∃ n : Nat, b = n := ⟨b.toNat, by omega⟩
      exact .inr ⟨g, off, cap, r, n, by omega, rfl, rfl, c0, by simpa using h1, h2⟩
set_option maxRecDepth 100000 in
set_option maxHeartbeats 1000000 in
theorem single_any (v : Value) (xs : List Int) (w : World) (h : Reads w v xs) (hl : xs.length ≤ 1000000) : Calls Try.prog 133 #[v] w fun e w' => e = .returned (.tuple #[.int .u8 (sinF xs).2, .int .i64 (sinF xs).1]) ∧ w = w' := by
  rcases reads_cons h with ⟨x, c, rfl, rfl⟩ | ⟨g, o, c, r, b, hb, rfl, rfl, c0, hc, hm⟩
  · clear h
    go_enter Try.func133, Try.ntmps133
    go_wp2
    go_ret2
    exact ⟨rfl, rfl⟩
  · clear h
    simp only [List.length_cons] at hl
    generalize hrl : r.length + 1 = n at hl hc ⊢
    have h0 : 0 < n := by omega
    have h1 : ((n : Int) == 0) = false := by simp; omega
    clear hrl
    go_enter Try.func133, Try.ntmps133
    go_wp2
    go_ret2
    exact ⟨rfl, rfl⟩
set_option maxRecDepth 100000 in
set_option maxHeartbeats 1000000 in
theorem code_any (v : Value) (xs : List Int) (w : World) (h : Reads w v xs) (hl : xs.length ≤ 1000000) : Calls Try.prog 136 #[v] w fun e w' => e = .returned (.tuple #[.int .u8 (codF xs).2, .int .i64 (codF xs).1]) ∧ w = w' := by
  have HS := hid (single_any v xs w h hl)
  match xs, h with
  | [], h =>
    clear h
    go_enter Try.func136, Try.ntmps136
    go_wp2_with fail
    with_reducible refine HS.out.mono ?_
    rintro e w1 ⟨rfl, rfl⟩
    go_wp2
    go_ret2
    exact ⟨rfl, rfl⟩
  | b :: r, h =>
    have hb := h.1 b (by simp)
    have HI := hid (is_one b hb)
    have hcf : codF (b :: r) = if isO b then (10, 0) else (0, b) := rfl
    rw [hcf]
    clear h hcf hl
    obtain ⟨hb1, hb2⟩ := hb
    have HS := hid (show Calls Try.prog 133 #[v] w fun e w' => e = .returned (.tuple #[.int .u8 b, .int .i64 0]) ∧ w = w' from HS.out)
    cases hi : isO b
    all_goals
      rw [hi] at HI
      clear hi
      go_enter Try.func136, Try.ntmps136
      go_wp2_with fail
      with_reducible refine HS.out.mono ?_
      rintro e w1 ⟨rfl, rfl⟩
      go_wp2_with fail
      with_reducible refine (HI.out _).mono ?_
      rintro e w1 ⟨rfl, rfl⟩
      go_wp2
      go_ret2
      exact ⟨rfl, rfl⟩
/-- Read: what there is, and its pairs. -/
def PairD (r : Int × List (Nat × Nat)) (w : World) (e : Ending) (w' : World) : Prop := ∃ pv, e = .returned (.tuple #[pv, .int .i64 r.1]) ∧ w'.ownsRow w.heap.size 165 2 pv r.2.length (cellsP r.2) ∧ Below w.heap.size w w'
theorem own_pair (W : World) (B b : Nat) (x y : Int) (hb : b = W.heap.size) (hB : B ≤ b) : (W.alloc (.cells #[.int .u8 x, .int .u8 y] 165)).ownsRow B 165 2 (.slice (some ⟨b, 0, none⟩) 1 1) 1 [.int .u8 x, .int .u8 y] := by
  subst hb
  exact World.ownsRow_lit (e := 165) (size := 2) (base := B) W #[.int .u8 x, .int .u8 y] 1 hB (by unfold maxLen; omega) rfl
set_option maxRecDepth 100000 in
set_option maxHeartbeats 1000000 in
theorem pair_short (x : Option Addr) (n c : Nat) (xs : List Int) (hn : n < 2) (hx : pairF xs = (2, [])) (w : World) : Calls Try.prog 134 #[.slice x n c] w (PairD (pairF xs) w) := by
  rw [hx]
  have h1 : (n : Int) < 2 := by omega
  go_enter Try.func134, Try.ntmps134
  go_wp2
  go_ret2
  exact ⟨_, rfl, World.ownsRow_nil _ _ _ _, Below.refl _ _⟩
theorem reads_two {w : World} {v : Value} {xs : List Int} (h : Reads w v xs) : (∃ x n c, v = .slice x n c ∧ n < 2 ∧ xs.length = n) ∨ ∃ g o c r, ∃ a b : Nat, a < 256 ∧ b < 256 ∧ v = .slice (some ⟨g, o, none⟩) (r.length + 2) c ∧ xs = (a : Int) :: (b : Int) :: r ∧ w.cell? ⟨g, o, none⟩ = some (.int .u8 a) ∧ w.cell? ⟨g, o + 1, none⟩ = some (.int .u8 b) := by
  match xs, h with
  | [], h =>
    obtain ⟨x, c, rfl⟩ := reads_sl h
    exact .inl ⟨_, _, _, rfl, by simp, rfl⟩
  | [_], h =>
    obtain ⟨x, c, rfl⟩ := reads_sl h
    exact .inl ⟨_, _, _, rfl, by simp, rfl⟩
  | a :: b :: r, ⟨hb, h⟩ =>
    rcases h with ⟨_, h⟩ | ⟨y, cap, rfl, h1, h2, h3⟩
    · cases h
    · have c0 := h3 0 (by simp)
      have c1 := h3 1 (by simp)
      obtain ⟨g, off, spot⟩ := y
      obtain rfl : spot = none := by simpa [Addr.add] using World.cell?_spot c0
      rw [addr_add] at c0 c1
      have ha := hb a (by simp)
      have hb := hb b (by simp)
      obtain ⟨n, rfl⟩ : ∃ n : Nat, a = n := ⟨a.toNat, by omega⟩
      obtain ⟨m, rfl⟩ : ∃ m : Nat, b = m := ⟨b.toNat, by omega⟩
      exact .inr ⟨g, off, cap, r, n, m, by omega, by omega, rfl, rfl, c0, c1⟩
theorem held_step {w0 w w' : World} {B : Nat} {p q : Addr} {x y : Value} (h : w.cell? p = some x ∧ w.cell? q = some y ∧ Below B w0 w) (hb : Below w.heap.size w w') (hB : B ≤ p.block) : w'.cell? p = some x ∧ w'.cell? q = some y ∧ Below B w0 w' := ⟨keepc hb h.1, keepc hb h.2.1, h.2.2.trans (hb.mono (Nat.le_trans hB (Nat.le_of_lt (World.block_lt_of_cell? w _ h.1))))⟩
set_option maxRecDepth 100000 in
set_option maxHeartbeats 4000000 in
theorem pair_full (g off n c x y : Nat) (k : Int) (hk : k = if knownB x y then 0 else 10) (hn : 2 ≤ n) (_hx : x < 256) (hy : y < 256) (w : World) (c0 : w.cell? ⟨g, off, none⟩ = some (.int .u8 x)) (c1 : w.cell? ⟨g, off + 1, none⟩ = some (.int .u8 y)) : Calls Try.prog 134 #[.slice (some ⟨g, off, none⟩) n c] w (PairD (k, [(x, y)]) w) := by
  have HCH := hid (check_any x y hy)
  rw [← hk] at HCH
  have HX := hid (And.intro c0 (And.intro c1 (Below.refl w.heap.size w)))
  have h1 : ¬ (n : Int) < 2 := by omega
  have l0 : 0 < n := by omega
  have l1 : 1 < n := by omega
  have l2 : (1 : Int) < n := by omega
  clear hk c0 c1 hn _hx hy
  go_enter Try.func134, Try.ntmps134
  go_wp2
  go_region_held3 (fun w' => w'.cell? ⟨g, off, none⟩ = some (.int .u8 x) ∧ w'.cell? ⟨g, off + 1, none⟩ = some (.int .u8 y) ∧ Below w.heap.size w w') (first | exact held_drew HX.out | exact held_alloc (held_drew HX.out) | fail) (first | fail)
  rename_i hH
  obtain ⟨-, -, hbr⟩ := hH
  clear l0 l1 l2 h1
  have HX2 := hid (show (w.alloc (.cells #[.int .u8 x, .int .u8 y] 165)).drew.cell? ⟨w.heap.size, 0, none⟩ = some (.int .u8 x) ∧ (w.alloc (.cells #[.int .u8 x, .int .u8 y] 165)).drew.cell? ⟨w.heap.size, 1, none⟩ = some (.int .u8 y) ∧ Below w.heap.size w (w.alloc (.cells #[.int .u8 x, .int .u8 y] 165)).drew from ⟨by simp [go_sem], by simp [go_sem], hbr⟩)
  have hz : w.heap.size < (w.alloc (.cells #[.int .u8 x, .int .u8 y] 165)).drew.heap.size := by simp
  generalize (w.alloc (.cells #[.int .u8 x, .int .u8 y] 165)).drew = W at HX2 hz ⊢
  obtain ⟨b, hb⟩ : ∃ b, w.heap.size = b := ⟨_, rfl⟩
  rw [hb]
  rw [hb] at HX2 hz
  clear hbr HX
  go_wp2
  go_region_held3 (fun w' => w'.cell? ⟨b, 0, none⟩ = some (.int .u8 x) ∧ w'.cell? ⟨b, 1, none⟩ = some (.int .u8 y) ∧ Below b w w') (first | exact held_step HX2.out (Below.refl _ _).drew (Nat.le_refl _) | assumption | exact held_step (by assumption) ((Below.refl _ _).alloc (Nat.le_refl _) _) (Nat.le_refl _) | exact held_step (by assumption) HB2.out (Nat.le_refl _) | fail) (first | (go_at_call 131; refine (HCH.out _).mono ?_; rintro e w2 ⟨rfl, hb2⟩; have HB2 := hid hb2; clear hb2))
  all_goals
    rename_i hH
    have hz1 := hz
    have hz2 := HB2.out.size
    go_wp2
    go_ret2
    refine ⟨_, rfl, ?_, hb ▸ hH.2.2⟩
    rw [hb]
    first
      | exact own_below_o (own_pair W b _ x y rfl (by omega)).drew HB2.out
      | exact own_pair w2 b _ x y rfl (by simp at hz2; omega)
theorem pair_any (v : Value) (xs : List Int) (w : World) (h : Reads w v xs) : Calls Try.prog 134 #[v] w (PairD (pairF xs) w) := by
  rcases reads_two h with ⟨x, n, c, rfl, hn, hl⟩ | ⟨g, o, c, r, a, b, ha, hb, rfl, rfl, c0, c1⟩
  · refine pair_short x n c xs hn ?_ w
    match xs, hl with
    | [], _ => rfl
    | [_], _ => rfl
    | _ :: _ :: _, hl => simp at hl; omega
  · exact pair_full g o _ c a b _ rfl (by omega) ha hb w c0 c1
end Go.Proofs.Ytlhaefgchmakfaa
namespace Go.Proofs.Ytlhaefgchmakfaa
open Go.RowKit Go.Lib

/-- Read: the order (without a text), how many bytes, the error. -/
def BehD (r : Int × OpD × Nat) (w : World) (e : Ending) (w' : World) : Prop := ∃ pv, e = .returned (.tuple #[.agg #[.int .i64 r.2.1.kind, .int .i64 r.2.1.addr, .int .u8 r.2.1.code, .bool r.2.1.graph, .int .u8 r.2.1.fa, pv, .slice none 0 0], .int .i64 r.2.2, .int .i64 r.1]) ∧ w'.ownsRow w.heap.size 165 2 pv r.2.1.pairs.length (cellsP r.2.1.pairs) ∧ Below w.heap.size w w'
theorem beh_end {w w1 W : World} {r : Int × OpD × Nat} {pv : Value} {u : Int} (hu : u = (r.2.2 : Int)) (ho : w1.ownsRow w.heap.size 165 2 pv r.2.1.pairs.length (cellsP r.2.1.pairs)) (hb : Below w.heap.size w w1) (b c : Nat) (hb0 : w.heap.size ≤ b) (hc0 : w.heap.size ≤ c) (hbn : ∀ k ∈ blkV pv, k ≠ b ∧ k ≠ c) (m : Moved w1 W [b, c] [b, c]) : BehD r w (.returned (.tuple #[.agg #[.int .i64 r.2.1.kind, .int .i64 r.2.1.addr, .int .u8 r.2.1.code, .bool r.2.1.graph, .int .u8 r.2.1.fa, pv, .slice none 0 0], .int .i64 u, .int .i64 r.1])) W := by
  subst hu
  refine ⟨pv, rfl, own_moved ho m (fun k hk q => ?_), hb.trans (m.toBelow hb.size (fun k hk => ?_))⟩
  · have := hbn k hk
    simp at q
    omega
  · simp at hk
    rcases hk with rfl | rfl
    · exact hb0
    · exact hc0
theorem moved_two {w : World} {b c : Nat} (i : Nat) (x : Value) (v0 v1 v2 v3 v4 v5 v6 : Value) : Moved w (put7 (w.setCell ⟨c, i, none⟩ x) b v0 v1 v2 v3 v4 v5 v6) [b, c] [b, c] :=
  ((Moved.set (a := w) (S := [c]) (g := c) (by simp) i x).sub (T := [b, c]) (T' := [b, c]) (fun k hk => by simp at hk ⊢; omega) (fun k hk => .inr hk)).trans ((put7_moved _ b v0 v1 v2 v3 v4 v5 v6).sub (T := [b, c]) (T' := [b, c]) (fun k hk => by simp at hk ⊢; omega) (fun k hk => .inr hk))
theorem moved_one {w : World} {b c : Nat} (v0 v1 v2 v3 v4 v5 v6 : Value) : Moved w (put7 w b v0 v1 v2 v3 v4 v5 v6) [b, c] [b, c] :=
  (put7_moved _ b v0 v1 v2 v3 v4 v5 v6).sub (T := [b, c]) (T' := [b, c]) (fun k hk => by simp at hk ⊢; omega) (fun k hk => .inr hk)

set_option maxRecDepth 100000 in
set_option maxHeartbeats 2000000 in
theorem beh_17 (v : Value) (xs : List Int) (a er : Int) (hd : decZ 12 xs = (a, er)) (w : World) (h : Reads w v xs) : Calls Try.prog 127 #[.int .i64 17, v] w (BehD (er, { opZ with kind := 17, addr := a }, 2) w) := by
  have HD := hid (fun W (hb : Below w.heap.size w W) => show Calls Try.prog 89 #[.int .i64 12, v] W fun e w' => e = .returned (.tuple #[.int .i64 a, .int .i64 er]) ∧ Below W.heap.size W w' from by
    have q := decode_any 12 v xs W (reads_below h hb)
    unfold DecDone at q
    rw [hd] at q
    exact q)
  obtain ⟨x, c, rfl⟩ := reads_sl h
  clear h hd
  have HB0 := hid (bal (bal (Below.refl w.heap.size w) (.cells #[.int .i64 0, .int .i64 0, .int .u8 0, .bool false, .int .u8 0, .slice none 0 0, .slice none 0 0] 144)) (.cells #[.int .i64 17, .int .i64 0, .int .u8 0, .bool false, .int .u8 0, .slice none 0 0, .slice none 0 0] 144))
  have hx0 := (Box7.new (v0 := .int .i64 0) (v1 := .int .i64 0) (v2 := .int .u8 0) (v3 := .bool false) (v4 := .int .u8 0) (v5 := .slice none 0 0) (v6 := .slice none 0 0) w 144).step (bal (Below.refl _ _) (.cells #[.int .i64 17, .int .i64 0, .int .u8 0, .bool false, .int .u8 0, .slice none 0 0, .slice none 0 0] 144))
  have hx1 := Box7.new (v0 := .int .i64 17) (v1 := .int .i64 0) (v2 := .int .u8 0) (v3 := .bool false) (v4 := .int .u8 0) (v5 := .slice none 0 0) (v6 := .slice none 0 0) (w.alloc (.cells #[.int .i64 0, .int .i64 0, .int .u8 0, .bool false, .int .u8 0, .slice none 0 0, .slice none 0 0] 144)) 144
  rw [World.size_alloc] at hx1
  have HX0 := hid hx0
  have HX1 := hid hx1
  clear hx0 hx1
  have HC := hid (HD.out _ HB0.out)
  go_enter Try.func127, Try.ntmps127
  go_wp2_with fail
  with_reducible refine HC.out.mono ?_
  rintro e w1 ⟨rfl, hb1⟩
  have X0 := HX0.out.step hb1
  have X1 := HX1.out.step hb1
  have hlt := X1.lt
  have hlt0 : w.heap.size < w1.heap.size := by omega
  have HP := hid ((X0.moved (Moved.set (a := w1) (S := [w.heap.size + 1]) (g := w.heap.size + 1) (by simp) 1 (.int .i64 a)) (by simp)).put (.int .i64 17) (.int .i64 a) (.int .u8 0) (.bool false) (.int .u8 0) (.slice none 0 0) (.slice none 0 0))
  have HF := hid (show BehD (er, { opZ with kind := 17, addr := a }, 2) w (.returned (.tuple #[.agg #[.int .i64 17, .int .i64 a, .int .u8 0, .bool false, .int .u8 0, .slice none 0 0, .slice none 0 0], .int .i64 2, .int .i64 er])) (put7 (w1.setCell ⟨w.heap.size + 1, 1, none⟩ (.int .i64 a)) w.heap.size (.int .i64 17) (.int .i64 a) (.int .u8 0) (.bool false) (.int .u8 0) (.slice none 0 0) (.slice none 0 0)) from beh_end (r := (er, { opZ with kind := 17, addr := a }, 2)) rfl (World.ownsRow_nil _ _ _ _) (below_t HB0.out hb1) w.heap.size (w.heap.size + 1) (Nat.le_refl _) (by omega) (fun _ q => by cases q) (moved_two 1 _ _ _ _ _ _ _ _))
  obtain ⟨c0, c1, c2, c3, c4, c5, c6, fc⟩ := X0
  obtain ⟨d0, d1, d2, d3, d4, d5, d6, fd⟩ := X1
  have f0 := fc 0 (by omega)
  have f1 := fc 1 (by omega)
  have f2 := fc 2 (by omega)
  have f3 := fc 3 (by omega)
  have f4 := fc 4 (by omega)
  have f5 := fc 5 (by omega)
  have f6 := fc 6 (by omega)
  have g0 := fd 1 (by omega)
  clear fc fd hb1
  go_wp2
  revert HP HF
  generalize hW : put7 (w1.setCell ⟨w.heap.size + 1, 1, none⟩ (.int .i64 a)) w.heap.size (.int .i64 17) (.int .i64 a) (.int .u8 0) (.bool false) (.int .u8 0) (.slice none 0 0) (.slice none 0 0) = Wf
  intro HP HF
  obtain ⟨k0, k1, k2, k3, k4, k5, k6, -⟩ := HP.out
  unfold put7 at hW
  rw [hW]
  clear hW
  exact bodyPost_ret (v := .tuple #[.agg #[.int .i64 17, .int .i64 a, .int .u8 0, .bool false, .int .u8 0, .slice none 0 0, .slice none 0 0], .int .i64 2, .int .i64 er]) (by simp [results, Try.results127, go_sem, k0, k1, k2, k3, k4, k5, k6]) rfl HF.out

set_option maxRecDepth 100000 in
set_option maxHeartbeats 2000000 in
theorem beh_18 (v : Value) (xs : List Int) (a er : Int) (hd : decZ 12 xs = (a, er)) (w : World) (h : Reads w v xs) : Calls Try.prog 127 #[.int .i64 18, v] w (BehD (er, { opZ with kind := 18, addr := a }, 2) w) := by
  have HD := hid (fun W (hb : Below w.heap.size w W) => show Calls Try.prog 89 #[.int .i64 12, v] W fun e w' => e = .returned (.tuple #[.int .i64 a, .int .i64 er]) ∧ Below W.heap.size W w' from by
    have q := decode_any 12 v xs W (reads_below h hb)
    unfold DecDone at q
    rw [hd] at q
    exact q)
  obtain ⟨x, c, rfl⟩ := reads_sl h
  clear h hd
  have HB0 := hid (bal (bal (Below.refl w.heap.size w) (.cells #[.int .i64 0, .int .i64 0, .int .u8 0, .bool false, .int .u8 0, .slice none 0 0, .slice none 0 0] 144)) (.cells #[.int .i64 18, .int .i64 0, .int .u8 0, .bool false, .int .u8 0, .slice none 0 0, .slice none 0 0] 144))
  have hx0 := (Box7.new (v0 := .int .i64 0) (v1 := .int .i64 0) (v2 := .int .u8 0) (v3 := .bool false) (v4 := .int .u8 0) (v5 := .slice none 0 0) (v6 := .slice none 0 0) w 144).step (bal (Below.refl _ _) (.cells #[.int .i64 18, .int .i64 0, .int .u8 0, .bool false, .int .u8 0, .slice none 0 0, .slice none 0 0] 144))
  have hx1 := Box7.new (v0 := .int .i64 18) (v1 := .int .i64 0) (v2 := .int .u8 0) (v3 := .bool false) (v4 := .int .u8 0) (v5 := .slice none 0 0) (v6 := .slice none 0 0) (w.alloc (.cells #[.int .i64 0, .int .i64 0, .int .u8 0, .bool false, .int .u8 0, .slice none 0 0, .slice none 0 0] 144)) 144
  rw [World.size_alloc] at hx1
  have HX0 := hid hx0
  have HX1 := hid hx1
  clear hx0 hx1
  have HC := hid (HD.out _ HB0.out)
  go_enter Try.func127, Try.ntmps127
  go_wp2_with fail
  with_reducible refine HC.out.mono ?_
  rintro e w1 ⟨rfl, hb1⟩
  have X0 := HX0.out.step hb1
  have X1 := HX1.out.step hb1
  have hlt := X1.lt
  have hlt0 : w.heap.size < w1.heap.size := by omega
  have HP := hid ((X0.moved (Moved.set (a := w1) (S := [w.heap.size + 1]) (g := w.heap.size + 1) (by simp) 1 (.int .i64 a)) (by simp)).put (.int .i64 18) (.int .i64 a) (.int .u8 0) (.bool false) (.int .u8 0) (.slice none 0 0) (.slice none 0 0))
  have HF := hid (show BehD (er, { opZ with kind := 18, addr := a }, 2) w (.returned (.tuple #[.agg #[.int .i64 18, .int .i64 a, .int .u8 0, .bool false, .int .u8 0, .slice none 0 0, .slice none 0 0], .int .i64 2, .int .i64 er])) (put7 (w1.setCell ⟨w.heap.size + 1, 1, none⟩ (.int .i64 a)) w.heap.size (.int .i64 18) (.int .i64 a) (.int .u8 0) (.bool false) (.int .u8 0) (.slice none 0 0) (.slice none 0 0)) from beh_end (r := (er, { opZ with kind := 18, addr := a }, 2)) rfl (World.ownsRow_nil _ _ _ _) (below_t HB0.out hb1) w.heap.size (w.heap.size + 1) (Nat.le_refl _) (by omega) (fun _ q => by cases q) (moved_two 1 _ _ _ _ _ _ _ _))
  obtain ⟨c0, c1, c2, c3, c4, c5, c6, fc⟩ := X0
  obtain ⟨d0, d1, d2, d3, d4, d5, d6, fd⟩ := X1
  have f0 := fc 0 (by omega)
  have f1 := fc 1 (by omega)
  have f2 := fc 2 (by omega)
  have f3 := fc 3 (by omega)
  have f4 := fc 4 (by omega)
  have f5 := fc 5 (by omega)
  have f6 := fc 6 (by omega)
  have g0 := fd 1 (by omega)
  clear fc fd hb1
  go_wp2
  revert HP HF
  generalize hW : put7 (w1.setCell ⟨w.heap.size + 1, 1, none⟩ (.int .i64 a)) w.heap.size (.int .i64 18) (.int .i64 a) (.int .u8 0) (.bool false) (.int .u8 0) (.slice none 0 0) (.slice none 0 0) = Wf
  intro HP HF
  obtain ⟨k0, k1, k2, k3, k4, k5, k6, -⟩ := HP.out
  unfold put7 at hW
  rw [hW]
  clear hW
  exact bodyPost_ret (v := .tuple #[.agg #[.int .i64 18, .int .i64 a, .int .u8 0, .bool false, .int .u8 0, .slice none 0 0, .slice none 0 0], .int .i64 2, .int .i64 er]) (by simp [results, Try.results127, go_sem, k0, k1, k2, k3, k4, k5, k6]) rfl HF.out

set_option maxRecDepth 100000 in
set_option maxHeartbeats 2000000 in
theorem beh_29 (v : Value) (xs : List Int) (a er : Int) (hd : sinF xs = (er, a)) (w : World) (h : Reads w v xs) (hl : xs.length ≤ 1000000) : Calls Try.prog 127 #[.int .i64 29, v] w (BehD (er, { opZ with kind := 29, fa := a }, 1) w) := by
  have HD := hid (fun W (hb : Below w.heap.size w W) => show Calls Try.prog 133 #[v] W fun e w' => e = .returned (.tuple #[.int .u8 a, .int .i64 er]) ∧ Below W.heap.size W w' from by
    have q := single_any v xs W (reads_below h hb) hl
    rw [hd] at q
    exact q.mono (fun _ _ h => ⟨h.1, h.2 ▸ Below.refl _ _⟩))
  obtain ⟨x, c, rfl⟩ := reads_sl h
  clear h hd hl
  have HB0 := hid (bal (bal (Below.refl w.heap.size w) (.cells #[.int .i64 0, .int .i64 0, .int .u8 0, .bool false, .int .u8 0, .slice none 0 0, .slice none 0 0] 144)) (.cells #[.int .i64 29, .int .i64 0, .int .u8 0, .bool false, .int .u8 0, .slice none 0 0, .slice none 0 0] 144))
  have hx0 := (Box7.new (v0 := .int .i64 0) (v1 := .int .i64 0) (v2 := .int .u8 0) (v3 := .bool false) (v4 := .int .u8 0) (v5 := .slice none 0 0) (v6 := .slice none 0 0) w 144).step (bal (Below.refl _ _) (.cells #[.int .i64 29, .int .i64 0, .int .u8 0, .bool false, .int .u8 0, .slice none 0 0, .slice none 0 0] 144))
  have hx1 := Box7.new (v0 := .int .i64 29) (v1 := .int .i64 0) (v2 := .int .u8 0) (v3 := .bool false) (v4 := .int .u8 0) (v5 := .slice none 0 0) (v6 := .slice none 0 0) (w.alloc (.cells #[.int .i64 0, .int .i64 0, .int .u8 0, .bool false, .int .u8 0, .slice none 0 0, .slice none 0 0] 144)) 144
  rw [World.size_alloc] at hx1
  have HX0 := hid hx0
  have HX1 := hid hx1
  clear hx0 hx1
  have HC := hid (HD.out _ HB0.out)
  go_enter Try.func127, Try.ntmps127
  go_wp2_with fail
  with_reducible refine HC.out.mono ?_
  rintro e w1 ⟨rfl, hb1⟩
  have X0 := HX0.out.step hb1
  have X1 := HX1.out.step hb1
  have hlt := X1.lt
  have hlt0 : w.heap.size < w1.heap.size := by omega
  have HP := hid ((X0.moved (Moved.set (a := w1) (S := [w.heap.size + 1]) (g := w.heap.size + 1) (by simp) 4 (.int .u8 a)) (by simp)).put (.int .i64 29) (.int .i64 0) (.int .u8 0) (.bool false) (.int .u8 a) (.slice none 0 0) (.slice none 0 0))
  have HF := hid (show BehD (er, { opZ with kind := 29, fa := a }, 1) w (.returned (.tuple #[.agg #[.int .i64 29, .int .i64 0, .int .u8 0, .bool false, .int .u8 a, .slice none 0 0, .slice none 0 0], .int .i64 1, .int .i64 er])) (put7 (w1.setCell ⟨w.heap.size + 1, 4, none⟩ (.int .u8 a)) w.heap.size (.int .i64 29) (.int .i64 0) (.int .u8 0) (.bool false) (.int .u8 a) (.slice none 0 0) (.slice none 0 0)) from beh_end (r := (er, { opZ with kind := 29, fa := a }, 1)) rfl (World.ownsRow_nil _ _ _ _) (below_t HB0.out hb1) w.heap.size (w.heap.size + 1) (Nat.le_refl _) (by omega) (fun _ q => by cases q) (moved_two 4 _ _ _ _ _ _ _ _))
  obtain ⟨c0, c1, c2, c3, c4, c5, c6, fc⟩ := X0
  obtain ⟨d0, d1, d2, d3, d4, d5, d6, fd⟩ := X1
  have f0 := fc 0 (by omega)
  have f1 := fc 1 (by omega)
  have f2 := fc 2 (by omega)
  have f3 := fc 3 (by omega)
  have f4 := fc 4 (by omega)
  have f5 := fc 5 (by omega)
  have f6 := fc 6 (by omega)
  have g0 := fd 4 (by omega)
  clear fc fd hb1
  go_wp2
  revert HP HF
  generalize hW : put7 (w1.setCell ⟨w.heap.size + 1, 4, none⟩ (.int .u8 a)) w.heap.size (.int .i64 29) (.int .i64 0) (.int .u8 0) (.bool false) (.int .u8 a) (.slice none 0 0) (.slice none 0 0) = Wf
  intro HP HF
  obtain ⟨k0, k1, k2, k3, k4, k5, k6, -⟩ := HP.out
  unfold put7 at hW
  rw [hW]
  clear hW
  exact bodyPost_ret (v := .tuple #[.agg #[.int .i64 29, .int .i64 0, .int .u8 0, .bool false, .int .u8 a, .slice none 0 0, .slice none 0 0], .int .i64 1, .int .i64 er]) (by simp [results, Try.results127, go_sem, k0, k1, k2, k3, k4, k5, k6]) rfl HF.out

set_option maxRecDepth 100000 in
set_option maxHeartbeats 2000000 in
theorem beh_8 (v : Value) (xs : List Int) (a er : Int) (hd : codF xs = (er, a)) (w : World) (h : Reads w v xs) (hl : xs.length ≤ 1000000) : Calls Try.prog 127 #[.int .i64 8, v] w (BehD (er, { opZ with kind := 8, code := a }, 1) w) := by
  have HD := hid (fun W (hb : Below w.heap.size w W) => show Calls Try.prog 136 #[v] W fun e w' => e = .returned (.tuple #[.int .u8 a, .int .i64 er]) ∧ Below W.heap.size W w' from by
    have q := code_any v xs W (reads_below h hb) hl
    rw [hd] at q
    exact q.mono (fun _ _ h => ⟨h.1, h.2 ▸ Below.refl _ _⟩))
  obtain ⟨x, c, rfl⟩ := reads_sl h
  clear h hd hl
  have HB0 := hid (bal (bal (Below.refl w.heap.size w) (.cells #[.int .i64 0, .int .i64 0, .int .u8 0, .bool false, .int .u8 0, .slice none 0 0, .slice none 0 0] 144)) (.cells #[.int .i64 8, .int .i64 0, .int .u8 0, .bool false, .int .u8 0, .slice none 0 0, .slice none 0 0] 144))
  have hx0 := (Box7.new (v0 := .int .i64 0) (v1 := .int .i64 0) (v2 := .int .u8 0) (v3 := .bool false) (v4 := .int .u8 0) (v5 := .slice none 0 0) (v6 := .slice none 0 0) w 144).step (bal (Below.refl _ _) (.cells #[.int .i64 8, .int .i64 0, .int .u8 0, .bool false, .int .u8 0, .slice none 0 0, .slice none 0 0] 144))
  have hx1 := Box7.new (v0 := .int .i64 8) (v1 := .int .i64 0) (v2 := .int .u8 0) (v3 := .bool false) (v4 := .int .u8 0) (v5 := .slice none 0 0) (v6 := .slice none 0 0) (w.alloc (.cells #[.int .i64 0, .int .i64 0, .int .u8 0, .bool false, .int .u8 0, .slice none 0 0, .slice none 0 0] 144)) 144
  rw [World.size_alloc] at hx1
  have HX0 := hid hx0
  have HX1 := hid hx1
  clear hx0 hx1
  have HC := hid (HD.out _ HB0.out)
  go_enter Try.func127, Try.ntmps127
  go_wp2_with fail
  with_reducible refine HC.out.mono ?_
  rintro e w1 ⟨rfl, hb1⟩
  have X0 := HX0.out.step hb1
  have X1 := HX1.out.step hb1
  have hlt := X1.lt
  have hlt0 : w.heap.size < w1.heap.size := by omega
  have HP := hid ((X0.moved (Moved.set (a := w1) (S := [w.heap.size + 1]) (g := w.heap.size + 1) (by simp) 2 (.int .u8 a)) (by simp)).put (.int .i64 8) (.int .i64 0) (.int .u8 a) (.bool false) (.int .u8 0) (.slice none 0 0) (.slice none 0 0))
  have HF := hid (show BehD (er, { opZ with kind := 8, code := a }, 1) w (.returned (.tuple #[.agg #[.int .i64 8, .int .i64 0, .int .u8 a, .bool false, .int .u8 0, .slice none 0 0, .slice none 0 0], .int .i64 1, .int .i64 er])) (put7 (w1.setCell ⟨w.heap.size + 1, 2, none⟩ (.int .u8 a)) w.heap.size (.int .i64 8) (.int .i64 0) (.int .u8 a) (.bool false) (.int .u8 0) (.slice none 0 0) (.slice none 0 0)) from beh_end (r := (er, { opZ with kind := 8, code := a }, 1)) rfl (World.ownsRow_nil _ _ _ _) (below_t HB0.out hb1) w.heap.size (w.heap.size + 1) (Nat.le_refl _) (by omega) (fun _ q => by cases q) (moved_two 2 _ _ _ _ _ _ _ _))
  obtain ⟨c0, c1, c2, c3, c4, c5, c6, fc⟩ := X0
  obtain ⟨d0, d1, d2, d3, d4, d5, d6, fd⟩ := X1
  have f0 := fc 0 (by omega)
  have f1 := fc 1 (by omega)
  have f2 := fc 2 (by omega)
  have f3 := fc 3 (by omega)
  have f4 := fc 4 (by omega)
  have f5 := fc 5 (by omega)
  have f6 := fc 6 (by omega)
  have g0 := fd 2 (by omega)
  clear fc fd hb1
  go_wp2
  revert HP HF
  generalize hW : put7 (w1.setCell ⟨w.heap.size + 1, 2, none⟩ (.int .u8 a)) w.heap.size (.int .i64 8) (.int .i64 0) (.int .u8 a) (.bool false) (.int .u8 0) (.slice none 0 0) (.slice none 0 0) = Wf
  intro HP HF
  obtain ⟨k0, k1, k2, k3, k4, k5, k6, -⟩ := HP.out
  unfold put7 at hW
  rw [hW]
  clear hW
  exact bodyPost_ret (v := .tuple #[.agg #[.int .i64 8, .int .i64 0, .int .u8 a, .bool false, .int .u8 0, .slice none 0 0, .slice none 0 0], .int .i64 1, .int .i64 er]) (by simp [results, Try.results127, go_sem, k0, k1, k2, k3, k4, k5, k6]) rfl HF.out

theorem own_weak {w : World} {B B' : Nat} {t : TypeId} {m n : Nat} {v : Value} {xs : List Value} (h : w.ownsRow B t m v n xs) (hB : B' ≤ B) : w.ownsRow B' t m v n xs := by
  refine ⟨h.1, ?_⟩
  rcases h.2 with h' | ⟨g, cap, cur, rfl, hg, r⟩
  · exact .inl h'
  · exact .inr ⟨g, cap, cur, rfl, Nat.le_trans hB hg, r⟩
theorem row_slice {w : World} {B : Nat} {t : TypeId} {m n : Nat} {v : Value} {xs : List Value} (h : w.ownsRow B t m v n xs) : ∃ x c, v = .slice x n c := by
  rcases h.2 with ⟨rfl, rfl⟩ | ⟨g, cap, cur, rfl, _⟩
  · exact ⟨_, _, rfl⟩
  · exact ⟨_, _, rfl⟩
/-- Read: the pairs, how many bytes, the error. -/
def ParD (r : Int × List (Nat × Nat) × Nat) (w : World) (e : Ending) (w' : World) : Prop := ∃ pv, e = .returned (.tuple #[pv, .int .i64 r.2.2, .int .i64 r.1]) ∧ w'.ownsRow w.heap.size 165 2 pv r.2.1.length (cellsP r.2.1) ∧ Below w.heap.size w w'
theorem parse_any (v : Value) (xs : List Int) (w : World) (h : Reads w v xs) (hl : xs.length ≤ 100000) : Calls Try.prog 135 #[v] w (ParD (parF xs) w) := by
  obtain ⟨n, hn⟩ : ∃ n, (xs.getD 0 0).toNat = n := ⟨_, rfl⟩
  unfold parF
  rw [hn]
  by_cases hs : xs.length < 1 + 2 * n
  · rw [if_pos hs]
    refine (parse_short v xs hl (by rw [hn]; exact hs) w h).mono ?_
    rintro e w' ⟨rfl, hb⟩
    exact ⟨_, rfl, World.ownsRow_nil _ _ _ _, hb⟩
  · rw [if_neg hs]
    refine (parse_long v xs n hn hl hs w h).mono ?_
    rintro e w' (⟨h1, v, rfl, ho, hb⟩ | ⟨h1, rfl, hb⟩)
    · rw [if_pos h1]
      refine ⟨v, by push_cast; rfl, ?_, hb⟩
      show w'.ownsRow _ _ _ _ (pairsL xs n).length _
      rw [pairsL_length]
      exact ho
    · rw [if_neg (by rw [h1]; decide)]
      exact ⟨_, rfl, World.ownsRow_nil _ _ _ _, hb⟩

set_option maxRecDepth 100000 in
set_option maxHeartbeats 2000000 in
theorem beh_40 (v : Value) (xs : List Int) (ps : List (Nat × Nat)) (er : Int) (hd : pairF xs = (er, ps)) (w : World) (h : Reads w v xs) : Calls Try.prog 127 #[.int .i64 40, v] w (BehD (er, { opZ with kind := 40, pairs := ps }, 2) w) := by
  have HD := hid (fun W (hb : Below w.heap.size w W) => show Calls Try.prog 134 #[v] W (PairD (er, ps) W) from by
    have q := pair_any v xs W (reads_below h hb)
    rw [hd] at q
    exact q)
  obtain ⟨x, c, rfl⟩ := reads_sl h
  clear h hd
  have HB0 := hid (bal (bal (Below.refl w.heap.size w) (.cells #[.int .i64 0, .int .i64 0, .int .u8 0, .bool false, .int .u8 0, .slice none 0 0, .slice none 0 0] 144)) (.cells #[.int .i64 40, .int .i64 0, .int .u8 0, .bool false, .int .u8 0, .slice none 0 0, .slice none 0 0] 144))
  have hx0 := (Box7.new (v0 := .int .i64 0) (v1 := .int .i64 0) (v2 := .int .u8 0) (v3 := .bool false) (v4 := .int .u8 0) (v5 := .slice none 0 0) (v6 := .slice none 0 0) w 144).step (bal (Below.refl _ _) (.cells #[.int .i64 40, .int .i64 0, .int .u8 0, .bool false, .int .u8 0, .slice none 0 0, .slice none 0 0] 144))
  have hx1 := Box7.new (v0 := .int .i64 40) (v1 := .int .i64 0) (v2 := .int .u8 0) (v3 := .bool false) (v4 := .int .u8 0) (v5 := .slice none 0 0) (v6 := .slice none 0 0) (w.alloc (.cells #[.int .i64 0, .int .i64 0, .int .u8 0, .bool false, .int .u8 0, .slice none 0 0, .slice none 0 0] 144)) 144
  rw [World.size_alloc] at hx1
  have HX0 := hid hx0
  have HX1 := hid hx1
  clear hx0 hx1
  have HC := hid (HD.out _ HB0.out)
  go_enter Try.func127, Try.ntmps127
  go_wp2_with fail
  with_reducible refine HC.out.mono ?_
  rintro e w1 ⟨pv, rfl, ho1, hb1⟩
  obtain ⟨xp, cp, rfl⟩ := row_slice ho1
  have X0 := HX0.out.step hb1
  have X1 := HX1.out.step hb1
  have hlt := X1.lt
  have hlt0 : w.heap.size < w1.heap.size := by omega
  have HP := hid ((X0.moved (Moved.set (a := w1) (S := [w.heap.size + 1]) (g := w.heap.size + 1) (by simp) 5 (.slice xp ps.length cp)) (by simp)).put (.int .i64 40) (.int .i64 0) (.int .u8 0) (.bool false) (.int .u8 0) (.slice xp ps.length cp) (.slice none 0 0))
  have HF := hid (show BehD (er, { opZ with kind := 40, pairs := ps }, 2) w (.returned (.tuple #[.agg #[.int .i64 40, .int .i64 0, .int .u8 0, .bool false, .int .u8 0, .slice xp ps.length cp, .slice none 0 0], .int .i64 2, .int .i64 er])) (put7 (w1.setCell ⟨w.heap.size + 1, 5, none⟩ (.slice xp ps.length cp)) w.heap.size (.int .i64 40) (.int .i64 0) (.int .u8 0) (.bool false) (.int .u8 0) (.slice xp ps.length cp) (.slice none 0 0)) from beh_end (r := (er, { opZ with kind := 40, pairs := ps }, 2)) rfl (own_weak ho1 (by simp; omega)) (below_t HB0.out hb1) w.heap.size (w.heap.size + 1) (Nat.le_refl _) (by omega) (fun k hk => by have := (ho1.lt k (mem_blkV.1 hk)).1; simp at this; omega) (moved_two 5 _ _ _ _ _ _ _ _))
  obtain ⟨c0, c1, c2, c3, c4, c5, c6, fc⟩ := X0
  obtain ⟨d0, d1, d2, d3, d4, d5, d6, fd⟩ := X1
  have f0 := fc 0 (by omega)
  have f1 := fc 1 (by omega)
  have f2 := fc 2 (by omega)
  have f3 := fc 3 (by omega)
  have f4 := fc 4 (by omega)
  have f5 := fc 5 (by omega)
  have f6 := fc 6 (by omega)
  have g0 := fd 5 (by omega)
  clear fc fd hb1
  go_wp2
  revert HP HF
  generalize hW : put7 (w1.setCell ⟨w.heap.size + 1, 5, none⟩ (.slice xp ps.length cp)) w.heap.size (.int .i64 40) (.int .i64 0) (.int .u8 0) (.bool false) (.int .u8 0) (.slice xp ps.length cp) (.slice none 0 0) = Wf
  intro HP HF
  obtain ⟨k0, k1, k2, k3, k4, k5, k6, -⟩ := HP.out
  unfold put7 at hW
  rw [hW]
  clear hW
  exact bodyPost_ret (v := .tuple #[.agg #[.int .i64 40, .int .i64 0, .int .u8 0, .bool false, .int .u8 0, .slice xp ps.length cp, .slice none 0 0], .int .i64 2, .int .i64 er]) (by simp [results, Try.results127, go_sem, k0, k1, k2, k3, k4, k5, k6]) rfl HF.out

set_option maxRecDepth 100000 in
set_option maxHeartbeats 2000000 in
theorem beh_41 (v : Value) (xs : List Int) (ps : List (Nat × Nat)) (u : Nat) (er : Int) (hd : parF xs = (er, ps, u)) (w : World) (h : Reads w v xs) (hl : xs.length ≤ 100000) : Calls Try.prog 127 #[.int .i64 41, v] w (BehD (er, { opZ with kind := 41, pairs := ps }, u) w) := by
  have HD := hid (fun W (hb : Below w.heap.size w W) => show Calls Try.prog 135 #[v] W (ParD (er, ps, u) W) from by
    have q := parse_any v xs W (reads_below h hb) hl
    rw [hd] at q
    exact q)
  obtain ⟨x, c, rfl⟩ := reads_sl h
  clear h hd hl
  have HB0 := hid (bal (bal (Below.refl w.heap.size w) (.cells #[.int .i64 0, .int .i64 0, .int .u8 0, .bool false, .int .u8 0, .slice none 0 0, .slice none 0 0] 144)) (.cells #[.int .i64 41, .int .i64 0, .int .u8 0, .bool false, .int .u8 0, .slice none 0 0, .slice none 0 0] 144))
  have hx0 := (Box7.new (v0 := .int .i64 0) (v1 := .int .i64 0) (v2 := .int .u8 0) (v3 := .bool false) (v4 := .int .u8 0) (v5 := .slice none 0 0) (v6 := .slice none 0 0) w 144).step (bal (Below.refl _ _) (.cells #[.int .i64 41, .int .i64 0, .int .u8 0, .bool false, .int .u8 0, .slice none 0 0, .slice none 0 0] 144))
  have hx1 := Box7.new (v0 := .int .i64 41) (v1 := .int .i64 0) (v2 := .int .u8 0) (v3 := .bool false) (v4 := .int .u8 0) (v5 := .slice none 0 0) (v6 := .slice none 0 0) (w.alloc (.cells #[.int .i64 0, .int .i64 0, .int .u8 0, .bool false, .int .u8 0, .slice none 0 0, .slice none 0 0] 144)) 144
  rw [World.size_alloc] at hx1
  have HX0 := hid hx0
  have HX1 := hid hx1
  clear hx0 hx1
  have HC := hid (HD.out _ HB0.out)
  go_enter Try.func127, Try.ntmps127
  go_wp2_with fail
  with_reducible refine HC.out.mono ?_
  rintro e w1 ⟨pv, rfl, ho1, hb1⟩
  obtain ⟨xp, cp, rfl⟩ := row_slice ho1
  have X0 := HX0.out.step hb1
  have X1 := HX1.out.step hb1
  have hlt := X1.lt
  have hlt0 : w.heap.size < w1.heap.size := by omega
  have HP := hid ((X0.moved (Moved.set (a := w1) (S := [w.heap.size + 1]) (g := w.heap.size + 1) (by simp) 5 (.slice xp ps.length cp)) (by simp)).put (.int .i64 41) (.int .i64 0) (.int .u8 0) (.bool false) (.int .u8 0) (.slice xp ps.length cp) (.slice none 0 0))
  have HF := hid (show BehD (er, { opZ with kind := 41, pairs := ps }, u) w (.returned (.tuple #[.agg #[.int .i64 41, .int .i64 0, .int .u8 0, .bool false, .int .u8 0, .slice xp ps.length cp, .slice none 0 0], .int .i64 u, .int .i64 er])) (put7 (w1.setCell ⟨w.heap.size + 1, 5, none⟩ (.slice xp ps.length cp)) w.heap.size (.int .i64 41) (.int .i64 0) (.int .u8 0) (.bool false) (.int .u8 0) (.slice xp ps.length cp) (.slice none 0 0)) from beh_end (r := (er, { opZ with kind := 41, pairs := ps }, u)) rfl (own_weak ho1 (by simp; omega)) (below_t HB0.out hb1) w.heap.size (w.heap.size + 1) (Nat.le_refl _) (by omega) (fun k hk => by have := (ho1.lt k (mem_blkV.1 hk)).1; simp at this; omega) (moved_two 5 _ _ _ _ _ _ _ _))
  obtain ⟨c0, c1, c2, c3, c4, c5, c6, fc⟩ := X0
  obtain ⟨d0, d1, d2, d3, d4, d5, d6, fd⟩ := X1
  have f0 := fc 0 (by omega)
  have f1 := fc 1 (by omega)
  have f2 := fc 2 (by omega)
  have f3 := fc 3 (by omega)
  have f4 := fc 4 (by omega)
  have f5 := fc 5 (by omega)
  have f6 := fc 6 (by omega)
  have g0 := fd 5 (by omega)
  clear fc fd hb1
  go_wp2
  revert HP HF
  generalize hW : put7 (w1.setCell ⟨w.heap.size + 1, 5, none⟩ (.slice xp ps.length cp)) w.heap.size (.int .i64 41) (.int .i64 0) (.int .u8 0) (.bool false) (.int .u8 0) (.slice xp ps.length cp) (.slice none 0 0) = Wf
  intro HP HF
  obtain ⟨k0, k1, k2, k3, k4, k5, k6, -⟩ := HP.out
  unfold put7 at hW
  rw [hW]
  clear hW
  exact bodyPost_ret (v := .tuple #[.agg #[.int .i64 41, .int .i64 0, .int .u8 0, .bool false, .int .u8 0, .slice xp ps.length cp, .slice none 0 0], .int .i64 u, .int .i64 er]) (by simp [results, Try.results127, go_sem, k0, k1, k2, k3, k4, k5, k6]) rfl HF.out

set_option maxRecDepth 100000 in
set_option maxHeartbeats 2000000 in
theorem beh_44 (v : Value) (xs : List Int) (ps : List (Nat × Nat)) (u : Nat) (er : Int) (hd : parF xs = (er, ps, u)) (w : World) (h : Reads w v xs) (hl : xs.length ≤ 100000) : Calls Try.prog 127 #[.int .i64 44, v] w (BehD (er, { opZ with kind := 44, pairs := ps }, u) w) := by
  have HD := hid (fun W (hb : Below w.heap.size w W) => show Calls Try.prog 135 #[v] W (ParD (er, ps, u) W) from by
    have q := parse_any v xs W (reads_below h hb) hl
    rw [hd] at q
    exact q)
  obtain ⟨x, c, rfl⟩ := reads_sl h
  clear h hd hl
  have HB0 := hid (bal (bal (Below.refl w.heap.size w) (.cells #[.int .i64 0, .int .i64 0, .int .u8 0, .bool false, .int .u8 0, .slice none 0 0, .slice none 0 0] 144)) (.cells #[.int .i64 44, .int .i64 0, .int .u8 0, .bool false, .int .u8 0, .slice none 0 0, .slice none 0 0] 144))
  have hx0 := (Box7.new (v0 := .int .i64 0) (v1 := .int .i64 0) (v2 := .int .u8 0) (v3 := .bool false) (v4 := .int .u8 0) (v5 := .slice none 0 0) (v6 := .slice none 0 0) w 144).step (bal (Below.refl _ _) (.cells #[.int .i64 44, .int .i64 0, .int .u8 0, .bool false, .int .u8 0, .slice none 0 0, .slice none 0 0] 144))
  have hx1 := Box7.new (v0 := .int .i64 44) (v1 := .int .i64 0) (v2 := .int .u8 0) (v3 := .bool false) (v4 := .int .u8 0) (v5 := .slice none 0 0) (v6 := .slice none 0 0) (w.alloc (.cells #[.int .i64 0, .int .i64 0, .int .u8 0, .bool false, .int .u8 0, .slice none 0 0, .slice none 0 0] 144)) 144
  rw [World.size_alloc] at hx1
  have HX0 := hid hx0
  have HX1 := hid hx1
  clear hx0 hx1
  have HC := hid (HD.out _ HB0.out)
  go_enter Try.func127, Try.ntmps127
  go_wp2_with fail
  with_reducible refine HC.out.mono ?_
  rintro e w1 ⟨pv, rfl, ho1, hb1⟩
  obtain ⟨xp, cp, rfl⟩ := row_slice ho1
  have X0 := HX0.out.step hb1
  have X1 := HX1.out.step hb1
  have hlt := X1.lt
  have hlt0 : w.heap.size < w1.heap.size := by omega
  have HP := hid ((X0.moved (Moved.set (a := w1) (S := [w.heap.size + 1]) (g := w.heap.size + 1) (by simp) 5 (.slice xp ps.length cp)) (by simp)).put (.int .i64 44) (.int .i64 0) (.int .u8 0) (.bool false) (.int .u8 0) (.slice xp ps.length cp) (.slice none 0 0))
  have HF := hid (show BehD (er, { opZ with kind := 44, pairs := ps }, u) w (.returned (.tuple #[.agg #[.int .i64 44, .int .i64 0, .int .u8 0, .bool false, .int .u8 0, .slice xp ps.length cp, .slice none 0 0], .int .i64 u, .int .i64 er])) (put7 (w1.setCell ⟨w.heap.size + 1, 5, none⟩ (.slice xp ps.length cp)) w.heap.size (.int .i64 44) (.int .i64 0) (.int .u8 0) (.bool false) (.int .u8 0) (.slice xp ps.length cp) (.slice none 0 0)) from beh_end (r := (er, { opZ with kind := 44, pairs := ps }, u)) rfl (own_weak ho1 (by simp; omega)) (below_t HB0.out hb1) w.heap.size (w.heap.size + 1) (Nat.le_refl _) (by omega) (fun k hk => by have := (ho1.lt k (mem_blkV.1 hk)).1; simp at this; omega) (moved_two 5 _ _ _ _ _ _ _ _))
  obtain ⟨c0, c1, c2, c3, c4, c5, c6, fc⟩ := X0
  obtain ⟨d0, d1, d2, d3, d4, d5, d6, fd⟩ := X1
  have f0 := fc 0 (by omega)
  have f1 := fc 1 (by omega)
  have f2 := fc 2 (by omega)
  have f3 := fc 3 (by omega)
  have f4 := fc 4 (by omega)
  have f5 := fc 5 (by omega)
  have f6 := fc 6 (by omega)
  have g0 := fd 5 (by omega)
  clear fc fd hb1
  go_wp2
  revert HP HF
  generalize hW : put7 (w1.setCell ⟨w.heap.size + 1, 5, none⟩ (.slice xp ps.length cp)) w.heap.size (.int .i64 44) (.int .i64 0) (.int .u8 0) (.bool false) (.int .u8 0) (.slice xp ps.length cp) (.slice none 0 0) = Wf
  intro HP HF
  obtain ⟨k0, k1, k2, k3, k4, k5, k6, -⟩ := HP.out
  unfold put7 at hW
  rw [hW]
  clear hW
  exact bodyPost_ret (v := .tuple #[.agg #[.int .i64 44, .int .i64 0, .int .u8 0, .bool false, .int .u8 0, .slice xp ps.length cp, .slice none 0 0], .int .i64 u, .int .i64 er]) (by simp [results, Try.results127, go_sem, k0, k1, k2, k3, k4, k5, k6]) rfl HF.out
end Go.Proofs.Ytlhaefgchmakfaa
