/-
  Entry: sizes; orders told one by one; what the law's example is (pure).
-/
import Derived.Test.YtlhaefgchmakfaaPc
namespace Go.Proofs.Ytlhaefgchmakfaa
open Go.RowKit Go.Lib

/-- How much entries, how much orders hold. -/
def totE (es : List EnD) : Nat := (es.map fun x => x.text.length + 1).sum
def totO (os : List OpD) : Nat := (os.map fun o => o.text.length + 2).sum
theorem totE_append (a b : List EnD) : totE (a ++ b) = totE a + totE b := by simp [totE]
theorem totO_append (a b : List OpD) : totO (a ++ b) = totO a + totO b := by simp [totO]
theorem totE_ext (es : List EnD) (cs : List Int) : totE (extE es cs) ≤ totE es + cs.length + 1 := by
  rcases List.eq_nil_or_concat es with rfl | ⟨r, x, rfl⟩
  · simp [totE, extE]
  · rw [List.concat_eq_append, extE_snoc, totE_append, totE_append]
    simp [totE]
    omega
theorem totE_add (es : List EnD) (o : OpD) : totE (addE es o) ≤ totE es + (o.text.length + 2) := by
  unfold addE
  split
  · rw [totE_append]; simp [totE]
  · split
    · have := totE_ext es o.text; omega
    · split
      · have := totE_ext es [o.code]; simp at this; omega
      · omega
theorem totE_fold : ∀ (os : List OpD) (es : List EnD), totE (os.foldl addE es) ≤ totE es + totO os := by
  intro os
  induction os with
  | nil => intro es; simp [totO]
  | cons o r ih =>
    intro es
    have h1 := ih (addE es o)
    have h2 := totE_add es o
    have h3 : totO (o :: r) = (o.text.length + 2) + totO r := by simp [totO]
    rw [List.foldl_cons, h3]
    omega
theorem totE_len (es : List EnD) : es.length ≤ totE es := by
  induction es with
  | nil => exact Nat.zero_le _
  | cons x r ih => have h : totE (x :: r) = (x.text.length + 1) + totE r := by simp [totE]
                   rw [h, List.length_cons]; omega
theorem totE_mem {es : List EnD} {x : EnD} (h : x ∈ es) : x.text.length < totE es := by
  induction es with
  | nil => cases h
  | cons y r ih =>
    have e : totE (y :: r) = (y.text.length + 1) + totE r := by simp [totE]
    rcases List.mem_cons.1 h with rfl | h
    · omega
    · have := ih h; omega
theorem firF_wt (xs : List Int) (hx : xs ≠ []) (h : (firF xs).1 = 0) : (firF xs).2.1.text.length ≤ (firF xs).2.2 ∧ 1 ≤ (firF xs).2.2 ∧ (firF xs).2.2 ≤ xs.length := by
  have q := @firF_take xs xs.length (Nat.le_refl _) (by rw [List.take_length]; exact hx) (by rw [List.take_length]; exact h)
  rw [List.take_length] at q
  refine ⟨?_, q.2.1, q.2.2.1⟩
  match xs, hx, h with
  | b :: r, _, h =>
    cases hb : isO b
    · have e1 : firF (b :: r) = (0, opT (tkO (b :: r)), (tkO (b :: r)).length) := by show (if isO b = true then _ else _) = _; rw [hb]; rfl
      rw [e1]
      exact Nat.le_refl _
    · have e1 : firF (b :: r) = if (behF b r).1 = 0 then (0, (behF b r).2.1, 1 + (behF b r).2.2) else ((behF b r).1, opZ, 0) := by show (if isO b = true then _ else _) = _; rw [hb]; rfl
      rw [e1] at h ⊢
      by_cases h0 : (behF b r).1 = 0
      · rw [if_pos h0]
        show (behF b r).2.1.text.length ≤ _
        rw [behF_text]
        exact Nat.zero_le _
      · rw [if_neg h0] at h
        exact absurd h h0
theorem allF_wt : ∀ (f : Nat) (xs : List Int), totO (allF f xs).1 ≤ 3 * xs.length := by
  intro f
  induction f with
  | zero => intro xs; exact Nat.zero_le _
  | succ f ih =>
    intro xs
    by_cases hx : xs = []
    · rw [hx, allF_nil]; exact Nat.zero_le _
    · by_cases h0 : (firF xs).1 = 0
      · rw [allF_one f _ hx h0]
        obtain ⟨h1, h2, h3⟩ := firF_wt xs hx h0
        have h4 := ih (xs.drop (firF xs).2.2)
        rw [List.length_drop] at h4
        have h5 : ∀ (o : OpD) (r : List OpD), totO (o :: r) = (o.text.length + 2) + totO r := fun o r => by simp [totO]
        show totO (_ :: _) ≤ _
        rw [h5]
        omega
      · rw [allF_bad f _ hx h0]; exact Nat.zero_le _
theorem inbF_wt (ks xs : List Int) : totO (inbF ks xs).2.2 ≤ 3 * xs.length := by
  unfold inbF
  split
  · exact Nat.zero_le _
  · split
    · exact Nat.zero_le _
    · split
      · exact Nat.zero_le _
      · split
        · have := allF_wt (xs.drop 3).length (xs.drop 3)
          rw [show (xs.drop 3).length = xs.length - 3 from List.length_drop] at this
          show totO (allF (xs.drop 3).length (xs.drop 3)).1 ≤ _
          rw [List.length_drop]
          omega
        · exact Nat.zero_le _
theorem parE_wt (xs : List Int) : totE (parE xs).2.ens ≤ 3 * xs.length := by
  unfold parE
  split
  · exact Nat.zero_le _
  · split
    · have h1 := totE_fold (inbF kindsP xs).2.2 []
      have h2 := inbF_wt kindsP xs
      show totE (entE _) ≤ _
      unfold entE
      have h3 : totE [] = 0 := rfl
      omega
    · exact Nat.zero_le _
/-- Told one order more. -/
theorem opsB_snoc {os : List OpD} (h : (opsB os).1 = 0) (o : OpD) : opsB (os ++ [o]) = ((opB o).1, if (opB o).1 = 0 then (opsB os).2 ++ (opB o).2 else []) := by
  induction os with
  | nil =>
    show (if (opB o).1 ≠ 0 then ((opB o).1, []) else if (0 : Int) ≠ 0 then _ else (0, (opB o).2 ++ [])) = _
    by_cases q : (opB o).1 = 0
    · rw [if_neg (by simpa using q), if_neg (by decide), if_pos q, q, List.append_nil]; rfl
    · rw [if_pos q, if_neg q]
  | cons x r ih =>
    obtain ⟨h1, h2, h3⟩ := opsB_one h
    have e : opsB (x :: (r ++ [o])) = if (opB x).1 ≠ 0 then ((opB x).1, []) else if (opsB (r ++ [o])).1 ≠ 0 then ((opsB (r ++ [o])).1, []) else (0, (opB x).2 ++ (opsB (r ++ [o])).2) := rfl
    rw [List.cons_append, e, if_neg (by simpa using h1), ih h2, h3]
    by_cases q : (opB o).1 = 0
    · simp only [q, if_true, ne_eq, not_true, if_false, List.append_assoc]
    · simp only [q, ne_eq, not_false_eq_true, if_true, if_false]
theorem opsB_bad {os : List OpD} (h : (opsB os).1 ≠ 0) (r : List OpD) : (opsB (os ++ r)).1 = (opsB os).1 ∧ (opsB (os ++ r)).2 = [] := by
  induction os with
  | nil => exact absurd rfl h
  | cons x s ih =>
    have e : ∀ s, opsB (x :: s) = if (opB x).1 ≠ 0 then ((opB x).1, []) else if (opsB s).1 ≠ 0 then ((opsB s).1, []) else (0, (opB x).2 ++ (opsB s).2) := fun _ => rfl
    have h1 := e s
    have h2 := e (s ++ r)
    rw [List.cons_append]
    by_cases q : (opB x).1 = 0
    · rw [if_neg (by simpa using q)] at h1 h2
      by_cases q2 : (opsB s).1 = 0
      · rw [if_neg (by simpa using q2)] at h1
        rw [h1] at h
        exact absurd rfl h
      · obtain ⟨i1, i2⟩ := ih q2
        rw [if_pos q2] at h1
        rw [if_pos (by rw [i1]; exact q2)] at h2
        rw [h1, h2]
        exact ⟨i1, rfl⟩
    · rw [if_pos q] at h1 h2
      rw [h1, h2]
      exact ⟨rfl, rfl⟩
theorem opB_len (o : OpD) : (opB o).2.length ≤ o.text.length + 3 := by
  unfold opB
  repeat' split
  all_goals simp [encZ]
  all_goals omega
theorem opsB_len (os : List OpD) : (opsB os).2.length ≤ 2 * totO os := by
  induction os with
  | nil => exact Nat.zero_le _
  | cons x s ih =>
    have e : opsB (x :: s) = if (opB x).1 ≠ 0 then ((opB x).1, []) else if (opsB s).1 ≠ 0 then ((opsB s).1, []) else (0, (opB x).2 ++ (opsB s).2) := rfl
    have h1 := opB_len x
    have h2 : totO (x :: s) = (x.text.length + 2) + totO s := by simp [totO]
    rw [e]
    split
    · exact Nat.zero_le _
    · split
      · exact Nat.zero_le _
      · show ((opB x).2 ++ (opsB s).2).length ≤ _
        rw [List.length_append, h2]
        omega
theorem totO_ord (b : Bool) (es : List EnD) : totO (ordE b es) ≤ 4 * totE es := by
  induction es with
  | nil => exact Nat.zero_le _
  | cons x r ih =>
    have e : ordE b (x :: r) = ((if b then [] else [opA x.addr]) ++ (if 0 < x.text.length then [opT x.text] else [])) ++ ordE b r := rfl
    have h1 : totO (if b then [] else [opA x.addr]) ≤ 2 := by cases b <;> simp [totO, opA, opZ]
    have h2 : totO (if 0 < x.text.length then [opT x.text] else []) ≤ x.text.length + 2 := by split <;> simp [totO, opT]
    have h3 : totE (x :: r) = (x.text.length + 1) + totE r := by simp [totE]
    rw [e, totO_append, totO_append, h3]
    omega
theorem ordE_append (b : Bool) (xs ys : List EnD) : ordE b (xs ++ ys) = ordE b xs ++ ordE b ys := by simp [ordE]
theorem take_snoc_at {α : Type} {xs : List α} {k : Nat} (h : k < xs.length) : xs.take (k + 1) = xs.take k ++ [xs[k]] := by
  rw [List.take_succ_eq_append_getElem h]
theorem opsB_step {os : List OpD} {k : Nat} (hk : k < os.length) (h : (opsB (os.take k)).1 = 0) : ((opB os[k]).1 = 0 → (opsB (os.take (k + 1))).1 = 0 ∧ (opsB (os.take (k + 1))).2 = (opsB (os.take k)).2 ++ (opB os[k]).2) ∧ ((opB os[k]).1 ≠ 0 → opsB os = ((opB os[k]).1, [])) := by
  have e := opsB_snoc h os[k]
  rw [← take_snoc_at hk] at e
  refine ⟨fun q => ?_, fun q => ?_⟩
  · rw [e, q, if_pos rfl]; exact ⟨rfl, rfl⟩
  · rw [if_neg q] at e
    have h1 : (opsB (os.take (k + 1))).1 ≠ 0 := by rw [e]; exact q
    have h2 := opsB_bad h1 (os.drop (k + 1))
    rw [List.take_append_drop] at h2
    rw [e] at h2
    exact Prod.ext h2.1 h2.2
theorem totO_take (os : List OpD) (k : Nat) : totO (os.take k) ≤ totO os := by
  have : totO os = totO (os.take k) + totO (os.drop k) := by rw [← totO_append, List.take_append_drop]
  omega
theorem totO_mem {os : List OpD} {o : OpD} (h : o ∈ os) : o.text.length < totO os := by
  induction os with
  | nil => cases h
  | cons y r ih =>
    have e : totO (y :: r) = (y.text.length + 2) + totO r := by simp [totO]
    rcases List.mem_cons.1 h with rfl | h
    · omega
    · have := ih h; omega
theorem totO_len (os : List OpD) : os.length ≤ totO os := by
  induction os with
  | nil => exact Nat.zero_le _
  | cons x r ih => have h : totO (x :: r) = (x.text.length + 2) + totO r := by simp [totO]
                   rw [h, List.length_cons]; omega
theorem codF_u8 {xs : List Int} (hx : ∀ x ∈ xs, 0 ≤ x ∧ x < 256) : 0 ≤ (codF xs).2 ∧ (codF xs).2 < 256 := by
  match xs, hx with
  | [], _ => exact ⟨Int.le_refl _, (by decide : (0 : Int) < 256)⟩
  | b :: r, hx =>
    show 0 ≤ (if isO b then ((10, 0) : Int × Int) else (0, b)).2 ∧ (if isO b then ((10, 0) : Int × Int) else (0, b)).2 < 256
    split
    · exact ⟨Int.le_refl _, (by decide : (0 : Int) < 256)⟩
    · exact hx b (by simp)
theorem behF_u8 (k : Int) {xs : List Int} (hx : ∀ x ∈ xs, 0 ≤ x ∧ x < 256) : 0 ≤ (behF k xs).2.1.code ∧ (behF k xs).2.1.code < 256 := by
  have hd : ∀ n, ∀ x ∈ xs.drop n, 0 ≤ x ∧ x < 256 := fun n x h => hx x (List.mem_of_mem_drop h)
  have h2 := codF_u8 (hd 2)
  have h3 := codF_u8 (hd 3)
  have h0 := codF_u8 hx
  have hz : 0 ≤ opZ.code ∧ opZ.code < 256 := ⟨Int.le_refl _, (by decide : (0 : Int) < 256)⟩
  unfold behF repF
  repeat' split
  all_goals first | exact h2 | exact h3 | exact h0 | exact hz
theorem firF_u8 {xs : List Int} (hx : ∀ x ∈ xs, 0 ≤ x ∧ x < 256) : 0 ≤ (firF xs).2.1.code ∧ (firF xs).2.1.code < 256 := by
  have hz : 0 ≤ opZ.code ∧ opZ.code < 256 := ⟨Int.le_refl _, (by decide : (0 : Int) < 256)⟩
  match xs, hx with
  | [], _ => exact hz
  | b :: r, hx =>
    have hr : ∀ x ∈ r, 0 ≤ x ∧ x < 256 := fun x h => hx x (List.mem_cons_of_mem _ h)
    cases hb : isO b
    · have e1 : firF (b :: r) = (0, opT (tkO (b :: r)), (tkO (b :: r)).length) := by show (if isO b = true then _ else _) = _; rw [hb]; rfl
      rw [e1]
      exact hz
    · have e1 : firF (b :: r) = if (behF b r).1 = 0 then (0, (behF b r).2.1, 1 + (behF b r).2.2) else ((behF b r).1, opZ, 0) := by show (if isO b = true then _ else _) = _; rw [hb]; rfl
      rw [e1]
      split
      · exact behF_u8 b hr
      · exact hz
theorem allF_u8 : ∀ (f : Nat) {xs : List Int}, (∀ x ∈ xs, 0 ≤ x ∧ x < 256) → ∀ o ∈ (allF f xs).1, 0 ≤ o.code ∧ o.code < 256 := by
  intro f
  induction f with
  | zero => intro xs _ o h; cases h
  | succ f ih =>
    intro xs hx o h
    by_cases h1 : xs = []
    · rw [h1, allF_nil] at h; cases h
    · by_cases h0 : (firF xs).1 = 0
      · rw [allF_one f _ h1 h0] at h
        rcases List.mem_cons.1 h with rfl | h
        · exact firF_u8 hx
        · exact ih (fun x q => hx x (List.mem_of_mem_drop q)) o h
      · rw [allF_bad f _ h1 h0] at h; cases h
theorem fold_take {os : List OpD} {k : Nat} (hk : k < os.length) (es : List EnD) : (os.take (k + 1)).foldl addE es = addE ((os.take k).foldl addE es) os[k] := by
  rw [take_snoc_at hk, List.foldl_append]; rfl
theorem ex_par : parE [125, 64, 194, 17, 64, 193, 193, 194] = (0, ⟨125, false, 2, [⟨1, [193, 194]⟩]⟩) := by rfl
end Go.Proofs.Ytlhaefgchmakfaa
