/-
  Telnet's events, as plain lists: merging, the automaton, and what it says of a stream in parts.
-/
namespace Go.Proofs.YtdbjjieoohfckaaDoor

/-- An event. -/
structure Ev where
  kind : Int
  verb : Int
  opt : Int
  data : List Int
  long : Bool
  broken : Bool
/-- An event of data. -/
def dat (p : List Int) : Ev := ⟨0, 0, 0, p, false, false⟩
/-- Data behind events. -/
def addD (l : List Ev) (p : List Int) : List Ev :=
  if p = [] then l else
    match l.getLast? with
    | none => [dat p]
    | some e => if e.kind = 0 then l.dropLast ++ [{ e with data := e.data ++ p }] else l ++ [dat p]
/-- One more event, merged. -/
def mstep (l : List Ev) (e : Ev) : List Ev := if e.kind = 0 then addD l e.data else l ++ [e]
/-- Merged. -/
def mergeL (l : List Ev) : List Ev := l.foldl mstep []

theorem mstep_dat (l : List Ev) {e : Ev} (h : e.kind = 0) : mstep l e = addD l e.data := if_pos h
theorem mstep_ev (l : List Ev) {e : Ev} (h : ¬ e.kind = 0) : mstep l e = l ++ [e] := if_neg h
theorem addD_nil (l : List Ev) : addD l [] = l := by simp [addD]
theorem addD_empty {p : List Int} (h : p ≠ []) : addD [] p = [dat p] := by simp [addD, h]
theorem addD_snoc (l : List Ev) (e : Ev) {p : List Int} (h : p ≠ []) : addD (l ++ [e]) p = if e.kind = 0 then l ++ [{ e with data := e.data ++ p }] else l ++ [e] ++ [dat p] := by
  simp [addD, h]
theorem snoc_cases (l : List Ev) : l = [] ∨ ∃ l' e, l = l' ++ [e] := by
  rcases List.eq_nil_or_concat l with h | ⟨l', e, h⟩
  · exact .inl h
  · exact .inr ⟨l', e, by simpa using h⟩
theorem addD_addD (l : List Ev) (p q : List Int) : addD (addD l p) q = addD l (p ++ q) := by
  by_cases hp : p = []
  · subst hp; rw [addD_nil, List.nil_append]
  by_cases hq : q = []
  · subst hq; rw [addD_nil, List.append_nil]
  have hpq : p ++ q ≠ [] := by simp [hp]
  rcases snoc_cases l with rfl | ⟨l', e, rfl⟩
  · rw [addD_empty hp, addD_empty hpq]
    have := addD_snoc [] (dat p) hq
    simpa [dat] using this
  · rw [addD_snoc _ _ hp, addD_snoc _ _ hpq]
    by_cases he : e.kind = 0
    · rw [if_pos he, if_pos he, addD_snoc _ _ hq, if_pos he]; simp
    · rw [if_neg he, if_neg he, addD_snoc _ _ hq]; simp [dat]
theorem mergeL_snoc (l : List Ev) (e : Ev) : mergeL (l ++ [e]) = mstep (mergeL l) e := by simp [mergeL]
theorem mergeL_append (a b : List Ev) : mergeL (a ++ b) = b.foldl mstep (mergeL a) := by simp [mergeL]
/-- What was merged already merges as it was. -/
theorem fold_merge (X : List Ev) (b : List Ev) : (mergeL b).foldl mstep X = b.foldl mstep X := by
  have key : ∀ n, ∀ b : List Ev, b.length = n → (mergeL b).foldl mstep X = b.foldl mstep X := by
    intro n
    induction n with
    | zero => intro b hb; rw [List.length_eq_zero_iff.1 hb]; rfl
    | succ n ih =>
      intro b hb
      rcases snoc_cases b with rfl | ⟨b', e, rfl⟩
      · rfl
      have hb' : b'.length = n := by simpa using hb
      have i0 := ih b' hb'
      rw [mergeL_snoc, List.foldl_append]
      show _ = mstep (b'.foldl mstep X) e
      rw [← i0]
      by_cases he : e.kind = 0
      · rw [mstep_dat _ he, mstep_dat _ he]
        by_cases hp : e.data = []
        · rw [hp, addD_nil, addD_nil]
        rcases snoc_cases (mergeL b') with h | ⟨m, f, h⟩
        · rw [h, addD_empty hp]
          exact mstep_dat (e := dat e.data) _ rfl
        · rw [h, addD_snoc _ _ hp]
          by_cases hf : f.kind = 0
          · rw [if_pos hf, List.foldl_append, List.foldl_append]
            show mstep _ _ = addD (mstep _ f) _
            rw [mstep_dat (e := f) _ hf, addD_addD]
            exact mstep_dat _ hf
          · rw [if_neg hf, List.foldl_append]
            exact mstep_dat (e := dat e.data) _ rfl
      · rw [mstep_ev _ he, mstep_ev _ he, List.foldl_append]
        show mstep _ e = _
        rw [mstep_ev _ he]
  exact key _ b rfl
theorem merge_fix (a b : List Ev) : mergeL (a ++ mergeL b) = mergeL (a ++ b) := by
  rw [mergeL_append, mergeL_append, fold_merge]
theorem merge_twice (b : List Ev) : mergeL (mergeL b) = mergeL b := by
  have := merge_fix [] b
  simpa using this

/-- Where in an element a stream stands. -/
inductive St where
  | between
  | iac
  | verb (v : Int)
  | sb
  | sub (o : Int) (d : List Int) (l : Bool)
  | subIac (o : Int) (d : List Int) (l : Bool)
/-- A byte that a subnegotiation keeps. -/
def keepS (o : Int) (d : List Int) (l : Bool) (b : Int) : St := if d.length = 256 then .sub o d true else .sub o (d ++ [b]) l
/-- Behind an IAC. -/
def iacS (b : Int) : St × List Ev :=
  if b = 255 then (.between, [dat [255]]) else if b = 250 then (.sb, []) else if 251 ≤ b ∧ b ≤ 254 then (.verb b, []) else (.between, [⟨1, b, 0, [], false, false⟩])
/-- A byte. -/
def stepS (s : St) (b : Int) : St × List Ev :=
  match s with
  | .between => if b = 255 then (.iac, []) else (.between, [dat [b]])
  | .iac => iacS b
  | .verb v => (.between, [⟨2, v, b, [], false, false⟩])
  | .sb => (.sub b [] false, [])
  | .sub o d l => if b = 255 then (.subIac o d l, []) else (keepS o d l b, [])
  | .subIac o d l =>
    if b = 255 then (keepS o d l b, [])
    else if b = 240 then (.between, [⟨3, 0, o, d, l, false⟩])
    else ((iacS b).1, ⟨3, 0, o, d, l, true⟩ :: (iacS b).2)
/-- The state behind bytes. -/
def runS (s : St) : List Int → St
  | [] => s
  | b :: p => runS (stepS s b).1 p
/-- What bytes say. -/
def emit (s : St) : List Int → List Ev
  | [] => []
  | b :: p => (stepS s b).2 ++ emit (stepS s b).1 p
theorem runS_append (s : St) (p q : List Int) : runS s (p ++ q) = runS (runS s p) q := by
  induction p generalizing s with
  | nil => rfl
  | cons b p ih => exact ih _
theorem emit_append (s : St) (p q : List Int) : emit s (p ++ q) = emit s p ++ emit (runS s p) q := by
  induction p generalizing s with
  | nil => rfl
  | cons b p ih =>
    show (stepS s b).2 ++ emit _ (p ++ q) = _
    rw [ih, ← List.append_assoc]; rfl
theorem emit_snoc (s : St) (p : List Int) (b : Int) : emit s (p ++ [b]) = emit s p ++ (stepS (runS s p) b).2 := by
  rw [emit_append]
  show _ ++ ((stepS (runS s p) b).2 ++ []) = _
  rw [List.append_nil]
theorem runS_snoc (s : St) (p : List Int) (b : Int) : runS s (p ++ [b]) = (stepS (runS s p) b).1 := by
  rw [runS_append]; rfl
/-- Is something under way? -/
def St.waits : St → Bool
  | .between => false
  | _ => true

/-- How much events hold. -/
def wt : List Ev → Nat
  | [] => 0
  | e :: l => 1 + e.data.length + wt l
theorem wt_append (a b : List Ev) : wt (a ++ b) = wt a + wt b := by
  induction a with
  | nil => simp [wt]
  | cons e a ih => simp only [List.cons_append, wt, ih]; omega
theorem wt_length (l : List Ev) : l.length ≤ wt l := by
  induction l with
  | nil => exact Nat.le_refl _
  | cons e l ih => simp only [List.length_cons, wt]; omega
theorem wt_mem {l : List Ev} {e : Ev} (h : e ∈ l) : e.data.length < wt l := by
  induction l with
  | nil => cases h
  | cons f l ih =>
    simp only [wt]
    rcases List.mem_cons.1 h with rfl | h
    · omega
    · have := ih h; omega
theorem wt_addD (l : List Ev) (p : List Int) : wt (addD l p) ≤ wt l + 1 + p.length := by
  by_cases hp : p = []
  · subst hp; rw [addD_nil]; simp
  rcases snoc_cases l with rfl | ⟨l', e, rfl⟩
  · rw [addD_empty hp]; simp [wt, dat]
  · rw [addD_snoc _ _ hp]
    by_cases he : e.kind = 0
    · rw [if_pos he]; simp [wt_append, wt]; omega
    · rw [if_neg he]; simp [wt_append, wt, dat]; omega
theorem wt_mstep (l : List Ev) (e : Ev) : wt (mstep l e) ≤ wt l + 1 + e.data.length := by
  unfold mstep
  split
  · exact wt_addD l e.data
  · simp [wt_append, wt]; omega
theorem wt_fold (b X : List Ev) : wt (b.foldl mstep X) ≤ wt X + wt b := by
  induction b generalizing X with
  | nil => simp [wt]
  | cons e b ih =>
    have h1 := ih (mstep X e)
    have h2 := wt_mstep X e
    simp only [List.foldl_cons, wt]; omega
theorem wt_merge (b : List Ev) : wt (mergeL b) ≤ wt b := by
  have := wt_fold b []
  simpa [wt, mergeL] using this
/-- What a state holds. -/
def St.wt : St → Nat
  | .sub _ d _ => d.length
  | .subIac _ d _ => d.length
  | _ => 0
theorem wt_keepS (o : Int) (d : List Int) (l : Bool) (b : Int) : (keepS o d l b).wt ≤ d.length + 1 := by
  unfold keepS
  split <;> simp [St.wt]
theorem wt_iacS (b : Int) : YtdbjjieoohfckaaDoor.wt (iacS b).2 + (iacS b).1.wt ≤ 2 := by
  unfold iacS
  repeat' split
  all_goals simp [YtdbjjieoohfckaaDoor.wt, St.wt, dat]
theorem wt_stepS (s : St) (b : Int) : YtdbjjieoohfckaaDoor.wt (stepS s b).2 + (stepS s b).1.wt ≤ s.wt + 3 := by
  cases s with
  | between => simp only [stepS]; split <;> simp [YtdbjjieoohfckaaDoor.wt, St.wt, dat]
  | iac => have := wt_iacS b; simp only [stepS, St.wt] at this ⊢; omega
  | verb v => simp [stepS, YtdbjjieoohfckaaDoor.wt, St.wt]
  | sb => simp [stepS, YtdbjjieoohfckaaDoor.wt, St.wt]
  | sub o d l =>
    have := wt_keepS o d l b
    simp only [stepS]
    split
    · simp [YtdbjjieoohfckaaDoor.wt, St.wt]
    · simp only [YtdbjjieoohfckaaDoor.wt, St.wt] at this ⊢; omega
  | subIac o d l =>
    have h1 := wt_keepS o d l b
    have h2 := wt_iacS b
    simp only [stepS]
    split
    · simp only [YtdbjjieoohfckaaDoor.wt, St.wt] at h1 ⊢; omega
    · split
      · simp [YtdbjjieoohfckaaDoor.wt, St.wt]; omega
      · simp only [YtdbjjieoohfckaaDoor.wt, St.wt] at h2 ⊢; omega
theorem wt_emit (s : St) (p : List Int) : YtdbjjieoohfckaaDoor.wt (emit s p) + (runS s p).wt ≤ s.wt + 3 * p.length := by
  induction p generalizing s with
  | nil => simp [emit, runS, YtdbjjieoohfckaaDoor.wt]
  | cons b p ih =>
    have h1 := ih (stepS s b).1
    have h2 := wt_stepS s b
    simp only [emit, runS, wt_append, List.length_cons]; omega
end Go.Proofs.YtdbjjieoohfckaaDoor
