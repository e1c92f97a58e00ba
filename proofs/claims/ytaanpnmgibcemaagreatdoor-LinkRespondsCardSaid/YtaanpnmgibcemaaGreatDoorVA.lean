/-
  What a link tells of a stream is the same, however the stream is cut (pure).
-/
import Derived.Test.YtaanpnmgibcemaaGreatDoorVp
namespace Go.Proofs.YtaanpnmgibcemaaGreatDoor
open Go.RowKit Go.Lib

/-- A text without a header. -/
def Evt.tx (e : Evt) : Bool := e.kind == 2 && !e.headed
def txt (p : List Int) : Evt := ⟨2, p, noH, false⟩
/-- One more event, merged. -/
def mrgS (l : List Evt) (e : Evt) : List Evt :=
  if e.tx = false then l ++ [e] else if e.data = [] then l else
    match l.getLast? with
    | none => l ++ [e]
    | some f => if f.tx = true then l.dropLast ++ [txt (f.data ++ e.data)] else l ++ [e]
def mrgE (l : List Evt) : List Evt := l.foldl mrgS []
theorem evt_snoc (l : List Evt) : l = [] ∨ ∃ l' e, l = l' ++ [e] := by
  rcases List.eq_nil_or_concat l with h | ⟨l', e, h⟩
  · exact .inl h
  · exact .inr ⟨l', e, by simpa using h⟩
theorem mrgS_no (l : List Evt) {e : Evt} (h : e.tx = false) : mrgS l e = l ++ [e] := if_pos h
theorem mrgS_nil (l : List Evt) : mrgS l (txt []) = l := by
  unfold mrgS
  rw [if_neg (by simp [Evt.tx, txt]), if_pos (show (txt []).data = [] from rfl)]
theorem mrgS_empty {p : List Int} (h : p ≠ []) : mrgS [] (txt p) = [txt p] := by
  unfold mrgS
  rw [if_neg (by simp [Evt.tx, txt]), if_neg (show ¬ (txt p).data = [] from h)]
  rfl
theorem mrgS_snoc (l : List Evt) (f : Evt) {p : List Int} (h : p ≠ []) : mrgS (l ++ [f]) (txt p) = if f.tx = true then l ++ [txt (f.data ++ p)] else l ++ [f] ++ [txt p] := by
  unfold mrgS
  rw [if_neg (by simp [Evt.tx, txt]), if_neg (show (txt p).data ≠ [] from h)]
  simp [txt]
theorem mrg_txt (l : List Evt) (p q : List Int) : mrgS (mrgS l (txt p)) (txt q) = mrgS l (txt (p ++ q)) := by
  by_cases hp : p = []
  · subst hp; rw [mrgS_nil, List.nil_append]
  by_cases hq : q = []
  · subst hq; rw [mrgS_nil, List.append_nil]
  have hpq : p ++ q ≠ [] := by simp [hp]
  rcases evt_snoc l with rfl | ⟨l', f, rfl⟩
  · rw [mrgS_empty hp, mrgS_empty hpq]
    have := mrgS_snoc [] (txt p) hq
    rw [if_pos (by simp [Evt.tx, txt])] at this
    exact this
  · rw [mrgS_snoc _ _ hp, mrgS_snoc _ _ hpq]
    by_cases hf : f.tx = true
    · rw [if_pos hf, if_pos hf, mrgS_snoc _ _ hq, if_pos (by simp [Evt.tx, txt])]
      simp [txt]
    · rw [if_neg hf, if_neg hf, mrgS_snoc _ _ hq, if_pos (by simp [Evt.tx, txt])]
      rfl

/-- What is done with an event that is told: the count, the link. -/
abbrev Rsp := Nat → Lk → Evt → Nat × Lk
section
variable (c : Cf) (f : Rsp)
def oneC (n : Nat) (k : Lk) (e : Tn.Ev) : Nat × Lk × List Evt :=
  match (procE c k e).2 with
  | none => (n, (procE c k e).1, [])
  | some x => ((f n (procE c k e).1 x).1, (f n (procE c k e).1 x).2, [x])
/-- What elements tell, and what they leave. -/
def runC : Nat → Lk → List Tn.Ev → Nat × Lk × List Evt
  | n, k, [] => (n, k, [])
  | n, k, e :: es => ((runC (oneC c f n k e).1 (oneC c f n k e).2.1 es).1, (runC (oneC c f n k e).1 (oneC c f n k e).2.1 es).2.1, (oneC c f n k e).2.2 ++ (runC (oneC c f n k e).1 (oneC c f n k e).2.1 es).2.2)
theorem runC_append (n : Nat) (k : Lk) (a b : List Tn.Ev) : runC c f n k (a ++ b) = ((runC c f (runC c f n k a).1 (runC c f n k a).2.1 b).1, (runC c f (runC c f n k a).1 (runC c f n k a).2.1 b).2.1, (runC c f n k a).2.2 ++ (runC c f (runC c f n k a).1 (runC c f n k a).2.1 b).2.2) := by
  induction a generalizing n k with
  | nil => rfl
  | cons e a ih =>
    simp only [List.cons_append, runC, ih, List.append_assoc]
end
/-- The same, but for how texts are cut. -/
def Ab (a b : Nat × Lk × List Evt) : Prop := a.1 = b.1 ∧ a.2.1 = b.2.1 ∧ ∀ l, a.2.2.foldl mrgS l = b.2.2.foldl mrgS l
theorem Ab.refl (a : Nat × Lk × List Evt) : Ab a a := ⟨rfl, rfl, fun _ => rfl⟩
theorem Ab.symm {a b : Nat × Lk × List Evt} (h : Ab a b) : Ab b a := ⟨h.1.symm, h.2.1.symm, fun l => (h.2.2 l).symm⟩
theorem Ab.trans {a b d : Nat × Lk × List Evt} (h : Ab a b) (g : Ab b d) : Ab a d := ⟨h.1.trans g.1, h.2.1.trans g.2.1, fun l => (h.2.2 l).trans (g.2.2 l)⟩
theorem Ab.mrg {a b : Nat × Lk × List Evt} (h : Ab a b) : mrgE a.2.2 = mrgE b.2.2 := h.2.2 []
section
variable {c : Cf} {f : Rsp}
theorem Ab.app {n : Nat} {k : Lk} {a a' b b' : List Tn.Ev} (h : Ab (runC c f n k a) (runC c f n k a')) (g : ∀ n k, Ab (runC c f n k b) (runC c f n k b')) : Ab (runC c f n k (a ++ b)) (runC c f n k (a' ++ b')) := by
  rw [runC_append, runC_append]
  obtain ⟨h1, h2, h3⟩ := h
  rw [h1, h2]
  obtain ⟨g1, g2, g3⟩ := g (runC c f n k a').1 (runC c f n k a').2.1
  exact ⟨g1, g2, fun l => by rw [List.foldl_append, List.foldl_append, h3, g3]⟩
/-- An element of data is nothing but that. -/
def DatE (e : Tn.Ev) : Prop := e.kind = 0 → e = Tn.dat e.data
theorem addR_add (rc : List Int) (lg : Bool) (p q : List Int) : addR (addR rc lg p).1 (addR rc lg p).2 q = addR rc lg (p ++ q) := by
  unfold addR
  cases lg
  · by_cases h1 : rc.length + p.length ≤ 8192
    · simp only [Bool.false_eq_true, if_false, if_pos h1]
      by_cases h2 : rc.length + p.length + q.length ≤ 8192
      · rw [if_pos (by rw [List.length_append]; omega), if_pos (by rw [List.length_append]; omega), List.append_assoc]
      · rw [if_neg (by rw [List.length_append]; omega), if_neg (by rw [List.length_append]; omega), List.append_assoc]
    · simp only [Bool.false_eq_true, if_false, if_neg h1, if_true]
      rw [if_neg (by rw [List.length_append]; omega), ← List.append_assoc]
      rw [List.take_append_of_le_length (l₁ := rc ++ p) (by rw [List.length_append]; omega)]
  · rfl
theorem two_dat (hf : ∀ n k p, f n k (txt p) = (n, k)) (n : Nat) (k : Lk) (p q : List Int) : Ab (runC c f n k [Tn.dat p, Tn.dat q]) (runC c f n k [Tn.dat (p ++ q)]) := by
  have h0 : ∀ (k : Lk) (p : List Int), procE c k (Tn.dat p) = if k.mode = 0 then (k, some (txt p)) else ({ k with rc := (addR k.rc k.lg p).1, lg := (addR k.rc k.lg p).2 }, none) := fun k p => if_pos rfl
  by_cases hm : k.mode = 0
  · have h1 : ∀ p, oneC c f n k (Tn.dat p) = (n, k, [txt p]) := fun p => by
      unfold oneC
      rw [h0, if_pos hm]
      simp only [hf]
    simp only [runC, h1]
    exact ⟨rfl, rfl, fun l => by simp only [List.cons_append, List.nil_append, List.foldl_cons, List.foldl_nil]; exact mrg_txt l p q⟩
  · have h1 : ∀ (k : Lk), k.mode ≠ 0 → ∀ p, oneC c f n k (Tn.dat p) = (n, { k with rc := (addR k.rc k.lg p).1, lg := (addR k.rc k.lg p).2 }, []) := fun k hm p => by
      unfold oneC
      rw [h0, if_neg hm]
    have h2 : ({ k with rc := (addR k.rc k.lg p).1, lg := (addR k.rc k.lg p).2 } : Lk).mode ≠ 0 := hm
    simp only [runC, h1 k hm, h1 _ h2]
    refine ⟨rfl, ?_, fun l => rfl⟩
    dsimp only
    rw [addR_add]
/-- Merged elements do the same. -/
theorem run_merge (hf : ∀ n k p, f n k (txt p) = (n, k)) : ∀ (m : Nat) (es : List Tn.Ev), es.length = m → (∀ e ∈ es, DatE e ∧ (e.kind = 0 → e.data ≠ [])) → (∀ e ∈ Tn.mergeL es, DatE e) ∧ ∀ n k, Ab (runC c f n k (Tn.mergeL es)) (runC c f n k es)
  | 0, es, hl, _ => by
    rw [List.length_eq_zero_iff.1 hl]
    exact ⟨fun e he => (by cases he), fun n k => Ab.refl _⟩
  | m + 1, es, hl, h => by
    rcases Tn.snoc_cases es with rfl | ⟨X, e, rfl⟩
    · cases hl
    obtain ⟨i1, i2⟩ := run_merge hf m X (by simpa using hl) (fun e he => h e (List.mem_append.2 (.inl he)))
    obtain ⟨hd, hn⟩ := h e (List.mem_append.2 (.inr (by simp)))
    rw [Tn.mergeL_snoc]
    by_cases h0 : e.kind = 0
    · have hp := hn h0
      rw [Tn.mstep_dat _ h0]
      have he := hd h0
      generalize e.data = p at hp he
      subst he
      have key : (∀ e ∈ Tn.addD (Tn.mergeL X) p, DatE e) ∧ ∀ n k, Ab (runC c f n k (Tn.addD (Tn.mergeL X) p)) (runC c f n k (Tn.mergeL X ++ [Tn.dat p])) := by
        rcases Tn.snoc_cases (Tn.mergeL X) with e1 | ⟨Y, g, e1⟩
        · rw [e1, Tn.addD_empty hp]
          exact ⟨fun e he => (by rw [List.mem_singleton.1 he]; exact fun _ => rfl), fun n k => Ab.refl _⟩
        · rw [e1] at i1 ⊢
          rw [Tn.addD_snoc _ _ hp]
          by_cases hg : g.kind = 0
          · rw [if_pos hg]
            have e2 := i1 g (by simp) hg
            generalize g.data = q at e2
            subst e2
            refine ⟨fun e he => ?_, fun n k => ?_⟩
            · rcases List.mem_append.1 he with he | he
              · exact i1 e (List.mem_append.2 (.inl he))
              · rw [List.mem_singleton.1 he]; exact fun _ => rfl
            · rw [List.append_assoc]
              exact (Ab.refl _).app fun n k => (two_dat hf n k q p).symm
          · rw [if_neg hg]
            refine ⟨fun e he => ?_, fun n k => Ab.refl _⟩
            rcases List.mem_append.1 he with he | he
            · exact i1 e he
            · rw [List.mem_singleton.1 he]; exact fun _ => rfl
      exact ⟨key.1, fun n k => (key.2 n k).trans ((i2 n k).app fun n k => Ab.refl _)⟩
    · rw [Tn.mstep_ev _ h0]
      refine ⟨fun e he => ?_, fun n k => (i2 n k).app fun n k => Ab.refl _⟩
      rcases List.mem_append.1 he with he | he
      · exact i1 e he
      · rw [List.mem_singleton.1 he]; exact hd
theorem iacS_dat (b : Int) : ∀ e ∈ (Tn.iacS b).2, DatE e ∧ (e.kind = 0 → e.data ≠ []) := by
  unfold Tn.iacS
  split
  · exact fun e h => by rw [List.mem_singleton.1 h]; exact ⟨fun _ => rfl, fun _ => (by simp [Tn.dat])⟩
  · split
    · exact fun e h => by cases h
    · split
      · exact fun e h => by cases h
      · exact fun e h => by rw [List.mem_singleton.1 h]; exact ⟨fun q => (by cases q), fun q => (by cases q)⟩
theorem stepS_dat (st : Tn.St) (b : Int) : ∀ e ∈ (Tn.stepS st b).2, DatE e ∧ (e.kind = 0 → e.data ≠ []) := by
  cases st with
  | between =>
    simp only [Tn.stepS]
    split
    · exact fun e h => by cases h
    · exact fun e h => by rw [List.mem_singleton.1 h]; exact ⟨fun _ => rfl, fun _ => (by simp [Tn.dat])⟩
  | iac => exact iacS_dat b
  | verb v => exact fun e h => by rw [List.mem_singleton.1 h]; exact ⟨fun q => (by cases q), fun q => (by cases q)⟩
  | sb => exact fun e h => by cases h
  | sub o d l =>
    simp only [Tn.stepS]
    split
    · exact fun e h => by cases h
    · exact fun e h => by cases h
  | subIac o d l =>
    simp only [Tn.stepS]
    split
    · exact fun e h => by cases h
    · split
      · exact fun e h => by rw [List.mem_singleton.1 h]; exact ⟨fun q => (by cases q), fun q => (by cases q)⟩
      · intro e h
        rcases List.mem_cons.1 h with rfl | h
        · exact ⟨fun q => (by cases q), fun q => (by cases q)⟩
        · exact iacS_dat b e h
theorem emit_dat : ∀ (st : Tn.St) (ps : List Int), ∀ e ∈ Tn.emit st ps, DatE e ∧ (e.kind = 0 → e.data ≠ [])
  | _, [], _, h => by cases h
  | st, b :: ps, e, h => by
    rcases List.mem_append.1 h with q | q
    · exact stepS_dat st b e q
    · exact emit_dat _ ps e q
/-- However a stream's parts are read, they do what its elements do. -/
theorem run_grps (hf : ∀ n k p, f n k (txt p) = (n, k)) {st : Tn.St} {ps : List Int} {es : List Tn.Ev} (h : Grps st ps es) : ∀ n k, Ab (runC c f n k es) (runC c f n k (Tn.emit st ps)) := by
  induction h with
  | nil st => exact fun n k => Ab.refl _
  | @part st ps m es h1 h2 r ih =>
    intro n k
    have e1 : Tn.emit st ps = Tn.emit st (ps.take m) ++ Tn.emit (Tn.runS st (ps.take m)) (ps.drop m) := by
      rw [← Tn.emit_append, List.take_append_drop]
    rw [e1]
    exact ((run_merge hf _ _ rfl (emit_dat st (ps.take m))).2 n k).app ih
end
end Go.Proofs.YtaanpnmgibcemaaGreatDoor
