/-
  TelnetWrites: events that are said come back: plain lists.
-/
import Derived.Test.YtdbjjieoohfckaaDoorKf
namespace Go.Proofs.YtdbjjieoohfckaaDoor
open Go.RowKit Go.Lib Go.Deep Go.Shelf

/-- An event's bytes. -/
def bytesE (e : Ev) : List Int := if e.kind = 0 then escI e.data else if e.kind = 1 then [255, e.verb] else if e.kind = 2 then [255, e.verb, e.opt] else subL e.opt e.data
/-- An event as the law says it. -/
inductive Norm : Ev → Prop where
  | data (ds : List Int) (h : ds.length ≤ 256) (hb : ∀ x ∈ ds, 0 ≤ x ∧ x < 256) : Norm (dat ds)
  | cmd (v : Int) (h : 241 ≤ v ∧ v ≤ 249) : Norm ⟨1, v, 0, [], false, false⟩
  | opt (v o : Int) (h : 251 ≤ v ∧ v ≤ 254) (ho : 0 ≤ o ∧ o < 256) : Norm ⟨2, v, o, [], false, false⟩
  | sub (o : Int) (ds : List Int) (ho : 0 ≤ o ∧ o < 256) (h : ds.length ≤ 256) (hb : ∀ x ∈ ds, 0 ≤ x ∧ x < 256) : Norm ⟨3, 0, o, ds, false, false⟩
theorem fold_esc : ∀ (ds : List Int) (X : List Ev), runS .between (escI ds) = .between ∧ (emit .between (escI ds)).foldl mstep X = addD X ds
  | [], X => ⟨rfl, (addD_nil X).symm⟩
  | b :: ds, X => by
    have step : runS .between (escI (b :: ds)) = runS .between (escI ds) ∧ emit .between (escI (b :: ds)) = dat [b] :: emit .between (escI ds) := by
      simp only [escI]
      by_cases hb : b = 255
      · subst hb
        rw [if_pos rfl]
        exact ⟨rfl, rfl⟩
      · rw [if_neg hb]
        have hs : stepS .between b = (.between, [dat [b]]) := by simp only [stepS, if_neg hb]
        refine ⟨?_, ?_⟩
        · show runS (stepS .between b).1 _ = _
          rw [hs]
        · show (stepS .between b).2 ++ emit (stepS .between b).1 _ = _
          rw [hs]
          rfl
    obtain ⟨h1, h2⟩ := fold_esc ds (addD X [b])
    refine ⟨step.1.trans h1, ?_⟩
    rw [step.2, List.foldl_cons, mstep_dat _ rfl]
    show (emit .between (escI ds)).foldl mstep (addD X [b]) = _
    rw [h2, addD_addD]
    rfl
theorem norm_said {e : Ev} (h : Norm e) (X : List Ev) : runS .between (bytesE e) = .between ∧ (emit .between (bytesE e)).foldl mstep X = mstep X e := by
  cases h with
  | data ds h hb =>
    have e1 : bytesE (dat ds) = escI ds := rfl
    rw [e1, mstep_dat _ rfl]
    exact fold_esc ds X
  | cmd v h =>
    have e1 : bytesE ⟨1, v, 0, [], false, false⟩ = [255, v] := rfl
    have hs : stepS .iac v = (.between, [⟨1, v, 0, [], false, false⟩]) := by
      simp only [stepS, iacS]
      rw [if_neg (by omega), if_neg (by omega), if_neg (by omega)]
    rw [e1]
    refine ⟨?_, ?_⟩
    · show (stepS .iac v).1 = _
      rw [hs]
    · show ([] ++ ((stepS .iac v).2 ++ [])).foldl mstep X = _
      rw [hs]
      rfl
  | opt v o h ho =>
    have e1 : bytesE ⟨2, v, o, [], false, false⟩ = [255, v, o] := rfl
    have hs : stepS .iac v = (.verb v, []) := by
      simp only [stepS, iacS]
      rw [if_neg (by omega), if_neg (by omega), if_pos (by omega)]
    rw [e1]
    refine ⟨?_, ?_⟩
    · show (stepS (stepS .iac v).1 o).1 = _
      rw [hs]
      rfl
    · show ([] ++ ((stepS .iac v).2 ++ ((stepS (stepS .iac v).1 o).2 ++ []))).foldl mstep X = _
      rw [hs]
      rfl
  | sub o ds ho h hb =>
    have e1 : bytesE ⟨3, 0, o, ds, false, false⟩ = subL o ds := rfl
    obtain ⟨h1, h2⟩ := run_subL o ds
    rw [e1, h1, h2, List.take_of_length_le h, decide_eq_false (by omega)]
    exact ⟨rfl, rfl⟩
theorem norm_bytes {e : Ev} (h : Norm e) : (∀ x ∈ bytesE e, 0 ≤ x ∧ x < 256) ∧ (bytesE e).length ≤ 517 := by
  cases h with
  | data ds h hb =>
    refine ⟨escI_bytes hb, ?_⟩
    show (escI ds).length ≤ 517
    rw [escI_length]
    have : ds.count 255 ≤ ds.length := List.count_le_length
    omega
  | cmd v h =>
    refine ⟨fun x hx => ?_, by show 2 ≤ 517; omega⟩
    have hx' : x ∈ [(255 : Int), v] := hx
    simp only [List.mem_cons, List.not_mem_nil, or_false] at hx'
    rcases hx' with rfl | rfl <;> omega
  | opt v o h ho =>
    refine ⟨fun x hx => ?_, by show 3 ≤ 517; omega⟩
    have hx' : x ∈ [(255 : Int), v, o] := hx
    simp only [List.mem_cons, List.not_mem_nil, or_false] at hx'
    rcases hx' with rfl | rfl | rfl <;> omega
  | sub o ds ho h hb =>
    refine ⟨subL_bytes ho hb, ?_⟩
    show (subL o ds).length ≤ 517
    rw [subL_length]
    have : ds.count 255 ≤ ds.length := List.count_le_length
    omega
def bytesL (es : List Ev) : List Int := es.flatMap bytesE
theorem bytesL_snoc (es : List Ev) (e : Ev) : bytesL (es ++ [e]) = bytesL es ++ bytesE e := by simp [bytesL]
theorem all_said : ∀ (es : List Ev) (X : List Ev), (∀ e ∈ es, Norm e) → runS .between (bytesL es) = .between ∧ (emit .between (bytesL es)).foldl mstep X = es.foldl mstep X
  | [], _, _ => ⟨rfl, rfl⟩
  | e :: es, X, h => by
    obtain ⟨h1, h2⟩ := norm_said (h e (List.mem_cons_self ..)) X
    obtain ⟨h3, h4⟩ := all_said es (mstep X e) (fun x hx => h x (List.mem_cons_of_mem _ hx))
    have e1 : bytesL (e :: es) = bytesE e ++ bytesL es := rfl
    rw [e1, runS_append, emit_append, h1, List.foldl_append, h2]
    exact ⟨h3, h4⟩
theorem said_back {es : List Ev} (h : ∀ e ∈ es, Norm e) : runS .between (bytesL es) = .between ∧ mergeL (emit .between (bytesL es)) = mergeL es := all_said es [] h
theorem bytesL_fit {es : List Ev} (h : ∀ e ∈ es, Norm e) : (∀ x ∈ bytesL es, 0 ≤ x ∧ x < 256) ∧ (bytesL es).length ≤ 517 * es.length := by
  induction es with
  | nil => exact ⟨fun x hx => by (cases hx), Nat.le_refl _⟩
  | cons e es ih =>
    obtain ⟨h1, h2⟩ := norm_bytes (h e (List.mem_cons_self ..))
    obtain ⟨h3, h4⟩ := ih (fun x hx => h x (List.mem_cons_of_mem _ hx))
    have e1 : bytesL (e :: es) = bytesE e ++ bytesL es := rfl
    rw [e1]
    refine ⟨fun x hx => ?_, by rw [List.length_append, List.length_cons]; omega⟩
    rcases List.mem_append.1 hx with hx | hx
    · exact h1 x hx
    · exact h3 x hx
end Go.Proofs.YtdbjjieoohfckaaDoor
