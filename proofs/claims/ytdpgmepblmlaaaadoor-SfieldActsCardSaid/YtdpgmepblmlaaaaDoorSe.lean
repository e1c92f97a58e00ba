/-
  The field of an act, as the program tells it, is the document's (pure).
-/
import Derived.Test.YtdpgmepblmlaaaaDoorSa
namespace Go.Proofs.YtdpgmepblmlaaaaDoor
open Go.RowKit Go.Lib Go.Deep

theorem cod_again : ∀ j, j < 9 → (actF ⟨1, [0, (codL.getD j (ByteArray.empty, 0, 0)).2.2]⟩).1 ≠ 0 ∨ (actF ⟨1, [0, (codL.getD j (ByteArray.empty, 0, 0)).2.2]⟩).2 = ⟨3, (j : Int), 0, false, 0, [], []⟩ := by decide +kernel
theorem cod_none : (actF ⟨1, [0, 0]⟩).1 ≠ 0 := by decide +kernel
theorem actF_mode (m : Int) : (actF ⟨9, [0, m]⟩).1 ≠ 0 ∨ (actF ⟨9, [0, m]⟩).2 = ⟨5, 0, m, false, 0, [], []⟩ := by
  have e : actF ⟨9, [0, m]⟩ = inP modeM [0, m] := rfl
  rw [e, inP_cons, modeM_cons]
  by_cases h : 2 < m ∨ m < 2 ∧ ([] : List Int) ≠ []
  · rw [if_pos h]
    exact .inl (by decide)
  · rw [if_neg h]
    exact .inr rfl
theorem actF_list (q : Int) (cs : List Int) : (actF ⟨1, [255, 3, q] ++ cs⟩).1 ≠ 0 ∨ (actF ⟨1, [255, 3, q] ++ cs⟩).2 = ⟨2, 0, 0, false, q, cs, []⟩ := by
  have e : actF ⟨1, [255, 3, q] ++ cs⟩ = inP readM (255 :: 3 :: q :: cs) := rfl
  have e2 : readM (3 :: q :: cs) = listM (q :: cs) := rfl
  rw [e, inP_cons, e2, listM_cons]
  by_cases h : q = 0 ∨ q = 64 ∨ q = 128
  · rw [if_pos h]
    exact .inr rfl
  · rw [if_neg h]
    exact .inl (by decide)
theorem actF_out (rs : List Int) : (actF ⟨64, [0] ++ rs⟩).1 ≠ 0 ∨ (actF ⟨64, [0] ++ rs⟩).2 = ⟨9, 0, 0, false, 0, [], rs⟩ := by
  have e : actF ⟨64, [0] ++ rs⟩ = inP outM (0 :: rs) := rfl
  rw [e, inP_cons]
  cases rs with
  | nil => exact .inl (by decide)
  | cons b r =>
    have e2 : outM (b :: r) = (⟨9, 0, 0, false, 0, [], b :: r⟩, outOK b) := rfl
    rw [e2]
    cases outOK b
    · exact .inl (fun q => by cases q)
    · exact .inr rfl
/-- What is told of a field again is the act, but for a mode that is too great. -/
theorem again_is (a : AcD) (hk : ¬ (a.kind < 1 ∨ 9 < a.kind)) (he : (actF (fieldF a)).1 = 0) (h5 : ¬ (a.kind = 5 ∧ (actF (fieldF a)).2.mode ≠ a.mode)) : (actF (fieldF a)).2 = plainF a := by
  obtain ⟨k, cd, md, al, rq, cs, rs⟩ := a
  dsimp only at hk h5
  have hc : k = 1 ∨ k = 2 ∨ k = 3 ∨ k = 4 ∨ k = 5 ∨ k = 6 ∨ k = 7 ∨ k = 8 ∨ k = 9 := by omega
  rcases hc with rfl | rfl | rfl | rfl | rfl | rfl | rfl | rfl | rfl
  · rfl
  · rcases actF_list rq cs with h | h
    · exact absurd he h
    · exact h
  · by_cases hc : 0 ≤ cd ∧ cd < 9
    · obtain ⟨j, rfl⟩ := Int.eq_ofNat_of_zero_le hc.1
      have hj : j < 9 := by omega
      have e : fieldF ⟨3, (j : Int), md, al, rq, cs, rs⟩ = ⟨1, [0, (codL.getD j (ByteArray.empty, 0, 0)).2.2]⟩ := by
        show (⟨1, [0, (ncF (j : Int)).2.2]⟩ : SfD) = _
        rw [ncF_at hj]
      rw [e] at he ⊢
      exact (cod_again j hj).resolve_left (fun q => q he)
    · have e : fieldF ⟨3, cd, md, al, rq, cs, rs⟩ = ⟨1, [0, 0]⟩ := by
        show (⟨1, [0, (ncF cd).2.2]⟩ : SfD) = _
        rw [ncF_no (by omega)]
      rw [e] at he
      exact absurd he cod_none
  · cases al
    · rfl
    · rfl
  · have e : fieldF ⟨5, cd, md, al, rq, cs, rs⟩ = ⟨9, [0, md % 256]⟩ := rfl
    rw [e] at he h5 ⊢
    have q := (actF_mode (md % 256)).resolve_left (fun q => q he)
    rw [q] at h5 ⊢
    have hm : md % 256 = md := Classical.byContradiction (fun n => h5 ⟨rfl, n⟩)
    rw [hm]
    rfl
  · rfl
  · rfl
  · rfl
  · rcases actF_out rs with h | h
    · exact absurd he h
    · exact h
theorem makeF_prog (a : AcD) : makeF a = if a.kind < 1 ∨ 9 < a.kind then (1, sfZ) else if (actF (fieldF a)).1 ≠ 0 ∨ (a.kind = 5 ∧ (actF (fieldF a)).2.mode ≠ a.mode) then (4, sfZ) else (0, fieldF a) := by
  have e : makeF a = if a.kind < 1 ∨ 9 < a.kind then (1, sfZ) else if (actF (fieldF a)).1 ≠ 0 ∨ (actF (fieldF a)).2 ≠ plainF a then (4, sfZ) else (0, fieldF a) := rfl
  rw [e]
  by_cases hk : a.kind < 1 ∨ 9 < a.kind
  · rw [if_pos hk, if_pos hk]
  · rw [if_neg hk, if_neg hk]
    by_cases he : (actF (fieldF a)).1 = 0
    · by_cases h5 : a.kind = 5 ∧ (actF (fieldF a)).2.mode ≠ a.mode
      · rw [if_pos (Or.inr h5 : (actF (fieldF a)).1 ≠ 0 ∨ (a.kind = 5 ∧ (actF (fieldF a)).2.mode ≠ a.mode)), if_pos (show (actF (fieldF a)).1 ≠ 0 ∨ (actF (fieldF a)).2 ≠ plainF a from .inr (fun q => h5.2 (by rw [q]; unfold plainF; simp only [h5.1]; rfl)))]
      · rw [if_neg (show ¬ ((actF (fieldF a)).1 ≠ 0 ∨ (a.kind = 5 ∧ (actF (fieldF a)).2.mode ≠ a.mode)) from fun q => q.elim (fun n => n he) h5), if_neg (show ¬ ((actF (fieldF a)).1 ≠ 0 ∨ (actF (fieldF a)).2 ≠ plainF a) from fun q => q.elim (fun n => n he) (fun n => n (again_is a hk he h5)))]
    · rw [if_pos (show (actF (fieldF a)).1 ≠ 0 ∨ (actF (fieldF a)).2 ≠ plainF a from .inl he), if_pos (show (actF (fieldF a)).1 ≠ 0 ∨ (a.kind = 5 ∧ (actF (fieldF a)).2.mode ≠ a.mode) from .inl he)]
/-- The first error of all. -/
def errL : List AcD → Int
  | [] => 0
  | a :: r => if (makeF a).1 ≠ 0 then (makeF a).1 else errL r
/-- The bytes of fields behind those so far. -/
def recB : List Int → List SfD → Int × List Int
  | acc, [] => (0, acc)
  | acc, f :: r => if (byteF f).1 ≠ 0 ∨ 8192 < acc.length + (byteF f).2.length then (3, []) else recB (acc ++ (byteF f).2) r
def recP (l : List AcD) : Int × List Int := if errL l ≠ 0 then (errL l, []) else recB [243] (l.map (fun a => (makeF a).2))
theorem recL_great : ∀ (l : List AcD) (acc : List Int), (∀ a ∈ l, (byteF (makeF a).2).1 = 0) → 8192 < acc.length → recL acc l = if errL l ≠ 0 then (errL l, []) else (3, [])
  | [], acc, _, h8 => by
    show (if 8192 < acc.length then ((3 : Int), ([] : List Int)) else (0, acc)) = _
    rw [if_pos h8]
    rfl
  | a :: r, acc, hb, h8 => by
    have hb1 := hb a List.mem_cons_self
    rw [recL_cons]
    by_cases h1 : (makeF a).1 ≠ 0
    · have e : errL (a :: r) = (makeF a).1 := if_pos h1
      rw [if_pos h1, e, if_pos h1]
    · have e : errL (a :: r) = errL r := if_neg h1
      rw [if_neg h1, if_neg (fun q => q hb1), e]
      exact recL_great r _ (fun x hx => hb x (List.mem_cons_of_mem _ hx)) (by rw [List.length_append]; omega)
theorem recL_recB : ∀ (l : List AcD) (acc : List Int), (∀ a ∈ l, (byteF (makeF a).2).1 = 0) → acc.length ≤ 8192 → recL acc l = if errL l ≠ 0 then (errL l, []) else recB acc (l.map (fun a => (makeF a).2))
  | [], acc, _, h8 => by
    show (if 8192 < acc.length then ((3 : Int), ([] : List Int)) else (0, acc)) = _
    rw [if_neg (by omega)]
    rfl
  | a :: r, acc, hb, h8 => by
    have hb1 := hb a List.mem_cons_self
    have hr : ∀ x ∈ r, (byteF (makeF x).2).1 = 0 := fun x hx => hb x (List.mem_cons_of_mem _ hx)
    rw [recL_cons]
    by_cases h1 : (makeF a).1 ≠ 0
    · have e : errL (a :: r) = (makeF a).1 := if_pos h1
      rw [if_pos h1, e, if_pos h1]
    · have e : errL (a :: r) = errL r := if_neg h1
      rw [if_neg h1, if_neg (fun q => q hb1), e]
      have e2 : recB acc ((a :: r).map (fun a => (makeF a).2)) = if (byteF (makeF a).2).1 ≠ 0 ∨ 8192 < acc.length + (byteF (makeF a).2).2.length then (3, []) else recB (acc ++ (byteF (makeF a).2).2) (r.map (fun a => (makeF a).2)) := rfl
      rw [e2]
      by_cases hg : 8192 < acc.length + (byteF (makeF a).2).2.length
      · rw [recL_great r _ hr (by rw [List.length_append]; exact hg), if_pos (show (byteF (makeF a).2).1 ≠ 0 ∨ 8192 < acc.length + (byteF (makeF a).2).2.length from .inr hg)]
      · rw [recL_recB r _ hr (by rw [List.length_append]; omega), if_neg (show ¬ ((byteF (makeF a).2).1 ≠ 0 ∨ 8192 < acc.length + (byteF (makeF a).2).2.length) from fun q => q.elim (fun n => n hb1) hg)]
theorem recP_is (l : List AcD) (hb : ∀ a ∈ l, (byteF (makeF a).2).1 = 0) : recP l = recL [243] l := (recL_recB l [243] hb (by decide)).symm
theorem makeF_told {a : AcD} (h : (makeF a).1 = 0) : actF (makeF a).2 = (0, plainF a) := by
  have e : makeF a = if a.kind < 1 ∨ 9 < a.kind then (1, sfZ) else if (actF (fieldF a)).1 ≠ 0 ∨ (actF (fieldF a)).2 ≠ plainF a then (4, sfZ) else (0, fieldF a) := rfl
  rw [e] at h ⊢
  by_cases hk : a.kind < 1 ∨ 9 < a.kind
  · rw [if_pos hk] at h
    cases h
  · rw [if_neg hk] at h ⊢
    by_cases he : (actF (fieldF a)).1 ≠ 0 ∨ (actF (fieldF a)).2 ≠ plainF a
    · rw [if_pos he] at h
      cases h
    · rw [if_neg he]
      show actF (fieldF a) = _
      exact Prod.ext (Classical.byContradiction (fun n => he (.inl n))) (Classical.byContradiction (fun n => he (.inr n)))
/-- A record that is told: its fields. -/
theorem recL_flds : ∀ (ds : List AcD) (acc b : List Int), recL acc ds = (0, b) → ∃ Z : List Int, b = acc ++ Z ∧ b.length ≤ 8192 ∧ sfA Z = (ds.map (fun a => (makeF a).2), 0) ∧ ∀ a ∈ ds, (makeF a).1 = 0
  | [], acc, b, h => by
    have h : (if 8192 < acc.length then ((3 : Int), []) else (0, acc)) = (0, b) := h
    by_cases h8 : 8192 < acc.length
    · rw [if_pos h8] at h
      exact absurd (Prod.mk.inj h).1 (by decide)
    · rw [if_neg h8] at h
      exact ⟨[], by rw [List.append_nil]; exact (Prod.mk.inj h).2.symm, by rw [← (Prod.mk.inj h).2]; omega, sfA_nil, fun _ q => by cases q⟩
  | a :: ds, acc, b, h => by
    rw [recL_cons] at h
    by_cases h1 : (makeF a).1 ≠ 0
    · rw [if_pos h1] at h
      exact absurd (Prod.mk.inj h).1 h1
    rw [if_neg h1] at h
    by_cases h2 : (byteF (makeF a).2).1 ≠ 0
    · rw [if_pos h2] at h
      exact absurd (Prod.mk.inj h).1 h2
    rw [if_neg h2] at h
    obtain ⟨Z, e2, e3, e4, e5⟩ := recL_flds ds _ _ h
    refine ⟨(byteF (makeF a).2).2 ++ Z, by rw [e2, List.append_assoc], e3, ?_, fun x hx => ?_⟩
    · have h8 : ¬ 8192 < 3 + (makeF a).2.data.length := fun q => h2 (by rw [byteF_long q]; exact (by decide : (3 : Int) ≠ 0))
      rw [sfA_front h8, e4]
      rfl
    · rcases List.mem_cons.1 hx with q | q
      · rw [q]
        exact Classical.byContradiction h1
      · exact e5 x q
theorem actL_make : ∀ ds : List AcD, (∀ a ∈ ds, (makeF a).1 = 0) → actL (ds.map (fun a => (makeF a).2)) = (ds.map plainF, 0)
  | [], _ => rfl
  | a :: r, h => by
    have e := makeF_told (h a List.mem_cons_self)
    have q := actL_make r (fun x hx => h x (List.mem_cons_of_mem _ hx))
    show (if (actF (makeF a).2).1 = 0 then ((actF (makeF a).2).2 :: (actL (r.map (fun a => (makeF a).2))).1, (actL (r.map (fun a => (makeF a).2))).2) else ([], (actF (makeF a).2).1)) = _
    rw [e, q]
    rfl
theorem recL_acts {ds : List AcD} {b : List Int} (h : recL [243] ds = (0, b)) : ∃ Z : List Int, b = [243] ++ Z ∧ b.length ≤ 8192 ∧ actsF Z = (ds.map plainF, 0) := by
  obtain ⟨Z, e1, e2, e3, e4⟩ := recL_flds ds _ _ h
  refine ⟨Z, e1, e2, ?_⟩
  unfold actsF
  rw [e3]
  dsimp only
  rw [actL_make ds e4]
  rfl
end Go.Proofs.YtdpgmepblmlaaaaDoor
