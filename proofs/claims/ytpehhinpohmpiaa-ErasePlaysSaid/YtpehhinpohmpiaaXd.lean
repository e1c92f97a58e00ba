/-
  What was erased once isn't changed by erasing it again (pure).
-/
import Derived.Test.YtpehhinpohmpiaaXc
import Derived.Test.YtpehhinpohmpiaaEs
namespace Go.Proofs.Ytpehhinpohmpiaa
open Go.RowKit Go.Lib Go.Deep

theorem put1_same {t : Spc} {i : Nat} {c : Cel} (h : i < t.L.length → t.cel i = c) : t.put1 i c = t := by
  unfold Spc.put1
  have e : t.L.set i c = t.L := by
    by_cases hi : i < t.L.length
    · have q := h hi
      unfold Spc.cel at q
      rw [List.getD_eq_getElem?_getD, List.getElem?_eq_getElem hi] at q
      subst q
      exact List.set_getElem_self hi
    · exact List.set_eq_of_length_le (by omega)
  rw [e]
theorem setC_same {t : Spc} {x : Nat} {c : Cel} (hx : x < t.L.length) (h : t.cel x = fit c) : t.setC (x : Int) c = t := by
  unfold Spc.setC
  rw [wr_nat hx]
  exact put1_same fun _ => h
theorem putC_same {t : Spc} {x : Nat} (hx : x < t.L.length) (hf : FitC t) (h : t.P x = true ∨ (t.cel x).ch = 0) : t.putC (x : Int) 0 = t := by
  unfold Spc.putC
  have e : t.atC (x : Int) = t.cel x := by unfold Spc.atC; rw [wr_nat hx]
  rw [e]
  split
  · rfl
  · rename_i hn
    have h0 : (t.cel x).ch = 0 := by
      rcases h with h | h
      · exact absurd h hn
      · exact h
    have ec : ({ t.cel x with ch := 0 } : Cel) = t.cel x := by
      generalize t.cel x = c at h0
      obtain ⟨c0, c1, c2, c3, c4, c5⟩ := c
      dsimp only at h0
      subst h0
      rfl
    rw [ec]
    exact setC_same hx (hf x hx).symm
/-- Repeat, once more. -/
theorem repR_cel {s : Spc} {l : List Nat} (hl : ∀ x ∈ l, x < s.L.length) (c : Cel) : ∀ k, k ≤ l.length → ∀ i, (∃ j, j < k ∧ l[j]? = some i) → (repR s l c k).cel i = fit c
  | 0, _, _, ⟨j, hj, _⟩ => absurd hj (Nat.not_lt_zero j)
  | k + 1, h, i, ⟨j, hj, hi⟩ => by
    have hsz := repR_sz s l c k
    have hk : k < l.length := h
    have hg : l.getD k 0 = l[k] := by rw [List.getD_eq_getElem?_getD, List.getElem?_eq_getElem hk]; rfl
    have h1 := hl l[k] (List.getElem_mem hk)
    show ((repR s l c k).setC (l.getD k 0 : Nat) c).cel i = fit c
    unfold Spc.setC
    rw [hg, Spc.put1_cel, wr_nat (by rw [hsz.len]; exact h1)]
    by_cases e : i = l[k]
    · rw [if_pos ⟨e, by rw [hsz.len]; exact h1⟩]
    · rw [if_neg (fun q => e q.1)]
      refine repR_cel hl c k (by omega) i ⟨j, ?_, hi⟩
      by_cases e2 : j = k
      · rw [e2, List.getElem?_eq_getElem hk] at hi
        injection hi with hi
        exact absurd hi.symm e
      · omega
theorem spS_sz {s t : Spc} (h : SameSz s t) (p q : Int) : spS t p q = spS s p q := by
  unfold spS Spc.wr
  rw [h.len, h.r, h.c]
theorem rep_twice {s : Spc} (hok : s.OK) (p q : Int) (c : Cel) : repS (repS s p q c) p q c = repS s p q c := by
  have hsz : SameSz s (repS s p q c) := repR_sz s _ c _
  have hl := fun x (hx : x ∈ spS s p q) => spS_lt hok hx
  have hc : ∀ x ∈ spS s p q, (repS s p q c).cel x = fit c := fun x hx => by
    obtain ⟨j, hj, e⟩ := List.mem_iff_getElem.1 hx
    exact repR_cel hl c _ (Nat.le_refl _) x ⟨j, hj, by rw [List.getElem?_eq_getElem hj, e]⟩
  have key : ∀ k, k ≤ (spS s p q).length → repR (repS s p q c) (spS s p q) c k = repS s p q c := fun k => by
    induction k with
    | zero => intro _; rfl
    | succ k ih =>
      intro hk
      show (repR (repS s p q c) (spS s p q) c k).setC _ c = _
      rw [ih (by omega)]
      have hm : (spS s p q).getD k 0 ∈ spS s p q := by rw [List.getD_eq_getElem?_getD, List.getElem?_eq_getElem hk]; exact List.getElem_mem hk
      exact setC_same (by rw [hsz.len]; exact hl _ hm) (hc _ hm)
  show repR (repS s p q c) (spS (repS s p q c) p q) c (spS (repS s p q c) p q).length = _
  rw [spS_sz hsz]
  exact key _ (Nat.le_refl _)
/-- Range, once more. -/
theorem putC_other {t : Spc} {x i : Nat} (hx : x < t.L.length) (h : i ≠ x) (v : Int) : (t.putC (x : Int) v).cel i = t.cel i := by
  unfold Spc.putC
  split
  · rfl
  · unfold Spc.setC
    rw [Spc.put1_cel, wr_nat hx, if_neg (fun q => h q.1)]
theorem putC_zero {t : Spc} {x i : Nat} (hx : x < t.L.length) (h : (t.cel i).ch = 0) : ((t.putC (x : Int) 0).cel i).ch = 0 := by
  by_cases hp : t.P x = true
  · have e : t.putC (x : Int) 0 = t := by
      unfold Spc.putC
      have ea : t.atC (x : Int) = t.cel x := by unfold Spc.atC; rw [wr_nat hx]
      rw [ea, if_pos (show (t.cel x).at_ = true from hp)]
    rw [e]; exact h
  · rw [putC_ch (p := x) (wr_nat hx) (by simpa using hp) hx]
    split
    · rfl
    · exact h
theorem fit_put {c : Cel} (ha : c.at_ = false) (x : Int) : fit (fit { c with ch := x }) = fit { c with ch := x } := by
  obtain ⟨c0, c1, c2, c3, c4, c5⟩ := c
  dsimp only at ha
  subst ha
  unfold fit
  simp
theorem FitC.put {t : Spc} (h : FitC t) {x : Nat} (hx : x < t.L.length) (v : Int) : FitC (t.putC (x : Int) v) := fun i hi => by
  rw [putC_len] at hi
  by_cases e : i = x
  · subst e
    unfold Spc.putC
    have ea : t.atC (i : Int) = t.cel i := by unfold Spc.atC; rw [wr_nat hx]
    rw [ea]
    split
    · exact h i hi
    · rename_i hn
      unfold Spc.setC
      rw [Spc.put1_cel, wr_nat hx, if_pos ⟨rfl, hx⟩]
      exact fit_put (by simpa using hn) v
  · rw [putC_other hx e]
    exact h i hi
theorem rngR_fit {s : Spc} {l : List Nat} (hl : ∀ x ∈ l, x < s.L.length) (f0 : Bool) (hf : FitC s) : ∀ k, k ≤ l.length → FitC (rngR s l f0 k)
  | 0, _ => hf
  | k + 1, h => by
    have hg : l.getD k 0 ∈ l := by rw [List.getD_eq_getElem?_getD, List.getElem?_eq_getElem h]; exact List.getElem_mem h
    show FitC (if _ then _ else _)
    split
    · exact rngR_fit hl f0 hf k (by omega)
    · exact (rngR_fit hl f0 hf k (by omega)).put (by rw [(rngR_alike s l f0 k).len]; exact hl _ hg) 0
theorem rngR_zero {s : Spc} {l : List Nat} (hl : ∀ x ∈ l, x < s.L.length) (f0 : Bool) : ∀ k, k ≤ l.length → ∀ j, j < k → flR s l f0 (j + 1) = false → s.P (l.getD j 0) = true ∨ ((rngR s l f0 k).cel (l.getD j 0)).ch = 0
  | 0, _, j, hj, _ => absurd hj (Nat.not_lt_zero j)
  | k + 1, h, j, hj, hf => by
    have hal := rngR_alike s l f0 k
    have hg : l.getD k 0 ∈ l := by rw [List.getD_eq_getElem?_getD, List.getElem?_eq_getElem h]; exact List.getElem_mem h
    have hgl := hl _ hg
    by_cases e : j = k
    · subst e
      by_cases hp : s.P (l.getD j 0) = true
      · exact .inl hp
      · right
        show ((if flR s l f0 (j + 1) then _ else (rngR s l f0 j).putC (l.getD j 0 : Nat) 0 : Spc).cel _).ch = 0
        rw [hf, if_neg (by simp), putC_ch (p := l.getD j 0) ((hal.wr _).trans (wr_nat hgl)) (by rw [hal.P]; simpa using hp) (by rw [hal.len]; exact hgl), if_pos rfl]
    · rcases rngR_zero hl f0 k (by omega) j (by omega) hf with q | q
      · exact .inl q
      · right
        show ((if _ then _ else (rngR s l f0 k).putC (l.getD k 0 : Nat) 0 : Spc).cel _).ch = 0
        split
        · exact q
        · exact putC_zero (by rw [hal.len]; exact hgl) q
/-- Alike, and the attributes are protected alike. -/
structure Prots (s t : Spc) : Prop where
  al : Alike s t
  pr : ∀ i, s.P i = true → (t.cel i).prot = (s.cel i).prot
theorem Prots.fl0 {s t : Spc} (h : Prots s t) (hok : s.OK) (p : Int) : fl0 t p = fl0 s p := by
  unfold Ytpehhinpohmpiaa.fl0 protF
  rw [h.al.P, h.al.len, h.al.wr]
  rcases stF_bd s.P (hok.wr_lt p) with e | ⟨a, ha, hp, e⟩
  · rw [e]; rfl
  · rw [e, if_neg (by omega), if_neg (by omega), Int.toNat_natCast]
    exact h.pr a hp
theorem Prots.flR {s t : Spc} (h : Prots s t) (l : List Nat) (f0 : Bool) : ∀ k, flR t l f0 k = flR s l f0 k
  | 0 => rfl
  | k + 1 => by
    show (if t.P (l.getD k 0) then _ else _) = if s.P (l.getD k 0) then _ else _
    rw [h.al.P, h.flR l f0 k]
    split
    · rename_i hp
      exact h.pr _ hp
    · rfl
theorem spS_alike {s t : Spc} (h : Alike s t) (p q : Int) : spS t p q = spS s p q := by
  unfold spS
  rw [h.wr, h.len, h.r, h.c]
/-- Nothing is left to null. -/
theorem rng_same {s v : Spc} (hok : s.OK) (hP : Prots s v) (hf : FitC v) (p q : Int)
    (hz : ∀ j, j < (spS s p q).length → flR s (spS s p q) (fl0 s p) (j + 1) = false → s.P ((spS s p q).getD j 0) = true ∨ (v.cel ((spS s p q).getD j 0)).ch = 0) : rngS v p q = v := by
  unfold rngS
  rw [spS_alike hP.al, hP.fl0 hok]
  have key : ∀ k, k ≤ (spS s p q).length → rngR v (spS s p q) (fl0 s p) k = v := fun k => by
    induction k with
    | zero => intro _; rfl
    | succ k ih =>
      intro hk
      show (if flR v (spS s p q) (fl0 s p) (k + 1) then _ else (rngR v (spS s p q) (fl0 s p) k).putC _ 0) = _
      rw [ih (by omega), hP.flR]
      have hm : (spS s p q).getD k 0 ∈ spS s p q := by rw [List.getD_eq_getElem?_getD, List.getElem?_eq_getElem hk]; exact List.getElem_mem hk
      split
      · rfl
      · rename_i hn
        refine putC_same (by rw [hP.al.len]; exact spS_lt hok hm) hf ?_
        rw [hP.al.P]
        exact hz k hk (by simpa using hn)
  exact key _ (Nat.le_refl _)
theorem rng_prots (s : Spc) (p q : Int) : Prots s (rngS s p q) := ⟨rngR_alike s _ _ _, fun i hi => by rw [show rngS s p q = rngR s _ _ _ from rfl, rngR_attr _ _ hi]⟩
theorem rng_fit {s : Spc} (hok : s.OK) (hf : FitC s) (p q : Int) : FitC (rngS s p q) := rngR_fit (fun _ hx => spS_lt hok hx) _ hf _ (Nat.le_refl _)
theorem rng_zero {s : Spc} (hok : s.OK) (p q : Int) : ∀ j, j < (spS s p q).length → flR s (spS s p q) (fl0 s p) (j + 1) = false → s.P ((spS s p q).getD j 0) = true ∨ ((rngS s p q).cel ((spS s p q).getD j 0)).ch = 0 :=
  fun j hj hf => rngR_zero (fun _ hx => spS_lt hok hx) _ _ (Nat.le_refl _) j hj hf
theorem rng_twice {s : Spc} (hok : s.OK) (hf : FitC s) (p q : Int) : rngS (rngS s p q) p q = rngS s p q :=
  rng_same hok (rng_prots s p q) (rng_fit hok hf p q) p q (rng_zero hok p q)
end Go.Proofs.Ytpehhinpohmpiaa
