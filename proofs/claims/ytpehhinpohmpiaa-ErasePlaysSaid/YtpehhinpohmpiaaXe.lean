/-
  End, the marks, and Unprotected once more (pure).
-/
import Derived.Test.YtpehhinpohmpiaaXd
namespace Go.Proofs.Ytpehhinpohmpiaa
open Go.RowKit Go.Lib Go.Deep

theorem mkmk_tab : ∀ k : Nat, k < 256 → (sixB (markB (sixB (markB k true)) true) = sixB (markB k true) ∧ sixB (markB (sixB (markB k true)) false) = sixB (markB k false)) ∧ (sixB (markB (sixB (markB k false)) true) = sixB (markB k true) ∧ sixB (markB (sixB (markB k false)) false) = sixB (markB k false)) ∧ (ofP (sixB (markB k true)).toNat = ofP k ∧ ofP (sixB (markB k false)).toNat = ofP k) ∧ (ofM (sixB (markB k true)).toNat = true ∧ ofM (sixB (markB k false)).toNat = false) ∧ (sixB (sixB (markB k true)) = sixB (markB k true) ∧ sixB (sixB (markB k false)) = sixB (markB k false)) := by decide +kernel
/-- A marked cell. -/
def mkF (c : Cel) (m : Bool) : Cel := fit (c.mk1 m)
theorem mkF_at (c : Cel) (m : Bool) : (mkF c m).at_ = c.at_ := by
  unfold mkF fit
  show (if c.at_ = true then _ else _ : Cel).at_ = _
  split
  · rfl
  · rfl
theorem mkF_mk {c : Cel} (h : c.OK) (ha : c.at_ = true) (a b : Bool) : mkF (mkF c a) b = mkF c b := by
  obtain ⟨k, hk, e⟩ := u8_nat h.fa
  obtain ⟨⟨t1, t2⟩, ⟨t3, t4⟩, -, -, -⟩ := mkmk_tab k hk
  obtain ⟨c0, c1, c2, c3, c4, c5⟩ := c
  dsimp only at e ha
  subst e ha
  cases a <;> cases b <;> simp only [mkF, fit, Cel.mk1, if_true, t1, t2, t3, t4]
theorem mkF_prot {c : Cel} (h : c.OK) (ha : c.at_ = true) (a : Bool) : (mkF c a).prot = c.prot := by
  obtain ⟨k, hk, e⟩ := u8_nat h.fa
  obtain ⟨-, -, ⟨t1, t2⟩, -, -⟩ := mkmk_tab k hk
  obtain ⟨c0, c1, c2, c3, c4, c5⟩ := c
  dsimp only at e ha
  subst e ha
  cases a
  · simp only [mkF, fit, Cel.mk1, Cel.prot, if_true, t2, Int.toNat_natCast]
  · simp only [mkF, fit, Cel.mk1, Cel.prot, if_true, t1, Int.toNat_natCast]
theorem mkF_modi {c : Cel} (h : c.OK) (ha : c.at_ = true) (a : Bool) : (mkF c a).modi = a := by
  obtain ⟨k, hk, e⟩ := u8_nat h.fa
  obtain ⟨-, -, -, ⟨t1, t2⟩, -⟩ := mkmk_tab k hk
  obtain ⟨c0, c1, c2, c3, c4, c5⟩ := c
  dsimp only at e ha
  subst e ha
  cases a
  · simp only [mkF, fit, Cel.mk1, Cel.modi, if_true, t2]
  · simp only [mkF, fit, Cel.mk1, Cel.modi, if_true, t1]
theorem mkF_fit {c : Cel} (h : c.OK) (ha : c.at_ = true) (a : Bool) : fit (mkF c a) = mkF c a := by
  obtain ⟨k, hk, e⟩ := u8_nat h.fa
  obtain ⟨-, -, -, -, t1, t2⟩ := mkmk_tab k hk
  obtain ⟨c0, c1, c2, c3, c4, c5⟩ := c
  dsimp only at e ha
  subst e ha
  cases a
  · simp only [mkF, fit, Cel.mk1, if_true, t2]
  · simp only [mkF, fit, Cel.mk1, if_true, t1]
theorem mkS_self {s : Spc} {a : Nat} (ha : a < s.L.length) (m : Bool) : (mkS s a m).cel a = mkF (s.cel a) m := by
  unfold mkS
  rw [Spc.put1_cel, if_pos ⟨rfl, ha⟩]
  rfl
/-- End, once more. -/
theorem clr_same {v : Spc} {l : List Nat} (hl : ∀ x ∈ l, x < v.L.length) (hf : FitC v) (hz : ∀ x ∈ l, (v.cel x).ch = 0) : ∀ k, k ≤ l.length → clrR v l k = v
  | 0, _ => rfl
  | k + 1, h => by
    have hg : l.getD k 0 ∈ l := by rw [List.getD_eq_getElem?_getD, List.getElem?_eq_getElem h]; exact List.getElem_mem h
    show (clrR v l k).putC (l.getD k 0 : Nat) 0 = v
    rw [clr_same hl hf hz k (by omega)]
    exact putC_same (hl _ hg) hf (.inr (hz _ hg))
theorem clrR_fit {s : Spc} {l : List Nat} (hl : ∀ x ∈ l, x < s.L.length) (hf : FitC s) : ∀ k, k ≤ l.length → FitC (clrR s l k)
  | 0, _ => hf
  | k + 1, h => by
    have hg : l.getD k 0 ∈ l := by rw [List.getD_eq_getElem?_getD, List.getElem?_eq_getElem h]; exact List.getElem_mem h
    exact (clrR_fit hl hf k (by omega)).put (by rw [(clrR_alike s l k).len]; exact hl _ hg) 0
theorem FitC.mark {s : Spc} (hf : FitC s) {a : Nat} (ha : a < s.L.length) (hc : (s.cel a).OK) (hp : s.P a = true) (m : Bool) : FitC (mkS s a m) := fun i hi => by
  rw [mkS_len] at hi
  by_cases e : i = a
  · subst e
    rw [mkS_self ha]
    exact mkF_fit hc hp m
  · rw [mkS_other s m e]
    exact hf i hi
theorem restL_alike {s t : Spc} (h : Alike s t) (n q : Int) : restL t n q = restL s n q := by
  unfold restL
  rw [h.P, h.len, h.wr, h.r, h.c]
theorem A_alike {s t : Spc} (h : Alike s t) : t.A = s.A := by
  unfold Spc.A
  rw [h.P, h.len]
theorem endL_alike {s t : Spc} (h : Alike s t) (n : Int) : endL t n = endL s n := by
  unfold endL endT
  rw [A_alike h]
  exact restL_alike h n _
theorem end_twice {s : Spc} (hok : s.OK) (hf : FitC s) (n : Int) : endS (endS s n) n = endS s n := by
  have hal := endS_alike s n
  have hl : ∀ x ∈ endL s n, x < s.L.length ∧ s.P x = false := fun x hx => restL_free hok x hx
  have hcl := clrR_alike s (endL s n) (endL s n).length
  have hcf := clrR_fit (fun x hx => (hl x hx).1) hf (endL s n).length (Nat.le_refl _)
  have hcz : ∀ x ∈ endL s n, ((clrR s (endL s n) (endL s n).length).cel x).ch = 0 := fun x hx => by
    obtain ⟨j, hj, e⟩ := List.mem_iff_getElem.1 hx
    exact clrR_ch hl _ (Nat.le_refl _) x ⟨j, hj, by rw [List.getElem?_eq_getElem hj, e]⟩
  have hca := clrR_attr s (endL s n) (endL s n).length
  have hst : stF (endS s n).P (endS s n).L.length ((endS s n).wr n) = stF s.P s.L.length (s.wr n) := by rw [hal.P, hal.len, hal.wr]
  have hse : endS s n = modS (clrR s (endL s n) (endL s n).length) n := rfl
  -- what is marked and cleared
  have hkey : FitC (endS s n) ∧ (∀ x ∈ endL s n, ((endS s n).cel x).ch = 0) ∧ modS (endS s n) n = endS s n := by
    have hm : stF (clrR s (endL s n) (endL s n).length).P (clrR s (endL s n) (endL s n).length).L.length ((clrR s (endL s n) (endL s n).length).wr n) = stF s.P s.L.length (s.wr n) := by rw [hcl.P, hcl.len, hcl.wr]
    rcases stF_bd s.P (hok.wr_lt n) with e | ⟨a, ha, hp, e⟩
    · have e1 : endS s n = clrR s (endL s n) (endL s n).length := by
        rw [hse]
        unfold modS
        rw [hm, e, if_pos (by decide)]
      refine ⟨by rw [e1]; exact hcf, by rw [e1]; exact hcz, ?_⟩
      unfold modS
      rw [hst, e, if_pos (by decide)]
    · have e1 : endS s n = mkS (clrR s (endL s n) (endL s n).length) a true := by
        rw [hse]
        unfold modS
        rw [hm, e, if_neg (by omega), Int.toNat_natCast]
      have hlen := hcl.len
      have hPc := hcl.P
      have hcc := hca a hp
      refine ⟨by rw [e1]; exact hcf.mark (by rw [hlen]; exact ha) (by rw [hcc]; exact hok.cel a) (by rw [hPc]; exact hp) true, fun x hx => ?_, ?_⟩
      · rw [e1, mkS_other _ true (fun q => by have := (hl x hx).2; rw [q, hp] at this; cases this)]
        exact hcz x hx
      · unfold modS
        rw [hst, e, if_neg (by omega), Int.toNat_natCast]
        unfold mkS
        refine put1_same fun _ => ?_
        rw [e1, mkS_self (by rw [hlen]; exact ha), hcc]
        exact (mkF_mk (hok.cel a) hp true true).symm
  show modS (clrR (endS s n) (endL (endS s n) n) (endL (endS s n) n).length) n = _
  rw [endL_alike hal, clr_same (fun x hx => by rw [hal.len]; exact (hl x hx).1) hkey.1 hkey.2.1 _ (Nat.le_refl _)]
  exact hkey.2.2
theorem openB_prots {s t : Spc} (hok : s.OK) (h : Prots s t) (n : Int) : openB t n = openB s n := by
  have q := h.fl0 hok n
  unfold Ytpehhinpohmpiaa.fl0 at q
  unfold openB
  rw [q]
  have e : (t.atC n).at_ = (s.atC n).at_ := by
    unfold Spc.atC
    rw [h.al.wr]
    exact congrFun h.al.P _
  rw [e]
theorem modS_prots {s : Spc} (hok : s.OK) (n : Int) : Prots s (modS s n) := by
  refine ⟨modS_alike s n, fun i hi => ?_⟩
  unfold modS
  rcases stF_bd s.P (hok.wr_lt n) with e | ⟨a, ha, hp, e⟩
  · rw [e, if_pos (by decide)]
  · rw [e, if_neg (by omega), Int.toNat_natCast]
    by_cases ei : i = a
    · subst ei
      rw [mkS_self ha]
      exact mkF_prot (hok.cel i) hp true
    · rw [mkS_other _ true ei]
theorem clrR_okc {s : Spc} (hok : s.OK) (l : List Nat) : ∀ k, (clrR s l k).OK
  | 0 => hok
  | k + 1 => (clrR_okc hok l k).putC _ u8_zero
theorem end_prots {s : Spc} (hok : s.OK) (n : Int) : Prots s (endS s n) := by
  have h1 := modS_prots (clrR_okc hok (endL s n) (endL s n).length) n
  refine ⟨endS_alike s n, fun i hi => ?_⟩
  have q := h1.pr i (by rw [(clrR_alike s _ _).P]; exact hi)
  rw [clrR_attr s _ _ i hi] at q
  exact q
end Go.Proofs.Ytpehhinpohmpiaa
