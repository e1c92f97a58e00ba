/-
  The places ahead of an attribute are of one field; what Delete, Insert and End leave alone.
  What Insert and Delete do to the characters of a row: there and back.
  FieldModifies: the walk.
  What was erased once isn't changed by erasing it again (pure).
  End, the marks, and Unprotected once more (pure).
  The marks, and Unprotected, once more (pure).
  The reference's Span, Repeat, Range. | The reference's Repeat, Range.
  The reference's Unprotected.
-/
import Derived.Test.YtdampfngdnicoaaDoorGc
namespace Go.Proofs.YtdampfngdnicoaaDoor
open Go.RowKit Go.Lib Go.Deep

theorem stF_step {P : Nat → Bool} {N x : Nat} (hx : x < N) (h : P ((x + 1) % N) = false) : stF P N ((x + 1) % N) = stF P N x := by
  by_cases e : x + 1 < N
  · rw [Nat.mod_eq_of_lt e] at h ⊢
    unfold stF
    have q : lastP P (x + 1 + 1) = lastP P (x + 1) := by
      conv => lhs; unfold lastP
      rw [if_neg (by rw [h]; simp)]
    rw [q]
  · have e2 : x + 1 = N := by omega
    rw [e2, Nat.mod_self] at h ⊢
    unfold stF
    have q : lastP P (0 + 1) = -1 := by
      unfold lastP
      rw [if_neg (by rw [h]; simp)]
      rfl
    rw [q, if_neg (by omega), e2]
    split <;> rfl
def FitC (s : Spc) : Prop := ∀ i, i < s.L.length → fit (s.cel i) = s.cel i
end Go.Proofs.YtdampfngdnicoaaDoor
namespace Go.Proofs.YtdampfngdnicoaaDoor
open Go.RowKit Go.Lib Go.Deep

theorem fit_ch {c : Cel} (h : c.at_ = false) : (fit c).ch = c.ch := by
  unfold fit
  rw [if_neg (by rw [h]; simp)]
theorem putC_ch {t : Spc} {m : Int} {p : Nat} (hm : t.wr m = p) (hp : t.P p = false) (hl : p < t.L.length) (x : Int) (i : Nat) : ((t.putC m x).cel i).ch = if i = p then x else (t.cel i).ch := by
  have ha : (t.atC m).at_ = false := by unfold Spc.atC; rw [hm]; exact hp
  unfold Spc.putC
  rw [if_neg (by rw [ha]; simp)]
  unfold Spc.setC
  rw [Spc.put1_cel, hm]
  by_cases hi : i = p
  · rw [if_pos ⟨hi, hl⟩, if_pos hi]
    exact fit_ch (c := { t.atC m with ch := x }) ha
  · rw [if_neg (fun q => hi q.1), if_neg hi]
theorem mkS_alike (s : Spc) (a : Nat) (m : Bool) : Alike s (mkS s a m) := ⟨mkS_len s a m, rfl, rfl, funext fun i => mkS_at s a i m⟩
theorem Alike.trans {s t u : Spc} (h : Alike s t) (q : Alike t u) : Alike s u := ⟨q.len.trans h.len, q.r.trans h.r, q.c.trans h.c, q.P.trans h.P⟩
end Go.Proofs.YtdampfngdnicoaaDoor
namespace Go.Proofs.YtdampfngdnicoaaDoor
open Go.RowKit Go.Lib Go.Deep

theorem mkS_other (s : Spc) {a i : Nat} (m : Bool) (h : i ≠ a) : (mkS s a m).cel i = s.cel i := by
  unfold mkS
  rw [Spc.put1_cel, if_neg (fun q => h q.1)]
end Go.Proofs.YtdampfngdnicoaaDoor
namespace Go.Proofs.YtdampfngdnicoaaDoor
open Go.RowKit Go.Lib Go.Deep

theorem put1_same {t : Spc} {i : Nat} {c : Cel} (h : i < t.L.length → t.cel i = c) : t.put1 i c = t := by
  unfold Spc.put1
  have e : t.L.set i c = t.L := by
    by_cases hi : i < t.L.length
    · have q := h hi
      unfold Spc.cel at q
      rw [List.getD_eq_getElem?_getD, List.getElem?_eq_getElem hi] at q
      subst q
      exact List.set_getElem_self hi
    · exact List.set_eq_of_length_le (by omega)
  rw [e]
theorem setC_same {t : Spc} {x : Nat} {c : Cel} (hx : x < t.L.length) (h : t.cel x = fit c) : t.setC (x : Int) c = t := by
  unfold Spc.setC
  rw [wr_nat hx]
  exact put1_same fun _ => h
theorem putC_same {t : Spc} {x : Nat} (hx : x < t.L.length) (hf : FitC t) (h : t.P x = true ∨ (t.cel x).ch = 0) : t.putC (x : Int) 0 = t := by
  unfold Spc.putC
  have e : t.atC (x : Int) = t.cel x := by unfold Spc.atC; rw [wr_nat hx]
  rw [e]
  split
  · rfl
  · rename_i hn
    have h0 : (t.cel x).ch = 0 := by
      rcases h with h | h
      · exact absurd h hn
      · exact h
    have ec : ({ t.cel x with ch := 0 } : Cel) = t.cel x := by
      generalize t.cel x = c at h0
      obtain ⟨c0, c1, c2, c3, c4, c5⟩ := c
      dsimp only at h0
      subst h0
      rfl
    rw [ec]
    exact setC_same hx (hf x hx).symm
/-- Range, once more. -/
theorem putC_other {t : Spc} {x i : Nat} (hx : x < t.L.length) (h : i ≠ x) (v : Int) : (t.putC (x : Int) v).cel i = t.cel i := by
  unfold Spc.putC
  split
  · rfl
  · unfold Spc.setC
    rw [Spc.put1_cel, wr_nat hx, if_neg (fun q => h q.1)]
theorem putC_zero {t : Spc} {x i : Nat} (hx : x < t.L.length) (h : (t.cel i).ch = 0) : ((t.putC (x : Int) 0).cel i).ch = 0 := by
  by_cases hp : t.P x = true
  · have e : t.putC (x : Int) 0 = t := by
      unfold Spc.putC
      have ea : t.atC (x : Int) = t.cel x := by unfold Spc.atC; rw [wr_nat hx]
      rw [ea, if_pos (show (t.cel x).at_ = true from hp)]
    rw [e]; exact h
  · rw [putC_ch (p := x) (wr_nat hx) (by simpa using hp) hx]
    split
    · rfl
    · exact h
theorem fit_put {c : Cel} (ha : c.at_ = false) (x : Int) : fit (fit { c with ch := x }) = fit { c with ch := x } := by
  obtain ⟨c0, c1, c2, c3, c4, c5⟩ := c
  dsimp only at ha
  subst ha
  unfold fit
  simp
theorem FitC.put {t : Spc} (h : FitC t) {x : Nat} (hx : x < t.L.length) (v : Int) : FitC (t.putC (x : Int) v) := fun i hi => by
  rw [putC_len] at hi
  by_cases e : i = x
  · subst e
    unfold Spc.putC
    have ea : t.atC (i : Int) = t.cel i := by unfold Spc.atC; rw [wr_nat hx]
    rw [ea]
    split
    · exact h i hi
    · rename_i hn
      unfold Spc.setC
      rw [Spc.put1_cel, wr_nat hx, if_pos ⟨rfl, hx⟩]
      exact fit_put (by simpa using hn) v
  · rw [putC_other hx e]
    exact h i hi
theorem rngR_fit {s : Spc} {l : List Nat} (hl : ∀ x ∈ l, x < s.L.length) (f0 : Bool) (hf : FitC s) : ∀ k, k ≤ l.length → FitC (rngR s l f0 k)
  | 0, _ => hf
  | k + 1, h => by
    have hg : l.getD k 0 ∈ l := by rw [List.getD_eq_getElem?_getD, List.getElem?_eq_getElem h]; exact List.getElem_mem h
    show FitC (if _ then _ else _)
    split
    · exact rngR_fit hl f0 hf k (by omega)
    · exact (rngR_fit hl f0 hf k (by omega)).put (by rw [(rngR_alike s l f0 k).len]; exact hl _ hg) 0
theorem rngR_zero {s : Spc} {l : List Nat} (hl : ∀ x ∈ l, x < s.L.length) (f0 : Bool) : ∀ k, k ≤ l.length → ∀ j, j < k → flR s l f0 (j + 1) = false → s.P (l.getD j 0) = true ∨ ((rngR s l f0 k).cel (l.getD j 0)).ch = 0
  | 0, _, j, hj, _ => absurd hj (Nat.not_lt_zero j)
  | k + 1, h, j, hj, hf => by
    have hal := rngR_alike s l f0 k
    have hg : l.getD k 0 ∈ l := by rw [List.getD_eq_getElem?_getD, List.getElem?_eq_getElem h]; exact List.getElem_mem h
    have hgl := hl _ hg
    by_cases e : j = k
    · subst e
      by_cases hp : s.P (l.getD j 0) = true
      · exact .inl hp
      · right
        show ((if flR s l f0 (j + 1) then _ else (rngR s l f0 j).putC (l.getD j 0 : Nat) 0 : Spc).cel _).ch = 0
        rw [hf, if_neg (by simp), putC_ch (p := l.getD j 0) ((hal.wr _).trans (wr_nat hgl)) (by rw [hal.P]; simpa using hp) (by rw [hal.len]; exact hgl), if_pos rfl]
    · rcases rngR_zero hl f0 k (by omega) j (by omega) hf with q | q
      · exact .inl q
      · right
        show ((if _ then _ else (rngR s l f0 k).putC (l.getD k 0 : Nat) 0 : Spc).cel _).ch = 0
        split
        · exact q
        · exact putC_zero (by rw [hal.len]; exact hgl) q
/-- Alike, and the attributes are protected alike. -/
structure Prots (s t : Spc) : Prop where
  al : Alike s t
  pr : ∀ i, s.P i = true → (t.cel i).prot = (s.cel i).prot
theorem Prots.fl0 {s t : Spc} (h : Prots s t) (hok : s.OK) (p : Int) : fl0 t p = fl0 s p := by
  unfold YtdampfngdnicoaaDoor.fl0 protF
  rw [h.al.P, h.al.len, h.al.wr]
  rcases stF_bd s.P (hok.wr_lt p) with e | ⟨a, ha, hp, e⟩
  · rw [e]; rfl
  · rw [e, if_neg (by omega), if_neg (by omega), Int.toNat_natCast]
    exact h.pr a hp
theorem Prots.flR {s t : Spc} (h : Prots s t) (l : List Nat) (f0 : Bool) : ∀ k, flR t l f0 k = flR s l f0 k
  | 0 => rfl
  | k + 1 => by
    show (if t.P (l.getD k 0) then _ else _) = if s.P (l.getD k 0) then _ else _
    rw [h.al.P, h.flR l f0 k]
    split
    · rename_i hp
      exact h.pr _ hp
    · rfl
theorem spS_alike {s t : Spc} (h : Alike s t) (p q : Int) : spS t p q = spS s p q := by
  unfold spS
  rw [h.wr, h.len, h.r, h.c]
/-- Nothing is left to null. -/
theorem rng_same {s v : Spc} (hok : s.OK) (hP : Prots s v) (hf : FitC v) (p q : Int)
    (hz : ∀ j, j < (spS s p q).length → flR s (spS s p q) (fl0 s p) (j + 1) = false → s.P ((spS s p q).getD j 0) = true ∨ (v.cel ((spS s p q).getD j 0)).ch = 0) : rngS v p q = v := by
  unfold rngS
  rw [spS_alike hP.al, hP.fl0 hok]
  have key : ∀ k, k ≤ (spS s p q).length → rngR v (spS s p q) (fl0 s p) k = v := fun k => by
    induction k with
    | zero => intro _; rfl
    | succ k ih =>
      intro hk
      show (if flR v (spS s p q) (fl0 s p) (k + 1) then _ else (rngR v (spS s p q) (fl0 s p) k).putC _ 0) = _
      rw [ih (by omega), hP.flR]
      have hm : (spS s p q).getD k 0 ∈ spS s p q := by rw [List.getD_eq_getElem?_getD, List.getElem?_eq_getElem hk]; exact List.getElem_mem hk
      split
      · rfl
      · rename_i hn
        refine putC_same (by rw [hP.al.len]; exact spS_lt hok hm) hf ?_
        rw [hP.al.P]
        exact hz k hk (by simpa using hn)
  exact key _ (Nat.le_refl _)
theorem rng_prots (s : Spc) (p q : Int) : Prots s (rngS s p q) := ⟨rngR_alike s _ _ _, fun i hi => by rw [show rngS s p q = rngR s _ _ _ from rfl, rngR_attr _ _ hi]⟩
theorem rng_fit {s : Spc} (hok : s.OK) (hf : FitC s) (p q : Int) : FitC (rngS s p q) := rngR_fit (fun _ hx => spS_lt hok hx) _ hf _ (Nat.le_refl _)
theorem rng_zero {s : Spc} (hok : s.OK) (p q : Int) : ∀ j, j < (spS s p q).length → flR s (spS s p q) (fl0 s p) (j + 1) = false → s.P ((spS s p q).getD j 0) = true ∨ ((rngS s p q).cel ((spS s p q).getD j 0)).ch = 0 :=
  fun j hj hf => rngR_zero (fun _ hx => spS_lt hok hx) _ _ (Nat.le_refl _) j hj hf
end Go.Proofs.YtdampfngdnicoaaDoor
namespace Go.Proofs.YtdampfngdnicoaaDoor
open Go.RowKit Go.Lib Go.Deep

theorem mkmk_tab : ∀ k : Nat, k < 256 → (sixB (markB (sixB (markB k true)) true) = sixB (markB k true) ∧ sixB (markB (sixB (markB k true)) false) = sixB (markB k false)) ∧ (sixB (markB (sixB (markB k false)) true) = sixB (markB k true) ∧ sixB (markB (sixB (markB k false)) false) = sixB (markB k false)) ∧ (ofP (sixB (markB k true)).toNat = ofP k ∧ ofP (sixB (markB k false)).toNat = ofP k) ∧ (ofM (sixB (markB k true)).toNat = true ∧ ofM (sixB (markB k false)).toNat = false) ∧ (sixB (sixB (markB k true)) = sixB (markB k true) ∧ sixB (sixB (markB k false)) = sixB (markB k false)) := by decide +kernel
/-- A marked cell. -/
def mkF (c : Cel) (m : Bool) : Cel := fit (c.mk1 m)
theorem mkF_at (c : Cel) (m : Bool) : (mkF c m).at_ = c.at_ := by
  unfold mkF fit
  show (if c.at_ = true then _ else _ : Cel).at_ = _
  split
  · rfl
  · rfl
theorem mkF_mk {c : Cel} (h : c.OK) (ha : c.at_ = true) (a b : Bool) : mkF (mkF c a) b = mkF c b := by
  obtain ⟨k, hk, e⟩ := u8_nat h.fa
  obtain ⟨⟨t1, t2⟩, ⟨t3, t4⟩, -, -, -⟩ := mkmk_tab k hk
  obtain ⟨c0, c1, c2, c3, c4, c5⟩ := c
  dsimp only at e ha
  subst e ha
  cases a <;> cases b <;> simp only [mkF, fit, Cel.mk1, if_true, t1, t2, t3, t4]
theorem mkF_prot {c : Cel} (h : c.OK) (ha : c.at_ = true) (a : Bool) : (mkF c a).prot = c.prot := by
  obtain ⟨k, hk, e⟩ := u8_nat h.fa
  obtain ⟨-, -, ⟨t1, t2⟩, -, -⟩ := mkmk_tab k hk
  obtain ⟨c0, c1, c2, c3, c4, c5⟩ := c
  dsimp only at e ha
  subst e ha
  cases a
  · simp only [mkF, fit, Cel.mk1, Cel.prot, if_true, t2, Int.toNat_natCast]
  · simp only [mkF, fit, Cel.mk1, Cel.prot, if_true, t1, Int.toNat_natCast]
theorem mkF_modi {c : Cel} (h : c.OK) (ha : c.at_ = true) (a : Bool) : (mkF c a).modi = a := by
  obtain ⟨k, hk, e⟩ := u8_nat h.fa
  obtain ⟨-, -, -, ⟨t1, t2⟩, -⟩ := mkmk_tab k hk
  obtain ⟨c0, c1, c2, c3, c4, c5⟩ := c
  dsimp only at e ha
  subst e ha
  cases a
  · simp only [mkF, fit, Cel.mk1, Cel.modi, if_true, t2]
  · simp only [mkF, fit, Cel.mk1, Cel.modi, if_true, t1]
theorem mkF_fit {c : Cel} (h : c.OK) (ha : c.at_ = true) (a : Bool) : fit (mkF c a) = mkF c a := by
  obtain ⟨k, hk, e⟩ := u8_nat h.fa
  obtain ⟨-, -, -, -, t1, t2⟩ := mkmk_tab k hk
  obtain ⟨c0, c1, c2, c3, c4, c5⟩ := c
  dsimp only at e ha
  subst e ha
  cases a
  · simp only [mkF, fit, Cel.mk1, if_true, t2]
  · simp only [mkF, fit, Cel.mk1, if_true, t1]
theorem mkS_self {s : Spc} {a : Nat} (ha : a < s.L.length) (m : Bool) : (mkS s a m).cel a = mkF (s.cel a) m := by
  unfold mkS
  rw [Spc.put1_cel, if_pos ⟨rfl, ha⟩]
  rfl
theorem FitC.mark {s : Spc} (hf : FitC s) {a : Nat} (ha : a < s.L.length) (hc : (s.cel a).OK) (hp : s.P a = true) (m : Bool) : FitC (mkS s a m) := fun i hi => by
  rw [mkS_len] at hi
  by_cases e : i = a
  · subst e
    rw [mkS_self ha]
    exact mkF_fit hc hp m
  · rw [mkS_other s m e]
    exact hf i hi
end Go.Proofs.YtdampfngdnicoaaDoor
namespace Go.Proofs.YtdampfngdnicoaaDoor
open Go.RowKit Go.Lib Go.Deep

theorem spc_ext {s t : Spc} (h1 : t.mo = s.mo) (h2 : t.alt = s.alt) (h3 : t.cu = s.cu) (h4 : t.ex = s.ex) (h5 : t.L.length = s.L.length) (h6 : ∀ i, i < s.L.length → t.cel i = s.cel i) : t = s := by
  have e : t.L = s.L := by
    refine List.ext_getElem h5 fun i h h' => ?_
    have q := h6 i h'
    unfold Spc.cel at q
    rw [List.getD_eq_getElem?_getD, List.getD_eq_getElem?_getD, List.getElem?_eq_getElem h, List.getElem?_eq_getElem h'] at q
    exact q
  obtain ⟨m, a, L, c, x⟩ := s
  obtain ⟨m', a', L', c', x'⟩ := t
  dsimp only at h1 h2 h3 h4 e
  subst h1 h2 h3 h4 e
  rfl
/-- All but the cells is the same. -/
structure SameHd (s t : Spc) : Prop where
  al : Alike s t
  mo : t.mo = s.mo
  alt : t.alt = s.alt
  cu : t.cu = s.cu
  ex : t.ex = s.ex
theorem SameHd.refl (s : Spc) : SameHd s s := ⟨Alike.refl s, rfl, rfl, rfl, rfl⟩
theorem SameHd.mark {s t : Spc} (h : SameHd s t) (a : Nat) (m : Bool) : SameHd s (mkS t a m) := ⟨h.al.trans (mkS_alike t a m), h.mo, h.alt, h.cu, h.ex⟩
theorem SameHd.mod {s t : Spc} (h : SameHd s t) (n : Int) : SameHd s (modS t n) := by
  unfold modS
  split
  · exact h
  · exact h.mark _ _
theorem unS_hd (s : Spc) : ∀ k, SameHd s (unS s k)
  | 0 => SameHd.refl s
  | k + 1 => (unS_hd s k).mark _ _
theorem moR_hd (s : Spc) (l : List Nat) : ∀ k, SameHd s (moR s l k)
  | 0 => SameHd.refl s
  | k + 1 => (moR_hd s l k).mod _
theorem SameHd.trans {s t u : Spc} (h : SameHd s t) (k : SameHd t u) : SameHd s u := ⟨h.al.trans k.al, k.mo.trans h.mo, k.alt.trans h.alt, k.cu.trans h.cu, k.ex.trans h.ex⟩
theorem unm_hd (s : Spc) : SameHd s (unmS s) := (unS_hd s _).trans (moR_hd _ _ _)
theorem unS_cel {s : Spc} (hok : s.OK) : ∀ k, k ≤ s.A.length → ∀ i, ((∃ j, j < k ∧ s.A[j]? = some i) → (unS s k).cel i = mkF (s.cel i) false) ∧ ((¬ ∃ j, j < k ∧ s.A[j]? = some i) → (unS s k).cel i = s.cel i)
  | 0, _, i => ⟨fun ⟨j, hj, _⟩ => absurd hj (Nat.not_lt_zero j), fun _ => rfl⟩
  | k + 1, h, i => by
    obtain ⟨i1, i2⟩ := unS_cel hok k (by omega) i
    have hk : k < s.A.length := h
    have hg : s.A.getD k 0 = s.A[k] := by rw [List.getD_eq_getElem?_getD, List.getElem?_eq_getElem hk]; rfl
    obtain ⟨h1, h2⟩ := attP_mem (P := s.P) (N := s.L.length) (List.getElem_mem hk)
    have e0 : unS s (k + 1) = mkS (unS s k) s.A[k] false := by show mkS (unS s k) (s.A.getD k 0) false = _; rw [hg]
    rw [e0]
    by_cases e : i = s.A[k]
    · subst e
      refine ⟨fun _ => ?_, fun q => absurd ⟨k, by omega, List.getElem?_eq_getElem hk⟩ q⟩
      rw [mkS_self (by rw [unS_len]; exact h1)]
      by_cases q : ∃ j, j < k ∧ s.A[j]? = some s.A[k]
      · rw [i1 q]
        exact mkF_mk (hok.cel _) h2 false false
      · rw [i2 q]
    · rw [mkS_other _ false e]
      have hj : (∃ j, j < k + 1 ∧ s.A[j]? = some i) ↔ ∃ j, j < k ∧ s.A[j]? = some i := ⟨fun ⟨j, hj, q⟩ => ⟨j, by
        by_cases e2 : j = k
        · rw [e2, List.getElem?_eq_getElem hk] at q
          injection q with q
          exact absurd q.symm e
        · omega, q⟩, fun ⟨j, hj, q⟩ => ⟨j, by omega, q⟩⟩
      exact ⟨fun q => i1 (hj.1 q), fun q => i2 (fun r => q (hj.2 r))⟩
theorem modS_at {s : Spc} {x : Nat} (hx : x < s.L.length) (hp : s.P x = true) : modS s (x : Int) = mkS s x true := by
  unfold modS
  rw [wr_nat hx, stF_self (by omega) hp, if_neg (by omega), Int.toNat_natCast]
theorem moR_cel {s : Spc} (hok : s.OK) {l : List Nat} (hl : ∀ x ∈ l, x < s.L.length ∧ s.P x = true) : ∀ k, k ≤ l.length → ∀ i, ((∃ j, j < k ∧ l[j]? = some i) → (moR s l k).cel i = mkF (s.cel i) true) ∧ ((¬ ∃ j, j < k ∧ l[j]? = some i) → (moR s l k).cel i = s.cel i)
  | 0, _, i => ⟨fun ⟨j, hj, _⟩ => absurd hj (Nat.not_lt_zero j), fun _ => rfl⟩
  | k + 1, h, i => by
    obtain ⟨i1, i2⟩ := moR_cel hok hl k (by omega) i
    have hk : k < l.length := h
    have hg : l.getD k 0 = l[k] := by rw [List.getD_eq_getElem?_getD, List.getElem?_eq_getElem hk]; rfl
    obtain ⟨h1, h2⟩ := hl _ (List.getElem_mem hk)
    have hal := (moR_hd s l k).al
    have e0 : moR s l (k + 1) = mkS (moR s l k) l[k] true := by
      show modS (moR s l k) (l.getD k 0 : Nat) = _
      rw [hg]
      exact modS_at (by rw [hal.len]; exact h1) (by rw [hal.P]; exact h2)
    rw [e0]
    by_cases e : i = l[k]
    · subst e
      refine ⟨fun _ => ?_, fun q => absurd ⟨k, by omega, List.getElem?_eq_getElem hk⟩ q⟩
      rw [mkS_self (by rw [hal.len]; exact h1)]
      by_cases q : ∃ j, j < k ∧ l[j]? = some l[k]
      · rw [i1 q]
        exact mkF_mk (hok.cel _) h2 true true
      · rw [i2 q]
    · rw [mkS_other _ true e]
      have hj : (∃ j, j < k + 1 ∧ l[j]? = some i) ↔ ∃ j, j < k ∧ l[j]? = some i := ⟨fun ⟨j, hj, q⟩ => ⟨j, by
        by_cases e2 : j = k
        · rw [e2, List.getElem?_eq_getElem hk] at q
          injection q with q
          exact absurd q.symm e
        · omega, q⟩, fun ⟨j, hj, q⟩ => ⟨j, by omega, q⟩⟩
      exact ⟨fun q => i1 (hj.1 q), fun q => i2 (fun r => q (hj.2 r))⟩
theorem at_mem {l : List Nat} {i : Nat} : (∃ j, j < l.length ∧ l[j]? = some i) ↔ i ∈ l := by
  constructor
  · rintro ⟨j, hj, e⟩
    exact List.mem_of_getElem? e
  · intro h
    obtain ⟨j, hj, e⟩ := List.mem_iff_getElem.1 h
    exact ⟨j, hj, by rw [List.getElem?_eq_getElem hj, e]⟩
theorem mem_A {s : Spc} {i : Nat} : i ∈ s.A ↔ i < s.L.length ∧ s.P i = true := by
  unfold Spc.A attP
  rw [List.mem_filter, List.mem_range]
theorem mem_kp {s : Spc} {i : Nat} : i ∈ kpS s ↔ (i < s.L.length ∧ s.P i = true) ∧ (s.cel i).modi = true ∧ (s.cel i).prot = true := by
  unfold kpS kpL mdS
  rw [List.take_length, List.mem_filter, List.mem_filter, mem_A]
  constructor
  · rintro ⟨⟨h1, h2⟩, h3⟩; exact ⟨h1, h2, h3⟩
  · rintro ⟨h1, h2, h3⟩; exact ⟨⟨h1, h2⟩, h3⟩
/-- What the marks are. -/
theorem unm_cel {s : Spc} (hok : s.OK) (i : Nat) : (i < s.L.length ∧ s.P i = true → (unmS s).cel i = mkF (s.cel i) ((s.cel i).modi && (s.cel i).prot)) ∧ (¬ (i < s.L.length ∧ s.P i = true) → (unmS s).cel i = s.cel i) := by
  have hu := unS_hd s s.A.length
  have huc := unS_cel hok s.A.length (Nat.le_refl _) i
  rw [at_mem, mem_A] at huc
  have hmc := moR_cel (unS_ok hok s.A.length) (l := kpS s) (fun x hx => by
    obtain ⟨⟨h1, h2⟩, -⟩ := mem_kp.1 hx
    exact ⟨by rw [hu.al.len]; exact h1, by rw [hu.al.P]; exact h2⟩) (kpS s).length (Nat.le_refl _) i
  rw [at_mem, mem_kp] at hmc
  refine ⟨fun h => ?_, fun h => ?_⟩
  · cases hb : ((s.cel i).modi && (s.cel i).prot)
    · have q := hmc.2 (fun ⟨_, q1, q2⟩ => by rw [q1, q2] at hb; cases hb)
      exact q.trans (huc.1 h)
    · rw [Bool.and_eq_true] at hb
      have q := hmc.1 ⟨h, hb⟩
      refine q.trans ?_
      rw [huc.1 h]
      exact mkF_mk (hok.cel i) h.2 false true
  · exact (hmc.2 (fun q => h q.1)).trans (huc.2 h)
theorem unm_ok {s : Spc} (hok : s.OK) : (unmS s).OK := by
  have h : ∀ k, (moR (unS s s.A.length) (kpS s) k).OK := fun k => by
    induction k with
    | zero => exact unS_ok hok _
    | succ k ih =>
      show (modS _ _).OK
      unfold modS
      split
      · exact ih
      · exact mkS_ok ih _ _
  exact h _
theorem unm_same {v : Spc} (hok : v.OK) (h : ∀ i, i < v.L.length → v.P i = true → v.cel i = mkF (v.cel i) ((v.cel i).modi && (v.cel i).prot)) : unmS v = v := by
  have hd := unm_hd v
  refine spc_ext hd.mo hd.alt hd.cu hd.ex hd.al.len fun i hi => ?_
  obtain ⟨h1, h2⟩ := unm_cel hok i
  by_cases hp : v.P i = true
  · exact (h1 ⟨hi, hp⟩).trans (h i hi hp).symm
  · exact h2 (fun q => hp q.2)
theorem rng_ok {s : Spc} (hok : s.OK) (p q : Int) : (rngS s p q).OK := by
  have h : ∀ k, (rngR s (spS s p q) (fl0 s p) k).OK := fun k => by
    induction k with
    | zero => exact hok
    | succ k ih =>
      show (if _ then _ else _ : Spc).OK
      split
      · exact ih
      · exact ih.putC _ u8_zero
  exact h _
/-- Unprotected, once more. -/
theorem unp_twice {s : Spc} (hok : s.OK) (hf : FitC s) : unpS (unpS s) = unpS s := by
  have htok := rng_ok hok 0 0
  have htf := rng_fit hok hf 0 0
  have htp := rng_prots s 0 0
  have htz := rng_zero hok 0 0
  have huok := unm_ok htok
  have hud := unm_hd (rngS s 0 0)
  have huc := fun i => unm_cel htok i
  -- the marks again
  have hcm : ∀ i, i < (unmS (rngS s 0 0)).L.length → (unmS (rngS s 0 0)).P i = true → (unmS (rngS s 0 0)).cel i = mkF ((unmS (rngS s 0 0)).cel i) (((unmS (rngS s 0 0)).cel i).modi && ((unmS (rngS s 0 0)).cel i).prot) := fun i hi hp => by
    rw [hud.al.len] at hi
    rw [hud.al.P] at hp
    rw [(huc i).1 ⟨hi, hp⟩, mkF_modi (htok.cel i) hp, mkF_prot (htok.cel i) hp, mkF_mk (htok.cel i) hp]
    cases ((rngS s 0 0).cel i).modi <;> cases ((rngS s 0 0).cel i).prot <;> rfl
  -- nothing is left to null
  have hvp : Prots s (unmS (rngS s 0 0)) := ⟨htp.al.trans hud.al, fun i hi => by
    have hpt : (rngS s 0 0).P i = true := by rw [htp.al.P]; exact hi
    rw [← htp.pr i hi]
    by_cases hil : i < (rngS s 0 0).L.length
    · rw [(huc i).1 ⟨hil, hpt⟩]
      exact mkF_prot (htok.cel i) hpt _
    · rw [(huc i).2 (fun q => hil q.1)]⟩
  have hvf : FitC (unmS (rngS s 0 0)) := fun i hi => by
    rw [hud.al.len] at hi
    by_cases hp : (rngS s 0 0).P i = true
    · rw [(huc i).1 ⟨hi, hp⟩]
      exact mkF_fit (htok.cel i) hp _
    · rw [(huc i).2 (fun q => hp q.2)]
      exact htf i hi
  have hvz : ∀ j, j < (spS s 0 0).length → flR s (spS s 0 0) (fl0 s 0) (j + 1) = false → s.P ((spS s 0 0).getD j 0) = true ∨ ((unmS (rngS s 0 0)).cel ((spS s 0 0).getD j 0)).ch = 0 := fun j hj hfl => by
    rcases htz j hj hfl with q | q
    · exact .inl q
    · by_cases hp : s.P ((spS s 0 0).getD j 0) = true
      · exact .inl hp
      · right
        rw [(huc _).2 (fun r => hp (by rw [← htp.al.P]; exact r.2))]
        exact q
  unfold unpS
  generalize unmS (rngS s 0 0) = u at huok hcm hvp hvf hvz ⊢
  generalize hz : max (nxZ u) 0 = z
  have h1 : rngS (u.place z) 0 0 = u.place z := rng_same hok (v := u.place z) ⟨⟨hvp.al.len, hvp.al.r, hvp.al.c, hvp.al.P⟩, hvp.pr⟩ hvf 0 0 hvz
  have h2 : unmS (u.place z) = u.place z := unm_same (huok.place z) hcm
  rw [h1, h2, show nxZ (u.place z) = nxZ u from rfl, hz]
  rfl
end Go.Proofs.YtdampfngdnicoaaDoor
namespace Go.Proofs.YtdampfngdnicoaaDoor
open Go.RowKit Go.Lib Go.Deep

section
variable {b g : Nat} {s : Spc}
end
theorem flR_is {s : Spc} (h : s.OK) (p q : Int) : ∀ k, k < (spS s p q).length → flR s (spS s p q) (fl0 s p) (k + 1) = protF s (stF s.P s.L.length ((spS s p q).getD k 0)) := fun k => by
  have hN := h.pos.1
  have hw := h.wr_lt p
  have hget : ∀ j, j < (spS s p q).length → (spS s p q).getD j 0 = (s.wr p + j) % s.L.length := fun j hj => by
    have hj2 : j < (lenZ s.r s.c p q).toNat := by unfold spS at hj; rwa [spN_len] at hj
    unfold spS
    rw [List.getD_eq_getElem?_getD, spN_get hj2]
    rfl
  have hself : ∀ x : Nat, s.P x = true → (s.cel x).prot = protF s (stF s.P s.L.length x) := fun x hx => by
    rw [stF_self hN hx]
    unfold protF
    rw [if_neg (by omega)]
    rfl
  induction k with
  | zero =>
    intro hk
    have e0 := hget 0 hk
    rw [Nat.add_zero, Nat.mod_eq_of_lt hw] at e0
    show (if s.P ((spS s p q).getD 0 0) then (s.cel ((spS s p q).getD 0 0)).prot else fl0 s p) = _
    rw [e0]
    split
    · rename_i hP
      exact hself _ hP
    · rfl
  | succ k ih =>
    intro hk
    have e1 := hget (k + 1) hk
    have e0 := hget k (by omega)
    have hx : (s.wr p + k) % s.L.length < s.L.length := Nat.mod_lt _ hN
    have e2 : ((s.wr p + k) % s.L.length + 1) % s.L.length = (s.wr p + (k + 1)) % s.L.length := by rw [Nat.mod_add_mod, Nat.add_assoc]
    show (if s.P ((spS s p q).getD (k + 1) 0) then (s.cel ((spS s p q).getD (k + 1) 0)).prot else flR s (spS s p q) (fl0 s p) (k + 1)) = _
    rw [ih (by omega), e1, e0]
    split
    · rename_i hP
      exact hself _ hP
    · rename_i hP
      have hP2 : s.P (((s.wr p + k) % s.L.length + 1) % s.L.length) = false := by rw [e2]; simpa using hP
      rw [← e2, stF_step hx hP2]
section
variable {b g : Nat} {s : Spc}
end
end Go.Proofs.YtdampfngdnicoaaDoor
namespace Go.Proofs.YtdampfngdnicoaaDoor
open Go.RowKit Go.Lib Go.Deep

theorem mk_same_tab : ∀ k : Nat, k < 256 → sixB (k : Int) = (k : Int) → sixB (markB (k : Int) (ofM k)) = (k : Int) := by decide +kernel
theorem mkF_same {c : Cel} (h : c.OK) (ha : c.at_ = true) (hf : fit c = c) : mkF c c.modi = c := by
  obtain ⟨k, hk, e⟩ := u8_nat h.fa
  have t := mk_same_tab k hk
  obtain ⟨c0, c1, c2, c3, c4, c5⟩ := c
  dsimp only at e ha
  subst e ha
  unfold fit at hf
  simp only [if_true, Cel.mk.injEq] at hf
  have q := t hf.2.2.1
  show fit _ = _
  unfold fit Cel.mk1 Cel.modi
  simp only [if_true, Int.toNat_natCast, q, Cel.mk.injEq, and_true, true_and]
  exact hf.1
theorem spS_all {s : Spc} (h : s.OK) : (spS s 0 0).length = s.L.length ∧ ∀ k, k < s.L.length → (spS s 0 0).getD k 0 = k := by
  have hp := h.pos
  have e : (lenZ s.r s.c 0 0).toNat = s.L.length := by
    have := h.len
    unfold lenZ
    simp only [Int.sub_self, Int.zero_emod, if_true]
    omega
  have e0 : s.wr 0 = 0 := by unfold Spc.wr; simp
  refine ⟨by unfold spS; rw [spN_len, e], fun k hk => ?_⟩
  unfold spS
  rw [List.getD_eq_getElem?_getD, spN_get (by rw [e]; exact hk), e0, Nat.zero_add, Nat.mod_eq_of_lt hk]
  rfl
section
variable {b g : Nat} {s : Spc}
end
end Go.Proofs.YtdampfngdnicoaaDoor
