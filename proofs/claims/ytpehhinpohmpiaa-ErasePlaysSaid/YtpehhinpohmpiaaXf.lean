/-
  The marks, and Unprotected, once more (pure).
-/
import Derived.Test.YtpehhinpohmpiaaXe
namespace Go.Proofs.Ytpehhinpohmpiaa
open Go.RowKit Go.Lib Go.Deep

theorem spc_ext {s t : Spc} (h1 : t.mo = s.mo) (h2 : t.alt = s.alt) (h3 : t.cu = s.cu) (h4 : t.ex = s.ex) (h5 : t.L.length = s.L.length) (h6 : ∀ i, i < s.L.length → t.cel i = s.cel i) : t = s := by
  have e : t.L = s.L := by
    refine List.ext_getElem h5 fun i h h' => ?_
    have q := h6 i h'
    unfold Spc.cel at q
    rw [List.getD_eq_getElem?_getD, List.getD_eq_getElem?_getD, List.getElem?_eq_getElem h, List.getElem?_eq_getElem h'] at q
    exact q
  obtain ⟨m, a, L, c, x⟩ := s
  obtain ⟨m', a', L', c', x'⟩ := t
  dsimp only at h1 h2 h3 h4 e
  subst h1 h2 h3 h4 e
  rfl
/-- All but the cells is the same. -/
structure SameHd (s t : Spc) : Prop where
  al : Alike s t
  mo : t.mo = s.mo
  alt : t.alt = s.alt
  cu : t.cu = s.cu
  ex : t.ex = s.ex
theorem SameHd.refl (s : Spc) : SameHd s s := ⟨Alike.refl s, rfl, rfl, rfl, rfl⟩
theorem SameHd.mark {s t : Spc} (h : SameHd s t) (a : Nat) (m : Bool) : SameHd s (mkS t a m) := ⟨h.al.trans (mkS_alike t a m), h.mo, h.alt, h.cu, h.ex⟩
theorem SameHd.mod {s t : Spc} (h : SameHd s t) (n : Int) : SameHd s (modS t n) := by
  unfold modS
  split
  · exact h
  · exact h.mark _ _
theorem unS_hd (s : Spc) : ∀ k, SameHd s (unS s k)
  | 0 => SameHd.refl s
  | k + 1 => (unS_hd s k).mark _ _
theorem moR_hd (s : Spc) (l : List Nat) : ∀ k, SameHd s (moR s l k)
  | 0 => SameHd.refl s
  | k + 1 => (moR_hd s l k).mod _
theorem SameHd.trans {s t u : Spc} (h : SameHd s t) (k : SameHd t u) : SameHd s u := ⟨h.al.trans k.al, k.mo.trans h.mo, k.alt.trans h.alt, k.cu.trans h.cu, k.ex.trans h.ex⟩
theorem unm_hd (s : Spc) : SameHd s (unmS s) := (unS_hd s _).trans (moR_hd _ _ _)
theorem unS_cel {s : Spc} (hok : s.OK) : ∀ k, k ≤ s.A.length → ∀ i, ((∃ j, j < k ∧ s.A[j]? = some i) → (unS s k).cel i = mkF (s.cel i) false) ∧ ((¬ ∃ j, j < k ∧ s.A[j]? = some i) → (unS s k).cel i = s.cel i)
  | 0, _, i => ⟨fun ⟨j, hj, _⟩ => absurd hj (Nat.not_lt_zero j), fun _ => rfl⟩
  | k + 1, h, i => by
    obtain ⟨i1, i2⟩ := unS_cel hok k (by omega) i
    have hk : k < s.A.length := h
    have hg : s.A.getD k 0 = s.A[k] := by rw [List.getD_eq_getElem?_getD, List.getElem?_eq_getElem hk]; rfl
    obtain ⟨h1, h2⟩ := attP_mem (P := s.P) (N := s.L.length) (List.getElem_mem hk)
    have e0 : unS s (k + 1) = mkS (unS s k) s.A[k] false := by show mkS (unS s k) (s.A.getD k 0) false = _; rw [hg]
    rw [e0]
    by_cases e : i = s.A[k]
    · subst e
      refine ⟨fun _ => ?_, fun q => absurd ⟨k, by omega, List.getElem?_eq_getElem hk⟩ q⟩
      rw [mkS_self (by rw [unS_len]; exact h1)]
      by_cases q : ∃ j, j < k ∧ s.A[j]? = some s.A[k]
      · rw [i1 q]
        exact mkF_mk (hok.cel _) h2 false false
      · rw [i2 q]
    · rw [mkS_other _ false e]
      have hj : (∃ j, j < k + 1 ∧ s.A[j]? = some i) ↔ ∃ j, j < k ∧ s.A[j]? = some i := ⟨fun ⟨j, hj, q⟩ => ⟨j, by
        by_cases e2 : j = k
        · rw [e2, List.getElem?_eq_getElem hk] at q
          injection q with q
          exact absurd q.symm e
        · omega, q⟩, fun ⟨j, hj, q⟩ => ⟨j, by omega, q⟩⟩
      exact ⟨fun q => i1 (hj.1 q), fun q => i2 (fun r => q (hj.2 r))⟩
theorem modS_at {s : Spc} {x : Nat} (hx : x < s.L.length) (hp : s.P x = true) : modS s (x : Int) = mkS s x true := by
  unfold modS
  rw [wr_nat hx, stF_self (by omega) hp, if_neg (by omega), Int.toNat_natCast]
theorem moR_cel {s : Spc} (hok : s.OK) {l : List Nat} (hl : ∀ x ∈ l, x < s.L.length ∧ s.P x = true) : ∀ k, k ≤ l.length → ∀ i, ((∃ j, j < k ∧ l[j]? = some i) → (moR s l k).cel i = mkF (s.cel i) true) ∧ ((¬ ∃ j, j < k ∧ l[j]? = some i) → (moR s l k).cel i = s.cel i)
  | 0, _, i => ⟨fun ⟨j, hj, _⟩ => absurd hj (Nat.not_lt_zero j), fun _ => rfl⟩
  | k + 1, h, i => by
    obtain ⟨i1, i2⟩ := moR_cel hok hl k (by omega) i
    have hk : k < l.length := h
    have hg : l.getD k 0 = l[k] := by rw [List.getD_eq_getElem?_getD, List.getElem?_eq_getElem hk]; rfl
    obtain ⟨h1, h2⟩ := hl _ (List.getElem_mem hk)
    have hal := (moR_hd s l k).al
    have e0 : moR s l (k + 1) = mkS (moR s l k) l[k] true := by
      show modS (moR s l k) (l.getD k 0 : Nat) = _
      rw [hg]
      exact modS_at (by rw [hal.len]; exact h1) (by rw [hal.P]; exact h2)
    rw [e0]
    by_cases e : i = l[k]
    · subst e
      refine ⟨fun _ => ?_, fun q => absurd ⟨k, by omega, List.getElem?_eq_getElem hk⟩ q⟩
      rw [mkS_self (by rw [hal.len]; exact h1)]
      by_cases q : ∃ j, j < k ∧ l[j]? = some l[k]
      · rw [i1 q]
        exact mkF_mk (hok.cel _) h2 true true
      · rw [i2 q]
    · rw [mkS_other _ true e]
      have hj : (∃ j, j < k + 1 ∧ l[j]? = some i) ↔ ∃ j, j < k ∧ l[j]? = some i := ⟨fun ⟨j, hj, q⟩ => ⟨j, by
        by_cases e2 : j = k
        · rw [e2, List.getElem?_eq_getElem hk] at q
          injection q with q
          exact absurd q.symm e
        · omega, q⟩, fun ⟨j, hj, q⟩ => ⟨j, by omega, q⟩⟩
      exact ⟨fun q => i1 (hj.1 q), fun q => i2 (fun r => q (hj.2 r))⟩
theorem at_mem {l : List Nat} {i : Nat} : (∃ j, j < l.length ∧ l[j]? = some i) ↔ i ∈ l := by
  constructor
  · rintro ⟨j, hj, e⟩
    exact List.mem_of_getElem? e
  · intro h
    obtain ⟨j, hj, e⟩ := List.mem_iff_getElem.1 h
    exact ⟨j, hj, by rw [List.getElem?_eq_getElem hj, e]⟩
theorem mem_A {s : Spc} {i : Nat} : i ∈ s.A ↔ i < s.L.length ∧ s.P i = true := by
  unfold Spc.A attP
  rw [List.mem_filter, List.mem_range]
theorem mem_kp {s : Spc} {i : Nat} : i ∈ kpS s ↔ (i < s.L.length ∧ s.P i = true) ∧ (s.cel i).modi = true ∧ (s.cel i).prot = true := by
  unfold kpS kpL mdS
  rw [List.take_length, List.mem_filter, List.mem_filter, mem_A]
  constructor
  · rintro ⟨⟨h1, h2⟩, h3⟩; exact ⟨h1, h2, h3⟩
  · rintro ⟨h1, h2, h3⟩; exact ⟨⟨h1, h2⟩, h3⟩
/-- What the marks are. -/
theorem unm_cel {s : Spc} (hok : s.OK) (i : Nat) : (i < s.L.length ∧ s.P i = true → (unmS s).cel i = mkF (s.cel i) ((s.cel i).modi && (s.cel i).prot)) ∧ (¬ (i < s.L.length ∧ s.P i = true) → (unmS s).cel i = s.cel i) := by
  have hu := unS_hd s s.A.length
  have huc := unS_cel hok s.A.length (Nat.le_refl _) i
  rw [at_mem, mem_A] at huc
  have hmc := moR_cel (unS_ok hok s.A.length) (l := kpS s) (fun x hx => by
    obtain ⟨⟨h1, h2⟩, -⟩ := mem_kp.1 hx
    exact ⟨by rw [hu.al.len]; exact h1, by rw [hu.al.P]; exact h2⟩) (kpS s).length (Nat.le_refl _) i
  rw [at_mem, mem_kp] at hmc
  refine ⟨fun h => ?_, fun h => ?_⟩
  · cases hb : ((s.cel i).modi && (s.cel i).prot)
    · have q := hmc.2 (fun ⟨_, q1, q2⟩ => by rw [q1, q2] at hb; cases hb)
      exact q.trans (huc.1 h)
    · rw [Bool.and_eq_true] at hb
      have q := hmc.1 ⟨h, hb⟩
      refine q.trans ?_
      rw [huc.1 h]
      exact mkF_mk (hok.cel i) h.2 false true
  · exact (hmc.2 (fun q => h q.1)).trans (huc.2 h)
theorem unm_ok {s : Spc} (hok : s.OK) : (unmS s).OK := by
  have h : ∀ k, (moR (unS s s.A.length) (kpS s) k).OK := fun k => by
    induction k with
    | zero => exact unS_ok hok _
    | succ k ih =>
      show (modS _ _).OK
      unfold modS
      split
      · exact ih
      · exact mkS_ok ih _ _
  exact h _
theorem unm_same {v : Spc} (hok : v.OK) (h : ∀ i, i < v.L.length → v.P i = true → v.cel i = mkF (v.cel i) ((v.cel i).modi && (v.cel i).prot)) : unmS v = v := by
  have hd := unm_hd v
  refine spc_ext hd.mo hd.alt hd.cu hd.ex hd.al.len fun i hi => ?_
  obtain ⟨h1, h2⟩ := unm_cel hok i
  by_cases hp : v.P i = true
  · exact (h1 ⟨hi, hp⟩).trans (h i hi hp).symm
  · exact h2 (fun q => hp q.2)
theorem rng_ok {s : Spc} (hok : s.OK) (p q : Int) : (rngS s p q).OK := by
  have h : ∀ k, (rngR s (spS s p q) (fl0 s p) k).OK := fun k => by
    induction k with
    | zero => exact hok
    | succ k ih =>
      show (if _ then _ else _ : Spc).OK
      split
      · exact ih
      · exact ih.putC _ u8_zero
  exact h _
/-- Unprotected, once more. -/
theorem unp_twice {s : Spc} (hok : s.OK) (hf : FitC s) : unpS (unpS s) = unpS s := by
  have htok := rng_ok hok 0 0
  have htf := rng_fit hok hf 0 0
  have htp := rng_prots s 0 0
  have htz := rng_zero hok 0 0
  have huok := unm_ok htok
  have hud := unm_hd (rngS s 0 0)
  have huc := fun i => unm_cel htok i
  -- the marks again
  have hcm : ∀ i, i < (unmS (rngS s 0 0)).L.length → (unmS (rngS s 0 0)).P i = true → (unmS (rngS s 0 0)).cel i = mkF ((unmS (rngS s 0 0)).cel i) (((unmS (rngS s 0 0)).cel i).modi && ((unmS (rngS s 0 0)).cel i).prot) := fun i hi hp => by
    rw [hud.al.len] at hi
    rw [hud.al.P] at hp
    rw [(huc i).1 ⟨hi, hp⟩, mkF_modi (htok.cel i) hp, mkF_prot (htok.cel i) hp, mkF_mk (htok.cel i) hp]
    cases ((rngS s 0 0).cel i).modi <;> cases ((rngS s 0 0).cel i).prot <;> rfl
  -- nothing is left to null
  have hvp : Prots s (unmS (rngS s 0 0)) := ⟨htp.al.trans hud.al, fun i hi => by
    have hpt : (rngS s 0 0).P i = true := by rw [htp.al.P]; exact hi
    rw [← htp.pr i hi]
    by_cases hil : i < (rngS s 0 0).L.length
    · rw [(huc i).1 ⟨hil, hpt⟩]
      exact mkF_prot (htok.cel i) hpt _
    · rw [(huc i).2 (fun q => hil q.1)]⟩
  have hvf : FitC (unmS (rngS s 0 0)) := fun i hi => by
    rw [hud.al.len] at hi
    by_cases hp : (rngS s 0 0).P i = true
    · rw [(huc i).1 ⟨hi, hp⟩]
      exact mkF_fit (htok.cel i) hp _
    · rw [(huc i).2 (fun q => hp q.2)]
      exact htf i hi
  have hvz : ∀ j, j < (spS s 0 0).length → flR s (spS s 0 0) (fl0 s 0) (j + 1) = false → s.P ((spS s 0 0).getD j 0) = true ∨ ((unmS (rngS s 0 0)).cel ((spS s 0 0).getD j 0)).ch = 0 := fun j hj hfl => by
    rcases htz j hj hfl with q | q
    · exact .inl q
    · by_cases hp : s.P ((spS s 0 0).getD j 0) = true
      · exact .inl hp
      · right
        rw [(huc _).2 (fun r => hp (by rw [← htp.al.P]; exact r.2))]
        exact q
  unfold unpS
  generalize unmS (rngS s 0 0) = u at huok hcm hvp hvf hvz ⊢
  generalize hz : max (nxZ u) 0 = z
  have h1 : rngS (u.place z) 0 0 = u.place z := rng_same hok (v := u.place z) ⟨⟨hvp.al.len, hvp.al.r, hvp.al.c, hvp.al.P⟩, hvp.pr⟩ hvf 0 0 hvz
  have h2 : unmS (u.place z) = u.place z := unm_same (huok.place z) hcm
  rw [h1, h2, show nxZ (u.place z) = nxZ u from rfl, hz]
  rfl
end Go.Proofs.Ytpehhinpohmpiaa
