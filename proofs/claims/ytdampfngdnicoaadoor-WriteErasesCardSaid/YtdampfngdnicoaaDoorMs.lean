/-
  WriteErases: what Unprotected leaves, place by place; the law's own walk.
-/
import Derived.Test.YtdampfngdnicoaaDoorMp
import Derived.Test.YtdampfngdnicoaaDoorGd
namespace Go.Proofs.YtdampfngdnicoaaDoor
open Go.RowKit Go.Lib Go.Deep

theorem un_tab : ∀ k : Nat, k < 256 → sixB (k : Int) = (k : Int) → sixB (markB (k : Int) false) = bits .and .u8 (k : Int) 254 := by decide +kernel
theorem mkF_un {c : Cel} (h : c.OK) (ha : c.at_ = true) (hf : fit c = c) : mkF c false = { c with fa := bits .and .u8 c.fa 254 } := by
  obtain ⟨k, hk, e⟩ := u8_nat h.fa
  have t := un_tab k hk
  obtain ⟨c0, c1, c2, c3, c4, c5⟩ := c
  dsimp only at e ha
  subst e ha
  unfold fit at hf
  simp only [if_true, Cel.mk.injEq] at hf
  have q := t hf.2.2.1
  show fit _ = _
  unfold fit Cel.mk1
  simp only [if_true, q, Cel.mk.injEq, and_true, true_and]
  exact hf.1
theorem fit_null {c : Cel} (ha : c.at_ = false) (hf : fit c = c) : fit { c with ch := 0 } = { c with ch := 0 } := by
  obtain ⟨c0, c1, c2, c3, c4, c5⟩ := c
  dsimp only at ha
  subst ha
  unfold fit at hf ⊢
  simp only [Cel.mk.injEq] at hf
  simpa using hf
/-- A place that is no attribute, as Range leaves it. -/
theorem rngR_free {s : Spc} (hl : (spS s 0 0).length = s.L.length ∧ ∀ k, k < s.L.length → (spS s 0 0).getD k 0 = k) (f0 : Bool) {i : Nat} (hi : i < s.L.length) (hp : s.P i = false) : ∀ k, k ≤ s.L.length → (rngR s (spS s 0 0) f0 k).cel i = if i < k ∧ flR s (spS s 0 0) f0 (i + 1) = false then fit { s.cel i with ch := 0 } else s.cel i
  | 0, _ => by rw [if_neg (fun q => absurd q.1 (Nat.not_lt_zero _))]; rfl
  | k + 1, hk => by
    have ih := rngR_free hl f0 hi hp k (by omega)
    have hal := rngR_alike s (spS s 0 0) f0 k
    have hg := hl.2 k (by omega)
    show (if flR s (spS s 0 0) f0 (k + 1) then _ else (rngR s (spS s 0 0) f0 k).putC ((spS s 0 0).getD k 0 : Nat) 0 : Spc).cel i = _
    rw [hg]
    by_cases e : i = k
    · subst e
      rw [if_neg (fun q => absurd q.1 (Nat.lt_irrefl _))] at ih
      cases hfl : flR s (spS s 0 0) f0 (i + 1)
      · rw [if_neg (by simp), if_pos ⟨by omega, rfl⟩]
        have ea : (rngR s (spS s 0 0) f0 i).atC (i : Int) = s.cel i := by
          unfold Spc.atC
          rw [wr_nat (by rw [hal.len]; exact hi), ih]
        unfold Spc.putC
        rw [ea, if_neg (by show ¬ (s.P i = true); rw [hp]; simp)]
        unfold Spc.setC
        rw [Spc.put1_cel, wr_nat (by rw [hal.len]; exact hi), if_pos ⟨rfl, by rw [hal.len]; exact hi⟩]
      · rw [if_pos rfl, if_neg (by simp)]
        exact ih
    · have e2 : (i < k + 1 ∧ flR s (spS s 0 0) f0 (i + 1) = false) ↔ (i < k ∧ flR s (spS s 0 0) f0 (i + 1) = false) := ⟨fun q => ⟨by omega, q.2⟩, fun q => ⟨by omega, q.2⟩⟩
      simp only [e2]
      rw [← ih]
      split
      · rfl
      · exact putC_other (by rw [hal.len]; omega) e 0
set_option maxHeartbeats 2000000 in
/-- What Unprotected leaves at a place. -/
theorem unp_at {s : Spc} (hok : s.OK) (hf : FitC s) {n : Nat} (hn : n < s.L.length) : (unpS s).cel n = if protF s (stF s.P s.L.length n) = true then s.cel n else if (s.cel n).at_ = true then { s.cel n with fa := bits .and .u8 (s.cel n).fa 254 } else { s.cel n with ch := 0 } := by
  have hal := spS_all hok
  have htok := rng_ok hok 0 0
  have hfl : flR s (spS s 0 0) (fl0 s 0) (n + 1) = protF s (stF s.P s.L.length n) := by
    have q := flR_is hok 0 0 n (by rw [hal.1]; exact hn)
    rwa [hal.2 n hn] at q
  have htl : (rngS s 0 0).L.length = s.L.length := (rngR_alike s (spS s 0 0) (fl0 s 0) _).len
  have htP : (rngS s 0 0).P n = s.P n := congrFun (rngR_alike s (spS s 0 0) (fl0 s 0) _).P n
  obtain ⟨c1, c2⟩ := unm_cel htok n
  have hshow : (unpS s).cel n = (unmS (rngS s 0 0)).cel n := rfl
  rw [hshow]
  clear hshow
  by_cases hp : s.P n = true
  · have e := c1 ⟨by rw [htl]; exact hn, by rw [htP]; exact hp⟩
    have et : (rngS s 0 0).cel n = s.cel n := rngR_attr _ _ hp _
    rw [et] at e
    rw [e, stF_self hok.pos.1 hp]
    have e3 : protF s (n : Int) = (s.cel n).prot := by unfold protF; rw [if_neg (by omega)]; rfl
    rw [e3]
    cases hpr : (s.cel n).prot
    · rw [if_neg (by simp), if_pos (show (s.cel n).at_ = true from hp), Bool.and_false]
      exact mkF_un (hok.cel n) hp (hf n hn)
    · rw [if_pos rfl, Bool.and_true]
      exact mkF_same (hok.cel n) hp (hf n hn)
  · have hp' : s.P n = false := by simpa using hp
    rw [c2 (fun q => hp (by rw [← htP]; exact q.2))]
    have q := rngR_free hal (fl0 s 0) hn hp' s.L.length (Nat.le_refl _)
    have et : (rngS s 0 0).cel n = (rngR s (spS s 0 0) (fl0 s 0) s.L.length).cel n := by unfold rngS; rw [hal.1]
    rw [et, q, hfl]
    cases protF s (stF s.P s.L.length n)
    · rw [if_pos ⟨hn, rfl⟩, if_neg (by simp), if_neg (show ¬ ((s.cel n).at_ = true) from hp)]
      exact fit_null hp' (hf n hn)
    · rw [if_neg (fun q => by cases q.2), if_pos rfl]
end Go.Proofs.YtdampfngdnicoaaDoor
