/-
  What Insert and Delete do to the characters of a row: there and back.
-/
import Derived.Test.YtpehhinpohmpiaaEg
namespace Go.Proofs.Ytpehhinpohmpiaa
open Go.RowKit Go.Lib Go.Deep

theorem fit_ch {c : Cel} (h : c.at_ = false) : (fit c).ch = c.ch := by
  unfold fit
  rw [if_neg (by rw [h]; simp)]
theorem putC_ch {t : Spc} {m : Int} {p : Nat} (hm : t.wr m = p) (hp : t.P p = false) (hl : p < t.L.length) (x : Int) (i : Nat) : ((t.putC m x).cel i).ch = if i = p then x else (t.cel i).ch := by
  have ha : (t.atC m).at_ = false := by unfold Spc.atC; rw [hm]; exact hp
  unfold Spc.putC
  rw [if_neg (by rw [ha]; simp)]
  unfold Spc.setC
  rw [Spc.put1_cel, hm]
  by_cases hi : i = p
  · rw [if_pos ⟨hi, hl⟩, if_pos hi]
    exact fit_ch (c := { t.atC m with ch := x }) ha
  · rw [if_neg (fun q => hi q.1), if_neg hi]
theorem putC_attr {t : Spc} (m x : Int) {i : Nat} (hi : t.P i = true) : (t.putC m x).cel i = t.cel i := by
  unfold Spc.putC
  split
  · rfl
  · rename_i ha
    unfold Spc.setC
    rw [Spc.put1_cel, if_neg]
    rintro ⟨q, -⟩
    exact ha (by unfold Spc.atC; rw [← q]; exact hi)
theorem insR_attr (s : Spc) (pl : List Nat) (c : Int) : ∀ k i, s.P i = true → (insR s pl c k).1.cel i = s.cel i
  | 0, _, _ => rfl
  | k + 1, i, h => (putC_attr _ _ (by rw [(insR_alike s pl c k).P]; exact h)).trans (insR_attr s pl c k i h)
/-- A row's places. -/
structure RowIs (s : Spc) (n : Int) (a K : Nat) : Prop where
  wr : s.wr n = a
  len : (rowS s n).length = K
  at_ : ∀ k, k < K → a + k < s.L.length ∧ s.P (a + k) = false
  get : ∀ k, k < K → (rowS s n).getD k 0 = a + k
theorem row_is (s : Spc) (n : Int) : RowIs s n (s.wr n) (rowS s n).length := by
  have q := fun k (hk : k < (rowS s n).length) => rowF_get s.P s.L.length s.c ((s.wr n : Int) / s.c) s.L.length (s.wr n) k hk
  refine ⟨rfl, rfl, fun k hk => ?_, fun k hk => ?_⟩
  · have h := (q k hk).2
    unfold inB at h
    simp only [Bool.and_eq_true, decide_eq_true_eq, Bool.not_eq_true'] at h
    exact ⟨h.1, h.2.2⟩
  · rw [List.getD_eq_getElem?_getD]
    have h := (q k hk).1
    change (rowS s n)[k]? = _ at h
    rw [h]
    rfl
theorem RowIs.le {s : Spc} {n : Int} {a K : Nat} (h : RowIs s n a K) : K ≤ s.L.length := by
  by_cases e : K = 0
  · omega
  · have := (h.at_ (K - 1) (by omega)).1
    omega
theorem RowIs.alike {s t : Spc} {n : Int} {a K : Nat} (h : RowIs s n a K) (q : Alike s t) : RowIs t n a K := by
  have e : rowS t n = rowS s n := by unfold rowS; rw [q.P, q.len, q.c, q.wr]
  exact ⟨(q.wr n).trans h.wr, by rw [e]; exact h.len, fun k hk => by rw [q.len, q.P]; exact h.at_ k hk, fun k hk => by rw [e]; exact h.get k hk⟩
theorem insR_ch {s : Spc} {a M : Nat} {pl : List Nat} (c : Int) (hpl : ∀ k, k < M → pl.getD k 0 = a + k) (hat : ∀ k, k < M → a + k < s.L.length ∧ s.P (a + k) = false) : ∀ k, k ≤ M → (insR s pl c k).2 = (if k = 0 then c else (s.cel (a + (k - 1))).ch) ∧ ∀ i, ((insR s pl c k).1.cel i).ch = if a ≤ i ∧ i < a + k then (if i = a then c else (s.cel (i - 1)).ch) else (s.cel i).ch
  | 0, _ => ⟨rfl, fun i => by rw [if_neg (by omega)]; rfl⟩
  | k + 1, h => by
    obtain ⟨h1, h2⟩ := insR_ch c hpl hat k (by omega)
    have hal := insR_alike s pl c k
    obtain ⟨ha, hp⟩ := hat k (by omega)
    refine ⟨?_, fun i => ?_⟩
    · show ((insR s pl c k).1.cel (pl.getD k 0)).ch = _
      rw [hpl k (by omega), h2, if_neg (by omega), if_neg (by omega), Nat.add_sub_cancel]
    · show (((insR s pl c k).1.putC (pl.getD k 0 : Nat) (insR s pl c k).2).cel i).ch = _
      rw [hpl k (by omega), putC_ch (p := a + k) ((hal.wr _).trans (wr_nat ha)) (by rw [hal.P]; exact hp) (by rw [hal.len]; exact ha), h1, h2]
      by_cases e : i = a + k
      · subst e
        rw [if_pos rfl, if_pos (show a ≤ a + k ∧ a + k < a + (k + 1) from ⟨by omega, by omega⟩)]
        by_cases hk : k = 0
        · subst hk
          rw [if_pos rfl, if_pos (show a + 0 = a from rfl)]
        · rw [if_neg hk, if_neg (show ¬ a + k = a by omega), show a + (k - 1) = a + k - 1 by omega]
      · rw [if_neg e]
        by_cases hi : a ≤ i ∧ i < a + k
        · rw [if_pos hi, if_pos (show a ≤ i ∧ i < a + (k + 1) from ⟨hi.1, by omega⟩)]
        · rw [if_neg hi, if_neg (show ¬ (a ≤ i ∧ i < a + (k + 1)) by omega)]
theorem delR_ch {t : Spc} {n : Int} {a K : Nat} {pl : List Nat} (hw : t.wr n = a) (hpl : ∀ k, k < K → pl.getD k 0 = a + k) (hat : ∀ k, k < K → a + k < t.L.length ∧ t.P (a + k) = false) : ∀ k, k ≤ K → ∀ i, ((delR t n pl k).cel i).ch = if a ≤ i ∧ i + 1 < a + k then (t.cel (i + 1)).ch else (t.cel i).ch
  | 0, _, i => by rw [if_neg (by omega)]; rfl
  | k + 1, h, i => by
    have ih := delR_ch hw hpl hat k (by omega)
    have hal := delR_alike t n pl k
    obtain ⟨ha', hp'⟩ := hat (k - 1) (by omega)
    have hwl : (delR t n pl k).wr (lastZ n pl k) = a + (k - 1) := by
      rw [hal.wr]
      unfold lastZ
      split
      · rename_i e
        rw [hw, e]
        rfl
      · rw [hpl (k - 1) (by omega)]
        exact wr_nat ha'
    show (((delR t n pl k).putC (lastZ n pl k) ((delR t n pl k).cel (pl.getD k 0)).ch).cel i).ch = _
    rw [putC_ch hwl (by rw [hal.P]; exact hp') (by rw [hal.len]; exact ha'), hpl k (by omega), ih, ih i, if_neg (show ¬ (a ≤ a + k ∧ a + k + 1 < a + k) by omega)]
    by_cases e : i = a + (k - 1)
    · subst e
      rw [if_pos rfl]
      by_cases hk : k = 0
      · subst hk
        rw [if_neg (by omega)]
      · rw [if_pos (show a ≤ a + (k - 1) ∧ a + (k - 1) + 1 < a + (k + 1) from ⟨by omega, by omega⟩), show a + (k - 1) + 1 = a + k by omega]
    · rw [if_neg e]
      by_cases hi : a ≤ i ∧ i + 1 < a + k
      · rw [if_pos hi, if_pos (show a ≤ i ∧ i + 1 < a + (k + 1) from ⟨hi.1, by omega⟩)]
      · rw [if_neg hi, if_neg (show ¬ (a ≤ i ∧ i + 1 < a + (k + 1)) by omega)]
theorem mkS_ch (s : Spc) (a : Nat) (m : Bool) {i : Nat} (hi : s.P i = false) : ((mkS s a m).cel i).ch = (s.cel i).ch := by
  unfold mkS
  rw [Spc.put1_cel]
  split
  · rename_i q
    rw [q.1] at hi ⊢
    exact fit_ch (c := (s.cel a).mk1 m) hi
  · rfl
theorem modS_ch (s : Spc) (n : Int) {i : Nat} (hi : s.P i = false) : ((modS s n).cel i).ch = (s.cel i).ch := by
  unfold modS
  split
  · rfl
  · exact mkS_ch _ _ _ hi
theorem mkS_alike (s : Spc) (a : Nat) (m : Bool) : Alike s (mkS s a m) := ⟨mkS_len s a m, rfl, rfl, funext fun i => mkS_at s a i m⟩
theorem modS_alike (s : Spc) (n : Int) : Alike s (modS s n) := by
  unfold modS
  split
  · exact Alike.refl s
  · exact mkS_alike s _ _
theorem Alike.trans {s t u : Spc} (h : Alike s t) (q : Alike t u) : Alike s u := ⟨q.len.trans h.len, q.r.trans h.r, q.c.trans h.c, q.P.trans h.P⟩
theorem insS_alike (s : Spc) (n c : Int) : Alike s (insS s n c) := (insR_alike s _ c _).trans (modS_alike _ n)
theorem prot_tab : ∀ k : Nat, k < 256 → ofP (sixB (markB k true)).toNat = ofP k ∧ ofP (markB k true).toNat = ofP k := by decide +kernel
theorem prot_mk {c : Cel} (h : c.OK) (ha : c.at_ = true) : (fit (c.mk1 true)).prot = c.prot := by
  obtain ⟨k, hk, e⟩ := u8_nat h.fa
  unfold fit Cel.mk1 Cel.prot
  dsimp only
  rw [if_pos ha, e]
  exact (prot_tab k hk).1
theorem openB_ins {s : Spc} (h : s.OK) (n c : Int) : openB (insS s n c) n = openB s n := by
  have q := insS_alike s n c
  unfold openB
  have e1 : ((insS s n c).atC n).at_ = (s.atC n).at_ := by
    unfold Spc.atC
    rw [q.wr]
    exact congrFun q.P _
  rw [e1, q.P, q.len, q.wr]
  congr 2
  rcases stF_bd s.P (h.wr_lt n) with e | ⟨a, ha, hp, e⟩
  · rw [e]
    rfl
  · rw [e]
    unfold protF
    rw [if_neg (by omega), if_neg (by omega), Int.toNat_natCast]
    have q0 := insR_alike s (roomL s n) c (roomL s n).length
    have ec : (insS s n c).cel a = fit ((s.cel a).mk1 true) := by
      unfold insS modS
      rw [q0.P, q0.len, q0.wr, e, if_neg (by omega), Int.toNat_natCast]
      unfold mkS
      rw [Spc.put1_cel, if_pos ⟨rfl, by rw [q0.len]; exact ha⟩, insR_attr s _ c _ a hp]
    rw [ec]
    exact prot_mk (h.cel a) hp
/-- Is there a null one among the first? -/
def hasB (s : Spc) (a : Nat) : Nat → Bool
  | 0 => false
  | k + 1 => hasB s a k || ((s.cel (a + k)).ch == 0)
/-- Is there one behind it that is not null? -/
def lateB (s : Spc) (a : Nat) : Nat → Bool
  | 0 => false
  | k + 1 => lateB s a k || (hasB s a (k + 1) && ((s.cel (a + k)).ch != 0))
theorem hasB_no {s : Spc} {a : Nat} : ∀ {K}, hasB s a K = false → ∀ i, i < K → ¬ (s.cel (a + i)).ch = 0
  | 0, _, i, hi => absurd hi (Nat.not_lt_zero i)
  | K + 1, h, i, hi => by
    unfold hasB at h
    rw [Bool.or_eq_false_iff] at h
    by_cases e : i = K
    · subst e
      simpa using h.2
    · exact hasB_no h.1 i (by omega)
theorem has_first {s : Spc} {a : Nat} : ∀ {K}, hasB s a K = true → lateB s a K = false → ∃ j, j < K ∧ (∀ i, i < j → ¬ (s.cel (a + i)).ch = 0) ∧ ∀ i, j ≤ i → i < K → (s.cel (a + i)).ch = 0
  | 0, h, _ => by cases h
  | K + 1, h, hl => by
    unfold lateB at hl
    rw [Bool.or_eq_false_iff, h, Bool.true_and] at hl
    have h0 : (s.cel (a + K)).ch = 0 := by simpa using hl.2
    cases hK : hasB s a K
    · refine ⟨K, by omega, hasB_no hK, fun i h1 h2 => ?_⟩
      obtain rfl : i = K := by omega
      exact h0
    · obtain ⟨j, h1, h2, h3⟩ := has_first hK hl.1
      refine ⟨j, by omega, h2, fun i hi hi2 => ?_⟩
      by_cases e : i = K
      · rw [e]; exact h0
      · exact h3 i hi (by omega)
theorem rest_get {s : Spc} (h : s.OK) {n : Int} {a K : Nat} (hr : RowIs s n a K) : ∀ k, k < K → (restL s n n)[k]? = some (a + k) ∧ k < (restL s n n).length := by
  have hN := h.pos
  have hlen := h.len
  have e : (lenZ s.r s.c n n).toNat = s.L.length := by
    unfold lenZ
    rw [Int.sub_self, Int.zero_emod, if_pos rfl, ← hlen, Int.toNat_natCast]
  have hKN := hr.le
  have hs : ∀ k, k < K → (spN s.L.length a s.L.length)[k]? = some (a + k) := fun k hk => by
    rw [spN_get (by omega), Nat.mod_eq_of_lt (hr.at_ k hk).1]
  intro k hk
  unfold restL
  rw [e, hr.wr]
  unfold ahL
  induction k with
  | zero =>
    obtain ⟨q1, q2⟩ := (tw_at (p := fun i => !s.P i) _ 0 (a + 0) (hs 0 hk) (Nat.zero_le _)).1 (by rw [(hr.at_ 0 hk).2]; rfl)
    exact ⟨q2, q1⟩
  | succ k ih =>
    obtain ⟨i1, i2⟩ := ih (by omega)
    obtain ⟨q1, q2⟩ := (tw_at (p := fun i => !s.P i) _ (k + 1) (a + (k + 1)) (hs (k + 1) hk) (by omega)).1 (by rw [(hr.at_ (k + 1) hk).2]; rfl)
    exact ⟨q2, q1⟩
/-- There and back. -/
theorem back_all {s : Spc} (h : s.OK) {n : Int} {a K : Nat} (hr : RowIs s n a K) (c : Int) (hh : hasB s a K = true) (hl : lateB s a K = false) : ((insS s n c).cel a).ch = c ∧ ∀ k, k < K → ((delS (insS s n c) n).cel (a + k)).ch = (s.cel (a + k)).ch := by
  obtain ⟨j, hj, h1, h2⟩ := has_first hh hl
  have hg := rest_get h hr
  have hroom : roomL s n = (restL s n n).take (j + 1) := by
    refine NoZ.found (k := j) (x := a + j) (fun i y hi hy => ?_) (hg j hj).1 ?_
    · rw [(hg i (by omega)).1] at hy
      injection hy with hy
      subst hy
      unfold nulB
      rw [beq_eq_false_iff_ne]
      exact h1 i hi
    · unfold nulB
      rw [h2 j (Nat.le_refl _) hj]
      rfl
  have hrl : (roomL s n).length = j + 1 := by
    rw [hroom, List.length_take]
    have := (hg j hj).2
    omega
  have hrg : ∀ k, k < j + 1 → (roomL s n).getD k 0 = a + k := fun k hk => by
    rw [hroom, List.getD_eq_getElem?_getD, List.getElem?_take, if_pos hk, (hg k (by omega)).1]
    rfl
  have hins : ∀ i, s.P i = false → ((insS s n c).cel i).ch = if a ≤ i ∧ i < a + (j + 1) then (if i = a then c else (s.cel (i - 1)).ch) else (s.cel i).ch := fun i hi => by
    have q0 := insR_alike s (roomL s n) c (roomL s n).length
    unfold insS
    rw [modS_ch _ _ (by rw [q0.P]; exact hi), (insR_ch c hrg (fun k hk => hr.at_ k (by omega)) _ (by rw [hrl]; exact Nat.le_refl _)).2, hrl]
  have q := insS_alike s n c
  have hr2 := hr.alike q
  refine ⟨?_, fun k hk => ?_⟩
  · have := (hr.at_ 0 (by omega)).2
    rw [Nat.add_zero] at this
    rw [hins a this, if_pos ⟨by omega, by omega⟩, if_pos rfl]
  · generalize hT : insS s n c = t at hins q hr2 ⊢
    have hd := delR_ch hr2.wr hr2.get hr2.at_ K (Nat.le_refl _)
    have qd := delR_alike t n (rowS t n) (rowS t n).length
    have hak := hr2.at_ k hk
    obtain ⟨hal, hap⟩ := hr2.at_ (K - 1) (by omega)
    unfold delS
    rw [modS_ch _ _ (by rw [putC_P, qd.P]; exact hak.2)]
    have hwl : (delR t n (rowS t n) (rowS t n).length).wr (lastZ n (rowS t n) (rowS t n).length) = a + (K - 1) := by
      rw [qd.wr, hr2.len]
      unfold lastZ
      rw [if_neg (by omega), hr2.get (K - 1) (by omega)]
      exact wr_nat hal
    rw [putC_ch hwl (by rw [qd.P]; exact hap) (by rw [qd.len]; exact hal), hr2.len]
    by_cases e : k = K - 1
    · rw [if_pos (by omega)]
      exact (h2 k (by omega) hk).symm
    · rw [if_neg (by omega), hd, if_pos ⟨by omega, by omega⟩, hins (a + k + 1) (by have := (hr.at_ (k + 1) (by omega)).2; rwa [← Nat.add_assoc] at this)]
      by_cases hkj : k < j
      · rw [if_pos ⟨by omega, by omega⟩, if_neg (by omega), Nat.add_sub_cancel]
      · rw [if_neg (by omega), h2 k (by omega) hk, show a + k + 1 = a + (k + 1) by omega, h2 (k + 1) (by omega) (by omega)]
end Go.Proofs.Ytpehhinpohmpiaa
