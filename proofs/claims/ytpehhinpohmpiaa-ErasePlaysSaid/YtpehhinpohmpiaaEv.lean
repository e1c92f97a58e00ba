/-
  The places ahead of an attribute are of one field; what Delete, Insert and End leave alone.
-/
import Derived.Test.YtpehhinpohmpiaaEt
namespace Go.Proofs.Ytpehhinpohmpiaa
open Go.RowKit Go.Lib Go.Deep

theorem stF_step {P : Nat → Bool} {N x : Nat} (hx : x < N) (h : P ((x + 1) % N) = false) : stF P N ((x + 1) % N) = stF P N x := by
  by_cases e : x + 1 < N
  · rw [Nat.mod_eq_of_lt e] at h ⊢
    unfold stF
    have q : lastP P (x + 1 + 1) = lastP P (x + 1) := by
      conv => lhs; unfold lastP
      rw [if_neg (by rw [h]; simp)]
    rw [q]
  · have e2 : x + 1 = N := by omega
    rw [e2, Nat.mod_self] at h ⊢
    unfold stF
    have q : lastP P (0 + 1) = -1 := by
      unfold lastP
      rw [if_neg (by rw [h]; simp)]
      rfl
    rw [q, if_neg (by omega), e2]
    split <;> rfl
theorem stF_ahead {P : Nat → Bool} {N a : Nat} (ha : a < N) : ∀ k, (∀ j, j ≤ k → P ((a + j) % N) = false) → stF P N ((a + k) % N) = stF P N a
  | 0, _ => by rw [Nat.add_zero, Nat.mod_eq_of_lt ha]
  | k + 1, h => by
    have ih := stF_ahead ha k (fun j hj => h j (by omega))
    have hx : (a + k) % N < N := Nat.mod_lt _ (by omega)
    have e : (a + (k + 1)) % N = ((a + k) % N + 1) % N := by rw [Nat.mod_add_mod, Nat.add_assoc]
    have h1 := h (k + 1) (Nat.le_refl _)
    rw [e] at h1 ⊢
    rw [stF_step hx h1]
    exact ih
/-- The places ahead, one by one. -/
theorem ahL_get {P : Nat → Bool} {l : List Nat} {k : Nat} (h : k < (ahL P l).length) : (ahL P l)[k]? = l[k]? ∧ ∀ j, j ≤ k → ∀ y, l[j]? = some y → P y = false := by
  induction l generalizing k with
  | nil => exact absurd h (by unfold ahL; simp)
  | cons y l ih =>
    unfold ahL at h ⊢
    rw [List.takeWhile_cons] at h ⊢
    by_cases hy : (!P y) = true
    · rw [if_pos hy] at h ⊢
      have hP : P y = false := by simpa using hy
      cases k with
      | zero =>
        refine ⟨rfl, fun j hj z hz => ?_⟩
        obtain rfl : j = 0 := by omega
        simp at hz
        rw [← hz]
        exact hP
      | succ k =>
        obtain ⟨i1, i2⟩ := ih (k := k) (by unfold ahL; simpa using h)
        refine ⟨by simpa [ahL] using i1, fun j hj z hz => ?_⟩
        cases j with
        | zero =>
          simp at hz
          rw [← hz]
          exact hP
        | succ j => exact i2 j (by omega) z (by simpa using hz)
    · rw [if_neg hy] at h
      exact absurd h (Nat.not_lt_zero _)
/-- What lies ahead of a place is of its field. -/
theorem rest_field {s : Spc} (h : s.OK) {n q : Int} : ∀ x ∈ restL s n q, x < s.L.length ∧ s.P x = false ∧ stF s.P s.L.length x = stF s.P s.L.length (s.wr n) := fun x hx => by
  obtain ⟨h1, h2⟩ := restL_free h x hx
  refine ⟨h1, h2, ?_⟩
  obtain ⟨k, hk, rfl⟩ := List.mem_iff_getElem.1 hx
  unfold restL at hk ⊢
  obtain ⟨q1, q2⟩ := ahL_get hk
  rw [List.getElem?_eq_getElem hk] at q1
  have hw := h.wr_lt n
  have hks : k < (lenZ s.r s.c n q).toNat := by
    have e := q1.symm
    by_cases hkl : k < (lenZ s.r s.c n q).toNat
    · exact hkl
    · rw [List.getElem?_eq_none (by rw [spN_len]; omega)] at e
      cases e
  rw [spN_get hks] at q1
  injection q1 with q1
  rw [q1]
  exact stF_ahead hw k (fun j hj => q2 j hj _ (spN_get (by omega)))
/-- Alike but for the characters of the field's places. -/
structure Near (s t : Spc) (n : Int) : Prop where
  al : Alike s t
  cu : t.cu = s.cu
  at_ : ∀ i, s.P i = true → t.cel i = s.cel i
  far : ∀ i, s.P i = false → ¬ stF s.P s.L.length i = stF s.P s.L.length (s.wr n) → t.cel i = s.cel i
  near : ∀ i, s.P i = false → { t.cel i with ch := 0 } = { s.cel i with ch := 0 }
theorem Near.refl (s : Spc) (n : Int) : Near s s n := ⟨Alike.refl s, rfl, fun _ _ => rfl, fun _ _ _ => rfl, fun _ _ => rfl⟩
def FitC (s : Spc) : Prop := ∀ i, i < s.L.length → fit (s.cel i) = s.cel i
theorem fit_fa {c : Cel} (h : fit c = c) (ha : c.at_ = false) (x : Int) : { fit { c with ch := x } with ch := 0 } = { c with ch := 0 } := by
  obtain ⟨c0, c1, c2, c3, c4, c5⟩ := c
  dsimp only at ha
  subst ha
  unfold fit at h ⊢
  simp at h ⊢
  exact h
theorem Near.put {s t : Spc} {n : Int} (h : Near s t n) (hs : FitC s) (m x : Int) (h1 : s.wr m < s.L.length) (h2 : s.P (s.wr m) = false) (h3 : stF s.P s.L.length (s.wr m) = stF s.P s.L.length (s.wr n)) : Near s (t.putC m x) n := by
  have hwr := h.al.wr m
  have hc : ∀ i, ¬ i = s.wr m → (t.putC m x).cel i = t.cel i := fun i hi => by
    unfold Spc.putC
    split
    · rfl
    · unfold Spc.setC
      rw [Spc.put1_cel, hwr, if_neg (fun q => hi q.1)]
  refine ⟨h.al.put m x, (putC_mo t m x).2.2.trans h.cu, fun i hi => ?_, fun i hi hf => ?_, fun i hi => ?_⟩
  · rw [hc i (fun e => by rw [e, h2] at hi; cases hi)]
    exact h.at_ i hi
  · rw [hc i (fun e => hf (by rw [e]; exact h3))]
    exact h.far i hi hf
  · by_cases e : i = s.wr m
    · have hat : (t.atC m).at_ = false := by
        unfold Spc.atC
        rw [hwr]
        exact (congrFun h.al.P _).trans h2
      have hcl : (t.putC m x).cel i = fit { t.atC m with ch := x } := by
        unfold Spc.putC
        rw [if_neg (by rw [hat]; simp)]
        unfold Spc.setC
        rw [Spc.put1_cel, hwr, if_pos ⟨e, by rw [h.al.len]; exact h1⟩]
      have hn := h.near (s.wr m) h2
      have hft := hs _ h1
      have hsa : (s.cel (s.wr m)).at_ = false := h2
      rw [hcl, e]
      have ec : ({ t.atC m with ch := x } : Cel) = { s.cel (s.wr m) with ch := x } := by
        unfold Spc.atC
        rw [hwr]
        injection hn with _ q1 q2 q3 q4 q5
        dsimp only
        rw [q1, q2, q3, q4, q5]
      rw [ec]
      exact fit_fa hft hsa x
    · rw [hc i e]
      exact h.near i hi
theorem clrR_near {s : Spc} (hs : FitC s) {n : Int} {l : List Nat} (hl : ∀ x ∈ l, x < s.L.length ∧ s.P x = false ∧ stF s.P s.L.length x = stF s.P s.L.length (s.wr n)) : ∀ k, k ≤ l.length → Near s (clrR s l k) n
  | 0, _ => Near.refl s n
  | k + 1, h => by
    have hg : l.getD k 0 ∈ l := by rw [List.getD_eq_getElem?_getD, List.getElem?_eq_getElem h]; exact List.getElem_mem h
    obtain ⟨h1, h2, h3⟩ := hl _ hg
    have hw : s.wr (l.getD k 0 : Nat) = l.getD k 0 := wr_nat h1
    exact (clrR_near hs hl k (by omega)).put hs _ _ (by rw [hw]; exact h1) (by rw [hw]; exact h2) (by rw [hw]; exact h3)
theorem insR_near {s : Spc} (hs : FitC s) {n c : Int} {l : List Nat} (hl : ∀ x ∈ l, x < s.L.length ∧ s.P x = false ∧ stF s.P s.L.length x = stF s.P s.L.length (s.wr n)) : ∀ k, k ≤ l.length → Near s (insR s l c k).1 n
  | 0, _ => Near.refl s n
  | k + 1, h => by
    have hg : l.getD k 0 ∈ l := by rw [List.getD_eq_getElem?_getD, List.getElem?_eq_getElem h]; exact List.getElem_mem h
    obtain ⟨h1, h2, h3⟩ := hl _ hg
    have hw : s.wr (l.getD k 0 : Nat) = l.getD k 0 := wr_nat h1
    exact (insR_near hs hl k (by omega)).put hs _ _ (by rw [hw]; exact h1) (by rw [hw]; exact h2) (by rw [hw]; exact h3)
theorem row_field {s : Spc} {n : Int} {a K : Nat} (hr : RowIs s n a K) (k : Nat) (hk : k < K) : stF s.P s.L.length (a + k) = stF s.P s.L.length a := by
  obtain ⟨h1, _⟩ := hr.at_ k hk
  have q := stF_ahead (P := s.P) (N := s.L.length) (a := a) (by omega) k (fun j hj => by
    obtain ⟨h3, h4⟩ := hr.at_ j (by omega)
    rw [Nat.mod_eq_of_lt h3]
    exact h4)
  rwa [Nat.mod_eq_of_lt h1] at q
theorem delR_near {s : Spc} (hs : FitC s) {n : Int} {a K : Nat} (hr : RowIs s n a K) : ∀ k, k ≤ K → Near s (delR s n (rowS s n) k) n
  | 0, _ => Near.refl s n
  | k + 1, h => by
    obtain ⟨h1, h2⟩ := hr.at_ (k - 1) (by omega)
    have hw : s.wr (lastZ n (rowS s n) k) = a + (k - 1) := by
      unfold lastZ
      split
      · rename_i e
        rw [hr.wr, e]
        rfl
      · rw [hr.get (k - 1) (by omega)]
        exact wr_nat h1
    exact (delR_near hs hr k (by omega)).put hs _ _ (by rw [hw]; exact h1) (by rw [hw]; exact h2) (by rw [hw, hr.wr]; exact row_field hr (k - 1) (by omega))
/-- What an edit leaves alone. -/
structure Safe (s t : Spc) (n : Int) : Prop where
  al : Alike s t
  cu : t.cu = s.cu
  at_ : ∀ i, i < s.L.length → s.P i = true → (t.cel i).ch = (s.cel i).ch ∧ (t.cel i).at_ = (s.cel i).at_ ∧ bits .or .u8 (t.cel i).fa 1 = bits .or .u8 (s.cel i).fa 1 ∧ (t.cel i).hi = (s.cel i).hi ∧ (t.cel i).co = (s.cel i).co ∧ (t.cel i).se = (s.cel i).se
  far : ∀ i, s.P i = false → ¬ stF s.P s.L.length i = stF s.P s.L.length (s.wr n) → t.cel i = s.cel i
  near : ∀ i, s.P i = false → { t.cel i with ch := 0 } = { s.cel i with ch := 0 }
theorem Near.safe {s t : Spc} {n : Int} (h : Near s t n) : Safe s t n := ⟨h.al, h.cu, fun i _ hi => by rw [h.at_ i hi]; exact ⟨rfl, rfl, rfl, rfl, rfl, rfl⟩, h.far, h.near⟩
theorem or_tab : ∀ k : Nat, k < 256 → sixB k = (k : Int) → bits .or .u8 (sixB (markB k true)) 1 = bits .or .u8 (k : Int) 1 := by decide +kernel
theorem Near.mod {s t : Spc} {n : Int} (h : Near s t n) (hok : s.OK) (hs : FitC s) : Safe s (modS t n) n := by
  unfold modS
  rw [h.al.P, h.al.len, h.al.wr]
  rcases stF_bd s.P (hok.wr_lt n) with e | ⟨a, ha, hp, e⟩
  · rw [e, if_pos (by decide)]
    exact h.safe
  · rw [e, if_neg (by omega), Int.toNat_natCast]
    have hc : ∀ i, ¬ i = a → (mkS t a true).cel i = t.cel i := fun i hi => by
      unfold mkS
      rw [Spc.put1_cel, if_neg (fun q => hi q.1)]
    refine ⟨h.al.trans (mkS_alike t a true), h.cu, fun i hi hpi => ?_, fun i hi hf => ?_, fun i hi => ?_⟩
    · by_cases ei : i = a
      · subst ei
        have ec : (mkS t i true).cel i = fit ((s.cel i).mk1 true) := by
          unfold mkS
          rw [Spc.put1_cel, if_pos ⟨rfl, by rw [h.al.len]; exact ha⟩, h.at_ i hp]
        have hft := hs i ha
        have hcok := hok.cel i
        have hat : (s.cel i).at_ = true := hp
        rw [ec]
        generalize s.cel i = c at hft hcok hat ⊢
        obtain ⟨c0, c1, c2, c3, c4, c5⟩ := c
        dsimp only at hat
        subst hat
        unfold fit at hft
        rw [if_pos rfl] at hft
        injection hft with q0 _ q2 _ _ _
        obtain ⟨k, hk, ek⟩ := u8_nat hcok.fa
        dsimp only at ek q0 q2
        subst ek
        unfold fit Cel.mk1
        rw [if_pos rfl]
        exact ⟨q0, rfl, or_tab k hk q2, rfl, rfl, rfl⟩
      · rw [hc i ei, h.at_ i hpi]
        exact ⟨rfl, rfl, rfl, rfl, rfl, rfl⟩
    · rw [hc i (fun q => by rw [q, hp] at hi; cases hi)]
      exact h.far i hi hf
    · rw [hc i (fun q => by rw [q, hp] at hi; cases hi)]
      exact h.near i hi
theorem end_safe {s : Spc} (hok : s.OK) (hs : FitC s) (n : Int) : Safe s (endS s n) n := (clrR_near hs (fun x hx => rest_field hok x hx) _ (Nat.le_refl _)).mod hok hs
theorem ins_safe {s : Spc} (hok : s.OK) (hs : FitC s) (n c : Int) : Safe s (insS s n c) n := (insR_near hs (fun x hx => rest_field hok x (upL_mem hx)) _ (Nat.le_refl _)).mod hok hs
theorem del_safe {s : Spc} (hok : s.OK) (hs : FitC s) (n : Int) : Safe s (delS s n) n := by
  have hr := row_is s n
  refine Near.mod ?_ hok hs
  have hN := hok.wr_lt n
  by_cases e : (rowS s n).length = 0
  · have e0 : rowS s n = [] := List.length_eq_zero_iff.1 e
    rw [e0]
    unfold lastZ
    show Near s (s.putC (if (0 : Nat) = 0 then n else _) 0) n
    rw [if_pos rfl]
    by_cases hp : s.P (s.wr n) = true
    · have : s.putC n 0 = s := by unfold Spc.putC; rw [if_pos (by unfold Spc.atC; exact hp)]
      rw [this]
      exact Near.refl s n
    · exact (Near.refl s n).put hs n 0 hN (by simpa using hp) rfl
  · obtain ⟨h1, h2⟩ := hr.at_ ((rowS s n).length - 1) (by omega)
    have hw : s.wr (lastZ n (rowS s n) (rowS s n).length) = s.wr n + ((rowS s n).length - 1) := by
      unfold lastZ
      rw [if_neg e, hr.get _ (by omega)]
      exact wr_nat h1
    exact (delR_near hs hr _ (Nat.le_refl _)).put hs _ _ (by rw [hw]; exact h1) (by rw [hw]; exact h2) (by rw [hw]; exact row_field hr _ (by omega))
end Go.Proofs.Ytpehhinpohmpiaa
