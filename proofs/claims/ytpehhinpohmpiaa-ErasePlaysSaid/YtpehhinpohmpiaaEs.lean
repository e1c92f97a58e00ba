/-
  What End leaves of a field: null ones, and the mark; lists that contain.
-/
import Derived.Test.YtpehhinpohmpiaaEr
import Derived.Test.YtpehhinpohmpiaaCm
namespace Go.Proofs.Ytpehhinpohmpiaa
open Go.RowKit Go.Lib Go.Deep

theorem clrR_ch {s : Spc} {l : List Nat} (hl : ∀ x ∈ l, x < s.L.length ∧ s.P x = false) : ∀ k, k ≤ l.length → ∀ i, (∃ j, j < k ∧ l[j]? = some i) → ((clrR s l k).cel i).ch = 0
  | 0, _, _, ⟨j, hj, _⟩ => absurd hj (Nat.not_lt_zero j)
  | k + 1, h, i, ⟨j, hj, hi⟩ => by
    have hal := clrR_alike s l k
    have hk : k < l.length := h
    have hg : l.getD k 0 = l[k] := by rw [List.getD_eq_getElem?_getD, List.getElem?_eq_getElem hk]; rfl
    obtain ⟨h1, h2⟩ := hl l[k] (List.getElem_mem hk)
    show (((clrR s l k).putC (l.getD k 0 : Nat) 0).cel i).ch = 0
    rw [hg, putC_ch (p := l[k]) ((hal.wr _).trans (wr_nat h1)) (by rw [hal.P]; exact h2) (by rw [hal.len]; exact h1)]
    by_cases e : i = l[k]
    · rw [if_pos e]
    · rw [if_neg e]
      refine clrR_ch hl k (by omega) i ⟨j, ?_, hi⟩
      by_cases e2 : j = k
      · rw [e2, List.getElem?_eq_getElem hk] at hi
        injection hi with hi
        exact absurd hi.symm e
      · omega
theorem clrR_attr (s : Spc) (l : List Nat) : ∀ k i, s.P i = true → (clrR s l k).cel i = s.cel i
  | 0, _, _ => rfl
  | k + 1, i, h => (putC_attr _ _ (by rw [(clrR_alike s l k).P]; exact h)).trans (clrR_attr s l k i h)
theorem restL_free {s : Spc} (h : s.OK) {n q : Int} : ∀ x ∈ restL s n q, x < s.L.length ∧ s.P x = false := fun x hx => by
  refine ⟨restL_mem h hx, ?_⟩
  have : ∀ (l : List Nat), ∀ x ∈ ahL s.P l, s.P x = false := fun l => by
    induction l with
    | nil => intro x hx; cases hx
    | cons y l ih =>
      intro x hx
      unfold ahL at hx
      rw [List.takeWhile_cons] at hx
      by_cases hy : (!s.P y) = true
      · rw [if_pos hy] at hx
        rcases List.mem_cons.1 hx with rfl | hx
        · simpa using hy
        · exact ih x hx
      · rw [if_neg hy] at hx
        cases hx
  exact this _ x hx
theorem endS_alike (s : Spc) (n : Int) : Alike s (endS s n) := (clrR_alike s _ _).trans (modS_alike _ n)
theorem modi_tab1 : ∀ k : Nat, k < 256 → ofM (sixB (markB k true)).toNat = true := by decide +kernel
theorem modi_mk {c : Cel} (h : c.OK) (ha : c.at_ = true) : (fit (c.mk1 true)).modi = true := by
  obtain ⟨k, hk, e⟩ := u8_nat h.fa
  unfold fit Cel.mk1 Cel.modi
  dsimp only
  rw [if_pos ha, e]
  exact modi_tab1 k hk
theorem idxF_in {a : Nat} : ∀ (l : List Nat) (k : Nat), a ∈ l → 0 ≤ idxF l (a : Int) k
  | [], _, h => by cases h
  | x :: l, k, h => by
    unfold idxF
    split
    · omega
    · rename_i e
      refine idxF_in l (k + 1) ?_
      rcases List.mem_cons.1 h with rfl | h
      · exact absurd rfl e
      · exact h
/-- A field that is not protected and has places: it may be written, what End leaves is null, and it is marked. -/
theorem end_all {s : Spc} (h : s.OK) {a : Nat} (ha : a < s.L.length) (hp : s.P a = true) (hpr : (s.cel a).prot = false) (hK : 0 < (plL s.P s.L.length a).length) : openB s ((a : Int) + 1) = true ∧ (fldX (endS s ((a : Int) + 1)) a).count 0 = (plL s.P s.L.length a).length ∧ a ∈ mdS (endS s ((a : Int) + 1)) (endS s ((a : Int) + 1)).A := by
  have hN := h.pos
  have hlen := h.len
  have he : plL s.P s.L.length a = plF s.P s.L.length a (s.L.length - 1) 0 := by unfold plL; rw [if_pos hp]
  have hg := fun k (hk : k < (plL s.P s.L.length a).length) => plF_get s.P s.L.length a (s.L.length - 1) 0 k (by rw [← he]; exact hk)
  have hle := plF_len s.P s.L.length a (s.L.length - 1) 0
  rw [← he] at hg hle
  generalize plL s.P s.L.length a = pl at hg hle hK he ⊢
  have hw : s.wr ((a : Int) + 1) = (a + 1) % s.L.length := by
    unfold Spc.wr
    rw [show (a : Int) + 1 = ((a + 1 : Nat) : Int) by push_cast; rfl, ← Int.natCast_emod, Int.toNat_natCast]
  have hp0 : s.P ((a + 1) % s.L.length) = false := by
    have q := (hg 0 hK).2
    rwa [Nat.zero_add, Nat.add_zero] at q
  have hst : stF s.P s.L.length ((a + 1) % s.L.length) = (a : Int) := by
    have q := stF_pl (k := 0) ha hp (by omega) (fun j hj => by
      obtain rfl : j = 0 := by omega
      rw [Nat.add_zero]
      exact hp0)
    rwa [Nat.add_zero] at q
  have hA : 0 < s.A.length := by
    have q := (attP_at s.P ha hp).1
    unfold Spc.A
    omega
  have hT : endT s ((a : Int) + 1) = (a : Int) + 1 := by unfold endT; rw [if_pos (decide_eq_true hA)]
  have eN : (lenZ s.r s.c ((a : Int) + 1) ((a : Int) + 1)).toNat = s.L.length := by
    unfold lenZ
    rw [Int.sub_self, Int.zero_emod, if_pos rfl, ← hlen, Int.toNat_natCast]
  have hin : ∀ k, k < pl.length → (endL s ((a : Int) + 1))[k]? = pl[k]? ∧ k < (endL s ((a : Int) + 1)).length := by
    have hs : ∀ k, k < pl.length → (spN s.L.length ((a + 1) % s.L.length) s.L.length)[k]? = some ((a + 1 + k) % s.L.length) := fun k hk => by
      rw [spN_get (by omega), Nat.mod_add_mod]
    intro k hk
    unfold endL restL
    rw [hT, eN, hw]
    unfold ahL
    have hgk := fun k (hk : k < pl.length) => (show pl[k]? = some ((a + 1 + k) % s.L.length) ∧ s.P ((a + 1 + k) % s.L.length) = false from by
      have q := hg k hk
      rw [Nat.zero_add] at q
      exact q)
    induction k with
    | zero =>
      obtain ⟨q1, q2⟩ := (tw_at (p := fun i => !s.P i) _ 0 _ (hs 0 hk) (Nat.zero_le _)).1 (by rw [(hgk 0 hk).2]; rfl)
      exact ⟨q2.trans (hgk 0 hk).1.symm, q1⟩
    | succ k ih =>
      obtain ⟨_, i2⟩ := ih (by omega)
      obtain ⟨q1, q2⟩ := (tw_at (p := fun i => !s.P i) _ (k + 1) _ (hs (k + 1) hk) (by omega)).1 (by rw [(hgk (k + 1) hk).2]; rfl)
      exact ⟨q2.trans (hgk (k + 1) hk).1.symm, q1⟩
  have hal := endS_alike s ((a : Int) + 1)
  have hcl := clrR_alike s (endL s ((a : Int) + 1)) (endL s ((a : Int) + 1)).length
  refine ⟨?_, ?_, ?_⟩
  · unfold openB Spc.atC
    rw [hw, hst]
    unfold protF
    rw [if_neg (by omega), Int.toNat_natCast, hpr]
    rw [show (s.cel ((a + 1) % s.L.length)).at_ = false from hp0]
    rfl
  · unfold fldX
    rw [hal.P, hal.len, hal.wr, wr_nat ha]
    have e2 : plL s.P s.L.length a = pl := by unfold plL; rw [if_pos hp]; exact he.symm
    rw [e2]
    have hz : txL (endS s ((a : Int) + 1)) pl = List.replicate pl.length 0 := by
      refine List.eq_replicate_iff.2 ⟨by unfold txL; rw [List.length_map], fun x hx => ?_⟩
      obtain ⟨i, hi, rfl⟩ := List.mem_map.1 hx
      obtain ⟨k, hk, rfl⟩ := List.mem_iff_getElem.1 hi
      obtain ⟨q1, q2⟩ := hin k hk
      rw [List.getElem?_eq_getElem hk] at q1
      have hfr := restL_free h _ (List.mem_of_getElem? (show (restL s ((a : Int) + 1) (endT s ((a : Int) + 1)))[k]? = some pl[k] from q1))
      show ((endS s ((a : Int) + 1)).cel pl[k]).ch = 0
      unfold endS
      rw [modS_ch _ _ (by rw [hcl.P]; exact hfr.2)]
      exact clrR_ch (fun x hx => restL_free h x hx) _ (Nat.le_refl _) _ ⟨k, q2, q1⟩
    rw [hz, List.count_replicate_self]
  · unfold mdS
    rw [List.mem_filter]
    refine ⟨?_, ?_⟩
    · unfold Spc.A attP
      rw [hal.P, hal.len, List.mem_filter, List.mem_range]
      exact ⟨ha, hp⟩
    · have ec : (endS s ((a : Int) + 1)).cel a = fit ((s.cel a).mk1 true) := by
        unfold endS modS
        rw [hcl.P, hcl.len, hcl.wr, hw, hst, if_neg (by omega), Int.toNat_natCast]
        unfold mkS
        rw [Spc.put1_cel, if_pos ⟨rfl, by rw [hcl.len]; exact ha⟩, clrR_attr s _ _ a hp]
      rw [ec]
      exact modi_mk (h.cel a) hp
set_option maxRecDepth 100000 in
theorem contains_any (v : Value) (xs : List Nat) (a : Nat) (w : World) (hv : w.ownsRow 0 3 1 v xs.length (intsV (xs.map Int.ofNat))) (hl : xs.length ≤ 1000000) (ha : a ∈ xs) : Calls Try.prog 35 #[v, .int .i64 a] w fun e w' => e = .returned (.bool true) ∧ Below w.heap.size w w' := by
  have HI := hid (sindex_any v xs a w hv hl)
  have h0 : 0 ≤ idxZ xs (a : Int) := idxF_in xs 0 ha
  obtain ⟨y, c, rfl⟩ := row_any hv
  generalize idxZ xs (a : Int) = z at HI h0
  clear hv
  go_enter Try.func35, Try.ntmps35
  go_wp2_with fail
  with_reducible refine HI.out.mono ?_
  rintro e w1 ⟨rfl, hb⟩
  have HB := hid hb
  clear hb
  go_wp2
  go_ret
  exact ⟨by simp [h0], HB.out⟩
end Go.Proofs.Ytpehhinpohmpiaa
