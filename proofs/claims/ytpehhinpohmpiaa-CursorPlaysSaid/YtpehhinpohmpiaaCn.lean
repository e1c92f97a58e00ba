/-
  Tabs go round: purely, and Tab and BackTab by it.
-/
import Derived.Test.YtpehhinpohmpiaaCm
namespace Go.Proofs.Ytpehhinpohmpiaa
open Go.RowKit Go.Lib Go.Deep

/-- The q-th place, round. -/
def tq (l : List Nat) (q : Nat) : Nat := l.getD (q % l.length) 0
theorem tq_get {l : List Nat} (h : 0 < l.length) (q : Nat) : l[q % l.length]? = some (tq l q) := by
  have := Nat.mod_lt q h
  unfold tq
  rw [List.getD_eq_getElem?_getD, List.getElem?_eq_getElem this]
  rfl
theorem tq_mem {s : Spc} (h : 0 < (tabL s).length) (q : Nat) : tq (tabL s) q < s.L.length ∧ firstB s (tq (tabL s) q : Int) = true := tabL_mem.1 (List.mem_of_getElem? (tq_get h q))
theorem up_le {l : List Nat} (hs : l.Pairwise (· < ·)) {i j x y : Nat} (hi : l[i]? = some x) (hj : l[j]? = some y) (h : i ≤ j) : x ≤ y := by
  obtain ⟨h1, rfl⟩ := List.getElem?_eq_some_iff.1 hi
  obtain ⟨h2, rfl⟩ := List.getElem?_eq_some_iff.1 hj
  by_cases e : i = j
  · subst e; exact Nat.le_refl _
  · exact Nat.le_of_lt (List.pairwise_iff_getElem.1 hs i j h1 h2 (by omega))
theorem up_lt {l : List Nat} (hs : l.Pairwise (· < ·)) {i j x y : Nat} (hi : l[i]? = some x) (hj : l[j]? = some y) (h : x < y) : i < j := by
  apply Nat.lt_of_not_le
  intro q
  have := up_le hs hj hi q
  omega
/-- A step on or back, d places. -/
theorem seek_step {s : Spc} (h : s.OK) (back : Bool) {p x k : Nat} (hp : p < s.L.length) (hx : x < s.L.length) (hf : firstB s (x : Int) = true) (hk : k < s.L.length) (he : ((p : Int) + stB back * ((k : Int) + 1)) % (s.L.length : Int) = (x : Int) % (s.L.length : Int)) (hn : ∀ j : Nat, j < k → firstB s ((p : Int) + stB back * ((j : Int) + 1)) = false) : seekZ s (s.wr (p : Int)) (stB back) = (x : Int) := by
  rw [wr_nat hp]
  refine (SeekR.is (.inl ⟨k, hk, ?_, hn, ?_⟩)).symm
  · rw [firstB_congr he]; exact hf
  · rw [wr_congr he, wr_nat hx]
theorem first_wrap {s : Spc} (n : Int) (k : Int) : firstB s (n + k * (s.L.length : Int)) = firstB s n := firstB_congr (by rw [Int.add_mul_emod_self_right])
theorem tab_cyc {s : Spc} (h : s.OK) (hL : 0 < (tabL s).length) (q : Nat) : tabZ s (tq (tabL s) q : Int) false = (tq (tabL s) (q + 1) : Int) := by
  have hN := h.pos
  have hp := tq_mem hL q
  have hx := tq_mem hL (q + 1)
  have gp := tq_get hL q
  have gx := tq_get hL (q + 1)
  have hup := tabL_up s
  have hq := Nat.mod_lt q hL
  have hsz : seekZ s (s.wr (tq (tabL s) q : Int)) (stB false) = (tq (tabL s) (q + 1) : Int) := by
    have hst : stB false = 1 := rfl
    have key : ∀ y : Nat, y < s.L.length → firstB s (y : Int) = true → ∃ j, (tabL s)[j]? = some y := fun y hy hf => by
      obtain ⟨j, hj, e⟩ := List.mem_iff_getElem.1 (tabL_mem.2 ⟨hy, hf⟩)
      exact ⟨j, by rw [List.getElem?_eq_getElem hj, e]⟩
    generalize tq (tabL s) q = p at hp gp ⊢
    generalize tq (tabL s) (q + 1) = x at hx gx ⊢
    by_cases hl : q % (tabL s).length + 1 < (tabL s).length
    · have e1 : (q + 1) % (tabL s).length = q % (tabL s).length + 1 := by rw [Nat.add_mod, Nat.mod_eq_of_lt (show 1 < (tabL s).length by omega), Nat.mod_eq_of_lt hl]
      rw [e1] at gx
      have hlt : p < x := by
        obtain ⟨h1, rfl⟩ := List.getElem?_eq_some_iff.1 gp
        obtain ⟨h2, rfl⟩ := List.getElem?_eq_some_iff.1 gx
        exact List.pairwise_iff_getElem.1 hup _ _ h1 h2 (by omega)
      refine seek_step h false (k := x - p - 1) hp.1 hx.1 hx.2 (by omega) (by rw [hst]; congr 1; omega) (fun j hj => ?_)
      rw [hst, show ((p : Int) + 1 * ((j : Int) + 1)) = ((p + 1 + j : Nat) : Int) by push_cast; omega]
      cases hf : firstB s ((p + 1 + j : Nat) : Int)
      · rfl
      · obtain ⟨i, hi⟩ := key _ (by omega) hf
        have := up_lt hup gp hi (by omega)
        have := up_lt hup hi gx (by omega)
        omega
    · have e0 : q % (tabL s).length = (tabL s).length - 1 := by omega
      have e1 : (q + 1) % (tabL s).length = 0 := by
        rw [← Nat.mod_add_mod, e0, show (tabL s).length - 1 + 1 = (tabL s).length by omega, Nat.mod_self]
      rw [e1] at gx
      have hle : x ≤ p := up_le hup gx gp (Nat.zero_le _)
      refine seek_step h false (k := x + s.L.length - p - 1) hp.1 hx.1 hx.2 (by omega) ?_ (fun j hj => ?_)
      · rw [hst, show (p : Int) + 1 * (((x + s.L.length - p - 1 : Nat) : Int) + 1) = (x : Int) + 1 * (s.L.length : Int) by omega, Int.add_mul_emod_self_right]
      · rw [hst]
        by_cases hj2 : p + 1 + j < s.L.length
        · rw [show ((p : Int) + 1 * ((j : Int) + 1)) = ((p + 1 + j : Nat) : Int) by push_cast; omega]
          cases hf : firstB s ((p + 1 + j : Nat) : Int)
          · rfl
          · obtain ⟨i, hi⟩ := key _ hj2 hf
            have := up_lt hup gp hi (by omega)
            have := (List.getElem?_eq_some_iff.1 hi).1
            omega
        · rw [show ((p : Int) + 1 * ((j : Int) + 1)) = ((p + 1 + j - s.L.length : Nat) : Int) + 1 * (s.L.length : Int) by omega, first_wrap]
          cases hf : firstB s ((p + 1 + j - s.L.length : Nat) : Int)
          · rfl
          · obtain ⟨i, hi⟩ := key _ (by omega) hf
            have := up_lt hup hi gx (by omega)
            omega
  unfold tabZ
  rw [hsz, if_neg (by omega)]
theorem back_cyc {s : Spc} (h : s.OK) (hL : 0 < (tabL s).length) (q : Nat) : tabZ s (tq (tabL s) (q + 1) : Int) true = (tq (tabL s) q : Int) := by
  have hN := h.pos
  have hp := tq_mem hL (q + 1)
  have hx := tq_mem hL q
  have gp := tq_get hL (q + 1)
  have gx := tq_get hL q
  have hup := tabL_up s
  have hq := Nat.mod_lt q hL
  have hsz : seekZ s (s.wr (tq (tabL s) (q + 1) : Int)) (stB true) = (tq (tabL s) q : Int) := by
    have hst : stB true = -1 := rfl
    have key : ∀ y : Nat, y < s.L.length → firstB s (y : Int) = true → ∃ j, (tabL s)[j]? = some y := fun y hy hf => by
      obtain ⟨j, hj, e⟩ := List.mem_iff_getElem.1 (tabL_mem.2 ⟨hy, hf⟩)
      exact ⟨j, by rw [List.getElem?_eq_getElem hj, e]⟩
    generalize tq (tabL s) (q + 1) = p at hp gp ⊢
    generalize tq (tabL s) q = x at hx gx ⊢
    by_cases hl : q % (tabL s).length + 1 < (tabL s).length
    · have e1 : (q + 1) % (tabL s).length = q % (tabL s).length + 1 := by rw [Nat.add_mod, Nat.mod_eq_of_lt (show 1 < (tabL s).length by omega), Nat.mod_eq_of_lt hl]
      rw [e1] at gp
      have hlt : x < p := by
        obtain ⟨h1, rfl⟩ := List.getElem?_eq_some_iff.1 gx
        obtain ⟨h2, rfl⟩ := List.getElem?_eq_some_iff.1 gp
        exact List.pairwise_iff_getElem.1 hup _ _ h1 h2 (by omega)
      refine seek_step h true (k := p - x - 1) hp.1 hx.1 hx.2 (by omega) (by rw [hst]; congr 1; omega) (fun j hj => ?_)
      rw [hst, show ((p : Int) + -1 * ((j : Int) + 1)) = ((p - 1 - j : Nat) : Int) by omega]
      cases hf : firstB s ((p - 1 - j : Nat) : Int)
      · rfl
      · obtain ⟨i, hi⟩ := key _ (by omega) hf
        have := up_lt hup gx hi (by omega)
        have := up_lt hup hi gp (by omega)
        omega
    · have e0 : q % (tabL s).length = (tabL s).length - 1 := by omega
      have e1 : (q + 1) % (tabL s).length = 0 := by
        rw [← Nat.mod_add_mod, e0, show (tabL s).length - 1 + 1 = (tabL s).length by omega, Nat.mod_self]
      rw [e1] at gp
      have hle : p ≤ x := up_le hup gp gx (Nat.zero_le _)
      refine seek_step h true (k := p + s.L.length - x - 1) hp.1 hx.1 hx.2 (by omega) ?_ (fun j hj => ?_)
      · rw [hst, show (p : Int) + -1 * (((p + s.L.length - x - 1 : Nat) : Int) + 1) = (x : Int) + -1 * (s.L.length : Int) by omega, Int.add_mul_emod_self_right]
      · rw [hst]
        by_cases hj2 : j < p
        · rw [show ((p : Int) + -1 * ((j : Int) + 1)) = ((p - 1 - j : Nat) : Int) by omega]
          cases hf : firstB s ((p - 1 - j : Nat) : Int)
          · rfl
          · obtain ⟨i, hi⟩ := key _ (by omega) hf
            have := up_lt hup hi gp (by omega)
            omega
        · rw [show ((p : Int) + -1 * ((j : Int) + 1)) = ((p + s.L.length - 1 - j : Nat) : Int) + -1 * (s.L.length : Int) by omega, first_wrap]
          cases hf : firstB s ((p + s.L.length - 1 - j : Nat) : Int)
          · rfl
          · obtain ⟨i, hi⟩ := key _ (by omega) hf
            have := up_lt hup gx hi (by omega)
            have := (List.getElem?_eq_some_iff.1 hi).1
            omega
  unfold tabZ
  rw [hsz, if_neg (by omega)]
theorem tab_nil {s : Spc} (h : s.OK) (hL : (tabL s).length = 0) (n : Int) : tabZ s n false = 0 := by
  unfold tabZ
  by_cases h0 : seekZ s (s.wr n) (stB false) < 0
  · rw [if_pos h0]
  · obtain ⟨a, ha, e, hf⟩ := seek_first h (seekZ_R s (s.wr n) (stB false)) (by omega)
    have := List.length_pos_of_mem (tabL_mem.2 ⟨ha, hf⟩)
    omega
theorem idx_tq {s : Spc} {i : Nat} (hi : i < (tabL s).length) : idxZ (tabL s) (tq (tabL s) i) = (i : Int) := by
  have g := tq_get (l := tabL s) (by omega) i
  rw [Nat.mod_eq_of_lt hi] at g
  refine NoF.found (fun j y hj hy e => ?_) g rfl
  have hup := tabL_up s
  obtain ⟨h1, rfl⟩ := List.getElem?_eq_some_iff.1 hy
  obtain ⟨h2, e2⟩ := List.getElem?_eq_some_iff.1 g
  have := List.pairwise_iff_getElem.1 hup j i h1 h2 hj
  omega
section
variable {b g : Nat} {s : Spc}
theorem tabq_any (hok : s.OK) (hL : 0 < (tabL s).length) (q : Nat) (w : World) (h : SpM w b g (s.cuS (tq (tabL s) q))) : Calls Try.prog 51 #[.pointer (some ⟨b, 0, none⟩)] w (SpD b g (s.cuS (tq (tabL s) (q + 1))) w) := by
  have r := tab_any (b := b) (g := g) w h
  have e : tabZ s (tq (tabL s) q : Int) false = (tq (tabL s) (q + 1) : Int) := tab_cyc hok hL q
  have e2 : (s.cuS (tq (tabL s) q)).cuS (tabZ (s.cuS (tq (tabL s) q)) (s.cuS (tq (tabL s) q)).cu false) = s.cuS (tabZ s (tq (tabL s) q : Int) false) := rfl
  rw [e2, e] at r
  exact r
theorem backq_any (hok : s.OK) (hL : 0 < (tabL s).length) (q : Nat) (w : World) (h : SpM w b g (s.cuS (tq (tabL s) (q + 1)))) : Calls Try.prog 54 #[.pointer (some ⟨b, 0, none⟩)] w (SpD b g (s.cuS (tq (tabL s) q)) w) := by
  have r := backtab_any (b := b) (g := g) w h
  have e : tabZ s (tq (tabL s) (q + 1) : Int) true = (tq (tabL s) q : Int) := back_cyc hok hL q
  have e2 : (s.cuS (tq (tabL s) (q + 1))).cuS (tabZ (s.cuS (tq (tabL s) (q + 1))) (s.cuS (tq (tabL s) (q + 1))).cu true) = s.cuS (tabZ s (tq (tabL s) (q + 1) : Int) true) := rfl
  rw [e2, e] at r
  exact r
end
end Go.Proofs.Ytpehhinpohmpiaa
