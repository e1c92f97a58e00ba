/-
  Names put in one by one, behind the lesser ones: they come out sorted, or one stands twice.
-/
import Derived.Test.YtadoiplfglaonabNewa
namespace Go.Proofs.Ytadoiplfglaonab
theorem rising_pw {ts : List (List UInt8)} (h : Rising ts) : ts.Pairwise (· < ·) := by
  rw [List.pairwise_iff_getElem]
  intro i j hi hj hij
  have := h i j hij hj
  simpa [List.getD, List.getElem?_eq_getElem, hi, hj] using this
theorem pw_rising {ts : List (List UInt8)} (h : ts.Pairwise (· < ·)) : Rising ts := by
  rw [List.pairwise_iff_getElem] at h
  intro i j hij hj
  have := h i j (by omega) hj hij
  simpa [List.getD, List.getElem?_eq_getElem, hj, show i < ts.length by omega] using this
theorem sorted_perm (zs : List ByteArray) : (sorted zs).Perm (zs.map fun s => s.data.toList) := List.mergeSort_perm _ _
theorem sorted_le (zs : List ByteArray) : (sorted zs).Pairwise (· ≤ ·) := by
  have hp : (sorted zs).Pairwise fun a b => decide (a ≤ b) = true := List.pairwise_mergeSort (le := fun x y => decide (x ≤ y)) (fun a b c h1 h2 => by simp at h1 h2 ⊢; exact List.le_trans h1 h2) (fun a b => by simp; exact List.le_total a b) _
  exact hp.imp (by simp)
/-- A rising list of just these names is the sorted one. -/
theorem eq_sorted {zs : List ByteArray} {ts : List (List UInt8)} (hp : ts.Perm (zs.map fun s => s.data.toList)) (hr : Rising ts) : ts = sorted zs :=
  List.Perm.eq_of_pairwise (le := (· ≤ ·)) (fun _ _ _ _ h1 h2 => List.le_antisymm h1 h2) ((rising_pw hr).imp (fun h => List.le_of_lt h)) (sorted_le zs) (hp.trans (sorted_perm zs).symm)
theorem twice_rising {ts : List (List UInt8)} (h : Rising ts) (k : Nat) : twice ts k = false := by
  unfold twice
  rw [List.any_eq_false]
  intro i _ hd
  simp only [decide_eq_true_eq] at hd
  have := h (i - 1) i (by omega) hd.2.1
  rw [hd.2.2] at this
  exact List.lt_irrefl _ this
/-- A name that stands among earlier ones: the list has it twice. -/
theorem twice_of_mem {zs : List ByteArray} {k : Nat} (hk : k < zs.length) (h : (zs.getD k ByteArray.empty).data.toList ∈ (zs.take k).map fun s => s.data.toList) : twice (sorted zs) zs.length = true := by
  cases ht : twice (sorted zs) zs.length with
  | true => rfl
  | false =>
    exfalso
    have hr := rising_pw (rising_sorted zs ht)
    have hn : (sorted zs).Nodup := hr.imp (fun h e => by subst e; exact List.lt_irrefl _ h)
    have hn2 : (zs.map fun s => s.data.toList).Nodup := (sorted_perm zs).nodup_iff.1 hn
    rw [← List.take_append_drop k zs, List.map_append, List.nodup_append] at hn2
    have := hn2.2.2 _ h ((zs.getD k ByteArray.empty).data.toList) (by
      rw [List.drop_eq_getElem_cons hk, List.map_cons]
      simp only [List.getD, List.getElem?_eq_getElem hk, Option.getD_some]
      exact List.mem_cons_self)
    exact this rfl
/-- A name is put in behind the lesser ones. -/
def insL (ts : List (List UInt8)) (i : Nat) (x : List UInt8) : List (List UInt8) := ts.take i ++ [x] ++ ts.drop i
theorem insL_rising {ts : List (List UInt8)} {i : Nat} {x : List UInt8} (h : Rising ts) (h1 : ∀ j, j < i → j < ts.length → ts.getD j [] < x) (h2 : i < ts.length → x < ts.getD i []) (hi : i ≤ ts.length) : Rising (insL ts i x) := by
  apply pw_rising
  have hp := rising_pw h
  rw [← List.take_append_drop i ts, List.pairwise_append] at hp
  unfold insL
  rw [List.append_assoc, List.pairwise_append]
  have hx : ∀ b ∈ ts.drop i, x < b := by
    intro b hb
    obtain ⟨j, hj, rfl⟩ := List.getElem_of_mem hb
    rw [List.getElem_drop]
    simp at hj
    have h3 := h2 (by omega)
    by_cases h0 : j = 0
    · subst h0; simpa [List.getD, List.getElem?_eq_getElem (show i < ts.length by omega)] using h3
    · have h4 := h i (i + j) (by omega) (by omega)
      have := List.lt_trans h3 h4
      simpa [List.getD, List.getElem?_eq_getElem (show i + j < ts.length by omega)] using this
  have hy : ∀ a ∈ ts.take i, a < x := by
    intro a ha
    obtain ⟨j, hj, rfl⟩ := List.getElem_of_mem ha
    rw [List.getElem_take]
    simp at hj
    have := h1 j (by omega) (by omega)
    simpa [List.getD, List.getElem?_eq_getElem (show j < ts.length by omega)] using this
  refine ⟨hp.1, ?_, ?_⟩
  · simp only [List.singleton_append, List.pairwise_cons]
    exact ⟨hx, hp.2.1⟩
  · intro a ha b hb
    simp only [List.singleton_append, List.mem_cons] at hb
    rcases hb with rfl | hb
    · exact hy a ha
    · exact hp.2.2 a ha b hb
theorem insL_perm {ts : List (List UInt8)} {i : Nat} {x : List UInt8} : (insL ts i x).Perm (ts ++ [x]) := by
  unfold insL
  have h : ts ++ [x] = ts.take i ++ ts.drop i ++ [x] := by rw [List.take_append_drop]
  rw [h, List.append_assoc, List.append_assoc]
  exact List.Perm.append_left _ List.perm_append_comm
theorem insL_length (ts : List (List UInt8)) (i : Nat) (x : List UInt8) (hi : i ≤ ts.length) : (insL ts i x).length = ts.length + 1 := by
  simp [insL]; omega
end Go.Proofs.Ytadoiplfglaonab
