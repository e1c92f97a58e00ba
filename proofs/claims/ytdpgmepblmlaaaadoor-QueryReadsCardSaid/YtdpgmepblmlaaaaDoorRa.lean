/-
  Structured fields (pure): the first of bytes, all of them, what is told; what each asks for; their bytes.
-/
import Derived.Test.YtdpgmepblmlaaaaDoorOd
namespace Go.Proofs.YtdpgmepblmlaaaaDoor
open Go.RowKit Go.Lib

/-- A field: its identifier and its data. -/
structure SfD where
  id : Int
  data : List Int
def sfZ : SfD := ⟨0, []⟩
def numS (p : List Int) : Int := 256 * p.getD 0 0 + p.getD 1 0
def lenS (p : List Int) : Int := if numS p = 0 then (p.length : Int) else numS p
/-- The first one: the error, the field, how many bytes. -/
def sF (p : List Int) : Int × SfD × Nat :=
  if p.length < 3 then (2, sfZ, 0) else if lenS p < 3 ∨ (p.length : Int) < lenS p then (2, sfZ, 0) else (0, ⟨p.getD 2 0, (p.take (lenS p).toNat).drop 3⟩, (lenS p).toNat)
theorem sF_short {p : List Int} (h : p.length < 3) : sF p = (2, sfZ, 0) := by unfold sF; rw [if_pos h]
theorem sF_bad {p : List Int} (h : ¬ p.length < 3) (h2 : lenS p < 3 ∨ (p.length : Int) < lenS p) : sF p = (2, sfZ, 0) := by unfold sF; rw [if_neg h, if_pos h2]
theorem sF_ok {p : List Int} (h : ¬ p.length < 3) (h2 : ¬ (lenS p < 3 ∨ (p.length : Int) < lenS p)) : sF p = (0, ⟨p.getD 2 0, (p.take (lenS p).toNat).drop 3⟩, (lenS p).toNat) := by unfold sF; rw [if_neg h, if_neg h2]
theorem sF_used {p : List Int} (h : (sF p).1 = 0) : 3 ≤ (sF p).2.2 ∧ (sF p).2.2 ≤ p.length := by
  unfold sF at h ⊢
  by_cases h1 : p.length < 3
  · rw [if_pos h1] at h
    exact absurd h (by decide)
  rw [if_neg h1] at h ⊢
  by_cases h2 : lenS p < 3 ∨ (p.length : Int) < lenS p
  · rw [if_pos h2] at h
    exact absurd h (by decide)
  rw [if_neg h2]
  dsimp only
  omega
theorem sF_er (p : List Int) : (sF p).1 = 0 ∨ sF p = (2, sfZ, 0) := by
  unfold sF
  by_cases h1 : p.length < 3
  · rw [if_pos h1]
    exact .inr rfl
  rw [if_neg h1]
  by_cases h2 : lenS p < 3 ∨ (p.length : Int) < lenS p
  · rw [if_pos h2]
    exact .inr rfl
  rw [if_neg h2]
  exact .inl rfl
theorem sF_len (p : List Int) : (sF p).2.1.data.length ≤ p.length := by
  unfold sF
  by_cases h1 : p.length < 3
  · rw [if_pos h1]
    exact Nat.zero_le _
  rw [if_neg h1]
  by_cases h2 : lenS p < 3 ∨ (p.length : Int) < lenS p
  · rw [if_pos h2]
    exact Nat.zero_le _
  rw [if_neg h2]
  show ((p.take (lenS p).toNat).drop 3).length ≤ p.length
  rw [List.length_drop, List.length_take]
  omega
def BytL (xs : List Int) : Prop := ∀ x ∈ xs, 0 ≤ x ∧ x < 256
theorem BytL.getD {xs : List Int} (h : BytL xs) (i : Nat) : 0 ≤ xs.getD i 0 ∧ xs.getD i 0 < 256 := by
  by_cases hi : i < xs.length
  · rw [List.getD, List.getElem?_eq_getElem hi]
    exact h _ (List.getElem_mem hi)
  · rw [List.getD, List.getElem?_eq_none (by omega)]
    exact ⟨Int.le_refl _, (by decide : (0 : Int) < 256)⟩
theorem BytL.drop {xs : List Int} (h : BytL xs) (k : Nat) : BytL (xs.drop k) := fun x q => h x (List.mem_of_mem_drop q)
theorem BytL.take {xs : List Int} (h : BytL xs) (k : Nat) : BytL (xs.take k) := fun x q => h x (List.mem_of_mem_take q)
theorem BytL.append {xs ys : List Int} (h : BytL xs) (k : BytL ys) : BytL (xs ++ ys) := fun x q => by
  rcases List.mem_append.1 q with q | q
  · exact h x q
  · exact k x q
/-- A field of bytes. -/
def SfOK (d : SfD) : Prop := (0 ≤ d.id ∧ d.id < 256) ∧ BytL d.data
theorem sfZ_ok : SfOK sfZ := ⟨⟨Int.le_refl _, (by decide : (0 : Int) < 256)⟩, fun _ h => (by cases h)⟩
theorem sF_okD {p : List Int} (h : BytL p) : SfOK (sF p).2.1 := by
  unfold sF
  by_cases h1 : p.length < 3
  · rw [if_pos h1]
    exact sfZ_ok
  rw [if_neg h1]
  by_cases h2 : lenS p < 3 ∨ (p.length : Int) < lenS p
  · rw [if_pos h2]
    exact sfZ_ok
  rw [if_neg h2]
  exact ⟨h.getD 2, (h.take _).drop 3⟩
/-- All of them, and the error. -/
def sA : Nat → List Int → List SfD × Int
  | 0, _ => ([], 0)
  | f + 1, p => if p = [] then ([], 0) else if (sF p).1 = 0 then ((sF p).2.1 :: (sA f (p.drop (sF p).2.2)).1, (sA f (p.drop (sF p).2.2)).2) else ([], (sF p).1)
theorem sA_nil (f : Nat) : sA f [] = ([], 0) := by cases f <;> rfl
theorem sA_fuel : ∀ (f g : Nat) (xs : List Int), xs.length ≤ f → xs.length ≤ g → sA f xs = sA g xs
  | 0, 0, _, _, _ => rfl
  | 0, g + 1, xs, h, _ => by
    have : xs = [] := List.length_eq_zero_iff.1 (by omega)
    subst this
    rfl
  | f + 1, 0, xs, _, h => by
    have : xs = [] := List.length_eq_zero_iff.1 (by omega)
    subst this
    rfl
  | f + 1, g + 1, xs, h1, h2 => by
    by_cases hx : xs = []
    · subst hx
      rfl
    unfold sA
    rw [if_neg hx, if_neg hx]
    by_cases he : (sF xs).1 = 0
    · rw [if_pos he, if_pos he]
      have u := sF_used he
      rw [sA_fuel f g (xs.drop (sF xs).2.2) (by rw [List.length_drop]; omega) (by rw [List.length_drop]; omega)]
    · rw [if_neg he, if_neg he]
def sfA (xs : List Int) : List SfD × Int := sA xs.length xs
theorem sfA_nil : sfA [] = ([], 0) := rfl
theorem sfA_cons {xs : List Int} (hx : xs ≠ []) (he : (sF xs).1 = 0) : sfA xs = ((sF xs).2.1 :: (sfA (xs.drop (sF xs).2.2)).1, (sfA (xs.drop (sF xs).2.2)).2) := by
  have hl : 0 < xs.length := List.length_pos_iff.2 hx
  have u := sF_used he
  obtain ⟨n, hn⟩ : ∃ n, xs.length = n + 1 := ⟨xs.length - 1, by omega⟩
  unfold sfA
  rw [hn]
  show (if xs = [] then _ else _) = _
  rw [if_neg hx, if_pos he, sA_fuel n _ _ (by rw [List.length_drop]; omega) (Nat.le_refl _)]
theorem sfA_bad {xs : List Int} (hx : xs ≠ []) (he : (sF xs).1 ≠ 0) : sfA xs = ([], (sF xs).1) := by
  have hl : 0 < xs.length := List.length_pos_iff.2 hx
  obtain ⟨n, hn⟩ : ∃ n, xs.length = n + 1 := ⟨xs.length - 1, by omega⟩
  unfold sfA
  rw [hn]
  show (if xs = [] then _ else _) = _
  rw [if_neg hx, if_neg he]
/-- What is told: all of them, and where one isn't there its error. -/
def toldS (xs : List Int) : List (SfD × Int) := (sfA xs).1.map (fun d => (d, (0 : Int))) ++ (if (sfA xs).2 = 0 then [] else [(sfZ, (sfA xs).2)])
/-- Read up to place m, k of them were told. -/
def PosS (zs : List Int) (k m : Nat) : Prop := m ≤ zs.length ∧ k ≤ (sfA zs).1.length ∧ (sfA zs).1.drop k = (sfA (zs.drop m)).1 ∧ (sfA zs).2 = (sfA (zs.drop m)).2
theorem PosS.start (zs : List Int) : PosS zs 0 0 := ⟨Nat.zero_le _, Nat.zero_le _, rfl, rfl⟩
theorem drop_ne {zs : List Int} {m : Nat} (hm : m < zs.length) : zs.drop m ≠ [] := fun q => by
  have := congrArg List.length q
  rw [List.length_drop] at this
  simp at this
  omega
theorem PosS.good {zs : List Int} {k m : Nat} (h : PosS zs k m) (hm : m < zs.length) (he : (sF (zs.drop m)).1 = 0) : k < (sfA zs).1.length ∧ (sfA zs).1[k]? = some (sF (zs.drop m)).2.1 ∧ PosS zs (k + 1) (m + (sF (zs.drop m)).2.2) := by
  have u := sF_used he
  rw [List.length_drop] at u
  have c := sfA_cons (drop_ne hm) he
  have e0 : (sfA zs).1[k]? = some (sF (zs.drop m)).2.1 := by
    have : ((sfA zs).1.drop k)[0]? = some (sF (zs.drop m)).2.1 := by rw [h.2.2.1, c]; rfl
    rwa [List.getElem?_drop, Nat.add_zero] at this
  have hk := (List.getElem?_eq_some_iff.1 e0).1
  refine ⟨hk, e0, by omega, hk, ?_, ?_⟩
  · rw [← List.drop_drop, h.2.2.1, c, List.drop_drop]
    rfl
  · rw [h.2.2.2, c, List.drop_drop]
theorem PosS.bad {zs : List Int} {k m : Nat} (h : PosS zs k m) (hm : m < zs.length) (he : (sF (zs.drop m)).1 ≠ 0) : k = (sfA zs).1.length ∧ (sfA zs).2 = (sF (zs.drop m)).1 := by
  have c := sfA_bad (drop_ne hm) he
  have e := congrArg List.length h.2.2.1
  rw [c, List.length_drop] at e
  simp at e
  exact ⟨by have := h.2.1; omega, by rw [h.2.2.2, c]⟩
theorem PosS.stop {zs : List Int} {k : Nat} (h : PosS zs k zs.length) : k = (sfA zs).1.length ∧ (sfA zs).2 = 0 := by
  have c : sfA (zs.drop zs.length) = ([], 0) := by rw [List.drop_length]; rfl
  have e := congrArg List.length h.2.2.1
  rw [c, List.length_drop] at e
  simp at e
  exact ⟨by have := h.2.1; omega, by rw [h.2.2.2, c]⟩
theorem told_good {zs : List Int} {k : Nat} {d : SfD} (h : (sfA zs).1[k]? = some d) : (toldS zs)[k]? = some (d, 0) := by
  have hk := (List.getElem?_eq_some_iff.1 h).1
  unfold toldS
  rw [List.getElem?_append_left (by simpa using hk), List.getElem?_map, h]
  rfl
theorem told_bad {zs : List Int} (h : (sfA zs).2 ≠ 0) : (toldS zs)[(sfA zs).1.length]? = some (sfZ, (sfA zs).2) ∧ (toldS zs).length = (sfA zs).1.length + 1 := by
  unfold toldS
  rw [if_neg h]
  refine ⟨?_, by simp⟩
  rw [List.getElem?_append_right (by simp)]
  simp
theorem told_all {zs : List Int} (h : (sfA zs).2 = 0) : (toldS zs).length = (sfA zs).1.length := by
  unfold toldS
  rw [if_pos h]
  simp
/-- What the iterator tells at a place. -/
theorem PosS.at_ {zs : List Int} {k m : Nat} (h : PosS zs k m) (hm : m < zs.length) : k < (toldS zs).length ∧ (toldS zs)[k]? = some ((sF (zs.drop m)).2.1, (sF (zs.drop m)).1) := by
  have q : (toldS zs)[k]? = some ((sF (zs.drop m)).2.1, (sF (zs.drop m)).1) := by
    by_cases he : (sF (zs.drop m)).1 = 0
    · rw [told_good (h.good hm he).2.1, he]
    · have b := h.bad hm he
      have e := (sF_er (zs.drop m)).resolve_left he
      rw [b.1, (told_bad (by rw [b.2]; exact he)).1, b.2, e]
  exact ⟨(List.getElem?_eq_some_iff.1 q).1, q⟩
theorem PosS.last {zs : List Int} {k m : Nat} (h : PosS zs k m) (hm : m < zs.length) (he : (sF (zs.drop m)).1 ≠ 0) : k + 1 = (toldS zs).length := by
  have b := h.bad hm he
  rw [(told_bad (by rw [b.2]; exact he)).2, b.1]
theorem PosS.end_ {zs : List Int} {k : Nat} (h : PosS zs k zs.length) : k = (toldS zs).length := by
  have s := h.stop
  rw [told_all s.2, s.1]
/-- The bytes and the sizes of all of them. -/
theorem sA_ok : ∀ (f : Nat) (p : List Int), BytL p → ∀ d ∈ (sA f p).1, SfOK d ∧ d.data.length ≤ p.length
  | 0, _, _, d, h => by cases h
  | f + 1, p, hp, d, h => by
    unfold sA at h
    by_cases hx : p = []
    · rw [if_pos hx] at h
      cases h
    rw [if_neg hx] at h
    by_cases he : (sF p).1 = 0
    · rw [if_pos he] at h
      rcases List.mem_cons.1 h with rfl | h
      · exact ⟨sF_okD hp, sF_len p⟩
      · have q := sA_ok f _ (hp.drop _) d h
        exact ⟨q.1, Nat.le_trans q.2 (by rw [List.length_drop]; omega)⟩
    · rw [if_neg he] at h
      cases h
theorem sfA_ok {p : List Int} (hp : BytL p) : ∀ d ∈ (sfA p).1, SfOK d ∧ d.data.length ≤ p.length := sA_ok _ _ hp
theorem sA_count : ∀ (f : Nat) (p : List Int), (sA f p).1.length * 3 ≤ p.length
  | 0, _ => Nat.zero_le _
  | f + 1, p => by
    unfold sA
    by_cases hx : p = []
    · rw [if_pos hx]
      exact Nat.zero_le _
    rw [if_neg hx]
    by_cases he : (sF p).1 = 0
    · rw [if_pos he]
      have u := sF_used he
      have q := sA_count f (p.drop (sF p).2.2)
      rw [List.length_drop] at q
      show ((sF p).2.1 :: _).length * 3 ≤ _
      rw [List.length_cons]
      omega
    · rw [if_neg he]
      exact Nat.zero_le _
theorem told_len (p : List Int) : (toldS p).length ≤ p.length + 1 := by
  have q : (sfA p).1.length * 3 ≤ p.length := sA_count _ _
  by_cases he : (sfA p).2 = 0
  · rw [told_all he]
    omega
  · rw [(told_bad he).2]
    omega
end Go.Proofs.YtdpgmepblmlaaaaDoor
