/-
  What a record's orders are (pure); order.Parse, and what its iterator tells.
-/
import Derived.Test.YtdampfngdnicoaaDoorMf
import Derived.Test.YtdampfngdnicoaaDoorJb
namespace Go.Proofs.YtdampfngdnicoaaDoor
open Go.RowKit Go.Lib Go.Deep Go.Shelf
attribute [local go_sem] Oper.semAt_some

/-- It is an order as one may be. -/
structure OpOK (d : OpD) : Prop where
  kd : d.kind ∈ [0, 5, 8, 17, 18, 19, 29, 40, 41, 44, 60]
  a1 : 0 ≤ d.addr
  a2 : d.addr ≤ 65535
  cd : U8 d.code
  fa : U8 d.fa
  ps : ∀ p ∈ d.pairs, knownB p.1 p.2 = true ∧ p.2 < 256
  pl : d.pairs.length ≤ 1000
  tx : ∀ c ∈ d.text, U8 c
  t0 : d.kind = 0 → d.text ≠ []
theorem opZ_with {k : Int} (hk : k ∈ [5, 8, 17, 18, 19, 29, 40, 41, 44, 60]) : OpOK { opZ with kind := k } :=
  ⟨List.mem_cons_of_mem _ hk, Int.le_refl _, (by decide : (0 : Int) ≤ 65535), u8_zero, u8_zero, fun _ h => (by cases h), Nat.zero_le _, fun _ h => (by cases h), fun h => by
    have : k ≠ 0 := fun e => by subst e; simp at hk
    exact absurd h this⟩
theorem decZ_bd {xs : List Int} (hx : ∀ x ∈ xs, U8 x) : 0 ≤ (decZ 12 xs).1 ∧ (decZ 12 xs).1 ≤ 65535 := by
  unfold decZ
  rw [if_neg (by decide)]
  match xs, hx with
  | [], _ => exact ⟨Int.le_refl _, (by decide : (0 : Int) ≤ 65535)⟩
  | [_], _ => exact ⟨Int.le_refl _, (by decide : (0 : Int) ≤ 65535)⟩
  | a :: b :: r, hx =>
    have ha := hx a (by simp)
    have hb := hx b (by simp)
    obtain ⟨a1, a2⟩ := ha
    obtain ⟨b1, b2⟩ := hb
    dsimp only
    repeat' split
    all_goals first | (constructor <;> dsimp only <;> omega) | exact ⟨Int.le_refl _, (by decide : (0 : Int) ≤ 65535)⟩
theorem codF_ok {xs : List Int} (hx : ∀ x ∈ xs, U8 x) : U8 (codF xs).2 := by
  match xs, hx with
  | [], _ => exact u8_zero
  | b :: r, hx =>
    show U8 (if isO b then ((10, 0) : Int × Int) else (0, b)).2
    split
    · exact u8_zero
    · exact hx b (by simp)
theorem sinF_ok {xs : List Int} (hx : ∀ x ∈ xs, U8 x) : U8 (sinF xs).2 := by
  match xs, hx with
  | [], _ => exact u8_zero
  | b :: r, hx => exact hx b (by simp)
theorem u8_drop {xs : List Int} (hx : ∀ x ∈ xs, U8 x) (k : Nat) : ∀ x ∈ xs.drop k, U8 x := fun x h => hx x (List.mem_of_mem_drop h)
theorem isO_mem {b : Int} (h : isO b = true) : b ∈ [5, 8, 17, 18, 19, 29, 40, 41, 44, 60] := List.contains_iff_mem.1 h
theorem u8_toNat {b : Int} (h : U8 b) : b.toNat < 256 := by
  obtain ⟨h1, h2⟩ := h
  omega
theorem u8_getD {xs : List Int} (hx : ∀ x ∈ xs, U8 x) (i : Nat) : U8 (xs.getD i 0) := by
  by_cases h : i < xs.length
  · rw [List.getD, List.getElem?_eq_getElem h]
    exact hx _ (List.getElem_mem h)
  · rw [List.getD, List.getElem?_eq_none (by omega)]
    exact u8_zero
theorem repF_ok {xs : List Int} (hx : ∀ x ∈ xs, U8 x) (h : (repF xs).1 = 0) : OpOK (repF xs).2.1 := by
  have hd := decZ_bd hx
  have z := opZ_with (k := 60) (by decide)
  unfold repF at h ⊢
  split
  · rename_i q
    rw [if_pos q] at h
    exact absurd h q
  · split
    · exact ⟨z.kd, hd.1, hd.2, codF_ok (u8_drop hx 3), z.fa, z.ps, z.pl, z.tx, z.t0⟩
    · exact ⟨z.kd, hd.1, hd.2, codF_ok (u8_drop hx 2), z.fa, z.ps, z.pl, z.tx, z.t0⟩
theorem parF_ok {xs : List Int} (hx : ∀ x ∈ xs, U8 x) (h : (parF xs).1 = 0) : (∀ p ∈ (parF xs).2.1, knownB p.1 p.2 = true ∧ p.2 < 256) ∧ (parF xs).2.1.length ≤ 1000 := by
  have hn := u8_toNat (u8_getD hx 0)
  unfold parF at h ⊢
  generalize (xs.getD 0 0).toNat = n at h hn ⊢
  split
  · rename_i q
    rw [if_pos q] at h
    exact absurd h (by decide)
  · rename_i q
    rw [if_neg q] at h
    split
    · rename_i r
      refine ⟨fun p hp => ?_, by dsimp only; rw [pairsL_length]; omega⟩
      refine ⟨List.all_eq_true.1 r p hp, ?_⟩
      obtain ⟨i, -, rfl⟩ := List.mem_map.1 hp
      exact u8_toNat (u8_getD hx _)
    · rename_i r
      rw [if_neg r] at h
      exact absurd h (by decide)
theorem behF_ok {k : Int} (hk : isO k = true) {xs : List Int} (hx : ∀ x ∈ xs, U8 x) (h : (behF k xs).1 = 0) : OpOK (behF k xs).2.1 := by
  have hm := isO_mem hk
  have z := opZ_with hm
  have hd := decZ_bd hx
  unfold behF at h ⊢
  by_cases h1 : k = 17 ∨ k = 18
  · rw [if_pos h1]
    exact ⟨z.kd, hd.1, hd.2, z.cd, z.fa, z.ps, z.pl, z.tx, z.t0⟩
  rw [if_neg h1] at h ⊢
  by_cases h2 : k = 60
  · rw [if_pos h2] at h ⊢
    exact repF_ok hx h
  rw [if_neg h2] at h ⊢
  by_cases h3 : k = 29
  · rw [if_pos h3]
    exact ⟨z.kd, z.a1, z.a2, z.cd, sinF_ok hx, z.ps, z.pl, z.tx, z.t0⟩
  rw [if_neg h3] at h ⊢
  by_cases h4 : k = 40
  · rw [if_pos h4] at h ⊢
    refine ⟨z.kd, z.a1, z.a2, z.cd, z.fa, ?_, ?_, z.tx, z.t0⟩
    · match xs, hx, h with
      | [], _, h => exact absurd (show (2 : Int) = 0 from h) (by decide)
      | [_], _, h => exact absurd (show (2 : Int) = 0 from h) (by decide)
      | t :: v :: r, hx, h =>
        intro p hp
        have hp' : p = (t.toNat, v.toNat) := by simpa [pairF] using hp
        subst hp'
        refine ⟨?_, u8_toNat (hx v (by simp))⟩
        by_cases hq : knownB t.toNat v.toNat = true
        · exact hq
        · simp [pairF, hq] at h
    · match xs with
      | [] => exact Nat.zero_le _
      | [_] => exact Nat.zero_le _
      | _ :: _ :: _ => show 1 ≤ 1000; omega
  rw [if_neg h4] at h ⊢
  by_cases h5 : k = 41 ∨ k = 44
  · rw [if_pos h5] at h ⊢
    have q := parF_ok hx h
    exact ⟨z.kd, z.a1, z.a2, z.cd, z.fa, q.1, q.2, z.tx, z.t0⟩
  rw [if_neg h5] at h ⊢
  by_cases h6 : k = 8
  · rw [if_pos h6]
    exact ⟨z.kd, z.a1, z.a2, codF_ok hx, z.fa, z.ps, z.pl, z.tx, z.t0⟩
  rw [if_neg h6]
  exact z
theorem firF_cons (b : Int) (r : List Int) : firF (b :: r) = if isO b = true then (if (behF b r).1 = 0 then (0, (behF b r).2.1, 1 + (behF b r).2.2) else ((behF b r).1, opZ, 0)) else (0, opT (tkO (b :: r)), (tkO (b :: r)).length) := rfl
theorem firF_ok {xs : List Int} (hx : ∀ x ∈ xs, U8 x) (h0 : xs ≠ []) (h : (firF xs).1 = 0) : OpOK (firF xs).2.1 := by
  match xs, hx, h0, h with
  | b :: r, hx, _, h =>
    rw [firF_cons] at h ⊢
    by_cases hb : isO b = true
    · rw [if_pos hb] at h ⊢
      by_cases hz : (behF b r).1 = 0
      · rw [if_pos hz]
        exact behF_ok hb (fun x hq => hx x (List.mem_cons_of_mem _ hq)) hz
      · rw [if_neg hz] at h
        exact absurd h hz
    · rw [if_neg hb]
      refine ⟨by simp [opT, opZ], Int.le_refl _, (by decide : (0 : Int) ≤ 65535), u8_zero, u8_zero, fun _ q => (by cases q), Nat.zero_le _, fun c hc => hx c ((List.takeWhile_prefix (p := fun b => !isO b) (l := b :: r)).sublist.subset (show c ∈ tkO (b :: r) from hc)), fun _ q => ?_⟩
      have e : tkO (b :: r) = b :: tkO r := by
        unfold tkO
        rw [List.takeWhile_cons_of_pos (by simpa using hb)]
      have q' : tkO (b :: r) = [] := q
      rw [e] at q'
      cases q'
theorem firF_text_len (xs : List Int) : (firF xs).2.1.text.length ≤ xs.length := by
  match xs with
  | [] => exact Nat.le_refl _
  | b :: r =>
    rw [firF_cons]
    split
    · split
      · rw [behF_text]
        exact Nat.zero_le _
      · exact Nat.zero_le _
    · exact (List.takeWhile_prefix _).length_le
/-- All that is told: the orders, and where one isn't there the error. -/
def opsF : Nat → List Int → List (OpD × Int)
  | 0, _ => []
  | f + 1, xs => if xs = [] then [] else ((firF xs).2.1, (firF xs).1) :: (if (firF xs).1 = 0 then opsF f (xs.drop (firF xs).2.2) else [])
theorem opsF_nil (f : Nat) : opsF f [] = [] := by cases f <;> rfl
/-- More fuel is no more. -/
theorem opsF_fuel : ∀ (f g : Nat) (xs : List Int), xs.length ≤ f → xs.length ≤ g → opsF f xs = opsF g xs
  | 0, 0, _, _, _ => rfl
  | 0, g + 1, xs, h, _ => by
    have : xs = [] := List.length_eq_zero_iff.1 (by omega)
    subst this
    rfl
  | f + 1, 0, xs, _, h => by
    have : xs = [] := List.length_eq_zero_iff.1 (by omega)
    subst this
    rfl
  | f + 1, g + 1, xs, h1, h2 => by
    by_cases hx : xs = []
    · subst hx
      rfl
    unfold opsF
    rw [if_neg hx, if_neg hx]
    by_cases he : (firF xs).1 = 0
    · rw [if_pos he, if_pos he]
      have hl : 0 < xs.length := List.length_pos_iff.2 hx
      have u := fir_used (zs := xs) (k := 0) hl (by simpa using he)
      rw [List.drop_zero] at u
      rw [opsF_fuel f g (xs.drop (firF xs).2.2) (by rw [List.length_drop]; omega) (by rw [List.length_drop]; omega)]
    · rw [if_neg he, if_neg he]
def opsL (xs : List Int) : List (OpD × Int) := opsF xs.length xs
theorem opsL_cons {xs : List Int} (hx : xs ≠ []) (he : (firF xs).1 = 0) : opsL xs = ((firF xs).2.1, 0) :: opsL (xs.drop (firF xs).2.2) := by
  have hl : 0 < xs.length := List.length_pos_iff.2 hx
  have u := fir_used (zs := xs) (k := 0) hl (by simpa using he)
  rw [List.drop_zero] at u
  obtain ⟨n, hn⟩ : ∃ n, xs.length = n + 1 := ⟨xs.length - 1, by omega⟩
  unfold opsL
  rw [hn]
  show (if xs = [] then _ else _) = _
  rw [if_neg hx, if_pos he, he, opsF_fuel n _ _ (by rw [List.length_drop]; omega) (Nat.le_refl _)]
theorem opsL_bad {xs : List Int} (hx : xs ≠ []) (he : (firF xs).1 ≠ 0) : opsL xs = [((firF xs).2.1, (firF xs).1)] := by
  have hl : 0 < xs.length := List.length_pos_iff.2 hx
  obtain ⟨n, hn⟩ : ∃ n, xs.length = n + 1 := ⟨xs.length - 1, by omega⟩
  unfold opsL
  rw [hn]
  show (if xs = [] then _ else _) = _
  rw [if_neg hx, if_neg he]
theorem opsL_nil : opsL [] = [] := rfl
/-- Read up to place m, k of them were told. -/
def PosO (zs : List Int) (k m : Nat) : Prop := m ≤ zs.length ∧ k ≤ (opsL zs).length ∧ (opsL zs).drop k = opsL (zs.drop m)
theorem PosO.start (zs : List Int) : PosO zs 0 0 := ⟨Nat.zero_le _, Nat.zero_le _, rfl⟩
theorem PosO.at_ {zs : List Int} {k m : Nat} (h : PosO zs k m) (hm : m < zs.length) : k < (opsL zs).length ∧ (opsL zs)[k]? = some ((firF (zs.drop m)).2.1, (firF (zs.drop m)).1) := by
  have hx : zs.drop m ≠ [] := fun q => by
    have := congrArg List.length q
    rw [List.length_drop] at this
    simp at this
    omega
  have e : (opsL zs)[k]? = (opsL (zs.drop m))[0]? := by rw [← h.2.2, List.getElem?_drop, Nat.add_zero]
  have q : (opsL (zs.drop m))[0]? = some ((firF (zs.drop m)).2.1, (firF (zs.drop m)).1) := by
    by_cases he : (firF (zs.drop m)).1 = 0
    · rw [opsL_cons hx he, he]
      rfl
    · rw [opsL_bad hx he]
      rfl
  rw [q] at e
  exact ⟨(List.getElem?_eq_some_iff.1 e).1, e⟩
theorem PosO.next {zs : List Int} {k m : Nat} (h : PosO zs k m) (hm : m < zs.length) (he : (firF (zs.drop m)).1 = 0) : PosO zs (k + 1) (m + (firF (zs.drop m)).2.2) := by
  have hx : zs.drop m ≠ [] := fun q => by
    have := congrArg List.length q
    rw [List.length_drop] at this
    simp at this
    omega
  have u := fir_used hm he
  refine ⟨u.2, (h.at_ hm).1, ?_⟩
  rw [← List.drop_drop, h.2.2, opsL_cons hx he, List.drop_drop]
  rfl
theorem PosO.last {zs : List Int} {k m : Nat} (h : PosO zs k m) (hm : m < zs.length) (he : (firF (zs.drop m)).1 ≠ 0) : k + 1 = (opsL zs).length := by
  have hx : zs.drop m ≠ [] := fun q => by
    have := congrArg List.length q
    rw [List.length_drop] at this
    simp at this
    omega
  have e := congrArg List.length h.2.2
  rw [opsL_bad hx he, List.length_drop] at e
  have := (h.at_ hm).1
  simp at e
  omega
theorem PosO.stop {zs : List Int} {k : Nat} (h : PosO zs k zs.length) : k = (opsL zs).length := by
  have e := congrArg List.length h.2.2
  rw [List.drop_length, opsL_nil, List.length_drop] at e
  have := h.2.1
  simp at e
  omega
theorem opsL_ok {zs : List Int} (hz : ∀ x ∈ zs, U8 x) (hl : zs.length ≤ 100000) : ∀ (n : Nat) (xs : List Int), xs.length ≤ n → (∀ x ∈ xs, U8 x) → ∀ p ∈ opsL xs, p.2 = 0 → OpOK p.1 ∧ p.1.text.length ≤ xs.length
  | 0, xs, hn, _, p, hp, _ => by
    have : xs = [] := List.length_eq_zero_iff.1 (by omega)
    subst this
    cases hp
  | n + 1, xs, hn, hx, p, hp, h0 => by
    by_cases he0 : xs = []
    · subst he0
      cases hp
    by_cases he : (firF xs).1 = 0
    · rw [opsL_cons he0 he] at hp
      have hl : 0 < xs.length := List.length_pos_iff.2 he0
      have u := fir_used (zs := xs) (k := 0) hl (by simpa using he)
      rw [List.drop_zero] at u
      rcases List.mem_cons.1 hp with rfl | hp
      · exact ⟨firF_ok hx he0 he, firF_text_len xs⟩
      · have q := opsL_ok hz ‹_› n (xs.drop (firF xs).2.2) (by rw [List.length_drop]; omega) (u8_drop hx _) p hp h0
        exact ⟨q.1, Nat.le_trans q.2 (by rw [List.length_drop]; omega)⟩
    · rw [opsL_bad he0 he] at hp
      have := List.mem_singleton.1 hp
      subst this
      exact absurd h0 he
end Go.Proofs.YtdampfngdnicoaaDoor
