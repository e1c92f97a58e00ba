/-
  The reference's add, in the words of merging; the automaton from a place on.
-/
import Derived.Test.YtdbjjieoohfckaaRb
namespace Go.Proofs.Ytdbjjieoohfckaa
open Go.RowKit Go.Lib

/-- Events of data have no other field. -/
def GoodL (l : List Ev) : Prop := ∀ e ∈ l, e.kind = 0 → e = dat e.data
theorem good_mstep {l : List Ev} {e : Ev} (h : GoodL l) : GoodL (mstep l e) := by
  by_cases he : e.kind = 0
  · rw [mstep_dat _ he]
    by_cases hp : e.data = []
    · rw [hp, addD_nil]; exact h
    rcases snoc_cases l with rfl | ⟨l', f, rfl⟩
    · rw [addD_empty hp]
      intro g hg _
      rw [List.mem_singleton.1 hg]; rfl
    · rw [addD_snoc _ _ hp]
      by_cases hf : f.kind = 0
      · rw [if_pos hf]
        intro g hg hk
        rcases List.mem_append.1 hg with q | q
        · exact h g (List.mem_append.2 (.inl q)) hk
        · have hfd := h f (by simp) hf
          rw [List.mem_singleton.1 q, hfd]; rfl
      · rw [if_neg hf]
        intro g hg hk
        rcases List.mem_append.1 hg with q | q
        · exact h g q hk
        · rw [List.mem_singleton.1 q]; rfl
  · rw [mstep_ev _ he]
    intro g hg hk
    rcases List.mem_append.1 hg with q | q
    · exact h g q hk
    · rw [List.mem_singleton.1 q] at hk; exact absurd hk he
theorem add_any (B : Nat) (v : Value) (xs : List (Ev × Value)) (ek ev eo : Int) (ed : List Int) (el eb : Bool) (d : Value) (w : World) (h : TwoL w B (.slice none 0 0) v [] xs) (hd : DIn w (.slice none 0 0) v d ed) (hB : B ≤ w.heap.size) (hw : wt (xs.map (·.1)) ≤ 5000000) (hel : ed.length ≤ 5000000)
    (hg : GoodL (xs.map (·.1))) (he : ek = 0 → (⟨ek, ev, eo, ed, el, eb⟩ : Ev) = dat ed ∧ ed ≠ []) :
    Calls Try.prog 26 #[v, .agg #[.int .i64 ek, .int .u8 ev, .int .u8 eo, d, .bool el, .bool eb]] w (AddR B (mstep (xs.map (·.1)) ⟨ek, ev, eo, ed, el, eb⟩) w) := by
  have hn : xs.length ≤ 5000000 := by have := wt_length (xs.map (·.1)); rw [List.length_map] at this; omega
  by_cases hz : ek = 0
  · obtain ⟨hz1, hz2⟩ := he hz
    rw [mstep_dat (e := ⟨ek, ev, eo, ed, el, eb⟩) _ hz]
    show Calls _ _ _ _ (AddR B (addD (xs.map (·.1)) ed) w)
    rcases List.eq_nil_or_concat xs with hx | ⟨ys, x, hx⟩
    · subst hx
      have := add_one B v [] ek ev eo ed el eb d w h hd hB (by simp) (.inr (.inl rfl))
      rw [List.map_nil, addD_empty hz2]
      rw [List.map_nil, List.nil_append, hz1] at this
      exact this
    · have hx' : xs = ys ++ [x] := by simpa using hx
      subst hx'
      have hm : (ys ++ [x]).map (·.1) = ys.map (·.1) ++ [x.1] := by simp
      by_cases hk : x.1.kind = 0
      · have hxl : x.1.data.length ≤ 10000000 := by have := wt_mem (l := (ys ++ [x]).map (·.1)) (e := x.1) (by simp); omega
        have hyn : ys.length ≤ 10000000 := by simp at hn; omega
        subst hz
        have := add_two B v ys x ev eo ed el eb d w h hd hB hyn hxl (by omega) hz2 hk
        rw [hm, addD_snoc _ _ hz2, if_pos hk]
        have hxd := hg x.1 (by simp) hk
        rw [show ({ x.1 with data := x.1.data ++ ed } : Ev) = dat (x.1.data ++ ed) by rw [hxd]; rfl]
        exact this
      · have := add_one B v (ys ++ [x]) ek ev eo ed el eb d w h hd hB (by omega) (.inr (.inr ⟨ys, x, rfl, hk⟩))
        rw [hm, addD_snoc _ _ hz2, if_neg hk]
        rw [hm, hz1] at this
        exact this
  · rw [mstep_ev (e := ⟨ek, ev, eo, ed, el, eb⟩) _ hz]
    exact add_one B v xs ek ev eo ed el eb d w h hd hB (by omega) (.inl hz)
theorem drop_at (ps : List Int) (j : Nat) (h : j < ps.length) : ps.drop j = ps.getD j 0 :: ps.drop (j + 1) := by
  rw [List.drop_eq_getElem_cons h, List.getD, List.getElem?_eq_getElem h]; rfl
/-- The state behind the bytes of a subnegotiation. -/
def subSt (o : Int) (all : List Int) : St := .sub o (all.take 256) (decide (256 < all.length))
theorem subSt_keep (o : Int) (all : List Int) (b : Int) : keepS o (all.take 256) (decide (256 < all.length)) b = subSt o (all ++ [b]) := by
  unfold keepS subSt
  by_cases h : 256 ≤ all.length
  · rw [if_pos (by rw [List.length_take]; omega), List.take_append_of_le_length h]
    have : 256 < (all ++ [b]).length := by rw [List.length_append]; show 256 < all.length + 1; omega
    simp only [this, decide_true]
  · rw [if_neg (by rw [List.length_take]; omega), List.take_of_length_le (by omega), List.take_of_length_le (by rw [List.length_append]; show all.length + 1 ≤ 256; omega)]
    have h1 : ¬ 256 < all.length := by omega
    have h2 : ¬ 256 < (all ++ [b]).length := by rw [List.length_append]; show ¬ 256 < all.length + 1; omega
    simp only [h1, h2, decide_false]
theorem sub_byte (o : Int) (all : List Int) (b : Int) (p : List Int) (h : b ≠ 255) : emit (subSt o all) (b :: p) = emit (subSt o (all ++ [b])) p ∧ runS (subSt o all) (b :: p) = runS (subSt o (all ++ [b])) p := by
  have e : stepS (subSt o all) b = (subSt o (all ++ [b]), []) := by
    show stepS (.sub o _ _) b = _
    simp only [stepS, if_neg h, subSt_keep]
  exact ⟨by simp only [emit, e, List.nil_append], by simp only [runS, e]⟩
theorem sub_two (o : Int) (all : List Int) (p : List Int) : emit (subSt o all) (255 :: 255 :: p) = emit (subSt o (all ++ [255])) p ∧ runS (subSt o all) (255 :: 255 :: p) = runS (subSt o (all ++ [255])) p := by
  have e : stepS (subSt o all) 255 = (.subIac o (all.take 256) (decide (256 < all.length)), []) := by
    show stepS (.sub o _ _) 255 = _
    simp only [stepS, if_pos]
  have e2 : stepS (.subIac o (all.take 256) (decide (256 < all.length))) 255 = (subSt o (all ++ [255]), []) := by simp only [stepS, if_pos, subSt_keep]
  exact ⟨by simp only [emit, e, e2, List.nil_append], by simp only [runS, e, e2]⟩
theorem sub_one (o : Int) (all : List Int) : emit (subSt o all) [255] = [] ∧ (runS (subSt o all) [255]).waits = true := by
  have e : stepS (subSt o all) 255 = (.subIac o (all.take 256) (decide (256 < all.length)), []) := by
    show stepS (.sub o _ _) 255 = _
    simp only [stepS, if_pos]
  exact ⟨by simp only [emit, e, List.nil_append], by simp only [runS, e]; rfl⟩
theorem sub_end (o : Int) (all : List Int) (p : List Int) : emit (subSt o all) (255 :: 240 :: p) = ⟨3, 0, o, all.take 256, decide (256 < all.length), false⟩ :: emit .between p ∧ runS (subSt o all) (255 :: 240 :: p) = runS .between p := by
  have e : stepS (subSt o all) 255 = (.subIac o (all.take 256) (decide (256 < all.length)), []) := by
    show stepS (.sub o _ _) 255 = _
    simp only [stepS, if_pos]
  have e2 : stepS (.subIac o (all.take 256) (decide (256 < all.length))) 240 = (.between, [⟨3, 0, o, all.take 256, decide (256 < all.length), false⟩]) := by simp only [stepS]; rfl
  exact ⟨by simp only [emit, e, e2, List.nil_append]; rfl, by simp only [runS, e, e2]⟩
theorem sub_broken (o : Int) (all : List Int) (c : Int) (p : List Int) (h1 : c ≠ 255) (h2 : c ≠ 240) : emit (subSt o all) (255 :: c :: p) = ⟨3, 0, o, all.take 256, decide (256 < all.length), true⟩ :: emit .between (255 :: c :: p) ∧ runS (subSt o all) (255 :: c :: p) = runS .between (255 :: c :: p) := by
  have e : stepS (subSt o all) 255 = (.subIac o (all.take 256) (decide (256 < all.length)), []) := by
    show stepS (.sub o _ _) 255 = _
    simp only [stepS, if_pos]
  have e2 : stepS (.subIac o (all.take 256) (decide (256 < all.length))) c = ((iacS c).1, ⟨3, 0, o, all.take 256, decide (256 < all.length), true⟩ :: (iacS c).2) := by simp only [stepS, if_neg h1, if_neg h2]
  have e3 : stepS .between 255 = (.iac, []) := by simp only [stepS, if_pos]
  have e4 : stepS .iac c = iacS c := rfl
  exact ⟨by simp only [emit, e, e2, e3, e4, List.nil_append]; rfl, by simp only [runS, e, e2, e3, e4]⟩
theorem sub_start (o : Int) (p : List Int) : emit .sb (o :: p) = emit (subSt o []) p ∧ runS .sb (o :: p) = runS (subSt o []) p := ⟨rfl, rfl⟩
end Go.Proofs.Ytdbjjieoohfckaa
