/-
  What a cell is made of: the program's Pairs and the reference's; Apply as a function.
-/
import Derived.Test.YtpnfdmfmdacjmaaDic
import Derived.Test.YtpnfdmfmdacjmaaDid
import Derived.Test.YtpnfdmfmdacjmaaApw
import Derived.Laws.AppendOwnNone
namespace Go.Proofs.Ytpnfdmfmdacjmaa
open Go.RowKit Go.Lib

theorem flat_add (g off j : Nat) : (⟨g, off, none⟩ : Addr).add j = ⟨g, off + j, none⟩ := by unfold Addr.add; split <;> simp_all
theorem flat_of {w : World} {g off : Nat} {ps : List (Nat × Nat)} (h : ∀ i, i < ps.length → w.cell? ⟨g, off + i * 2, none⟩ = some (.int .u8 (ps.getD i (0, 0)).1) ∧ w.cell? ⟨g, off + i * 2 + 1, none⟩ = some (.int .u8 (ps.getD i (0, 0)).2)) :
    ∀ j u, (cellsP ps)[j]? = some u → w.cell? ((⟨g, off, none⟩ : Addr).add j) = some u := by
  intro j u hu
  have hl := cellsP_length ps
  have hj : j < (cellsP ps).length := (List.getElem?_eq_some_iff.1 hu).1
  have q := cellsP_get ps (j / 2) (by omega)
  have k := h (j / 2) (by omega)
  rw [flat_add]
  rcases Nat.mod_two_eq_zero_or_one j with e | e
  · have e1 : j = j / 2 * 2 := by omega
    rw [e1, q.1] at hu
    rw [e1]
    exact k.1.trans hu
  · have e1 : j = j / 2 * 2 + 1 := by omega
    rw [e1, q.2] at hu
    rw [e1, ← Nat.add_assoc]
    exact k.2.trans hu
theorem one_cellsP (ps : List (Nat × Nat)) : ∀ u ∈ cellsP ps, u.oneCell' = true := by
  intro u hu
  simp only [cellsP, List.mem_flatMap] at hu
  obtain ⟨p, _, hp⟩ := hu
  exact one_two _ _ u hp
theorem diff_zero (ch fa : Int) (a : Bool) (h c s : Nat) (w : World) : Calls Try.prog 68 #[.agg #[.int .u8 0, .bool false, .int .u8 0, .int .u8 0, .int .u8 0, .int .u8 0], .agg #[.int .u8 ch, .bool a, .int .u8 fa, .int .u8 h, .int .u8 c, .int .u8 s]] w (PairsDone (diffL 0 0 0 h c s) w) := diff_any 0 0 ch fa false a 0 0 0 h c s w
theorem rdiff_zero (ch fa : Int) (a : Bool) (h c s : Nat) (w : World) : Calls Try.prog 69 #[.agg #[.int .u8 0, .bool false, .int .u8 0, .int .u8 0, .int .u8 0, .int .u8 0], .agg #[.int .u8 ch, .bool a, .int .u8 fa, .int .u8 h, .int .u8 c, .int .u8 s]] w (PairsDone (diffL 0 0 0 h c s) w) := rdiff_any 0 0 ch fa false a 0 0 0 h c s w
theorem diffL_len (h c s h' c' s' : Nat) : (diffL h c s h' c' s').length ≤ 3 := by
  unfold diffL
  repeat' split
  all_goals simp
theorem diffL_lt (h c s h' c' s' : Nat) (b0 : h' < 256) (b1 : c' < 256) (b2 : s' < 256) : ∀ p ∈ diffL h c s h' c' s', p.2 < 256 := by
  intro p hp
  unfold diffL at hp
  simp only [List.mem_append] at hp
  rcases hp with hp | hp | hp
  all_goals
    split at hp
    · cases hp
    · simp only [List.mem_cons, List.not_mem_nil, or_false] at hp
      subst hp
      assumption
/-- The field attribute's code. -/
def faC (fa : Nat) : Nat := (sixZ (six6 fa).toNat).toNat
theorem six6_bd : ∀ v : Nat, v < 256 → 0 ≤ six6 v ∧ six6 v < 64 ∧ six6 v % 64 = six6 v := by decide +kernel
theorem faC_eq : ∀ v : Nat, v < 256 → ((faC v : Nat) : Int) = sixZ (six6 v).toNat ∧ faC v < 256 ∧ six6 (faC v) = six6 v := by decide +kernel
theorem owned_new {w : World} {B : Nat} (hB : B ≤ w.heap.size) (x y : Value) (t : TypeId) : (w.alloc (.cells #[x, y] t)).ownsRow B t 2 (.slice (some ⟨w.heap.size, 0, none⟩) 1 1) 1 [x, y] :=
  ⟨rfl, .inr ⟨w.heap.size, 1, #[x, y], rfl, hB, heap_alloc_new w _, Nat.le_refl _, by unfold maxLen; decide, rfl, rfl⟩⟩
set_option maxRecDepth 100000 in
set_option maxHeartbeats 2000000 in
theorem pairs_no (ch fa : Int) (h c s : Nat) (w : World) : Calls Try.prog 66 #[cellV ch false fa h c s] w (PairsDone (diffL 0 0 0 h c s) w) := by
  go_enter Try.func66, Try.ntmps66
  go_wp2_with fail
  with_reducible refine (diff_zero _ _ _ _ _ _ _).mono ?_
  rintro e w1 ⟨v, rfl, hp, hb, hnew⟩
  have c1 : w1.cell? ⟨w.heap.size, 1, none⟩ = some (.bool false) := keepc hb (by simp [go_sem])
  have HP := hid hp
  have HB := hid hb
  have HN := hid hnew
  clear hp hb hnew
  go_wp2
  go_ret
  exact ⟨v, rfl, HP.out, ((Below.refl _ _).alloc (Nat.le_refl _) _).trans (HB.out.mono (by simp)), fun k hk => Nat.le_trans (by simp) (HN.out k hk)⟩
set_option maxRecDepth 100000 in
set_option maxHeartbeats 2000000 in
theorem pairs_yes (ch : Int) (fa h c s : Nat) (hf : fa < 256) (w : World) : Calls Try.prog 66 #[cellV ch true fa h c s] w (PairsDone ((192, faC fa) :: diffL 0 0 0 h c s) w) := by
  obtain ⟨i0, hi, hz0, hz1, hz2⟩ := info_parts info82
  have q0 := and61 fa hf
  have q1 := six6_bd fa hf
  have q2 := (faC_eq fa hf).1
  have HL := hid (diffL_len 0 0 0 h c s)
  have HDZ := hid (fun w => diff_zero ch fa true h c s w)
  generalize diffL 0 0 0 h c s = D at HL HDZ ⊢
  have HSIX := hid (six_any (six6 fa))
  rw [q1.2.2, ← q2] at HSIX
  obtain ⟨q1, q3, -⟩ := q1
  generalize six6 fa = z at q0 q1 q3 HSIX
  clear q2
  go_enter Try.func66, Try.ntmps66
  go_wp2_with fail
  with_reducible refine (HDZ.out _).mono ?_
  rintro e w1 ⟨v, rfl, hp, hb, hnew⟩
  have c1 : w1.cell? ⟨w.heap.size, 1, none⟩ = some (.bool true) := keepc hb (by simp [go_sem])
  have c2 : w1.cell? ⟨w.heap.size, 2, none⟩ = some (.int .u8 fa) := keepc hb (by simp [go_sem])
  have HP := hid hp
  have HB := hid (((Below.refl _ _).alloc (Nat.le_refl _) _).trans (hb.mono (by simp)))
  clear hp hb hnew
  go_wp2_with fail
  with_reducible refine (HSIX.out _).mono ?_
  rintro e w2 ⟨rfl, rfl⟩
  have HP2 := hid (pairs_below HP.out (((Below.refl _ w1).alloc (Nat.le_refl _) (.cells #[.int .u8 192, .int .u8 (faC fa)] 82)).alloc (by simp) (.cells #[.int .u8 192, .int .u8 (faC fa)] 82)))
  have HB2 := hid ((HB.out.alloc HB.out.size (.cells #[.int .u8 192, .int .u8 (faC fa)] 82)).alloc (by have := HB.out.size; simp; omega) (.cells #[.int .u8 192, .int .u8 (faC fa)] 82))
  have HO2 := hid (owned_new (w := w1.alloc (.cells #[.int .u8 192, .int .u8 (faC fa)] 82)) (B := w.heap.size) (by have := HB.out.size; simp; omega) (.int .u8 192) (.int .u8 (faC fa)) 82)
  rw [show (w1.alloc (.cells #[.int .u8 192, .int .u8 (faC fa)] 82)).heap.size = w1.heap.size + 1 by simp] at HO2
  have HSZ := hid (show w.heap.size ≤ ((w1.alloc (.cells #[.int .u8 192, .int .u8 (faC fa)] 82)).alloc (.cells #[.int .u8 192, .int .u8 (faC fa)] 82)).heap.size by have := HB.out.size; simp; omega)
  clear HP
  rcases HP2.out with ⟨rfl, rfl⟩ | ⟨g, off, cap, rfl, hc⟩
  · go_wp2_with (first
      | (at_builtin; refine wpList_append_own_none rfl _ _ 90 rfl w.heap.size 82 i0 2 Try.underlying90 hi _ _ _ rfl HO2.out rfl ?_))
    go_ret
    exact pairs_done (ps := [(192, faC fa)]) rfl rfl HO2.out HB2.out (Nat.le_refl _)
  · have HC := hid hc
    clear hc
    go_wp2_with (first
      | (at_builtin; refine wpList_append_own _ rfl _ _ 90 rfl w.heap.size 82 i0 (.agg #[.int .u8 0, .int .u8 0]) 2 2 Try.underlying90 hi hz0 hz1 hz2 rfl (by decide) _ 1 _ rfl HO2.out ⟨g, off, none⟩ D.length cap (cellsP D) rfl (cellsP_length D) (flat_of HC.out) (one_cellsP D) (by have := HL.out; unfold maxLen; omega) (by have := HL.out; omega) HSZ.out ?_; intro v1 x1 ho hg hn; have HO1 := hid ho; have HW1 := hid (HB2.out.grown hg HSZ.out (own_ge HO2.out)); clear ho hg hn))
    go_ret
    exact pairs_done (ps := (192, faC fa) :: D) (by simp; omega) rfl HO1.out HW1.out (Nat.le_refl _)
end Go.Proofs.Ytpnfdmfmdacjmaa
