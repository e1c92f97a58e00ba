/-
  What a cell is made of: the reference's Pairs; Apply as a function.
-/
import Derived.Test.YtpnfdmfmdacjmaaPai
namespace Go.Proofs.Ytpnfdmfmdacjmaa
open Go.RowKit Go.Lib

set_option maxRecDepth 100000 in
set_option maxHeartbeats 2000000 in
theorem rpairs_no (ch fa : Int) (h c s : Nat) (w : World) : Calls Try.prog 67 #[cellV ch false fa h c s] w (PairsDone (diffL 0 0 0 h c s) w) := by
  obtain ⟨i0, hi, hz0, hz1, hz2⟩ := info_parts info78
  have HL := hid (diffL_len 0 0 0 h c s)
  have HDZ := hid (fun w => rdiff_zero ch fa false h c s w)
  generalize diffL 0 0 0 h c s = D at HL HDZ ⊢
  go_enter Try.func67, Try.ntmps67
  go_wp2_with fail
  with_reducible refine (HDZ.out _).mono ?_
  rintro e w1 ⟨v, rfl, hp, hb, -⟩
  have HP := hid hp
  have HB := hid (((Below.refl _ _).alloc (Nat.le_refl _) _).trans (hb.mono (by simp)))
  clear hp hb
  have HO2 := hid (World.ownsRow_nil w1 w.heap.size 78 2)
  rcases HP.out with ⟨rfl, rfl⟩ | ⟨g, off, cap, rfl, hc⟩
  · go_wp2_with (first
      | (at_builtin; refine wpList_append_own_none rfl _ _ 93 rfl w.heap.size 78 i0 2 Try.underlying93 hi _ _ _ rfl HO2.out rfl ?_))
    go_ret
    exact pairs_done (ps := []) rfl rfl HO2.out HB.out (Nat.le_refl _)
  · have HC := hid hc
    clear hc
    go_wp2_with (first
      | (at_builtin; refine wpList_append_own _ rfl _ _ 93 rfl w.heap.size 78 i0 (.agg #[.int .u8 0, .int .u8 0]) 2 2 Try.underlying93 hi hz0 hz1 hz2 rfl (by decide) _ 0 _ rfl HO2.out ⟨g, off, none⟩ D.length cap (cellsP D) rfl (cellsP_length D) (flat_of HC.out) (one_cellsP D) (by have := HL.out; unfold maxLen; omega) (by have := HL.out; omega) HB.out.size ?_; intro v1 x1 ho hg hn; have HO1 := hid ho; have HW1 := hid (HB.out.grown hg HB.out.size (own_ge HO2.out)); clear ho hg hn))
    go_ret
    exact pairs_done (ps := D) (by simp) rfl HO1.out HW1.out (Nat.le_refl _)
set_option maxRecDepth 100000 in
set_option maxHeartbeats 2000000 in
theorem rpairs_yes (ch : Int) (fa h c s : Nat) (hf : fa < 256) (w : World) : Calls Try.prog 67 #[cellV ch true fa h c s] w (PairsDone ((192, faC fa) :: diffL 0 0 0 h c s) w) := by
  obtain ⟨i0, hi, hz0, hz1, hz2⟩ := info_parts info78
  have q1 := six6_bd fa hf
  have q2 := (faC_eq fa hf).1
  have HL := hid (diffL_len 0 0 0 h c s)
  have HDZ := hid (fun w => rdiff_zero ch fa true h c s w)
  generalize diffL 0 0 0 h c s = D at HL HDZ ⊢
  have HS5 := hid (rsix5_any fa hf)
  have HSIX := hid (rsix_any (six6 fa) ⟨by omega, by omega⟩)
  rw [q1.2.2, ← q2] at HSIX
  obtain ⟨q1, q3, -⟩ := q1
  generalize six6 fa = z at q1 q3 HSIX HS5
  clear q2
  go_enter Try.func67, Try.ntmps67
  go_wp2_with fail
  with_reducible refine (HS5.out _).mono ?_
  rintro e w1 ⟨rfl, hb⟩
  have c0 : w1.cell? ⟨w.heap.size, 0, none⟩ = some (.int .u8 ch) := keepc hb (by simp [go_sem])
  have c1 : w1.cell? ⟨w.heap.size, 1, none⟩ = some (.bool true) := keepc hb (by simp [go_sem])
  have c2 : w1.cell? ⟨w.heap.size, 2, none⟩ = some (.int .u8 fa) := keepc hb (by simp [go_sem])
  have c3 : w1.cell? ⟨w.heap.size, 3, none⟩ = some (.int .u8 h) := keepc hb (by simp [go_sem])
  have c4 : w1.cell? ⟨w.heap.size, 4, none⟩ = some (.int .u8 c) := keepc hb (by simp [go_sem])
  have c5 : w1.cell? ⟨w.heap.size, 5, none⟩ = some (.int .u8 s) := keepc hb (by simp [go_sem])
  have HX := hid (And.intro c0 (And.intro c1 (And.intro c2 (And.intro c3 (And.intro c4 c5)))))
  have HB := hid (((Below.refl _ _).alloc (Nat.le_refl _) _).trans (hb.mono (by simp)))
  clear hb c0 c1 c2 c3 c4 c5
  go_wp2_with fail
  with_reducible refine (HSIX.out _).mono ?_
  rintro e w2 ⟨rfl, rfl⟩
  have HO0 := hid (World.ownsRow_nil w1 w1.heap.size 78 2)
  have HW0 := hid (Below.refl w1.heap.size w1)
  go_wp2_with (first
    | (at_builtin; refine wpList_append_own _ rfl _ _ 93 rfl w1.heap.size 78 i0 (.agg #[.int .u8 0, .int .u8 0]) 2 2 Try.underlying93 hi hz0 hz1 hz2 rfl (by decide) _ 0 _ rfl (HO0.out.alloc (.cells #[.int .u8 192, .int .u8 (faC fa)] 78)) ⟨w1.heap.size, 0, none⟩ 1 1 [.int .u8 192, .int .u8 (faC fa)] rfl rfl (news_two w1 _ _ 78) (one_two _ _) (by unfold maxLen; decide) (by decide) (by simp) ?_; intro v1 x1 ho hg hn; have HO1 := hid ho; have HW1 := hid ((HW0.out.alloc HW0.out.size (.cells #[.int .u8 192, .int .u8 (faC fa)] 78)).grown hg (by simp) (own_ge HO0.out)); clear ho hg hn; have c0 := keepc HW1.out HX.out.1; have c1 := keepc HW1.out HX.out.2.1; have c2 := keepc HW1.out HX.out.2.2.1; have c3 := keepc HW1.out HX.out.2.2.2.1; have c4 := keepc HW1.out HX.out.2.2.2.2.1; have c5 := keepc HW1.out HX.out.2.2.2.2.2)
    | fail)
  with_reducible refine (HDZ.out _).mono ?_
  rintro e w3 ⟨v, rfl, hp, hb, -⟩
  have HP := hid hp
  have HO3 := hid (World.ownsRow.kept (row := none) HO1.out ⟨hb.os, hb.tape, hb.output, hb.size, fun k hk _ => hb.block k hk⟩ (by cases Value.ownBlock v1 <;> simp))
  have HW3 := hid (HW1.out.trans (hb.mono HW1.out.size))
  clear hp hb c0 c1 c2 c3 c4 c5
  rcases HP.out with ⟨rfl, rfl⟩ | ⟨g, off, cap, rfl, hc⟩
  · go_wp2_with (first
      | (at_builtin; refine wpList_append_own_none rfl _ _ 93 rfl w1.heap.size 78 i0 2 Try.underlying93 hi _ _ _ rfl HO3.out rfl ?_))
    go_ret
    exact pairs_done (ps := [(192, faC fa)]) rfl rfl HO3.out (HB.out.trans (HW3.out.mono HB.out.size)) HB.out.size
  · have HC := hid hc
    clear hc
    go_wp2_with (first
      | (at_builtin; refine wpList_append_own _ rfl _ _ 93 rfl w1.heap.size 78 i0 (.agg #[.int .u8 0, .int .u8 0]) 2 2 Try.underlying93 hi hz0 hz1 hz2 rfl (by decide) _ _ _ rfl HO3.out ⟨g, off, none⟩ D.length cap (cellsP D) rfl (cellsP_length D) (flat_of HC.out) (one_cellsP D) (by have := HL.out; unfold maxLen; omega) (by have := HL.out; omega) HW3.out.size ?_; intro v2 x2 ho hg hn; have HO4 := hid ho; have HW4 := hid (HW3.out.grown hg HW3.out.size (own_ge HO3.out)); clear ho hg hn))
    go_ret
    exact pairs_done (ps := (192, faC fa) :: D) (by simp; omega) rfl HO4.out (HB.out.trans (HW4.out.mono HB.out.size)) HB.out.size

/-- A cell. -/
structure Cel where
  ch : Int
  a : Bool
  fa : Int
  hi : Int
  co : Int
  se : Int
abbrev Cel.v (c : Cel) : Value := cellV c.ch c.a c.fa c.hi c.co c.se
/-- What an attribute makes of a cell. -/
def appl (c : Cel) (p : Nat × Nat) : Cel :=
  if p.1 = 65 then { c with hi := p.2 } else if p.1 = 66 then { c with co := p.2 } else if p.1 = 67 then { c with se := p.2 } else if p.1 = 192 then (if c.a then { c with fa := six6 p.2 } else c) else { c with hi := 0, co := 0, se := 0 }
theorem apply_fun (p : Nat × Nat) (hv : p.2 < 256) (hk : knownB p.1 p.2 = true) (c : Cel) (w : World) : Calls Try.prog 55 #[pairV p.1 p.2, c.v] w fun e w' => e = .returned (.tuple #[(appl c p).v, .int .i64 0]) ∧ Below w.heap.size w w' := by
  obtain ⟨t, v⟩ := p
  obtain ⟨ch, a, fa, hi, co, se⟩ := c
  rcases known_type hk with h | h | h | h | h
  · have h' : t = 0 := h
    subst h'
    exact apply_0 0 v rfl hv hk ch fa hi co se a w
  · have h' : t = 65 := h
    subst h'
    exact apply_65 65 v rfl hv hk ch fa hi co se a w
  · have h' : t = 66 := h
    subst h'
    exact apply_66 66 v rfl hv hk ch fa hi co se a w
  · have h' : t = 67 := h
    subst h'
    exact apply_67 67 v rfl hv hk ch fa hi co se a w
  · have h' : t = 192 := h
    subst h'
    cases a
    · exact apply_192f 192 v rfl hv hk ch fa hi co se w
    · exact apply_192t 192 v rfl hv hk ch fa hi co se _ (and61 v hv) w
theorem apply_bad (p : Nat × Nat) (hv : p.2 < 256) (hk : knownB p.1 p.2 = false) (c : Cel) (w : World) : Calls Try.prog 55 #[pairV p.1 p.2, c.v] w fun e w' => e = .returned (.tuple #[cellV 0 false 0 0 0 0, .int .i64 10]) ∧ Below w.heap.size w w' := apply_no p.1 p.2 hv hk c.ch c.fa c.hi c.co c.se c.a w
theorem made_no (ch : Int) (h c s : Nat) : (diffL 0 0 0 h c s).foldl appl ⟨ch, false, 0, 0, 0, 0⟩ = ⟨ch, false, 0, h, c, s⟩ := by
  cases h <;> cases c <;> cases s <;> simp [diffL, appl]
theorem made_yes (ch : Int) (fa h c s : Nat) (hf : fa < 256) : ((192, faC fa) :: diffL 0 0 0 h c s).foldl appl ⟨ch, true, 0, 0, 0, 0⟩ = ⟨ch, true, six6 fa, h, c, s⟩ := by
  have q := (faC_eq fa hf).2.2
  cases h <;> cases c <;> cases s <;> simp [diffL, appl, q]
theorem made_diff (ch fa : Int) (a : Bool) (h c s h' c' s' : Nat) : ∃ fa', (diffL h c s h' c' s').foldl appl ⟨ch, a, fa, h, c, s⟩ = ⟨ch, a, fa', h', c', s'⟩ := by
  refine ⟨fa, ?_⟩
  unfold diffL
  by_cases e0 : h = h' <;> by_cases e1 : c = c' <;> by_cases e2 : s = s' <;> simp [e0, e1, e2, appl]
end Go.Proofs.Ytpnfdmfmdacjmaa
