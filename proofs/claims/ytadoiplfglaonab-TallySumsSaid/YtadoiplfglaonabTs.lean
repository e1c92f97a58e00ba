/-
  Sum: one tally's counters are added to another one's.
-/
import Derived.Test.YtadoiplfglaonabAllc
namespace Go.Proofs.Ytadoiplfglaonab
open Go.RowKit Go.Shelf Go.Deep Go.Lib
attribute [local go_sem] Oper.semAt_some

/-- One counter more. -/
def addC (ts : List (List UInt8)) (cs : List Int) (x : List UInt8 × Int) : List Int := if x.1 ∈ ts then cs.set (ts.idxOf x.1) ((cs.getD (ts.idxOf x.1) 0 + x.2) % 18446744073709551616) else cs
def addAllC (ts : List (List UInt8)) (cs : List Int) (l : List (List UInt8 × Int)) : List Int := l.foldl (addC ts) cs
theorem addAllC_snoc (ts : List (List UInt8)) (cs : List Int) (l : List (List UInt8 × Int)) (x : List UInt8 × Int) : addAllC ts cs (l ++ [x]) = addC ts (addAllC ts cs l) x := by simp [addAllC]
theorem idx_at {ts : List (List UInt8)} {x : List UInt8} (h : x ∈ ts) : ts.idxOf x < ts.length ∧ ts.getD (ts.idxOf x) [] = x := by
  have hl := List.idxOf_lt_length_iff.2 h
  refine ⟨hl, ?_⟩
  rw [List.getD, List.getElem?_eq_getElem hl]
  simp
theorem KeepsOthers.of_none {w w' : World} (h : w.grownBy w' none) : KeepsOthers w w' := KeepsOthers.of_grownBy h (fun j o hj _ => by cases hj)
theorem TallyIn.own {A C : World} {B t : Nat} {vn : Value} {g : Nat} {ts : List (List UInt8)} {cs : List Int} {row : Option Nat} (h : TallyIn A B t vn g ts cs) (hg : A.grownBy C row) (hr : ∀ r, row = some r → ∃ o : Obj, A.heap[r]? = some o ∧ o.isCells = false) : TallyIn C B t vn g ts cs := by
  refine ⟨?_, h.base, srow_kept h.names hg hr, srow_kept h.counts hg hr, h.size, h.few, h.rising⟩
  have hb := h.block
  refine (hg.block t (Array.getElem?_eq_some_iff.1 hb).1 (fun e => ?_)).trans hb
  obtain ⟨o, ho, hc⟩ := hr t e.symm
  rw [hb] at ho
  cases ho
  cases hc
theorem TallyIn.aside {A C : World} {B t : Nat} {vn : Value} {g : Nat} {ts : List (List UInt8)} {cs : List Int} {k : Nat} (h : TallyIn A B t vn g ts cs) (hg : A.grownBy C (some k)) (h1 : t ≠ k) (h2 : g ≠ k) (h3 : vn.ownBlock ≠ some k) : TallyIn C B t vn g ts cs := by
  refine ⟨?_, h.base, h.names.kept hg (.inr h3), h.counts.kept hg (.inr (fun e => h2 (Option.some.inj e))), h.size, h.few, h.rising⟩
  exact (hg.block t (Array.getElem?_eq_some_iff.1 h.block).1 (fun e => h1 (Option.some.inj e))).trans h.block
theorem Chg.new {w A C : World} {B U k : Nat} (h : Chg B U w A) (hg : A.grownBy C (Option.some k)) (hk : w.heap.size ≤ k) (hB : B ≤ w.heap.size) : Chg B U w C :=
  ⟨h.below.grown hg (Nat.le_trans hB h.below.size) (fun j e => by cases e; omega), fun i h1 h2 => (hg.block i (Nat.lt_of_lt_of_le h2 h.below.size) (fun e => by have := Option.some.inj e; omega)).trans (h.up i h1 h2)⟩
theorem grown_set (w : World) (k i : Nat) (v : Value) : w.grownBy (w.setCell ⟨k, i, none⟩ v) (some k) := ⟨rfl, rfl, rfl, by simp [World.setCell], fun j _ hj => Below.heap_setCell w _ _ _ (fun e => hj (by rw [e]))⟩
/-- The iterator of the other tally. -/
def OtherAll (n : Nat) (p2 : Value) (ys : List (List UInt8 × Int)) (W : World) : Prop := Calls Try.prog 24 #[p2] W fun e w' => ∃ b1 b2, e = .returned (.func (.func 33) #[] (lbA b1 b2)) ∧ Below W.heap.size W w' ∧ SeqStopsK Fence.wide n Try.prog 33 (lbA b1 b2) encP (KeepR W.heap.size w'.heap.size) (fun xs => xs = ys) (fun pre => ∃ k, pre = ys.take k) ys.length w'
theorem other_some {B t : Nat} {vn : Value} {g : Nat} {ts : List (List UInt8)} {cs : List Int} (W : World) (hT : TallyIn W B t vn g ts cs) : OtherAll 3 (.pointer (some ⟨t, 0, none⟩)) (pairsL ts cs ts.length) W := by
  have hf := hT.few
  refine (all24 W hT).mono ?_
  rintro e w' ⟨b1, b2, oN, oV, cN, cV, rfl, hX, hb⟩
  refine ⟨b1, b2, rfl, hb, ?_⟩
  rw [pairsL_len]
  have q := iter_stops 3 (by omega) W.heap.size w'.heap.size b1 b2 oN oV cN cV ts cs hf w' hX (Nat.le_refl _) (KeepR W.heap.size w'.heap.size) (fun _ _ h => h)
  intro l J Jx W h1 h2 h3 h4 h5
  exact (q l J Jx W h1 h2 h3 h4 h5).mono fun e W' ⟨h6, h7⟩ => ⟨h6, h7.imp id fun ⟨pre, ⟨k, h8, hk⟩, h9⟩ => ⟨pre, ⟨k, by rw [pairsL_take, Nat.min_eq_left hk]; exact h8⟩, h9⟩⟩
theorem other_none (W : World) : OtherAll 3 (.pointer none) [] W := by
  refine (all_of_nil W).mono ?_
  rintro e w' ⟨b1, b2, rfl, hb1, hc, hb⟩
  exact ⟨b1, b2, rfl, hb, none_stopsP 3 b1 b2 w' (World.block_lt_of_cell? w' _ hc) hc _ _⟩
/-- What Sum leaves. -/
def SumPost (B t : Nat) (vn : Value) (g : Nat) (ts : List (List UInt8)) (cs : List Int) (ys : List (List UInt8 × Int)) (w : World) (e : Ending) (w' : World) : Prop :=
  ((∀ x ∈ ys, x.1 ∈ ts) ∧ e = .returned (.bool true) ∧ TallyIn w' B t vn g ts (addAllC ts cs ys) ∧ Chg g (g + 1) w w') ∨ ((∃ x ∈ ys, x.1 ∉ ts) ∧ e = .returned (.bool false) ∧ Below w.heap.size w w')
section
variable {B t : Nat} {vn : Value} {g : Nat} {ts : List (List UInt8)} {cs : List Int}
set_option maxRecDepth 100000 in
set_option maxHeartbeats 4000000 in
theorem sum_in (w : World) (hT : TallyIn w B t vn g ts cs) (a2 : Option Addr) (ys : List (List UInt8 × Int)) (hO : ∀ W, Below w.heap.size w W → OtherAll 3 (.pointer a2) ys W) (hO2 : ∀ W, Chg g (g + 1) w W → OtherAll 3 (.pointer a2) ys W) :
    CallsIn Fence.wide 4 Try.prog 14 #[.pointer (some ⟨t, 0, none⟩), .pointer a2] w (SumPost B t vn g ts cs ys w) := by
  have HT := hid hT
  have HO := hid hO
  have HO2 := hid hO2
  clear hT hO hO2
  refine callsIn_of_wp_marks Try.func14 rfl trivial ?_ rfl
  simp only [Try.ntmps14, List.size_toArray, List.length_cons, List.length_nil, Nat.reduceAdd, Nat.reduceSub, Array.replicate_succ, Array.replicate_zero, List.push_toArray, List.append_toArray, List.nil_append, List.cons_append]
  gi_wp2
  refine ⟨trivial, ?_⟩
  obtain ⟨W0, hW0⟩ : ∃ W0, W0 = (w.alloc (.cells #[.pointer (some ⟨t, 0, none⟩)] 26)).alloc (.cells #[.bool false] 4) := ⟨_, rfl⟩
  rw [← hW0]
  have hz0 : W0.heap.size = w.heap.size + 2 := by rw [hW0]; simp
  have hB0 : Below w.heap.size w W0 := by rw [hW0]; exact ((Below.refl _ w).alloc (Nat.le_refl _) _).alloc (by simp) _
  have q0 : W0.cell? ⟨w.heap.size, 0, none⟩ = some (.pointer (some ⟨t, 0, none⟩)) := by rw [hW0]; simp [go_sem]
  have r0 : W0.cell? ⟨w.heap.size + 1, 0, none⟩ = some (.bool false) := by rw [hW0]; simp [go_sem]
  have f0 : W0.frozen? ⟨w.heap.size + 1, 0, none⟩ = false := by rw [hW0]; simp [go_sem]
  clear hW0
  refine (callsIn_wide.2 (HO.out W0 hB0)).mono ?_
  rintro e w2 ⟨b1, b2, rfl, hb2, hst⟩
  have hs2 : w.heap.size + 2 ≤ w2.heap.size := by have := hb2.size; omega
  have q2 := (hb2.cell (p := ⟨w.heap.size, 0, none⟩) (by show w.heap.size < _; omega)).trans q0
  have r2 := (hb2.cell (p := ⟨w.heap.size + 1, 0, none⟩) (by show w.heap.size + 1 < _; omega)).trans r0
  have f2 := (World.frozen?_of_block (a := ⟨w.heap.size + 1, 0, none⟩) (hb2.block _ (by show w.heap.size + 1 < _; omega))).trans f0
  have hB2 := hB0.trans (hb2.mono (by omega))
  have HI := hid (And.intro q2 (And.intro r2 (And.intro f2 hB2)))
  have HX := hid hst
  clear hB0 q0 r0 f0 q2 r2 f2 hB2 hb2 hst
  unfold lbA
  gi_wp2
  refine wpIn_rangeFunc_ownF rfl (by omega) (gf := 33) (lb := lbA b1 b2) rfl trivial (enters_of Try.func33 (by kernel_rfl) rfl)
    HX.out KeepR.t (KeepR.put (Nat.le_refl _)) (Below.refl _ _) (fun _ => rfl)
    (fun pre W => ((∀ x ∈ pre, x.1 ∈ ts) ∧ W.cell? ⟨w.heap.size, 0, none⟩ = some (.pointer (some ⟨t, 0, none⟩)) ∧ (∃ v, W.cell? ⟨w.heap.size + 1, 0, none⟩ = some v ∧ W.frozen? ⟨w.heap.size + 1, 0, none⟩ = false)) ∧ Below w.heap.size w W)
    (fun c pre W => ((c = .ret ∧ ∃ x ∈ pre, x.1 ∉ ts) ∧ W.cell? ⟨w.heap.size + 1, 0, none⟩ = some (.bool false)) ∧ Below w.heap.size w W)
    (OwnFrom.and (Own.from (fun s A B row hs hg hr => ⟨hs.1, cell_kept hs.2.1 hg hr, by obtain ⟨v, h1, h2⟩ := hs.2.2; exact ⟨v, cell_kept h1 hg hr, (frozen_kept h1 hg hr).trans h2⟩⟩) _) (ownFrom_below (Nat.le_refl _) (by omega)))
    (fun c => OwnFrom.and (Own.from (fun s A B row hs hg hr => ⟨hs.1, cell_kept hs.2 hg hr⟩) _) (ownFrom_below (Nat.le_refl _) (by omega)))
    ⟨⟨by simp, HI.out.1, _, HI.out.2.1, HI.out.2.2.1⟩, HI.out.2.2.2⟩
    ?a1 ?assign ?body ?done ?stop
  case assign =>
    intro l x W K hK
    unfold encP
    gi_wp2
    exact hK
  case body =>
    rintro l pre ⟨y, c⟩ W ⟨⟨hall, hq, v, hv, hf⟩, hB⟩ hlen
    have HALL := hid hall
    have HBW := hid hB
    have HTW := hid (HT.out.grown (grown_of_below hB))
    have h1 : 1 ≤ 4 - 1 - 1 := by omega
    clear hall hB HX HI HO HO2
    dsimp only
    by_cases hy : y ∈ ts
    · obtain ⟨hj1, hj2⟩ := idx_at hy
      have HC := hid (count_found ⟨y.toArray⟩ W HTW.out _ hj1 (by simpa using hj2))
      have HY := hid hy
      clear hj1 hj2 hy
      unfold encStr
      gi_wp2_with (refine ⟨trivial, ?_⟩; gi_at_call 25; refine (CallsIn.inRound l (callsIn_wide.2 HC.out)).mono ?_; rintro e w' ⟨rfl, q, rfl⟩)
      refine ⟨KeepsOthers.of_none (grown_dr W q none), fun i _ _ => rfl, ⟨fun x hx => ?_, cell_kept hq (grown_dr W q none) (by simp), v, cell_kept hv (grown_dr W q none) (by simp), (frozen_kept hv (grown_dr W q none) (by simp)).trans hf⟩, HBW.out.trans (below_drewN (Below.refl _ _) q)⟩
      rcases List.mem_append.1 hx with hx | hx
      · exact HALL.out x hx
      · rw [List.mem_singleton.1 hx]; exact HY.out
    · have HC := hid (count_none ⟨y.toArray⟩ W HTW.out (by simpa using hy))
      have HY := hid hy
      have HV := hid (fun q : Nat => And.intro (cell_kept hv (grown_dr W q none) (by simp)) ((frozen_kept hv (grown_dr W q none) (by simp)).trans hf))
      clear hy
      unfold encStr
      gi_wp2_with (refine ⟨trivial, ?_⟩; gi_at_call 25; refine (CallsIn.inRound l (callsIn_wide.2 HC.out)).mono ?_; rintro e w' ⟨rfl, q, rfl⟩; obtain ⟨hv2, hf2⟩ := HV.out q)
      refine ⟨(KeepsOthers.of_none (grown_dr W q none)).trans (KeepsOthers.setCell _ _ _), ⟨⟨rfl, (y, c), by simp, HY.out⟩, ?_⟩, ?_⟩
      · exact World.cell?_setCell_same' _ _ _ (by rw [hv2]; rfl)
      · exact (HBW.out.trans (below_drewN (Below.refl _ _) q)).setCell (p := ⟨w.heap.size + 1, 0, none⟩) (by show w.heap.size ≤ w.heap.size + 1; omega) _
  case stop =>
    rintro D c pre W hD hpre ⟨⟨⟨rfl, x, hx, hxt⟩, hr⟩, hB⟩ hK
    have HXT := hid (show ∃ x ∈ ys, x.1 ∉ ts from by obtain ⟨k, rfl⟩ := hpre; exact ⟨x, List.mem_of_mem_take hx, hxt⟩)
    have HB := hid hB
    have HK := hid hK
    have HR := hid hr
    clear hB hK hx hxt hpre HX HI HO HO2 hr
    gi_wp2
    refine ⟨by simp, .inl ⟨_, _, rfl, run_takeDeferred HK.out, ?_⟩⟩
    have hc := cell_kept HR.out (grownBy_putObj' W D (.deferred none)) (fun r e => by cases e; exact ⟨_, HK.out, rfl⟩)
    exact ⟨.bool false, by simp [results, Try.f14, go_sem, hc], .inr ⟨HXT.out, rfl, HB.out.trans (belowK_b (w := w) (Nat.le_refl _) _ D _ _ (by omega) HK.out rfl rfl)⟩⟩
  case done =>
    rintro D xs W hD rfl ⟨⟨hall, hq, v, hv, hf⟩, hB⟩ hK
    have HALL := hid hall
    have HB := hid hB
    have HK := hid hK
    have HO3 := hid (HO.out W hB)
    clear hB hK hall HX HI HO
    gi_wp2
    refine ⟨trivial, ?_⟩
    refine (callsIn_wide.2 HO3.out).mono ?_
    rintro e w4 ⟨b3, b4, rfl, hb4, hst4⟩
    have hgw : g < w.heap.size := (HT.out.counts.lt g (by simp [Value.ownBlock])).2
    have hB4 := HB.out.trans (hb4.mono HB.out.size)
    have hDl : D < W.heap.size := (Array.getElem?_eq_some_iff.1 HK.out).1
    have hs4 : w.heap.size + 2 ≤ W.heap.size := by omega
    have hs5 := hb4.size
    have q4 := (hb4.cell (p := ⟨w.heap.size, 0, none⟩) (by show w.heap.size < _; omega)).trans hq
    have r4 := (hb4.cell (p := ⟨w.heap.size + 1, 0, none⟩) (by show w.heap.size + 1 < _; omega)).trans hv
    have f4 := (World.frozen?_of_block (a := ⟨w.heap.size + 1, 0, none⟩) (hb4.block _ (by show w.heap.size + 1 < _; omega))).trans hf
    have hch : Chg g (g + 1) w w4 := ⟨hB4.mono (by omega), fun i _ h2 => hB4.block i h2⟩
    have hT4 := HT.out.grown (grown_of_below hB4)
    have hK4 := (hb4.block D (Array.getElem?_eq_some_iff.1 HK.out).1).trans HK.out
    have HI4 := hid (And.intro q4 (And.intro r4 (And.intro f4 (And.intro hch hT4))))
    have HK4 := hid hK4
    have HX4 := hid hst4
    have HS4 := hid (And.intro hs4 (And.intro hs5 (And.intro hDl hgw)))
    clear hb4 hB4 q4 r4 f4 hch hT4 hK4 hst4 hq hv hf HK HB HO3 hs4 hs5 hDl hgw
    unfold lbA
    gi_wp2
    refine wpIn_rangeFunc_ownF rfl (by omega) (gf := 33) (lb := lbA b3 b4) rfl trivial (enters_of Try.func33 (by kernel_rfl) rfl)
      HX4.out KeepR.t (KeepR.put (Nat.le_refl _)) (Below.refl _ _) (fun _ => rfl)
      (fun pre W' => (TallyIn W' B t vn g ts (addAllC ts cs pre) ∧ W'.cell? ⟨w.heap.size, 0, none⟩ = some (.pointer (some ⟨t, 0, none⟩)) ∧ (∃ v, W'.cell? ⟨w.heap.size + 1, 0, none⟩ = some v ∧ W'.frozen? ⟨w.heap.size + 1, 0, none⟩ = false) ∧ W'.heap[D]? = some (.deferred (some [])) ∧ w4.heap.size ≤ W'.heap.size) ∧ Chg g (g + 1) w W')
      (fun _ _ _ => False)
      (fun s A B' row hs hg hr => ?hI2)
      (fun _ _ _ _ _ h _ _ => h)
      ⟨⟨HI4.out.2.2.2.2, HI4.out.1, ⟨_, HI4.out.2.1, HI4.out.2.2.1⟩, HK4.out, Nat.le_refl _⟩, HI4.out.2.2.2.1⟩
      ?a2 ?assign2 ?body2 ?done2 ?stop2
    case hI2 =>
      have hr' : ∀ r, row = some r → ∃ o : Obj, A.heap[r]? = some o ∧ o.isCells = false := fun r e => (hr r e).2
      have hsz := HS4.out
      obtain ⟨⟨h1, h2, ⟨v', h3, h4⟩, h5, h7⟩, h6⟩ := hs
      have hDl : D < W.heap.size := hsz.2.2.1
      refine ⟨⟨h1.own hg hr', cell_kept h2 hg hr', ⟨v', cell_kept h3 hg hr', (frozen_kept h3 hg hr').trans h4⟩, ?_, Nat.le_trans h7 hg.size⟩, ?_, fun i hi1 hi2 => ?_⟩
      · refine (hg.block D (Array.getElem?_eq_some_iff.1 h5).1 (fun e => ?_)).trans h5
        have := (hr D e.symm).1
        omega
      · exact h6.below.grown hg (by have := h6.below.size; omega) (fun k e => by have := (hr k e).1; omega)
      · refine (hg.block i (by have := h6.below.size; omega) (fun e => ?_)).trans (h6.up i hi1 hi2)
        have := (hr i e.symm).1
        omega
    case assign2 =>
      intro l x W K hK
      unfold encP
      gi_wp2
      exact hK
    case body2 =>
      rintro l pre ⟨y, c⟩ W' ⟨⟨hTW, hq, ⟨v, hv, hf⟩, hKD, hWz⟩, hCH⟩ hlen
      have HTW := hid hTW
      have HCH := hid hCH
      have HQ := hid (And.intro hv (And.intro hf hKD))
      have hgl : g < W'.heap.size := (hTW.counts.lt g (by simp [Value.ownBlock])).2
      have h1 : 1 ≤ 4 - 1 - 1 := by omega
      have hbox := hq
      clear hTW hCH hv hf hKD HX4 HI4 HK4 HO2
      dsimp only
      have fin : ∀ (b : Bool) (cs' : List Int), cs' = addC ts (addAllC ts cs pre) (y, c) → ∀ e W'', DoneG (.bool b) B t vn g ts cs' W' e W'' → KeepsOthers W' W'' ∧ KeepR W.heap.size w4.heap.size W' W'' ∧ (TallyIn W'' B t vn g ts (addAllC ts cs (pre ++ [(y, c)])) ∧ W''.cell? ⟨w.heap.size, 0, none⟩ = some (.pointer (some ⟨t, 0, none⟩)) ∧ (∃ v, W''.cell? ⟨w.heap.size + 1, 0, none⟩ = some v ∧ W''.frozen? ⟨w.heap.size + 1, 0, none⟩ = false) ∧ W''.heap[D]? = some (.deferred (some [])) ∧ w4.heap.size ≤ W''.heap.size) ∧ Chg g (g + 1) w W'' := by
        rintro b cs' rfl e W'' ⟨_, hT'', hg''⟩
        have hsz := HS4.out
        have hchs := HCH.out.below.size
        have hblk : ∀ i, i ≠ g → i < W'.heap.size → W''.heap[i]? = W'.heap[i]? := fun i hi hl => hg''.block i hl (fun e => hi (Option.some.inj e))
        have hq0 : w.heap.size < W'.heap.size := World.block_lt_of_cell? W' _ hbox
        have hv0 : w.heap.size + 1 < W'.heap.size := World.block_lt_of_cell? W' _ HQ.out.1
        refine ⟨KeepsOthers.of_grownBy hg'' (fun j o hj ho => ?_), fun i h1 h2 => ?_, ⟨by rw [addAllC_snoc]; exact hT'', ?_, ⟨v, ?_, ?_⟩, ?_, Nat.le_trans hWz hg''.size⟩, ?_⟩
        · cases hj
          obtain ⟨cur, fz, hb⟩ := HTW.out.blk
          rw [hb] at ho
          cases ho
          rfl
        · exact hblk i (by omega) (by omega)
        · exact (World.cell?_of_block (a := ⟨w.heap.size, 0, none⟩) (hblk _ (by show ¬ w.heap.size = g; omega) hq0)).trans hbox
        · exact (World.cell?_of_block (a := ⟨w.heap.size + 1, 0, none⟩) (hblk _ (by show ¬ w.heap.size + 1 = g; omega) hv0)).trans HQ.out.1
        · exact (World.frozen?_of_block (a := ⟨w.heap.size + 1, 0, none⟩) (hblk _ (by show ¬ w.heap.size + 1 = g; omega) hv0)).trans HQ.out.2.1
        · exact (hblk D (by omega) (Array.getElem?_eq_some_iff.1 HQ.out.2.2).1).trans HQ.out.2.2
        · exact HCH.out.trans (Chg.some hg'' (Nat.le_refl _) (by omega) (by omega))
      have HFIN := hid fin
      clear fin
      by_cases hy : y ∈ ts
      · obtain ⟨hj1, hj2⟩ := idx_at hy
        have HC := hid (add_g ⟨y.toArray⟩ c W' HTW.out _ hj1 (by simpa using hj2))
        have HY := hid hy
        clear hj1 hj2 hy
        unfold encStr
        gi_wp2_with (refine ⟨trivial, ?_⟩; gi_at_call 17; refine (CallsIn.inRound l (callsIn_wide.2 HC.out)).mono ?_; rintro e w' hd; have HD := hid hd; obtain ⟨rfl, _, _⟩ := hd)
        exact HFIN.out _ _ (by unfold addC; rw [if_pos HY.out]) _ _ HD.out
      · have HC := hid (add_no ⟨y.toArray⟩ c W' HTW.out (by simpa using hy))
        have HY := hid hy
        clear hy
        unfold encStr
        gi_wp2_with (refine ⟨trivial, ?_⟩; gi_at_call 17; refine (CallsIn.inRound l (callsIn_wide.2 HC.out)).mono ?_; rintro e w' hd; have HD := hid hd; obtain ⟨rfl, _, _⟩ := hd)
        exact HFIN.out _ _ (by unfold addC; rw [if_neg HY.out]) _ _ HD.out
    case done2 =>
      rintro D2 zs W' hD2 rfl ⟨⟨hTW, hq, ⟨v, hv, hf⟩, hKD, hWz⟩, hCH⟩ hK2
      have HTW := hid hTW
      have HCH := hid hCH
      have HK2 := hid hK2
      have HKD := hid hKD
      clear hTW hCH hK2 hKD HX4 HI4 HK4 HO2 hq
      have hsz := HS4.out
      have hvl := World.block_lt_of_cell? W' _ hv
      have HV := hid (And.intro hv hf)

      gi_wp2
      have k2 := (KeepsOthers.setCell W' ⟨w.heap.size + 1, 0, none⟩ (.bool true)).same D2 _ HK2.out rfl
      have kD := (KeepsOthers.setCell W' ⟨w.heap.size + 1, 0, none⟩ (.bool true)).same D _ HKD.out rfl
      have kD2 : ((W'.setCell ⟨w.heap.size + 1, 0, none⟩ (.bool true)).putObj D2 (.deferred none)).heap[D]? = some (.deferred (some [])) := (World.putObj_heap_other (by omega)).trans kD
      refine ⟨by simp, .inl ⟨_, _, rfl, run_takeDeferred k2, ?_⟩⟩
      refine ⟨by simp, .inl ⟨_, _, rfl, run_takeDeferred kD2, ?_⟩⟩
      have c0 : (W'.setCell ⟨w.heap.size + 1, 0, none⟩ (.bool true)).cell? ⟨w.heap.size + 1, 0, none⟩ = some (.bool true) := World.cell?_setCell_same' _ _ _ (by rw [HV.out.1]; rfl)
      have c1 := cell_kept c0 (grownBy_putObj' _ D2 (.deferred none)) (fun r e => by cases e; exact ⟨_, k2, rfl⟩)
      have c2 := cell_kept c1 (grownBy_putObj' _ D (.deferred none)) (fun r e => by cases e; exact ⟨_, kD2, rfl⟩)
      have hT1 := HTW.out.aside (grown_set W' (w.heap.size + 1) 0 (.bool true)) (by have := (Array.getElem?_eq_some_iff.1 HT.out.block).1; omega) (by omega) (fun e => by have := (HT.out.names.lt _ e).2; omega)
      have hT2 := (hT1.own (grownBy_putObj' _ D2 (.deferred none)) (fun r e => by cases e; exact ⟨_, k2, rfl⟩)).own (grownBy_putObj' _ D (.deferred none)) (fun r e => by cases e; exact ⟨_, kD2, rfl⟩)
      have hC1 := ((HCH.out.new (grown_set W' (w.heap.size + 1) 0 (.bool true)) (by omega) (by omega)).new (grownBy_putObj' _ D2 (.deferred none)) (by omega) (by omega)).new (grownBy_putObj' _ D (.deferred none)) (by omega) (by omega)
      exact ⟨.bool true, by simp [results, Try.f14, go_sem, c2], .inl ⟨HALL.out, rfl, hT2, hC1⟩⟩
    case stop2 => exact fun D c pre W hD _ h _ => h.elim
end
end Go.Proofs.Ytadoiplfglaonab
