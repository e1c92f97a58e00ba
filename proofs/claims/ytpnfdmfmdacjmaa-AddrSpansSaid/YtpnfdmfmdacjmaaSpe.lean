/-
  slices.AppendSeq over an iterator of ints, from an empty list.
-/
import Derived.Test.YtpnfdmfmdacjmaaSpd
import Derived.Maps.AppendAt
namespace Go.Proofs.Ytpnfdmfmdacjmaa
open Go.RowKit Go.Lib Go.Shelf
attribute [local go_sem] Oper.semAt_some

theorem srow_kept {A B : World} {base : Nat} {e : TypeId} {size n : Nat} {v : Value} {xs : List Value} {row : Option Nat} (h : A.ownsRow base e size v n xs) (hg : A.grownBy B row) (hr : ∀ r, row = some r → ∃ o : Obj, A.heap[r]? = some o ∧ o.isCells = false) : B.ownsRow base e size v n xs := by
  rcases h.2 with ⟨rfl, _⟩ | ⟨g, cap, cur, rfl, _, hh, _⟩
  · exact h.kept hg (.inl rfl)
  · refine h.kept hg (.inr fun e => ?_)
    obtain ⟨o, ho, hc⟩ := hr g e.symm
    rw [hh] at ho
    cases ho
    cases hc
theorem sowns_succ {w : World} {base : Nat} {e : TypeId} {size n : Nat} {v : Value} {xs : List Value} (h : w.ownsRow base e size v (n + 1) xs) : ∃ g cap, v = .slice (some ⟨g, 0, none⟩) (n + 1) cap := by
  rcases h.2 with ⟨_, h0⟩ | ⟨g, cap, cur, hv, _⟩
  · omega
  · exact ⟨g, cap, hv⟩
/-- What has been told lies in the list, whose box is b. -/
structure SAt (b base : Nat) (pre : List Int) (W : World) : Prop where
  l : ∃ v, W.cell? ⟨b, 0, none⟩ = some v ∧ W.frozen? ⟨b, 0, none⟩ = false ∧ W.ownsRow base 3 1 v pre.length (pre.map (Value.int .i64))
  lt : b < base
  size : base ≤ W.heap.size
theorem SAt.own {b base : Nat} {pre : List Int} {A B : World} {row : Option Nat} (h : SAt b base pre A) (hg : A.grownBy B row) (hr : ∀ r, row = some r → ∃ o : Obj, A.heap[r]? = some o ∧ o.isCells = false) : SAt b base pre B := by
  obtain ⟨v, h1, h2, h3⟩ := h.l
  exact ⟨⟨v, cell_kept h1 hg hr, (frozen_kept h1 hg hr).trans h2, srow_kept h3 hg hr⟩, h.lt, Nat.le_trans h.size hg.size⟩
/-- One more is told. -/
theorem SAt.step {b base : Nat} {pre : List Int} {W W1 : World} {v v' : Value} {x : Int} (h : SAt b base pre W) (hv : W.cell? ⟨b, 0, none⟩ = some v) (hf : W.frozen? ⟨b, 0, none⟩ = false) (hrow : W.ownsRow base 3 1 v pre.length (pre.map (Value.int .i64)))
    (hown : W1.ownsRow base 3 1 v' (pre.length + 1) (pre.map (Value.int .i64) ++ [.int .i64 x])) (hg : (W.alloc (.cells #[.int .i64 x] 3)).grownBy W1 v.ownBlock) :
    W1.cell? ⟨b, 0, none⟩ = some v ∧ W1.frozen? ⟨b, 0, none⟩ = false ∧ KeepsOthers W (W1.setCell ⟨b, 0, none⟩ v') ∧ Below b W (W1.setCell ⟨b, 0, none⟩ v') ∧ SAt b base (pre ++ [x]) (W1.setCell ⟨b, 0, none⟩ v') ∧ (∀ i, i < base → W1.heap[i]? = W.heap[i]?) ∧ (∀ i, i < base → i ≠ b → (W1.setCell ⟨b, 0, none⟩ v').heap[i]? = W.heap[i]?) := by
  have hA := (hrow.alloc (.cells #[.int .i64 x] 3)).lt
  have hs := h.size
  have hlt := h.lt
  have hne : ∀ i, i < base → some i ≠ v.ownBlock := fun i hi e => by have := (hA i e.symm).1; omega
  have hz : W.heap.size ≤ W1.heap.size := Nat.le_trans (by simp) hg.size
  have hblk : ∀ i, i < base → W1.heap[i]? = W.heap[i]? := fun i hi => (hg.block i (by simp; omega) (hne i hi)).trans (Below.heap_alloc _ _ _ (by omega))
  have c1 : W1.cell? ⟨b, 0, none⟩ = some v := (World.cell?_of_block (hblk _ hlt)).trans hv
  have f1 : W1.frozen? ⟨b, 0, none⟩ = false := (World.frozen?_of_block (hblk _ hlt)).trans hf
  have hgs : W1.grownBy (W1.setCell ⟨b, 0, none⟩ v') (some b) := ⟨rfl, rfl, rfl, by simp [World.setCell], fun i _ hi => Below.heap_setCell _ _ _ _ (fun e => hi (by rw [e]))⟩
  have hB : Below b W (W1.setCell ⟨b, 0, none⟩ v') := by
    have h1 : Below b W (W.alloc (.cells #[.int .i64 x] 3)) := (Below.refl _ _).alloc (by omega) _
    exact (h1.grown hg (by simp; omega) (fun i e => by have := (hA i e).1; omega)).setCell (by simp) _
  refine ⟨c1, f1, ?_, hB, ⟨⟨v', ?_, ?_, ?_⟩, hlt, by simp [World.setCell]; omega⟩, hblk, fun i hi hn => (Below.heap_setCell _ _ _ _ (fun e => hn e)).trans (hblk i hi)⟩
  · refine ((KeepsOthers.alloc _ _).trans (KeepsOthers.of_grownBy hg ?_)).trans (KeepsOthers.setCell _ _ _)
    intro j o hj ho
    rcases (hrow.alloc (.cells #[.int .i64 x] 3)).2 with ⟨rfl, _⟩ | ⟨g, cap, cur, rfl, _, hh, _⟩
    · cases hj
    · cases hj
      rw [hh] at ho
      cases ho
      rfl
  · exact World.cell?_setCell_same' _ _ _ (by rw [c1]; rfl)
  · rw [World.frozen?_setCell]; exact f1
  · have e := hown.kept hgs (.inr (fun e => by have := (hown.lt _ e).1; omega))
    simpa using e

set_option maxRecDepth 100000 in
set_option maxHeartbeats 4000000 in
theorem appendSeq_in (n : Nat) (hn : 3 ≤ n) (lb : Array Value) (ys : List Int) (hl : ys.length ≤ 100000) (Sp : List Int → Prop) (w : World) (hst : SeqStopsK Fence.wide (n - 1) Try.prog 74 lb (fun x : Int => #[.int .i64 x]) (Below w.heap.size) (fun xs => xs = ys) Sp ys.length (w.alloc (.cells #[.slice none 0 0] 43))) :
    CallsIn Fence.wide n Try.prog 73 #[.slice none 0 0, .func (.func 74) #[] lb] w (IntsDone ys w) := by
  have h1 : 1 ≤ n := by omega
  have HST := hid hst
  clear hst
  have hB0 : Below w.heap.size w (w.alloc (.cells #[.slice none 0 0] 43)) := (Below.refl _ w).alloc (Nat.le_refl _) _
  have hL0 : SAt w.heap.size (w.heap.size + 1) [] (w.alloc (.cells #[.slice none 0 0] 43)) := ⟨⟨.slice none 0 0, by simp [go_sem], by simp [go_sem], World.ownsRow_nil _ _ _ _⟩, by omega, by simp⟩
  have HB0 := hid hB0
  have HL0 := hid hL0
  clear hB0 hL0
  refine callsIn_of_wp_marks Try.func73 rfl trivial ?_ rfl
  simp only [Try.ntmps73, List.size_toArray, List.length_cons, List.length_nil, Nat.reduceAdd, Nat.reduceSub, Array.replicate_succ, Array.replicate_zero, List.push_toArray, List.append_toArray, List.nil_append, List.cons_append]
  gi_wp2
  refine wpIn_rangeFunc_ownF rfl h1 (gf := 74) (lb := lb) rfl trivial (enters_of Try.func74 (by kernel_rfl) rfl)
    HST.out belowK_t (belowK_b (by simp)) (Below.refl _ _) (fun _ => rfl)
    (fun pre W => SAt w.heap.size (w.heap.size + 1) pre W ∧ Below w.heap.size w W)
    (fun c pre W => False ∧ Below w.heap.size w W)
    (OwnFrom.and (Own.from (fun s A B row hs hg hr => hs.own hg hr) _) (ownFrom_below (Nat.le_refl _) (by simp)))
    (fun c => OwnFrom.and (Own.from (fun s A B row hs hg hr => hs) _) (ownFrom_below (Nat.le_refl _) (by simp)))
    ⟨HL0.out, HB0.out⟩
    ?a1 ?assign ?body ?done ?stop
  case assign =>
    intro l x W K hK
    gi_wp2
    exact hK
  case body =>
    rintro l pre x W ⟨hL, hB⟩ hlen
    have HL := hid hL
    have HB := hid hB
    obtain ⟨v, hv, hvf, hrow⟩ := hL.l
    have hsz := hL.size
    have HROW := hid hrow
    have HV := hid hv
    have HVF := hid hvf
    obtain ⟨i0, hi, hz0, hz1, hz2⟩ := info_parts info3s
    clear hL hB hrow HST HB0 HL0
    gi_wp2_with (gi_at_builtin; refine wpListIn_append_own _ rfl _ _ 43 rfl (w.heap.size + 1) 3 i0 (.int .i64 0) 1 8 Try.underlying43 hi hz0 hz1 hz2 rfl (by decide) v pre.length (pre.map (Value.int .i64)) rfl (HROW.out.alloc _) ⟨W.heap.size, 0, none⟩ 1 1 [.int .i64 x] rfl rfl (cell_one_new _ _ _) (by simp [Value.oneCell']) (by unfold maxLen; omega) (by omega) (by simp; omega) ?_; intro v' W1 hown' hgrow _; obtain ⟨g', cap', rfl⟩ := sowns_succ hown'; obtain ⟨s1, s2, s4, s5, s6, _, _⟩ := HL.out.step HV.out HVF.out HROW.out hown' hgrow; have S4 := hid s4; have S5 := hid s5; have S6 := hid s6; clear hown' hgrow s4 s5 s6)
    exact ⟨S4.out, S5.out, S6.out, HB.out.trans S5.out⟩
  case done =>
    rintro D xs W hD rfl ⟨hL, hB⟩ hK
    obtain ⟨v, hv, hvf, hrow⟩ := hL.l
    have HB := hid hB
    have HK := hid hK
    have HROW := hid hrow
    clear hB hK hrow HST HB0 HL0 hL
    gi_wp2
    refine ⟨by simp, .inl ⟨_, _, rfl, run_takeDeferred HK.out, ?_⟩⟩
    have hr := srow_kept HROW.out (grownBy_putObj' _ D (.deferred none)) (fun r e => by cases e; exact ⟨_, HK.out, rfl⟩)
    refine ⟨v, by simp [results, Try.f73, go_sem], v, w.heap.size + 1, rfl, by omega, hr, ?_⟩
    exact HB.out.trans (belowK_b (w := w) (Nat.le_refl _) _ D _ _ (by simp at hD; omega) HK.out rfl rfl)
  case stop =>
    rintro D c pre W hD hpre ⟨hF, _⟩ hK
    exact hF.elim

end Go.Proofs.Ytpnfdmfmdacjmaa
