/-
  The iterator that Agreed gives; slices.AppendSeq and slices.Collect over it.
-/
import Derived.Test.YtdpfjbpfafekfaaOh
import Derived.RangeFuncNested
import Derived.RangeFuncBound
import Derived.RangeFuncCalls
import Derived.RangeFuncLeaves
import Derived.Shelf.Abstract
import Derived.Shelf.RegionOpen
import Derived.OwnWalkIn
import Derived.TacticsInMore
import Derived.LoopNIn
import Derived.LoopIn
import Derived.Maps.AppendAt
namespace Go.Proofs.Ytdpfjbpfafekfaa
open Go.RowKit Go.Lib Go.Shelf
attribute [local go_sem] Oper.semAt_some

theorem grown_of_below {a b : World} (h : Below a.heap.size a b) : a.grownBy b none := ⟨h.os, h.tape, h.output, h.size, fun k hk _ => h.block k hk⟩
/-- What the iterator holds: a box with a list of bytes, in a row. -/
structure AgR (b r cap : Nat) (L : List Int) (w : World) : Prop where
  box : w.cell? ⟨b, 0, none⟩ = some (.slice (some ⟨r, 0, none⟩) L.length cap)
  row : ∀ i, i < L.length → w.cell? ⟨r, i, none⟩ = some (.int .u8 (L.getD i 0))
theorem AgR.below {b r cap : Nat} {L : List Int} {w w' : World} (h : AgR b r cap L w) (hb : Below w.heap.size w w') : AgR b r cap L w' := ⟨keepc hb h.box, fun i hi => keepc hb (h.row i hi)⟩
/-- What the iterator holds. -/
def AgX (b : Nat) (L : List Int) (w : World) : Prop := (w.cell? ⟨b, 0, none⟩ = some (.slice none 0 0) ∧ L = []) ∨ ∃ r cap, AgR b r cap L w
theorem AgX.below {b : Nat} {L : List Int} {w w' : World} (h : AgX b L w) (hb : Below w.heap.size w w') : AgX b L w' := by
  rcases h with ⟨h1, h2⟩ | ⟨r, cap, h1⟩
  · exact .inl ⟨keepc hb h1, h2⟩
  · exact .inr ⟨r, cap, h1.below hb⟩
/-- So many of them, and no more. -/
theorem take_snoc (L : List Int) (k : Nat) (h : k < L.length) : L.take (k + 1) = L.take k ++ [L.getD k 0] := by
  rw [List.take_succ_eq_append_getElem h, List.getD, List.getElem?_eq_getElem h]
  rfl
set_option maxRecDepth 100000 in
set_option maxHeartbeats 2000000 in
theorem agreed_stops_nil (n : Nat) (_hn : 1 ≤ n) (b : Nat) (w : World) (hX : w.cell? ⟨b, 0, none⟩ = some (.slice none 0 0)) (Kp : World → World → Prop) :
    SeqStopsK Fence.wide n Try.prog 58 #[.pointer (some ⟨b, 0, none⟩)] (fun x : Int => #[.int .u8 x]) Kp (fun xs => xs = []) (fun pre => ∃ k, pre = ([] : List Int).take k) ([] : List Int).length w := fun l J Jx W hW hJ _ hY h0 => by
  have c0 := keepc hW hX
  have H0 := hid h0
  clear hX hY h0 hJ hW
  refine callsIn_of_wp Try.func58 rfl trivial ?_ rfl
  simp only [Try.ntmps58, List.size_toArray, List.length_cons, List.length_nil, Nat.reduceAdd, Nat.reduceSub, Array.replicate_succ, Array.replicate_zero, List.push_toArray, List.append_toArray, List.nil_append, List.cons_append]
  gi_wp2
  gi_loopw [7] (fun i wr => i = .int .i64 0 ∧ wr = W) (fun _ _ => 0)
  case atStart => exact ⟨rfl, rfl⟩
  case round =>
    obtain ⟨rfl, rfl⟩ := hrel
    gi_wp2
    go_end0
    exact ⟨⟨_, rfl⟩, .inl ⟨_, rfl, H0.out⟩⟩
set_option maxRecDepth 100000 in
set_option maxHeartbeats 2000000 in
theorem agreed_stops_row (n : Nat) (hn : 1 ≤ n) (b r cap : Nat) (L : List Int) (hl : L.length ≤ 100000) (w : World) (hX : AgR b r cap L w) (Kp : World → World → Prop) (hKp : ∀ W W', Kp W W' → AgR b r cap L W → AgR b r cap L W') :
    SeqStopsK Fence.wide n Try.prog 58 #[.pointer (some ⟨b, 0, none⟩)] (fun x : Int => #[.int .u8 x]) Kp (fun xs => xs = L) (fun pre => ∃ k, pre = L.take k) L.length w := fun l J Jx W hW hJ _ hY h0 => by
  have hX' : AgR b r cap L W := hX.below hW
  have HY := hid hY
  have H0 := hid h0
  have HX0 := hid hX'
  have c0 := hX'.box
  have HKP := hid hKp
  clear hX hY h0 hJ hW hKp hX'
  obtain ⟨M, hM⟩ : ∃ M, M = L.length := ⟨_, rfl⟩
  rw [← hM] at hl c0
  have HM := hid hM
  clear hM
  refine callsIn_of_wp Try.func58 rfl trivial ?_ rfl
  simp only [Try.ntmps58, List.size_toArray, List.length_cons, List.length_nil, Nat.reduceAdd, Nat.reduceSub, Array.replicate_succ, Array.replicate_zero, List.push_toArray, List.append_toArray, List.nil_append, List.cons_append]
  gi_wp2
  clear c0
  gi_loopw [7] (fun i wr => ∃ k : Nat, k ≤ M ∧ i = .int .i64 k ∧ Hid (J (L.take k) wr) ∧ Hid (AgR b r cap L wr)) (fun i _ => M - (intOf i).toNat)
  case atStart => exact ⟨0, by omega, rfl, H0.out, HX0.out⟩
  case round =>
    obtain ⟨k, hk, rfl, HJ, HX⟩ := hrel
    by_cases hlt : k < M
    · have hki : (k : Int) < M := by omega
      have d0 := HX.out.row k (by rw [← HM.out]; exact hlt)
      have HS := hid (take_snoc L k (by rw [← HM.out]; exact hlt))
      generalize L.getD k 0 = X at d0 HS
      obtain ⟨f1, t1, a1, b1, hy, hR⟩ := HY.out (L.take k) X wr HJ.out (by rw [List.length_take, ← HM.out]; omega)
      rw [← HS.out] at hR
      have HR := hid hR
      clear hR
      gi_wp2
      refine HR.out.mono ?_
      rintro e W1 (⟨rfl, hJ1, hB1⟩ | ⟨rfl, hx1⟩)
      · have HJ1 := hid hJ1
        have HX9 := hid (HKP.out _ _ hB1 HX.out)
        clear hJ1 hB1
        gi_wp2
        go_roundw
        case rel => exact ⟨k + 1, by omega, by go_num, HJ1, HX9⟩
        case measure => simp [intOf]; omega
      · have HX1 := hid hx1
        clear hx1
        gi_wp2
        refine bodyPost_ret (results_none rfl _ _ _) rfl ?_
        exact ⟨⟨_, rfl⟩, .inr ⟨_, ⟨k + 1, rfl⟩, HX1.out⟩⟩
    · obtain rfl : k = M := by omega
      gi_wp2
      go_end0
      exact ⟨⟨_, rfl⟩, .inl ⟨_, by rw [HM.out, List.take_length], HJ.out⟩⟩
/-- A list of bytes was made. -/
def SeqDone (ys : List Int) (w : World) (e : Ending) (w' : World) : Prop := ∃ v b, e = .returned v ∧ w.heap.size ≤ b ∧ w'.ownsRow b 5 1 v ys.length (ys.map (Value.int .u8)) ∧ Below w.heap.size w w'
theorem srow_kept {A B : World} {base : Nat} {e : TypeId} {size n : Nat} {v : Value} {xs : List Value} {row : Option Nat} (h : A.ownsRow base e size v n xs) (hg : A.grownBy B row) (hr : ∀ r, row = some r → ∃ o : Obj, A.heap[r]? = some o ∧ o.isCells = false) : B.ownsRow base e size v n xs := by
  rcases h.2 with ⟨rfl, _⟩ | ⟨g, cap, cur, rfl, _, hh, _⟩
  · exact h.kept hg (.inl rfl)
  · refine h.kept hg (.inr fun e => ?_)
    obtain ⟨o, ho, hc⟩ := hr g e.symm
    rw [hh] at ho
    cases ho
    cases hc
theorem sowns_succ {w : World} {base : Nat} {e : TypeId} {size n : Nat} {v : Value} {xs : List Value} (h : w.ownsRow base e size v (n + 1) xs) : ∃ g cap, v = .slice (some ⟨g, 0, none⟩) (n + 1) cap := by
  rcases h.2 with ⟨_, h0⟩ | ⟨g, cap, cur, hv, _⟩
  · omega
  · exact ⟨g, cap, hv⟩
/-- What has been told lies in the list, whose box is b. -/
structure SAt (b base : Nat) (pre : List Int) (W : World) : Prop where
  l : ∃ v, W.cell? ⟨b, 0, none⟩ = some v ∧ W.frozen? ⟨b, 0, none⟩ = false ∧ W.ownsRow base 5 1 v pre.length (pre.map (Value.int .u8))
  lt : b < base
  size : base ≤ W.heap.size
theorem SAt.own {b base : Nat} {pre : List Int} {A B : World} {row : Option Nat} (h : SAt b base pre A) (hg : A.grownBy B row) (hr : ∀ r, row = some r → ∃ o : Obj, A.heap[r]? = some o ∧ o.isCells = false) : SAt b base pre B := by
  obtain ⟨v, h1, h2, h3⟩ := h.l
  exact ⟨⟨v, cell_kept h1 hg hr, (frozen_kept h1 hg hr).trans h2, srow_kept h3 hg hr⟩, h.lt, Nat.le_trans h.size hg.size⟩
/-- One more is told. -/
theorem SAt.step {b base : Nat} {pre : List Int} {W W1 : World} {v v' : Value} {x : Int} (h : SAt b base pre W) (hv : W.cell? ⟨b, 0, none⟩ = some v) (hf : W.frozen? ⟨b, 0, none⟩ = false) (hrow : W.ownsRow base 5 1 v pre.length (pre.map (Value.int .u8)))
    (hown : W1.ownsRow base 5 1 v' (pre.length + 1) (pre.map (Value.int .u8) ++ [.int .u8 x])) (hg : (W.alloc (.cells #[.int .u8 x] 5)).grownBy W1 v.ownBlock) :
    W1.cell? ⟨b, 0, none⟩ = some v ∧ W1.frozen? ⟨b, 0, none⟩ = false ∧ KeepsOthers W (W1.setCell ⟨b, 0, none⟩ v') ∧ Below b W (W1.setCell ⟨b, 0, none⟩ v') ∧ SAt b base (pre ++ [x]) (W1.setCell ⟨b, 0, none⟩ v') ∧ (∀ i, i < base → W1.heap[i]? = W.heap[i]?) ∧ (∀ i, i < base → i ≠ b → (W1.setCell ⟨b, 0, none⟩ v').heap[i]? = W.heap[i]?) := by
  have hA := (hrow.alloc (.cells #[.int .u8 x] 5)).lt
  have hs := h.size
  have hlt := h.lt
  have hne : ∀ i, i < base → some i ≠ v.ownBlock := fun i hi e => by have := (hA i e.symm).1; omega
  have hz : W.heap.size ≤ W1.heap.size := Nat.le_trans (by simp) hg.size
  have hblk : ∀ i, i < base → W1.heap[i]? = W.heap[i]? := fun i hi => (hg.block i (by simp; omega) (hne i hi)).trans (Below.heap_alloc _ _ _ (by omega))
  have c1 : W1.cell? ⟨b, 0, none⟩ = some v := (World.cell?_of_block (hblk _ hlt)).trans hv
  have f1 : W1.frozen? ⟨b, 0, none⟩ = false := (World.frozen?_of_block (hblk _ hlt)).trans hf
  have hgs : W1.grownBy (W1.setCell ⟨b, 0, none⟩ v') (some b) := ⟨rfl, rfl, rfl, by simp [World.setCell], fun i _ hi => Below.heap_setCell _ _ _ _ (fun e => hi (by rw [e]))⟩
  have hB : Below b W (W1.setCell ⟨b, 0, none⟩ v') := by
    have h1 : Below b W (W.alloc (.cells #[.int .u8 x] 5)) := (Below.refl _ _).alloc (by omega) _
    exact (h1.grown hg (by simp; omega) (fun i e => by have := (hA i e).1; omega)).setCell (by simp) _
  refine ⟨c1, f1, ?_, hB, ⟨⟨v', ?_, ?_, ?_⟩, hlt, by simp [World.setCell]; omega⟩, hblk, fun i hi hn => (Below.heap_setCell _ _ _ _ (fun e => hn e)).trans (hblk i hi)⟩
  · refine ((KeepsOthers.alloc _ _).trans (KeepsOthers.of_grownBy hg ?_)).trans (KeepsOthers.setCell _ _ _)
    intro j o hj ho
    rcases (hrow.alloc (.cells #[.int .u8 x] 5)).2 with ⟨rfl, _⟩ | ⟨g, cap, cur, rfl, _, hh, _⟩
    · cases hj
    · cases hj
      rw [hh] at ho
      cases ho
      rfl
  · exact World.cell?_setCell_same' _ _ _ (by rw [c1]; rfl)
  · rw [World.frozen?_setCell]; exact f1
  · have e := hown.kept hgs (.inr (fun e => by have := (hown.lt _ e).1; omega))
    simpa using e

set_option maxRecDepth 100000 in
set_option maxHeartbeats 4000000 in
theorem appendSeq_in (n : Nat) (hn : 3 ≤ n) (lb : Array Value) (ys : List Int) (hl : ys.length ≤ 100000) (Sp : List Int → Prop) (w : World) (hst : SeqStopsK Fence.wide (n - 1) Try.prog 58 lb (fun x : Int => #[.int .u8 x]) (Below w.heap.size) (fun xs => xs = ys) Sp ys.length (w.alloc (.cells #[.slice none 0 0] 22))) :
    CallsIn Fence.wide n Try.prog 57 #[.slice none 0 0, .func (.func 58) #[] lb] w (SeqDone ys w) := by
  have h1 : 1 ≤ n := by omega
  have HST := hid hst
  clear hst
  have hB0 : Below w.heap.size w (w.alloc (.cells #[.slice none 0 0] 22)) := (Below.refl _ w).alloc (Nat.le_refl _) _
  have hL0 : SAt w.heap.size (w.heap.size + 1) [] (w.alloc (.cells #[.slice none 0 0] 22)) := ⟨⟨.slice none 0 0, by simp [go_sem], by simp [go_sem], World.ownsRow_nil _ _ _ _⟩, by omega, by simp⟩
  have HB0 := hid hB0
  have HL0 := hid hL0
  clear hB0 hL0
  refine callsIn_of_wp_marks Try.func57 rfl trivial ?_ rfl
  simp only [Try.ntmps57, List.size_toArray, List.length_cons, List.length_nil, Nat.reduceAdd, Nat.reduceSub, Array.replicate_succ, Array.replicate_zero, List.push_toArray, List.append_toArray, List.nil_append, List.cons_append]
  gi_wp2
  refine wpIn_rangeFunc_ownF rfl h1 (gf := 58) (lb := lb) rfl trivial (enters_of Try.func58 (by kernel_rfl) rfl)
    HST.out belowK_t (belowK_b (by simp)) (Below.refl _ _) (fun _ => rfl)
    (fun pre W => SAt w.heap.size (w.heap.size + 1) pre W ∧ Below w.heap.size w W)
    (fun c pre W => False ∧ Below w.heap.size w W)
    (OwnFrom.and (Own.from (fun s A B row hs hg hr => hs.own hg hr) _) (ownFrom_below (Nat.le_refl _) (by simp)))
    (fun c => OwnFrom.and (Own.from (fun s A B row hs hg hr => hs) _) (ownFrom_below (Nat.le_refl _) (by simp)))
    ⟨HL0.out, HB0.out⟩
    ?a1 ?assign ?body ?done ?stop
  case assign =>
    intro l x W K hK
    gi_wp2
    exact hK
  case body =>
    rintro l pre x W ⟨hL, hB⟩ hlen
    have HL := hid hL
    have HB := hid hB
    obtain ⟨v, hv, hvf, hrow⟩ := hL.l
    have hsz := hL.size
    have HROW := hid hrow
    have HV := hid hv
    have HVF := hid hvf
    obtain ⟨i0, hi, hz0, hz1, hz2⟩ := info_parts info5
    clear hL hB hrow HST HB0 HL0
    gi_wp2_with (gi_at_builtin; refine wpListIn_append_own _ rfl _ _ 22 rfl (w.heap.size + 1) 5 i0 (.int .u8 0) 1 1 Try.underlying22 hi hz0 hz1 hz2 rfl (by decide) v pre.length (pre.map (Value.int .u8)) rfl (HROW.out.alloc _) ⟨W.heap.size, 0, none⟩ 1 1 [.int .u8 x] rfl rfl (cell_one_new _ _ _) (by simp [Value.oneCell']) (by unfold maxLen; omega) (by omega) (by simp; omega) ?_; intro v' W1 hown' hgrow _; obtain ⟨g', cap', rfl⟩ := sowns_succ hown'; obtain ⟨s1, s2, s4, s5, s6, _, _⟩ := HL.out.step HV.out HVF.out HROW.out hown' hgrow; have S4 := hid s4; have S5 := hid s5; have S6 := hid s6; clear hown' hgrow s4 s5 s6)
    exact ⟨S4.out, S5.out, S6.out, HB.out.trans S5.out⟩
  case done =>
    rintro D xs W hD rfl ⟨hL, hB⟩ hK
    obtain ⟨v, hv, hvf, hrow⟩ := hL.l
    have HB := hid hB
    have HK := hid hK
    have HROW := hid hrow
    clear hB hK hrow HST HB0 HL0 hL
    gi_wp2
    refine ⟨by simp, .inl ⟨_, _, rfl, run_takeDeferred HK.out, ?_⟩⟩
    have hr := srow_kept HROW.out (grownBy_putObj' _ D (.deferred none)) (fun r e => by cases e; exact ⟨_, HK.out, rfl⟩)
    refine ⟨v, by simp [results, Try.f57, go_sem], v, w.heap.size + 1, rfl, by omega, hr, ?_⟩
    exact HB.out.trans (belowK_b (w := w) (Nat.le_refl _) _ D _ _ (by simp at hD; omega) HK.out rfl rfl)
  case stop =>
    rintro D c pre W hD hpre ⟨hF, _⟩ hK
    exact hF.elim

set_option maxRecDepth 100000 in
theorem collect_in (n : Nat) (hn : 4 ≤ n) (lb : Array Value) (ys : List Int) (hl : ys.length ≤ 100000) (Sp : List Int → Prop) (w : World) (hst : SeqStopsK Fence.wide (n - 2) Try.prog 58 lb (fun x : Int => #[.int .u8 x]) (Below w.heap.size) (fun xs => xs = ys) Sp ys.length (w.alloc (.cells #[.slice none 0 0] 22))) :
    CallsIn Fence.wide n Try.prog 29 #[.func (.func 58) #[] lb] w (SeqDone ys w) := by
  have HA := hid (appendSeq_in (n - 1) (by omega) lb ys hl Sp w (by rw [show n - 1 - 1 = n - 2 by omega]; exact hst))
  clear hst
  have h1 : 1 ≤ n := by omega
  refine callsIn_of_wp Try.func29 rfl trivial ?_ rfl
  simp only [Try.ntmps29, List.size_toArray, List.length_cons, List.length_nil, Nat.reduceAdd, Nat.reduceSub, Array.replicate_succ, Array.replicate_zero, List.push_toArray, List.append_toArray, List.nil_append, List.cons_append]
  gi_wp2
  refine ⟨trivial, ?_⟩
  refine HA.out.mono ?_
  rintro e w' ⟨v, b, rfl, hb, ho, hw⟩
  have HD := hid (And.intro hb (And.intro ho hw))
  clear hb ho hw
  gi_wp2
  go_ret
  exact ⟨v, b, rfl, HD.out.1, HD.out.2.1, HD.out.2.2⟩

theorem collect_any (b : Nat) (L : List Int) (hl : L.length ≤ 100000) (w : World) (hX : AgX b L w) : Calls Try.prog 29 #[.func (.func 58) #[] #[.pointer (some ⟨b, 0, none⟩)]] w (SeqDone L w) := by
  rcases hX with ⟨h1, rfl⟩ | ⟨r, cap, h1⟩
  · exact callsIn_wide.1 (collect_in 4 (by omega) _ [] (by simp) _ w (agreed_stops_nil 2 (by omega) b _ (keepc (bal (Below.refl _ _) _) h1) _))
  · have hlb : b < w.heap.size := World.block_lt_of_cell? w _ h1.box
    refine callsIn_wide.1 (collect_in 4 (by omega) _ L hl _ w (agreed_stops_row 2 (by omega) b r cap L hl _ (h1.below (bal (Below.refl _ _) _)) _ (fun W W' hb hW => ?_)))
    refine ⟨(hb.cell (p := ⟨b, 0, none⟩) hlb).trans hW.box, fun i hi => ?_⟩
    have hlr : r < w.heap.size := World.block_lt_of_cell? w _ (h1.row i hi)
    exact (hb.cell (p := ⟨r, i, none⟩) hlr).trans (hW.row i hi)
end Go.Proofs.Ytdpfjbpfafekfaa
