/-
  The iterator over a tally, and the law's all.
-/
import Derived.Test.YtadoiplfglaonabAlla
import Derived.Maps.AppendAt
namespace Go.Proofs.Ytadoiplfglaonab
open Go.RowKit Go.Shelf Go.Deep Go.Lib
attribute [local go_sem] Oper.semAt_some

/-- Names with their counts. -/
def pairsL (ts : List (List UInt8)) (cs : List Int) (k : Nat) : List (List UInt8 × Int) := (List.range k).map fun i => (ts.getD i [], cs.getD i 0)
theorem pairsL_succ (ts : List (List UInt8)) (cs : List Int) (k : Nat) : pairsL ts cs (k + 1) = pairsL ts cs k ++ [(ts.getD k [], cs.getD k 0)] := by
  simp [pairsL, List.range_succ]
theorem pairsL_len (ts : List (List UInt8)) (cs : List Int) (k : Nat) : (pairsL ts cs k).length = k := by simp [pairsL]
def encP (x : List UInt8 × Int) : Array Value := #[encStr x.1, .int .u64 x.2]
def lbA (b1 b2 : Nat) : Array Value := #[.pointer (some ⟨b1, 0, none⟩), .pointer (some ⟨b2, 0, none⟩)]
set_option maxRecDepth 100000 in
set_option maxHeartbeats 2000000 in
theorem iter_stops (n : Nat) (hn : 1 ≤ n) (lo hi b1 b2 : Nat) (oN oV : Option Addr) (cN cV : Nat) (ts : List (List UInt8)) (cs : List Int) (hf : ts.length ≤ 64) (w : World) (hX : AllBox lo hi b1 b2 oN oV cN cV ts cs w) (hhi : hi ≤ w.heap.size) (Kp : World → World → Prop) (hKp : ∀ W W', Kp W W' → KeepR lo hi W W') :
    SeqStopsK Fence.wide n Try.prog 33 (lbA b1 b2) encP Kp (fun xs => xs = pairsL ts cs ts.length) (fun pre => ∃ k, pre = pairsL ts cs k ∧ k ≤ ts.length) ts.length w := fun l J Jx W hW hJ _ hY h0 => by
  have hX' : AllBox lo hi b1 b2 oN oV cN cV ts cs W := hX.kept (KeepR.below hW hhi)
  have HJA := hid hJ
  have HY := hid hY
  have H0 := hid h0
  have HKP := hid hKp
  have HX0 := hid hX'
  obtain ⟨N, hN⟩ : ∃ N, N = ts.length := ⟨_, rfl⟩
  have x1 := hX'.n
  rw [← hN] at hf HY x1 ⊢
  have HNN := hid hN
  clear hX hY h0 hJ hW hX' hN hKp
  unfold lbA
  refine callsIn_of_wp Try.func33 rfl trivial ?_ rfl
  simp only [Try.ntmps33, List.size_toArray, List.length_cons, List.length_nil, Nat.reduceAdd, Nat.reduceSub, Array.replicate_succ, Array.replicate_zero, List.push_toArray, List.append_toArray, List.nil_append, List.cons_append]
  gi_wp2
  gi_loopw [8] (fun i wr => ∃ k : Nat, k ≤ N ∧ i = .int .i64 k ∧ Hid (J (pairsL ts cs k) wr) ∧ Hid (AllBox lo hi b1 b2 oN oV cN cV ts cs wr)) (fun i _ => N - (intOf i).toNat)
  case atStart => exact ⟨0, by omega, rfl, H0, HX0⟩
  case round =>
    obtain ⟨k, hk, rfl, HJ, HX⟩ := hrel
    by_cases hlt : k < N
    · obtain ⟨gN, gV, rfl, rfl, e1, e2, _⟩ := HX.out.c k (by rw [← HNN.out]; exact hlt)
      have x2 := HX.out.v
      rw [← HNN.out] at x2
      obtain ⟨f1, t1, a1, b1', hy, hR⟩ := HY.out (pairsL ts cs k) (ts.getD k [], cs.getD k 0) wr HJ.out (by rw [pairsL_len]; exact hlt)
      rw [← pairsL_succ] at hR
      have HR := hid hR
      obtain ⟨y, hy1⟩ : ∃ y, y = ts.getD k [] := ⟨_, rfl⟩
      obtain ⟨c, hc1⟩ : ∃ c, c = cs.getD k 0 := ⟨_, rfl⟩
      unfold encP at hy
      dsimp only at hy
      rw [← hy1, ← hc1] at hy
      rw [← hy1] at e1
      rw [← hc1] at e2
      clear hR hy1 hc1
      gi_wp2
      refine HR.out.mono ?_
      rintro e W1 (⟨rfl, hJ1, hB1⟩ | ⟨rfl, hx1⟩)
      · have HJ1 := hid hJ1
        have HX9 := hid (HX.out.kept (HKP.out _ _ hB1))
        clear hJ1 hB1
        gi_wp2
        go_roundw
        case rel => exact ⟨k + 1, by omega, by go_num, HJ1, HX9⟩
        case measure => simp [intOf]; omega
      · have HX1 := hid hx1
        clear hx1
        gi_wp2
        refine bodyPost_ret (results_none rfl _ _ _) rfl ?_
        exact ⟨⟨_, rfl⟩, .inr ⟨_, ⟨k + 1, rfl, by have := HNN.out; omega⟩, HX1.out⟩⟩
    · obtain rfl : k = N := by omega
      gi_wp2
      go_end0
      exact ⟨⟨_, rfl⟩, .inl ⟨_, rfl, HJ.out⟩⟩
/-- What has been told lies in the list, whose box is b. -/
def cellsP : List (List UInt8 × Int) → List Value
  | x :: l => encStr x.1 :: .int .u64 x.2 :: cellsP l
  | [] => []
theorem cellsP_append : ∀ a b, cellsP (a ++ b) = cellsP a ++ cellsP b
  | [], b => rfl
  | x :: a, b => by simp only [List.cons_append, cellsP, cellsP_append a b]
structure PAt (b base : Nat) (pre : List (List UInt8 × Int)) (W : World) : Prop where
  l : ∃ v, W.cell? ⟨b, 0, none⟩ = some v ∧ W.frozen? ⟨b, 0, none⟩ = false ∧ W.ownsRow base 41 2 v pre.length (cellsP pre)
  lt : b < base
  size : base ≤ W.heap.size
theorem PAt.own {b base : Nat} {pre : List (List UInt8 × Int)} {A B : World} {row : Option Nat} (h : PAt b base pre A) (hg : A.grownBy B row) (hr : ∀ r, row = some r → ∃ o : Obj, A.heap[r]? = some o ∧ o.isCells = false) : PAt b base pre B := by
  obtain ⟨v, h1, h2, h3⟩ := h.l
  exact ⟨⟨v, cell_kept h1 hg hr, (frozen_kept h1 hg hr).trans h2, srow_kept h3 hg hr⟩, h.lt, Nat.le_trans h.size hg.size⟩
/-- One more is told. -/
theorem PAt.step {b base : Nat} {pre : List (List UInt8 × Int)} {W W1 : World} {v v' : Value} {y : List UInt8} {c : Int} (h : PAt b base pre W) (hv : W.cell? ⟨b, 0, none⟩ = some v) (hf : W.frozen? ⟨b, 0, none⟩ = false) (hrow : W.ownsRow base 41 2 v pre.length (cellsP pre))
    (hown : W1.ownsRow base 41 2 v' (pre.length + 1) (cellsP pre ++ [encStr y, .int .u64 c])) (hg : (W.alloc (.cells #[encStr y, .int .u64 c] 41)).grownBy W1 v.ownBlock) :
    W1.cell? ⟨b, 0, none⟩ = some v ∧ W1.frozen? ⟨b, 0, none⟩ = false ∧ KeepsOthers W (W1.setCell ⟨b, 0, none⟩ v') ∧ Below b W (W1.setCell ⟨b, 0, none⟩ v') ∧ PAt b base (pre ++ [(y, c)]) (W1.setCell ⟨b, 0, none⟩ v') ∧ (∀ i, i < base → W1.heap[i]? = W.heap[i]?) ∧ (∀ i, i < base → i ≠ b → (W1.setCell ⟨b, 0, none⟩ v').heap[i]? = W.heap[i]?) := by
  have hA := (hrow.alloc (.cells #[encStr y, .int .u64 c] 41)).lt
  have hs := h.size
  have hlt := h.lt
  have hne : ∀ i, i < base → some i ≠ v.ownBlock := fun i hi e => by have := (hA i e.symm).1; omega
  have hz : W.heap.size ≤ W1.heap.size := Nat.le_trans (by simp) hg.size
  have hblk : ∀ i, i < base → W1.heap[i]? = W.heap[i]? := fun i hi => (hg.block i (by simp; omega) (hne i hi)).trans (Below.heap_alloc _ _ _ (by omega))
  have c1 : W1.cell? ⟨b, 0, none⟩ = some v := (World.cell?_of_block (hblk _ hlt)).trans hv
  have f1 : W1.frozen? ⟨b, 0, none⟩ = false := (World.frozen?_of_block (hblk _ hlt)).trans hf
  have hgs : W1.grownBy (W1.setCell ⟨b, 0, none⟩ v') (some b) := ⟨rfl, rfl, rfl, by simp [World.setCell], fun i _ hi => Below.heap_setCell _ _ _ _ (fun e => hi (by rw [e]))⟩
  have hB : Below b W (W1.setCell ⟨b, 0, none⟩ v') := by
    have h1 : Below b W (W.alloc (.cells #[encStr y, .int .u64 c] 41)) := (Below.refl _ _).alloc (by omega) _
    exact (h1.grown hg (by simp; omega) (fun i e => by have := (hA i e).1; omega)).setCell (by simp) _
  refine ⟨c1, f1, ?_, hB, ⟨⟨v', ?_, ?_, ?_⟩, hlt, by simp [World.setCell]; omega⟩, hblk, fun i hi hn => (Below.heap_setCell _ _ _ _ (fun e => hn e)).trans (hblk i hi)⟩
  · refine ((KeepsOthers.alloc _ _).trans (KeepsOthers.of_grownBy hg ?_)).trans (KeepsOthers.setCell _ _ _)
    intro j o hj ho
    rcases (hrow.alloc (.cells #[encStr y, .int .u64 c] 41)).2 with ⟨rfl, _⟩ | ⟨g, cap, cur, rfl, _, hh, _⟩
    · cases hj
    · cases hj
      rw [hh] at ho
      cases ho
      rfl
  · exact World.cell?_setCell_same' _ _ _ (by rw [c1]; rfl)
  · rw [World.frozen?_setCell]; exact f1
  · have e := hown.kept hgs (.inr (fun e => by have := (hown.lt _ e).1; omega))
    rw [List.length_append, cellsP_append]
    exact e
def PDone (ys : List (List UInt8 × Int)) (w : World) (e : Ending) (w' : World) : Prop := ∃ v, e = .returned v ∧ w'.ownsRow w.heap.size 41 2 v ys.length (cellsP ys) ∧ Below w.heap.size w w'
set_option maxRecDepth 100000 in
set_option maxHeartbeats 4000000 in
theorem all_in (n : Nat) (hn : 4 ≤ n) (p : Value) (K : Nat) (hK1 : 1 ≤ K) (hK2 : K ≤ 100000) (ys : List (List UInt8 × Int)) (hl : ys.length ≤ 100000) (w : World)
    (hall : Calls Try.prog 24 #[p] ((w.alloc (.cells #[.int .i64 K] 3)).alloc (.cells #[.slice none 0 0] 30)) fun e w' => ∃ b1 b2, e = .returned (.func (.func 33) #[] (lbA b1 b2)) ∧ Below (w.heap.size + 2) ((w.alloc (.cells #[.int .i64 K] 3)).alloc (.cells #[.slice none 0 0] 30)) w' ∧ SeqStopsK Fence.wide (n - 1) Try.prog 33 (lbA b1 b2) encP (KeepR (w.heap.size + 2) w'.heap.size) (fun xs => xs = ys) (fun pre => ∃ k, pre = ys.take k) ys.length w') :
    CallsIn Fence.wide n Try.prog 12 #[p, .int .i64 K] w (PDone (ys.take K) w) := by
  have h1 : 1 ≤ n := by omega
  obtain ⟨i0, hi, hz0, hz1, hz2⟩ := info_parts info41
  have HALL := hid hall
  clear hall
  refine callsIn_of_wp_marks Try.func12 rfl trivial ?_ rfl
  simp only [Try.ntmps12, List.size_toArray, List.length_cons, List.length_nil, Nat.reduceAdd, Nat.reduceSub, Array.replicate_succ, Array.replicate_zero, List.push_toArray, List.append_toArray, List.nil_append, List.cons_append]
  gi_wp2
  refine ⟨trivial, ?_⟩
  have hB0 : Below w.heap.size w ((w.alloc (.cells #[.int .i64 K] 3)).alloc (.cells #[.slice none 0 0] 30)) := ((Below.refl _ w).alloc (Nat.le_refl _) _).alloc (by simp) _
  have k0 : ((w.alloc (.cells #[.int .i64 K] 3)).alloc (.cells #[.slice none 0 0] 30)).cell? ⟨w.heap.size, 0, none⟩ = some (.int .i64 K) := by simp [go_sem]
  have o0 : ((w.alloc (.cells #[.int .i64 K] 3)).alloc (.cells #[.slice none 0 0] 30)).cell? ⟨w.heap.size + 1, 0, none⟩ = some (.slice none 0 0) := by simp [go_sem]
  have f0 : ((w.alloc (.cells #[.int .i64 K] 3)).alloc (.cells #[.slice none 0 0] 30)).frozen? ⟨w.heap.size + 1, 0, none⟩ = false := by simp [go_sem]
  refine (callsIn_wide.2 HALL.out).mono ?_
  rintro e w2 ⟨b1, b2, rfl, hb2, hst⟩
  have k2 := (hb2.cell (p := ⟨w.heap.size, 0, none⟩) (by show w.heap.size < _; omega)).trans k0
  have o2 := (hb2.cell (p := ⟨w.heap.size + 1, 0, none⟩) (by show w.heap.size + 1 < _; omega)).trans o0
  have f2 := (World.frozen?_of_block (a := ⟨w.heap.size + 1, 0, none⟩) (hb2.block _ (by show w.heap.size + 1 < _; omega))).trans f0
  have hB2 := hB0.trans (hb2.mono (by omega))
  have hs2 : w.heap.size + 2 ≤ w2.heap.size := by have := hb2.size; simpa using this
  have HI := hid (And.intro k2 (And.intro o2 (And.intro f2 hB2)))
  have HX := hid hst
  clear hB0 k0 o0 f0 k2 o2 f2 hB2 hb2 hst HALL
  unfold lbA
  gi_wp2
  have hL0 : PAt (w.heap.size + 1) w2.heap.size [] w2 := ⟨⟨_, HI.out.2.1, HI.out.2.2.1, World.ownsRow_nil _ _ _ _⟩, by omega, Nat.le_refl _⟩
  have HL0 := hid hL0
  clear hL0
  refine wpIn_rangeFunc_ownF rfl h1 (gf := 33) (lb := lbA b1 b2) rfl trivial (enters_of Try.func33 (by kernel_rfl) rfl)
    HX.out KeepR.t (KeepR.put (Nat.le_refl _)) (Below.refl _ _) (fun _ => rfl)
    (fun pre W => (pre.length < K ∧ PAt (w.heap.size + 1) w2.heap.size pre W ∧ W.cell? ⟨w.heap.size, 0, none⟩ = some (.int .i64 K)) ∧ Below w.heap.size w W)
    (fun c pre W => (c = .exit 0 ∧ pre.length = K ∧ PAt (w.heap.size + 1) w2.heap.size pre W) ∧ Below w.heap.size w W)
    (OwnFrom.and (Own.from (fun s A B row hs hg hr => ⟨hs.1, hs.2.1.own hg hr, cell_kept hs.2.2 hg hr⟩) _) (ownFrom_below (Nat.le_refl _) (by omega)))
    (fun c => OwnFrom.and (Own.from (fun s A B row hs hg hr => ⟨hs.1, hs.2.1, hs.2.2.own hg hr⟩) _) (ownFrom_below (Nat.le_refl _) (by omega)))
    ⟨⟨by simp; omega, HL0.out, HI.out.1⟩, HI.out.2.2.2⟩
    ?a1 ?assign ?body ?done ?stop
  case assign =>
    intro l x W K hK
    unfold encP
    gi_wp2
    exact hK
  case body =>
    rintro l pre ⟨y, c⟩ W ⟨⟨hlt, hL, hk⟩, hB⟩ hlen
    have HL := hid hL
    have HB := hid hB
    obtain ⟨v, hv, hvf, hrow⟩ := hL.l
    have hsz := hL.size
    have HROW := hid hrow
    have HV := hid hv
    have HVF := hid hvf
    have HKC := hid hk
    clear hL hB hrow HX HL0 HI hk
    dsimp only
    by_cases hkk : pre.length + 1 = K
    · have hkb : ((pre.length : Int) + 1 == K) = true := by simp; omega
      have HKK := hid hkk
      clear hkk
      gi_wp2_with (gi_at_builtin; refine wpListIn_append_own _ rfl _ _ 30 rfl w2.heap.size 41 i0 _ 2 24 Try.underlying30 hi hz0 hz1 hz2 rfl (by decide) v pre.length (cellsP pre) rfl (HROW.out.alloc _) ⟨W.heap.size, 0, none⟩ 1 1 [encStr y, .int .u64 c] rfl rfl (news_two _ _ _ _) (by intro u hu; simp only [List.mem_cons, List.not_mem_nil, or_false] at hu; rcases hu with rfl | rfl <;> rfl) (by unfold maxLen; omega) (by omega) (by simp; omega) ?_; intro v' W1 hown' hgrow _; obtain ⟨s1, s2, s4, s5, s6, s7, s8⟩ := HL.out.step HV.out HVF.out HROW.out hown' hgrow; obtain ⟨g', cap', rfl⟩ := row_slice hown'; have S4 := hid s4; have S5 := hid s5; have S6 := hid s6; have S8 := hid s8; have k1 := (World.cell?_of_block (a := ⟨w.heap.size, 0, none⟩) (s7 w.heap.size (by omega))).trans HKC.out; clear hown' hgrow s4 s5 s6 s7 s8)
      exact ⟨S4.out, ⟨rfl, by simp; exact HKK.out, S6.out⟩, HB.out.trans (S5.out.mono (by omega))⟩
    · have hkb : ((pre.length : Int) + 1 == K) = false := by simp; omega
      have HKK := hid hkk
      clear hkk
      gi_wp2_with (gi_at_builtin; refine wpListIn_append_own _ rfl _ _ 30 rfl w2.heap.size 41 i0 _ 2 24 Try.underlying30 hi hz0 hz1 hz2 rfl (by decide) v pre.length (cellsP pre) rfl (HROW.out.alloc _) ⟨W.heap.size, 0, none⟩ 1 1 [encStr y, .int .u64 c] rfl rfl (news_two _ _ _ _) (by intro u hu; simp only [List.mem_cons, List.not_mem_nil, or_false] at hu; rcases hu with rfl | rfl <;> rfl) (by unfold maxLen; omega) (by omega) (by simp; omega) ?_; intro v' W1 hown' hgrow _; obtain ⟨s1, s2, s4, s5, s6, s7, s8⟩ := HL.out.step HV.out HVF.out HROW.out hown' hgrow; obtain ⟨g', cap', rfl⟩ := row_slice hown'; have S4 := hid s4; have S5 := hid s5; have S6 := hid s6; have S8 := hid s8; have k1 := (World.cell?_of_block (a := ⟨w.heap.size, 0, none⟩) (s7 w.heap.size (by omega))).trans HKC.out; clear hown' hgrow s4 s5 s6 s7 s8)
      refine ⟨S4.out, fun i h1 h2 => S8.out i (by omega) (by omega), ⟨by simp; have := HKK.out; omega, S6.out, ?_⟩, HB.out.trans (S5.out.mono (by omega))⟩
      exact (World.cell?_of_block (S8.out w.heap.size (by omega) (by omega))).trans HKC.out
  case done =>
    rintro D xs W hD rfl ⟨⟨hlt, hL, _⟩, hB⟩ hK
    obtain ⟨v, hv, hvf, hrow⟩ := hL.l
    have HB := hid hB
    have HK := hid hK
    have HROW := hid hrow
    clear hB hK hrow HX HL0 HI hL
    gi_wp2
    refine ⟨by simp, .inl ⟨_, _, rfl, run_takeDeferred HK.out, ?_⟩⟩
    have hr := srow_kept HROW.out (grownBy_putObj' _ D (.deferred none)) (fun r e => by cases e; exact ⟨_, HK.out, rfl⟩)
    rw [List.take_of_length_le (by omega)]
    refine ⟨v, by simp [results, Try.f12, go_sem], v, rfl, own_lower hr (by omega), ?_⟩
    exact HB.out.trans (belowK_b (w := w) (Nat.le_refl _) _ D _ _ (by omega) HK.out rfl rfl)
  case stop =>
    rintro D c pre W hD hpre ⟨⟨rfl, hlen, hL⟩, hB⟩ hK
    obtain ⟨v, hv, hvf, hrow⟩ := hL.l
    have HB := hid hB
    have HK := hid hK
    have HROW := hid hrow
    have hpre' : pre = ys.take K := by
      obtain ⟨j, rfl⟩ := hpre
      rw [List.length_take] at hlen
      by_cases hj : j ≤ ys.length
      · rw [show j = K by omega]
      · rw [List.take_of_length_le (by omega), List.take_of_length_le (by omega)]
    have HPR := hid hpre'
    clear hB hK hrow HX HL0 HI hL hpre hpre'
    gi_wp2
    refine ⟨by simp, .inl ⟨_, _, rfl, run_takeDeferred HK.out, ?_⟩⟩
    have hr := srow_kept HROW.out (grownBy_putObj' _ D (.deferred none)) (fun r e => by cases e; exact ⟨_, HK.out, rfl⟩)
    rw [← HPR.out]
    refine ⟨v, by simp [results, Try.f12, go_sem], v, rfl, own_lower hr (by omega), ?_⟩
    exact HB.out.trans (belowK_b (w := w) (Nat.le_refl _) _ D _ _ (by omega) HK.out rfl rfl)
end Go.Proofs.Ytadoiplfglaonab
