/-
  The law's span: the first places, at most so many.
-/
import Derived.Test.YtpnfdmfmdacjmaaSpf
namespace Go.Proofs.Ytpnfdmfmdacjmaa
open Go.RowKit Go.Lib Go.Shelf
attribute [local go_sem] Oper.semAt_some

/-- What a round keeps for the iterator: its boxes. -/
def KeepB (b : Nat) (W W' : World) : Prop := ∀ i, b ≤ i → i < b + 3 → W'.heap[i]? = W.heap[i]?
theorem KeepB.boxes {b : Nat} {r c p q : Int} (W W' : World) (h : KeepB b W W') (hX : Boxes b r c p q W) : Boxes b r c p q W' :=
  ⟨(World.cell?_of_block (h b (by omega) (by omega))).trans hX.r, (World.cell?_of_block (h b (by omega) (by omega))).trans hX.c, (World.cell?_of_block (h (b + 1) (by omega) (by omega))).trans hX.p, (World.cell?_of_block (h (b + 2) (by omega) (by omega))).trans hX.q⟩
theorem KeepB.t {b : Nat} {A B C : World} (h : KeepB b A B) (k : KeepB b B C) : KeepB b A C := fun i h1 h2 => (k i h1 h2).trans (h i h1 h2)
theorem KeepB.put {b n : Nat} (hb : b + 3 ≤ n) (W : World) (l : Nat) (o o' : Obj) (hl : n ≤ l) (_ : W.heap[l]? = some o) (_ : o.isCells = false) (_ : o.isWalk = false) : KeepB b W (W.putObj l o') := fun i h1 h2 =>
  World.putObj_heap_other (by omega)

set_option maxRecDepth 100000 in
set_option maxHeartbeats 4000000 in
theorem lspan_in (n : Nat) (hn : 4 ≤ n) (r c p q : Int) (K : Nat) (hK1 : 1 ≤ K) (hK2 : K ≤ 100000) (ys : List Int) (hl : ys.length ≤ 100000) (w : World)
    (hst : ∀ b w0, Boxes b r c p q w0 → SeqStopsK Fence.wide (n - 1) Try.prog 74 (lbS b) (fun x : Int => #[.int .i64 x]) (KeepB b) (fun xs => xs = ys) (fun pre => ∃ k, pre = ys.take k) ys.length w0) :
    CallsIn Fence.wide n Try.prog 35 #[.agg #[.int .i64 r, .int .i64 c], .int .i64 p, .int .i64 q, .int .i64 K] w (IntsDone (ys.take K) w) := by
  have h1 : 1 ≤ n := by omega
  have HST := hid hst
  clear hst
  refine callsIn_of_wp_marks Try.func35 rfl trivial ?_ rfl
  simp only [Try.ntmps35, List.size_toArray, List.length_cons, List.length_nil, Nat.reduceAdd, Nat.reduceSub, Array.replicate_succ, Array.replicate_zero, List.push_toArray, List.append_toArray, List.nil_append, List.cons_append]
  gi_wp2
  refine ⟨trivial, ?_⟩
  have hB0 : Below w.heap.size w (((w.alloc (.cells #[.int .i64 r, .int .i64 c] 25)).alloc (.cells #[.int .i64 K] 3)).alloc (.cells #[.slice none 0 0] 43)) := (((Below.refl _ w).alloc (Nat.le_refl _) _).alloc (by simp) _).alloc (by simp; omega) _
  have k0 : (((w.alloc (.cells #[.int .i64 r, .int .i64 c] 25)).alloc (.cells #[.int .i64 K] 3)).alloc (.cells #[.slice none 0 0] 43)).cell? ⟨w.heap.size + 1, 0, none⟩ = some (.int .i64 K) := by simp [go_sem]
  have o0 : (((w.alloc (.cells #[.int .i64 r, .int .i64 c] 25)).alloc (.cells #[.int .i64 K] 3)).alloc (.cells #[.slice none 0 0] 43)).cell? ⟨w.heap.size + 1 + 1, 0, none⟩ = some (.slice none 0 0) := by simp [go_sem]
  have f0 : (((w.alloc (.cells #[.int .i64 r, .int .i64 c] 25)).alloc (.cells #[.int .i64 K] 3)).alloc (.cells #[.slice none 0 0] 43)).frozen? ⟨w.heap.size + 1 + 1, 0, none⟩ = false := by simp [go_sem]
  have hz0 : (((w.alloc (.cells #[.int .i64 r, .int .i64 c] 25)).alloc (.cells #[.int .i64 K] 3)).alloc (.cells #[.slice none 0 0] 43)).heap.size = w.heap.size + 3 := by simp
  refine (callsIn_wide.2 (span_made r c p q _)).mono ?_
  rintro e w2 ⟨rfl, hX2, hb2⟩
  rw [hz0] at hX2
  have k2 := keepc hb2 k0
  have o2 := keepc hb2 o0
  have f2 := (World.frozen?_of_block (a := ⟨w.heap.size + 1 + 1, 0, none⟩) (hb2.block _ (World.block_lt_of_cell? _ _ o0))).trans f0
  have hB2 := hB0.trans (hb2.mono hB0.size)
  have hs2 := hX2.lt
  rw [hz0]
  have HI := hid (And.intro k2 (And.intro o2 (And.intro f2 hB2)))
  have HX := hid (HST.out (w.heap.size + 3) w2 hX2)
  clear hB0 k0 o0 f0 hz0 k2 o2 f2 hB2 hb2 hX2 HST
  gi_wp2
  have hL0 : SAt (w.heap.size + 1 + 1) w2.heap.size [] w2 := ⟨⟨_, HI.out.2.1, HI.out.2.2.1, World.ownsRow_nil _ _ _ _⟩, by omega, Nat.le_refl _⟩
  have HL0 := hid hL0
  clear hL0
  refine wpIn_rangeFunc_ownF rfl h1 (gf := 74) (lb := lbS (w.heap.size + 3)) rfl trivial (enters_of Try.func74 (by kernel_rfl) rfl)
    HX.out KeepB.t (KeepB.put (by omega)) (Below.refl _ _) (fun _ => rfl)
    (fun pre W => (pre.length < K ∧ SAt (w.heap.size + 1 + 1) w2.heap.size pre W ∧ W.cell? ⟨w.heap.size + 1, 0, none⟩ = some (.int .i64 K)) ∧ Below w.heap.size w W)
    (fun c pre W => (c = .exit 0 ∧ pre.length = K ∧ SAt (w.heap.size + 1 + 1) w2.heap.size pre W) ∧ Below w.heap.size w W)
    (OwnFrom.and (Own.from (fun s A B row hs hg hr => ⟨hs.1, hs.2.1.own hg hr, cell_kept hs.2.2 hg hr⟩) _) (ownFrom_below (Nat.le_refl _) (by omega)))
    (fun c => OwnFrom.and (Own.from (fun s A B row hs hg hr => ⟨hs.1, hs.2.1, hs.2.2.own hg hr⟩) _) (ownFrom_below (Nat.le_refl _) (by omega)))
    ⟨⟨by simp; omega, HL0.out, HI.out.1⟩, HI.out.2.2.2⟩
    ?a1 ?assign ?body ?done ?stop
  case assign =>
    intro l x W K hK
    gi_wp2
    exact hK
  case body =>
    rintro l pre x W ⟨⟨hlt, hL, hk⟩, hB⟩ hlen
    have HL := hid hL
    have HB := hid hB
    obtain ⟨v, hv, hvf, hrow⟩ := hL.l
    have hsz := hL.size
    have HROW := hid hrow
    have HV := hid hv
    have HVF := hid hvf
    have HKC := hid hk
    obtain ⟨i0, hi, hz0, hz1, hz2⟩ := info_parts info3s
    clear hL hB hrow HX HL0 HI hk
    by_cases hkk : pre.length + 1 = K
    · have hkb : ((pre.length : Int) + 1 == K) = true := by simp; omega
      have HKK := hid hkk
      clear hkk
      gi_wp2_with (gi_at_builtin; refine wpListIn_append_own _ rfl _ _ 43 rfl w2.heap.size 3 i0 (.int .i64 0) 1 8 Try.underlying43 hi hz0 hz1 hz2 rfl (by decide) v pre.length (pre.map (Value.int .i64)) rfl (HROW.out.alloc _) ⟨W.heap.size, 0, none⟩ 1 1 [.int .i64 x] rfl rfl (cell_one_new _ _ _) (by simp [Value.oneCell']) (by unfold maxLen; omega) (by omega) (by simp; omega) ?_; intro v' W1 hown' hgrow _; obtain ⟨g', cap', rfl⟩ := sowns_succ hown'; obtain ⟨s1, s2, s4, s5, s6, s7, s8⟩ := HL.out.step HV.out HVF.out HROW.out hown' hgrow; have S4 := hid s4; have S5 := hid s5; have S6 := hid s6; have S8 := hid s8; have k1 := (World.cell?_of_block (a := ⟨w.heap.size + 1, 0, none⟩) (s7 (w.heap.size + 1) (by omega))).trans HKC.out; clear hown' hgrow s4 s5 s6 s7 s8)
      exact ⟨S4.out, ⟨rfl, by simp; exact HKK.out, S6.out⟩, HB.out.trans (S5.out.mono (by omega))⟩
    · have hkb : ((pre.length : Int) + 1 == K) = false := by simp; omega
      have HKK := hid hkk
      clear hkk
      gi_wp2_with (gi_at_builtin; refine wpListIn_append_own _ rfl _ _ 43 rfl w2.heap.size 3 i0 (.int .i64 0) 1 8 Try.underlying43 hi hz0 hz1 hz2 rfl (by decide) v pre.length (pre.map (Value.int .i64)) rfl (HROW.out.alloc _) ⟨W.heap.size, 0, none⟩ 1 1 [.int .i64 x] rfl rfl (cell_one_new _ _ _) (by simp [Value.oneCell']) (by unfold maxLen; omega) (by omega) (by simp; omega) ?_; intro v' W1 hown' hgrow _; obtain ⟨g', cap', rfl⟩ := sowns_succ hown'; obtain ⟨s1, s2, s4, s5, s6, s7, s8⟩ := HL.out.step HV.out HVF.out HROW.out hown' hgrow; have S4 := hid s4; have S5 := hid s5; have S6 := hid s6; have S8 := hid s8; have k1 := (World.cell?_of_block (a := ⟨w.heap.size + 1, 0, none⟩) (s7 (w.heap.size + 1) (by omega))).trans HKC.out; clear hown' hgrow s4 s5 s6 s7 s8)
      refine ⟨S4.out, fun i h1 h2 => S8.out i (by omega) (by omega), ⟨by simp; have := HKK.out; omega, S6.out, ?_⟩, HB.out.trans (S5.out.mono (by omega))⟩
      exact (World.cell?_of_block (S8.out (w.heap.size + 1) (by omega) (by omega))).trans HKC.out
  case done =>
    rintro D xs W hD rfl ⟨⟨hlt, hL, _⟩, hB⟩ hK
    obtain ⟨v, hv, hvf, hrow⟩ := hL.l
    have HB := hid hB
    have HK := hid hK
    have HROW := hid hrow
    clear hB hK hrow HX HL0 HI hL
    gi_wp2
    refine ⟨by simp, .inl ⟨_, _, rfl, run_takeDeferred HK.out, ?_⟩⟩
    have hr := srow_kept HROW.out (grownBy_putObj' _ D (.deferred none)) (fun r e => by cases e; exact ⟨_, HK.out, rfl⟩)
    rw [List.take_of_length_le (by omega)]
    refine ⟨v, by simp [results, Try.f35, go_sem], v, w2.heap.size, rfl, by omega, hr, ?_⟩
    exact HB.out.trans (belowK_b (w := w) (Nat.le_refl _) _ D _ _ (by omega) HK.out rfl rfl)
  case stop =>
    rintro D c pre W hD hpre ⟨⟨rfl, hlen, hL⟩, hB⟩ hK
    obtain ⟨v, hv, hvf, hrow⟩ := hL.l
    have HB := hid hB
    have HK := hid hK
    have HROW := hid hrow
    have hpre' : pre = ys.take K := by
      obtain ⟨j, rfl⟩ := hpre
      rw [List.length_take] at hlen
      by_cases hj : j ≤ ys.length
      · rw [show j = K by omega]
      · rw [List.take_of_length_le (by omega), List.take_of_length_le (by omega)]
    have HPR := hid hpre'
    clear hB hK hrow HX HL0 HI hL hpre hpre'
    gi_wp2
    refine ⟨by simp, .inl ⟨_, _, rfl, run_takeDeferred HK.out, ?_⟩⟩
    have hr := srow_kept HROW.out (grownBy_putObj' _ D (.deferred none)) (fun r e => by cases e; exact ⟨_, HK.out, rfl⟩)
    rw [← HPR.out]
    refine ⟨v, by simp [results, Try.f35, go_sem], v, w2.heap.size, rfl, by omega, hr, ?_⟩
    exact HB.out.trans (belowK_b (w := w) (Nat.le_refl _) _ D _ _ (by omega) HK.out rfl rfl)

end Go.Proofs.Ytpnfdmfmdacjmaa
