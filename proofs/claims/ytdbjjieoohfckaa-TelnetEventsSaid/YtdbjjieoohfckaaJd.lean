/-
  telnet.Events, and what its iterator tells.
-/
import Derived.Test.YtdbjjieoohfckaaJc
import Derived.Deep.RegionHeld3
namespace Go.Proofs.Ytdbjjieoohfckaa
open Go.RowKit Go.Lib Go.Deep Go.Shelf
attribute [local go_sem] Oper.semAt_some

/-- The whole stream lies in a box of the iterator's. -/
def SeqDone (ps : List Int) (w : World) (e : Ending) (w' : World) : Prop := ∃ b v, e = .returned (.func (.func 28) #[] #[.pointer (some ⟨b, 0, none⟩)]) ∧ w'.cell? ⟨b, 0, none⟩ = some v ∧ OwnB w' v ps ∧ Below w.heap.size w w'
set_option maxRecDepth 100000 in
theorem eventsSeq_any (p : Value) (ps : List Int) (w : World) (h : Reads w p ps) (hl : ps.length ≤ 100000) : Calls Try.prog 24 #[p] w (SeqDone ps w) := by
  have hmf : ∀ (fn : Fn) (first cap : Array Value) (w : World), (Instr.makeFunc fn first cap).run Try.prog w = .ok (.func fn first cap) w := fun _ _ _ _ => rfl
  have H := hid h
  obtain ⟨x0, n0, c0, rfl⟩ := reads_any_slice h
  clear h
  go_enter Try.func24, Try.ntmps24
  go_wp2_with fail
  refine (clone_any _ ps _ H.out (by omega)).mono ?_
  rintro e w1 ⟨v, rfl, ho, hb, _⟩
  have HO := hid ho
  have HB := hid hb
  obtain ⟨x, n, c, rfl⟩ := own_slice ho
  clear ho hb
  go_wp2
  go_ret
  refine ⟨w1.heap.size, .slice x n c, rfl, by simp [go_sem], HO.out.moved (Moved.alloc w1 _ []) (fun _ _ h => by cases h), HB.out.alloc HB.out.size _⟩
def encE (x : Value × List (Ev × Value) × Nat) : Array Value := #[.agg (evC (x.2.1.getD x.2.2 (dat [], .bool false)).1 (x.2.1.getD x.2.2 (dat [], .bool false)).2).toArray]
section
variable (w : World) (B ob kb K : Nat) (es : List Ev)
def PreE (x : Value × List (Ev × Value) × Nat) (W : World) : Prop := JI w B ob kb K x.1 x.2.1 x.2.2 W ∧ x.2.2 < x.2.1.length ∧ x.2.2 < K ∧ x.2.1.map (·.1) = es
def JE (x : Value × List (Ev × Value) × Nat) (W : World) : Prop := JI w B ob kb K x.1 x.2.1 (x.2.2 + 1) W ∧ x.2.2 + 1 < K
def JxE (c : Code) (x : Value × List (Ev × Value) × Nat) (W : World) : Prop := c = .exit 0 ∧ JI w B ob kb K x.1 x.2.1 (x.2.2 + 1) W ∧ x.2.2 + 1 = K ∧ K ≤ x.2.1.length ∧ x.2.1.map (·.1) = es
def DnE (W : World) : Prop := ∃ v xs, xs.map (·.1) = es ∧ JI w B ob kb K v xs xs.length W ∧ xs.length < K
def StE (c : Code) (W : World) : Prop := c = .exit 0 ∧ ∃ v xs, xs.map (·.1) = es ∧ JI w B ob kb K v xs K W ∧ K ≤ xs.length
end
theorem grown_of_belowE {a b : World} (h : Below a.heap.size a b) : a.grownBy b none := ⟨h.os, h.tape, h.output, h.size, fun k hk _ => h.block k hk⟩
theorem keeps_of_belowE {a b : World} (h : Below a.heap.size a b) : KeepsOthers a b := ⟨h.size, fun k _ hk _ => (h.block k (Array.getElem?_eq_some_iff.1 hk).1).trans hk⟩
set_option maxRecDepth 100000 in
set_option maxHeartbeats 4000000 in
theorem iter_tells (n : Nat) (hn : 1 ≤ n) (w : World) (B ob kb K b : Nat) (hK : 1 ≤ K) (u : Value) (ps : List Int) (W0 : World) (hl : ps.length ≤ 600) (hb : W0.cell? ⟨b, 0, none⟩ = some u) (hu : OwnB W0 u ps) (hJ0 : JI w B ob kb K (.slice none 0 0) [] 0 W0) (es : List Ev) (hes : mergeL (emit .between ps) = es) :
    Tells Fence.wide n Try.prog 28 #[.pointer (some ⟨b, 0, none⟩)] encE (PreE w B ob kb K es) (JE w B ob kb K) (JxE w B ob kb K es) (DnE w B ob kb K es) (StE w B ob kb K es) W0 := by
  intro l Bk Bx hSt hStx hB0 hY
  have HY := hid hY
  have HU := hid hu
  have HJ0 := hid hJ0
  have HBK := hid hB0
  have HSTY := hid hSt
  have HES := hid hes
  have HWT : Hid (wt es ≤ 100000) := by
    rw [← hes]
    have := wt_bound .between ps ps.length (by decide) (by omega)
    rw [List.take_length] at this
    exact Nat.le_trans this (by decide)
  clear hY hu hJ0 hB0 hSt hStx hes
  refine callsIn_of_wp Try.func28 rfl trivial ?_ rfl
  simp only [Try.ntmps28, List.size_toArray, List.length_cons, List.length_nil, Nat.reduceAdd, Nat.reduceSub, Array.replicate_succ, Array.replicate_zero, List.push_toArray, List.append_toArray, List.nil_append, List.cons_append]
  refine wpIn_wide.2 ?_
  obtain ⟨xu, nu, cu, rfl⟩ := own_slice HU.out
  have HCB : Hid (∀ W', Below W0.heap.size W0 W' → W'.cell? ⟨b, 0, none⟩ = some (.slice xu nu cu)) := fun W' h => (h.cell (p := ⟨b, 0, none⟩) (World.block_lt_of_cell? W0 _ hb)).trans hb
  have HRU : Hid (∀ W', Below W0.heap.size W0 W' → Reads W' (.slice xu nu cu) ps) := fun W' h => reads_below HU.out.reads h
  have HBU : Hid (∀ k ∈ blkV (.slice xu nu cu), k < W0.heap.size) := own_lt HU.out.2
  clear HU
  go_wp2_with fail
  go_region_held3 (fun w' => w'.cell? ⟨b, 0, none⟩ = some (.slice xu nu cu))
    (first | exact hb | exact HCB.out _ HB1.out | exact HCB.out _ HB2.out | fail)
    (first
      | (go_at_call 18; refine (newReader_any _).mono ?_; rintro e w1 ⟨rfl, hr1, hb1⟩; have HR1 := hid hr1; have HB1 := hid ((Below.refl W0.heap.size W0).drew.trans hb1); clear hr1 hb1)
      | (go_at_call 16; refine (feed_any W0.heap.size (.slice none 0 0) _ .between ps _ HR1.out (nil_notin _) (HRU.out _ HB1.out) (fun k hk q => by have e1 : k = W0.heap.size := (by simpa [blkV, Value.ownBlock] using q); have := HBU.out k hk; omega) (by decide) (by omega)).mono ?_; intro e w2 hf; obtain ⟨v, xs, rfl, ho2, hx2, hb2⟩ := feed_below hf (B := W0.heap.size) HB1.out.size (Nat.le_refl _); have HO2 := hid ho2; have HX2 := hid (hx2.trans HES.out); have HB2 := hid (HB1.out.trans hb2); obtain ⟨xv, cv, rfl, -⟩ := ho2.evsX; clear hf ho2 hx2 hb2)
      | fail)
  go_wp2
  refine (wpIn_wide (n := n)).1 ?_
  have HG02 := hid (grown_of_belowE HB2.out)
  have hJ2 : JI w B ob kb K (.slice xv xs.length cv) xs 0 w2 := by
    have q := HJ0.out.own HG02.out (fun r e => by cases e)
    obtain ⟨s, h1, h2, h3⟩ := q.out
    exact ⟨⟨s, h1, h2, by simpa [cellsE] using h3⟩, q.obk, q.kc, HO2.out, q.bel, q.ge, q.ob_lt, q.kb_ne, q.size⟩
  have HJ2 := hid hJ2
  have HBK2 := hid (HSTY.out _ _ (keeps_of_belowE HB2.out) HBK.out)
  obtain ⟨N, hN⟩ : ∃ N, N = xs.length := ⟨_, rfl⟩
  rw [← hN] at HJ2 ⊢
  have HNN := hid hN
  have hN5 : N ≤ 100000 := by
    have h1 := wt_length es
    have h2 : xs.length = es.length := by rw [← HX2.out, List.length_map]
    have h3 := HWT.out
    rw [hN, h2]
    exact Nat.le_trans h1 h3
  clear hN hJ2 HBK HJ0 HG02 HCB HRU HBU HB1 HB2 HR1 HO2
  gi_loopw [9] (fun i wr => ∃ k : Nat, k ≤ N ∧ i = .int .i64 k ∧ Hid (Bk wr) ∧ Hid (JI w B ob kb K (.slice xv N cv) xs k wr) ∧ Hid (k < K)) (fun i _ => N - (intOf i).toNat)
  case atStart => exact ⟨0, Nat.zero_le _, rfl, HBK2, HJ2, hK⟩
  case round =>
    obtain ⟨k, hk, rfl, HBR, HJR, HKR⟩ := hrel
    by_cases hlt : k < N
    · have hkx : k < xs.length := by rw [← HNN.out]; exact hlt
      obtain ⟨x', cap', he, hc⟩ := HJR.out.evs.evsX
      obtain ⟨g, off, hxg, h6, -⟩ := hc k hkx
      simp only [Value.slice.injEq] at he
      obtain ⟨rfl, -, rfl⟩ := he
      subst hxg
      have HE6 := hid (six_of h6)
      have hod := own_slice (HJR.out.evs.data xs[k] (List.getElem_mem hkx))
      obtain ⟨xk, hxk⟩ : ∃ y, y = xs[k] := ⟨_, rfl⟩
      have HXK : Hid (xs.getD k (dat [], .bool false) = xk) := by rw [hxk]; simp [Hid, List.getD, List.getElem?_eq_getElem hkx]
      rw [← hxk] at HE6 hod
      clear h6 hc hxk
      obtain ⟨⟨ek, ev, eo, ed, el, eb⟩, dv⟩ := xk
      obtain ⟨xd, nd, cd, hde⟩ := hod
      dsimp only at hde
      subst hde
      have z0 := HE6.out.c0
      have z1 := HE6.out.c1
      have z2 := HE6.out.c2
      have z3 := HE6.out.c3
      have z4 := HE6.out.c4
      have z5 := HE6.out.c5
      dsimp only at z0 z1 z2 z3 z4 z5
      have hpre : PreE w B ob kb K es (.slice (some ⟨g, off, none⟩) N cv, xs, k) (wr.alloc (.cells #[.int .i64 ek, .int .u8 ev, .int .u8 eo, .slice xd nd cd, .bool el, .bool eb] 37)) := ⟨HJR.out.alloc _, hkx, HKR.out, HX2.out⟩
      obtain ⟨f1, t1, a1, b1, hy, hR⟩ := HY.out _ (wr.alloc (.cells #[.int .i64 ek, .int .u8 ev, .int .u8 eo, .slice xd nd cd, .bool el, .bool eb] 37)) (HSTY.out _ _ (KeepsOthers.alloc _ _) HBR.out) hpre
      have hen : encE (.slice (some ⟨g, off, none⟩) N cv, xs, k) = #[.agg #[.int .i64 ek, .int .u8 ev, .int .u8 eo, .slice xd nd cd, .bool el, .bool eb]] := by
        unfold encE
        dsimp only
        rw [HXK.out]
        rfl
      rw [hen] at hy
      have HR := hid hR
      have HX2' := HX2
      clear hR hpre hen HBK2 HJ2 HX2 HWT HXK
      gi_wp2
      refine HR.out.mono ?_
      rintro e W1 (⟨rfl, hB1, hJ1⟩ | ⟨rfl, c, hBx1, hJx1⟩)
      · have HB1 := hid hB1
        have HJ1 := hid hJ1
        clear hB1 hJ1
        gi_wp2
        go_roundw
        case rel => exact ⟨k + 1, by omega, by go_num, HB1.out, HJ1.out.1, HJ1.out.2⟩
        case measure => simp [intOf]; omega
      · have HBX := hid hBx1
        have hjk := hJx1.2.1
        rw [hJx1.2.2.1] at hjk
        have HJK := hid hjk
        have HJX := hid hJx1
        clear hBx1 hJx1 hjk
        gi_wp2
        refine bodyPost_ret (results_none rfl _ _ _) rfl ?_
        exact ⟨⟨_, rfl⟩, .inr ⟨c, HBX.out, HJX.out.1, _, xs, HX2'.out, HJK.out, HJX.out.2.2.2.1⟩⟩
    · obtain rfl : k = N := by omega
      have hJ3 := HJR.out
      rw [HNN.out] at hJ3
      have HJ3 : Hid (DnE w B ob kb K es wr) := ⟨_, xs, HX2.out, hJ3, by rw [← HNN.out]; exact HKR.out⟩
      clear hJ3
      gi_wp2
      go_end0
      exact ⟨⟨_, rfl⟩, .inl ⟨HBR.out, HJ3.out⟩⟩
end Go.Proofs.Ytdbjjieoohfckaa
