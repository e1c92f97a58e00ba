/-
  Attributes applied to a cell, one behind the other.
-/
import Derived.Test.YtdampfngdnicoaaDoorMb
namespace Go.Proofs.YtdampfngdnicoaaDoor
open Go.RowKit Go.Lib Go.Deep

theorem pairs_at {w : World} {v : Value} {ps : List (Nat × Nat)} (h : PairsIn w v ps) : ∃ x cap, v = .slice x ps.length cap ∧ ∀ i, i < ps.length → ∃ g off, x = some ⟨g, off, none⟩ ∧ w.cell? ⟨g, off + i * 2, none⟩ = some (.int .u8 (ps.getD i (0, 0)).1) ∧ w.cell? ⟨g, off + i * 2 + 1, none⟩ = some (.int .u8 (ps.getD i (0, 0)).2) := by
  rcases h with ⟨rfl, rfl⟩ | ⟨g, off, cap, rfl, h⟩
  · exact ⟨none, 0, rfl, fun i hi => by cases hi⟩
  · exact ⟨_, cap, rfl, fun i hi => ⟨g, off, rfl, h i hi⟩⟩
theorem appl_take (c : Cel) (ps : List (Nat × Nat)) (k : Nat) (h : k < ps.length) : apply_all c (ps.take (k + 1)) = appl (apply_all c (ps.take k)) (ps.getD k (0, 0)) := by
  unfold apply_all
  rw [List.take_succ_eq_append_getElem h, List.foldl_append, List.getD, List.getElem?_eq_getElem h]
  rfl
theorem below_drop {B : Nat} {w1 w2 : World} {g : Nat} (h : Below B w1 w2) (hg : B ≤ g) (x0 x1 x2 x3 x4 x5 : Value) : Below B w1 (put6 w2 g x0 x1 x2 x3 x4 x5) := put6_below _ _ _ _ _ _ h hg
theorem put6_frozen (W : World) (g : Nat) (x0 x1 x2 x3 x4 x5 : Value) (a : Addr) : (put6 W g x0 x1 x2 x3 x4 x5).frozen? a = W.frozen? a := by
  unfold put6
  simp only [World.frozen?_setCell]
theorem put6_far (W : World) (g : Nat) (x0 x1 x2 x3 x4 x5 : Value) (k o : Nat) (h : k ≠ g) : (put6 W g x0 x1 x2 x3 x4 x5).cell? ⟨k, o, none⟩ = W.cell? ⟨k, o, none⟩ := by
  unfold put6
  rw [World.cell?_setCell_far _ _ _ _ h.symm, World.cell?_setCell_far _ _ _ _ h.symm, World.cell?_setCell_far _ _ _ _ h.symm, World.cell?_setCell_far _ _ _ _ h.symm, World.cell?_setCell_far _ _ _ _ h.symm, World.cell?_setCell_far _ _ _ _ h.symm]
theorem put6_size (W : World) (g : Nat) (x0 x1 x2 x3 x4 x5 : Value) : (put6 W g x0 x1 x2 x3 x4 x5).heap.size = W.heap.size := by
  unfold put6
  simp [World.setCell]
theorem CBx.put {W : World} {g : Nat} {c : Cel} (h : CBx W g c) (d : Cel) : CBx (put6 W g (.int .u8 d.ch) (.bool d.at_) (.int .u8 d.fa) (.int .u8 d.hi) (.int .u8 d.co) (.int .u8 d.se)) g d := put6_cells h.1 h.2.1 h.2.2.1 h.2.2.2.1 h.2.2.2.2.1 h.2.2.2.2.2
/-- A cell's box that may be written. -/
def BxF (W : World) (g : Nat) (c : Cel) : Prop := CBx W g c ∧ ∀ j, W.frozen? ⟨g, j, none⟩ = false
theorem BxF.below {A B : World} {g : Nat} {c : Cel} (h : BxF A g c) (hb : Below A.heap.size A B) : BxF B g c := ⟨h.1.step hb, fun j => (hb.frozen (p := ⟨g, j, none⟩) (show g < A.heap.size from World.block_lt_of_cell? A _ h.1.1)).trans (h.2 j)⟩
theorem BxF.put {W : World} {g : Nat} {c : Cel} (h : BxF W g c) (d : Cel) : BxF (put6 W g (.int .u8 d.ch) (.bool d.at_) (.int .u8 d.fa) (.int .u8 d.hi) (.int .u8 d.co) (.int .u8 d.se)) g d := ⟨h.1.put d, fun j => (put6_frozen ..).trans (h.2 j)⟩
theorem BxF.far {W : World} {g k : Nat} {c : Cel} (h : BxF W g c) (hk : g ≠ k) (x0 x1 x2 x3 x4 x5 : Value) : BxF (put6 W k x0 x1 x2 x3 x4 x5) g c := ⟨⟨(put6_far _ _ _ _ _ _ _ _ _ _ hk).trans h.1.1, (put6_far _ _ _ _ _ _ _ _ _ _ hk).trans h.1.2.1, (put6_far _ _ _ _ _ _ _ _ _ _ hk).trans h.1.2.2.1, (put6_far _ _ _ _ _ _ _ _ _ _ hk).trans h.1.2.2.2.1, (put6_far _ _ _ _ _ _ _ _ _ _ hk).trans h.1.2.2.2.2.1, (put6_far _ _ _ _ _ _ _ _ _ _ hk).trans h.1.2.2.2.2.2⟩, fun j => (put6_frozen ..).trans (h.2 j)⟩
theorem bxf_new (w : World) (c : Cel) : BxF (w.alloc (.cells #[.int .u8 c.ch, .bool c.at_, .int .u8 c.fa, .int .u8 c.hi, .int .u8 c.co, .int .u8 c.se] 47)) w.heap.size c := by
  refine ⟨⟨?_, ?_, ?_, ?_, ?_, ?_⟩, fun j => ?_⟩ <;> simp [go_sem]
set_option maxRecDepth 100000 in
set_option maxHeartbeats 2000000 in
theorem applied_any (c : Cel) (ps : List (Nat × Nat)) (hk : ∀ p ∈ ps, knownB p.1 p.2 = true ∧ p.2 < 256) (hl : ps.length ≤ 1000) (v : Value) (w : World) (hp : PairsIn w v ps) : Calls Tryd.prog 65 #[c.v, v] w fun e w' => e = .returned (apply_all c ps).v ∧ Below w.heap.size w w' := by
  obtain ⟨x, cap, rfl, hx⟩ := pairs_at hp
  have HX := hid hx
  have HK := hid hk
  have HAP := hid (fun (p : Nat × Nat) (hv : p.2 < 256) (hk : knownB p.1 p.2 = true) (c : Cel) W => apply_fun p hv hk c W)
  clear hx hk hp
  obtain ⟨n, hn⟩ : ∃ n, ps.length = n := ⟨_, rfl⟩
  have HN := hid hn
  rw [hn] at hl HX ⊢
  clear hn
  go_enter Tryd.func65, Tryd.ntmps65
  go_wp2
  have hB0 := hid (show BxF ((w.alloc (.cells #[.int .u8 c.ch, .bool c.at_, .int .u8 c.fa, .int .u8 c.hi, .int .u8 c.co, .int .u8 c.se] 47)).alloc (.cells #[.int .u8 0, .bool false, .int .u8 0, .int .u8 0, .int .u8 0, .int .u8 0] 47)) w.heap.size c from by
    exact (bxf_new w c).below ((Below.refl _ _).alloc (Nat.le_refl _) _))
  have hB1 := hid (show BxF ((w.alloc (.cells #[.int .u8 c.ch, .bool c.at_, .int .u8 c.fa, .int .u8 c.hi, .int .u8 c.co, .int .u8 c.se] 47)).alloc (.cells #[.int .u8 0, .bool false, .int .u8 0, .int .u8 0, .int .u8 0, .int .u8 0] 47)) (w.heap.size + 1) cel0 from by
    have q := bxf_new (w.alloc (.cells #[.int .u8 c.ch, .bool c.at_, .int .u8 c.fa, .int .u8 c.hi, .int .u8 c.co, .int .u8 c.se] 47)) cel0
    rwa [World.size_alloc] at q)
  have hBL := hid (show Below w.heap.size w ((w.alloc (.cells #[.int .u8 c.ch, .bool c.at_, .int .u8 c.fa, .int .u8 c.hi, .int .u8 c.co, .int .u8 c.se] 47)).alloc (.cells #[.int .u8 0, .bool false, .int .u8 0, .int .u8 0, .int .u8 0, .int .u8 0] 47)) from ((Below.refl _ _).alloc (Nat.le_refl _) _).alloc (by simp) _)
  go_loopw [9] (fun i wr => ∃ k : Nat, k ≤ n ∧ i = .int .i64 k ∧ Hid (BxF wr w.heap.size (apply_all c (ps.take k))) ∧ Hid (BxF wr (w.heap.size + 1) cel0) ∧ Hid (Below w.heap.size w wr)) (fun i _ => n - (intOf i).toNat)
  case atStart => exact ⟨0, Nat.zero_le _, rfl, hB0, hB1, hBL⟩
  case round =>
    obtain ⟨k, hk, rfl, HR0, HR1, HRB⟩ := hrel
    by_cases hlt : k < n
    · obtain ⟨g, off, hxg, e0, e1⟩ := HX.out k hlt
      have hgl : g < w.heap.size := World.block_lt_of_cell? w _ e0
      have q0 := keepc HRB.out e0
      have q1 := keepc HRB.out e1
      subst hxg
      have hm := HK.out (ps.getD k (0, 0)) (by rw [List.getD, List.getElem?_eq_getElem (by rw [HN.out]; exact hlt)]; exact List.getElem_mem _)
      have HAC := hid (appl_take c ps k (by rw [HN.out]; exact hlt))
      obtain ⟨pr, hpr⟩ : ∃ pr, ps.getD k (0, 0) = pr := ⟨_, rfl⟩
      rw [hpr] at q0 q1 hm HAC
      obtain ⟨p1, p2⟩ := pr
      obtain ⟨cc, hcc⟩ : ∃ cc, apply_all c (ps.take k) = cc := ⟨_, rfl⟩
      rw [hcc] at HR0 HAC
      have HAQ := hid (fun W => HAP.out (p1, p2) hm.2 hm.1 cc W)
      obtain ⟨d, hd⟩ : ∃ d, appl cc (p1, p2) = d := ⟨_, rfl⟩
      rw [hd] at HAQ HAC
      obtain ⟨d0, d1, d2, d3, d4, d5⟩ := d
      obtain ⟨c0, c1, c2, c3, c4, c5⟩ := cc
      obtain ⟨y0, y1, y2, y3, y4, y5⟩ := HR0.out.1
      dsimp only at q0 q1 y0 y1 y2 y3 y4 y5
      have HZ := hid HRB.out.size
      have hws : w.heap.size < wr.heap.size := World.block_lt_of_cell? wr _ y0
      clear e0 e1 hm hpr hcc hd
      go_wp2_with fail
      with_reducible refine (HAQ.out _).mono ?_
      rintro e w1 ⟨rfl, hb1⟩
      have hbw : Below wr.heap.size wr w1 := ((Below.refl wr.heap.size wr).alloc (Nat.le_refl _) _).trans (hb1.mono (by simp))
      have HS0 := hid (HR0.out.below hbw)
      have HS1 := hid (HR1.out.below hbw)
      have HSB := hid (below_t HRB.out hbw)
      clear y0 y1 y2 y3 y4 y5 hb1 hbw HR0 HR1 HRB
      obtain ⟨y0, y1, y2, y3, y4, y5⟩ := HS0.out.1
      dsimp only at y0 y1 y2 y3 y4 y5
      have f0 := HS0.out.2 0
      have f1 := HS0.out.2 1
      have f2 := HS0.out.2 2
      have f3 := HS0.out.2 3
      have f4 := HS0.out.2 4
      have f5 := HS0.out.2 5
      go_wp2
      go_roundw
      case rel =>
        refine ⟨k + 1, by omega, by go_num, ?_, ?_, ?_⟩
        · rw [HAC.out]
          exact HS0.out.put ⟨d0, d1, d2, d3, d4, d5⟩
        · exact HS1.out.far (Nat.succ_ne_self _) (.int .u8 d0) (.bool d1) (.int .u8 d2) (.int .u8 d3) (.int .u8 d4) (.int .u8 d5)
        · exact below_drop HSB.out (Nat.le_refl _) (.int .u8 d0) (.bool d1) (.int .u8 d2) (.int .u8 d3) (.int .u8 d4) (.int .u8 d5)
      case measure => simp [intOf]; omega
    · obtain rfl : k = n := by omega
      have HTK : Hid (apply_all c (ps.take k) = apply_all c ps) := by rw [List.take_of_length_le (by rw [HN.out]; exact Nat.le_refl _)]; rfl
      rw [HTK.out] at HR0
      obtain ⟨d, hd⟩ : ∃ d, apply_all c ps = d := ⟨_, rfl⟩
      have HD := hid hd
      rw [hd] at HR0
      clear HTK HX HK HAP HN hd
      obtain ⟨d0, d1, d2, d3, d4, d5⟩ := d
      obtain ⟨y0, y1, y2, y3, y4, y5⟩ := HR0.out.1
      dsimp only at y0 y1 y2 y3 y4 y5
      obtain ⟨x0, x1, x2, x3, x4, x5⟩ := HR1.out.1
      have f0 := HR1.out.2 0
      have f1 := HR1.out.2 1
      have f2 := HR1.out.2 2
      have f3 := HR1.out.2 3
      have f4 := HR1.out.2 4
      have f5 := HR1.out.2 5
      have HF := hid (HR1.out.put ⟨d0, d1, d2, d3, d4, d5⟩)
      have HFB := hid (below_drop HRB.out (Nat.le_succ w.heap.size) (.int .u8 d0) (.bool d1) (.int .u8 d2) (.int .u8 d3) (.int .u8 d4) (.int .u8 d5))
      have hws : w.heap.size < wr.heap.size := World.block_lt_of_cell? wr _ y0
      have hws1 : w.heap.size + 1 < wr.heap.size := World.block_lt_of_cell? wr _ x0
      go_wp2
      unfold put6 at HF HFB
      refine bodyPost_ret (v := .agg #[.int .u8 d0, .bool d1, .int .u8 d2, .int .u8 d3, .int .u8 d4, .int .u8 d5]) ?_ rfl ⟨by rw [HD.out], HFB.out⟩
      obtain ⟨q0, q1, q2, q3, q4, q5⟩ := HF.out.1
      clear HFB HF f0 f1 f2 f3 f4 f5 x0 x1 x2 x3 x4 x5 y0 y1 y2 y3 y4 y5
      generalize World.setCell _ ⟨w.heap.size + 1, 5, none⟩ _ = W' at q0 q1 q2 q3 q4 q5 ⊢
      simp [results, Tryd.results65, go_sem, q0, q1, q2, q3, q4, q5]
end Go.Proofs.YtdampfngdnicoaaDoor
