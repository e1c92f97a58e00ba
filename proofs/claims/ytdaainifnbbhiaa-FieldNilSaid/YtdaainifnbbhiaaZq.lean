/-
  Of no space, there is nothing.
-/
import Derived.Test.YtdaainifnbbhiaaZp
namespace Go.Proofs.Ytdaainifnbbhiaa
open Go.RowKit Go.Lib Go.Deep

theorem SeqF.el0 {α : Type} {F : Fence} {n : Nat} {P : Program} {gf : Nat} {lb : Array Value} {encs : α → Array Value} {el el' : Nat → α → World → Prop} {R : World → Prop} {W : World} (h : SeqF F n P gf lb encs el 0 R W) : SeqF F n P gf lb encs el' 0 R W :=
  fun l I Ix a b c d _ => h l I Ix a b c d (fun _ _ _ _ hk => absurd hk (Nat.not_lt_zero _))
theorem vB00 : vB 0 0 = false := by decide
set_option maxRecDepth 100000 in
set_option maxHeartbeats 4000000 in
theorem start_nil (n : Int) (w : World) : Calls Try.prog 42 #[.pointer none, .int .i64 n] w fun e w' => e = .returned (.int .i64 (-1)) ∧ Below w.heap.size w w' := by
  have HSZ := hid (show Calls Try.prog 24 #[.pointer none] w fun e w' => e = .returned (.agg #[.int .i64 0, .int .i64 0]) ∧ Below w.heap.size w w' from size_nil w)
  have HWR := hid (fun W => wrap_no 0 0 n vB00 W)
  have HCL := hid (fun W => cells_no 0 0 vB00 W)
  go_enter Try.func42, Try.ntmps42
  go_wp2_with fail
  with_reducible refine HSZ.out.mono ?_
  rintro e w1 ⟨rfl, hb1⟩
  obtain ⟨W0, hW0⟩ : ∃ W0, w1.alloc (.cells #[.int .i64 0, .int .i64 0] 52) = W0 := ⟨_, rfl⟩
  have HZ := hid (show ∀ V, Below W0.heap.size W0 V → V.cell? ⟨w1.heap.size, 0, none⟩ = some (.int .i64 0) ∧ V.cell? ⟨w1.heap.size, 1, none⟩ = some (.int .i64 0) ∧ w1.heap.size < V.heap.size from fun V hV => by
    rw [← hW0] at hV
    obtain ⟨c0, c1, _, _, hs⟩ := box2 hV
    exact ⟨c0, c1, hs⟩)
  have HB0 := hid (show Below w.heap.size w W0 by rw [← hW0]; exact bal hb1 _)
  have HW0 := hid hW0
  clear hb1 hW0
  obtain ⟨z0, z1, z2⟩ := HZ.out _ (Below.refl _ _)
  go_wp2_with fail
  simp only [HW0.out]
  with_reducible refine (HWR.out _).mono ?_
  rintro e w2 ⟨rfl, hb2⟩
  have HB2 := hid hb2
  clear hb2 z0 z1 z2
  obtain ⟨z0, z1, z2⟩ := HZ.out _ HB2.out
  go_wp2_with fail
  with_reducible refine (HCL.out _).mono ?_
  rintro e w3 ⟨rfl, hb3⟩
  have HB3 := hid (below_t HB2.out hb3)
  clear hb3 z0 z1 z2 HB2
  go_wp2_with fail
  go_loopw [14] (fun i W => i = .int .i64 0 ∧ Hid (Below W0.heap.size W0 W)) (fun _ _ => 0)
  case atStart => exact ⟨rfl, HB3.out⟩
  case round =>
    clear HB3
    obtain ⟨rfl, HB⟩ := hrel
    go_wp2
    go_ret
    exact ⟨rfl, below_t HB0.out HB.out⟩
set_option maxRecDepth 100000 in
set_option maxHeartbeats 4000000 in
theorem seek_nil (n st : Int) (w : World) : Calls Try.prog 85 #[.pointer none, .int .i64 n, .int .i64 st] w fun e w' => e = .returned (.int .i64 (-1)) ∧ Below w.heap.size w w' := by
  have HSZ := hid (show Calls Try.prog 24 #[.pointer none] w fun e w' => e = .returned (.agg #[.int .i64 0, .int .i64 0]) ∧ Below w.heap.size w w' from size_nil w)
  have HWR := hid (fun W => wrap_no 0 0 n vB00 W)
  have HCL := hid (fun W => cells_no 0 0 vB00 W)
  go_enter Try.func85, Try.ntmps85
  go_wp2_with fail
  with_reducible refine HSZ.out.mono ?_
  rintro e w1 ⟨rfl, hb1⟩
  obtain ⟨W0, hW0⟩ : ∃ W0, w1.alloc (.cells #[.int .i64 0, .int .i64 0] 52) = W0 := ⟨_, rfl⟩
  have HZ := hid (show ∀ V, Below W0.heap.size W0 V → V.cell? ⟨w1.heap.size, 0, none⟩ = some (.int .i64 0) ∧ V.cell? ⟨w1.heap.size, 1, none⟩ = some (.int .i64 0) ∧ w1.heap.size < V.heap.size from fun V hV => by
    rw [← hW0] at hV
    obtain ⟨c0, c1, _, _, hs⟩ := box2 hV
    exact ⟨c0, c1, hs⟩)
  have HB0 := hid (show Below w.heap.size w W0 by rw [← hW0]; exact bal hb1 _)
  have HW0 := hid hW0
  clear hb1 hW0
  obtain ⟨z0, z1, z2⟩ := HZ.out _ (Below.refl _ _)
  go_wp2_with fail
  simp only [HW0.out]
  with_reducible refine (HWR.out _).mono ?_
  rintro e w2 ⟨rfl, hb2⟩
  have HB2 := hid hb2
  clear hb2 z0 z1 z2
  obtain ⟨z0, z1, z2⟩ := HZ.out _ HB2.out
  go_wp2_with fail
  with_reducible refine (HCL.out _).mono ?_
  rintro e w3 ⟨rfl, hb3⟩
  have HB3 := hid (below_t HB2.out hb3)
  clear hb3 z0 z1 z2 HB2
  go_wp2_with fail
  go_loopw [15, 1] (fun i t W => i = .int .i64 0 ∧ t = .int .i64 0 ∧ Hid (Below W0.heap.size W0 W)) (fun _ _ _ => 0)
  case atStart => exact ⟨rfl, rfl, HB3.out⟩
  case round =>
    clear HB3
    obtain ⟨rfl, rfl, HB⟩ := hrel
    go_wp2
    go_ret
    exact ⟨rfl, below_t HB0.out HB.out⟩
set_option maxRecDepth 100000 in
set_option maxHeartbeats 4000000 in
theorem next_nil (n : Int) (w : World) : Calls Try.prog 57 #[.pointer none, .int .i64 n] w fun e w' => e = .returned (.int .i64 (-1)) ∧ Below w.heap.size w w' := by
  have HS := hid (fun W => seek_nil n 1 W)
  go_enter Try.func57, Try.ntmps57
  go_wp2_with fail
  with_reducible refine (HS.out _).mono ?_
  rintro e w1 ⟨rfl, hb⟩
  have HR := hid hb
  clear hb
  go_wp2
  go_ret
  exact ⟨rfl, HR.out⟩
set_option maxRecDepth 100000 in
set_option maxHeartbeats 4000000 in
theorem prev_nil (n : Int) (w : World) : Calls Try.prog 58 #[.pointer none, .int .i64 n] w fun e w' => e = .returned (.int .i64 (-1)) ∧ Below w.heap.size w w' := by
  have HS := hid (fun W => seek_nil n (-1) W)
  go_enter Try.func58, Try.ntmps58
  go_wp2_with fail
  with_reducible refine (HS.out _).mono ?_
  rintro e w1 ⟨rfl, hb⟩
  have HR := hid hb
  clear hb
  go_wp2
  go_ret
  exact ⟨rfl, HR.out⟩
set_option maxRecDepth 100000 in
set_option maxHeartbeats 4000000 in
theorem fof_nil (n : Int) (w : World) : Calls Try.prog 41 #[.pointer none, .int .i64 n] w fun e w' => e = .returned (.tuple #[field0, .bool false]) ∧ Below w.heap.size w w' := by
  have HS := hid (fun W => start_nil n W)
  go_enter Try.func41, Try.ntmps41
  go_wp2_with fail
  with_reducible refine (HS.out _).mono ?_
  rintro e w1 ⟨rfl, hb1⟩
  obtain ⟨⟨c0, c1, c2, c3⟩, ⟨f0, f1, f2, f3⟩, hs⟩ := box4 hb1
  have HB1 := hid (blw hb1)
  clear hb1 HS
  go_wp2
  exact bodyPost_ret (v := .tuple #[field0, .bool false]) (by simp [results, Try.results41, go_sem, c0, c1, c2, c3]) rfl ⟨rfl, ((((HB1.out.sc _ _ _ (Nat.le_refl _)).sc _ _ _ (Nat.le_refl _)).sc _ _ _ (Nat.le_refl _)).sc _ _ _ (Nat.le_refl _))⟩
set_option maxRecDepth 100000 in
set_option maxHeartbeats 4000000 in
theorem modify_nil (n : Int) (w : World) : Calls Try.prog 60 #[.pointer none, .int .i64 n] w fun e w' => e = .returned (.bool false) ∧ Below w.heap.size w w' := by
  have HS := hid (fun W => start_nil n W)
  go_enter Try.func60, Try.ntmps60
  go_wp2_with fail
  with_reducible refine (HS.out _).mono ?_
  rintro e w1 ⟨rfl, hb⟩
  have HR := hid hb
  clear hb
  go_wp2
  go_ret
  exact ⟨rfl, HR.out⟩
set_option maxRecDepth 100000 in
set_option maxHeartbeats 4000000 in
theorem open_nil (n : Int) (w : World) : Calls Try.prog 44 #[.pointer none, .int .i64 n] w fun e w' => e = .returned (.bool false) ∧ Below w.heap.size w w' := by
  go_enter Try.func44, Try.ntmps44
  go_wp2
  go_ret
  exact ⟨rfl, Below.refl _ _⟩
set_option maxRecDepth 100000 in
set_option maxHeartbeats 4000000 in
theorem fieldsIt (o : Option Addr) (w : World) : Calls Try.prog 47 #[.pointer o] w fun e w' => ∃ bx, e = .returned (.func (.func 81) #[] #[.pointer (some ⟨bx, 0, none⟩)]) ∧ w.heap.size ≤ bx ∧ w'.cell? ⟨bx, 0, none⟩ = some (.pointer o) ∧ Below w.heap.size w w' := by
  go_enter Try.func47, Try.ntmps47
  go_wp2
  go_ret
  exact ⟨w.heap.size, rfl, Nat.le_refl _, by simp [go_sem], (Below.refl _ _).al (Nat.le_refl _) _⟩
set_option maxRecDepth 100000 in
set_option maxHeartbeats 4000000 in
theorem modifiedIt (o : Option Addr) (w : World) : Calls Try.prog 63 #[.pointer o] w fun e w' => ∃ bx, e = .returned (.func (.func 89) #[] #[.pointer (some ⟨bx, 0, none⟩)]) ∧ w.heap.size ≤ bx ∧ w'.cell? ⟨bx, 0, none⟩ = some (.pointer o) ∧ Below w.heap.size w w' := by
  go_enter Try.func63, Try.ntmps63
  go_wp2
  go_ret
  exact ⟨w.heap.size, rfl, Nat.le_refl _, by simp [go_sem], (Below.refl _ _).al (Nat.le_refl _) _⟩
/-- What is told of a field. -/
abbrev encF (x : Nat × Cel) : Array Value := #[.int .i64 x.1, x.2.fv]
def RPn (bx by_ : Nat) (n : Int) (V : World) : Prop := V.cell? ⟨bx, 0, none⟩ = some (.pointer none) ∧ V.cell? ⟨by_, 0, none⟩ = some (.int .i64 n)
set_option maxRecDepth 100000 in
set_option maxHeartbeats 4000000 in
theorem places_nil_seq (n : Nat) (hn : 4 ≤ n) (bx by_ : Nat) (n0 : Int) (W : World) : SeqF Fence.wide n Try.prog 83 #[.pointer (some ⟨bx, 0, none⟩), .pointer (some ⟨by_, 0, none⟩)] encI (fun _ _ _ => False) 0 (RPn bx by_ n0) W := fun l I Ix hI hIx hR h0 hY => by
  obtain ⟨hb, hy0⟩ := hR _ _ _ h0
  have hlt : bx < W.heap.size := World.block_lt_of_cell? W _ hb
  have hlty : by_ < W.heap.size := World.block_lt_of_cell? W _ hy0
  have HSZ := hid (fun V => (show Calls Try.prog 24 #[.pointer none] V fun e w' => e = .returned (.agg #[.int .i64 0, .int .i64 0]) ∧ Below V.heap.size V w' from size_nil V))
  have HWR := hid (fun V => wrap_no 0 0 n0 vB00 V)
  have HCL := hid (fun V => cells_no 0 0 vB00 V)
  have HC0 := hid (And.intro hb hy0)
  have HI := hid hI
  have H0 := hid h0
  clear hY hR h0 hI hb hy0
  refine callsIn_of_wp Try.func83 rfl trivial ?_ rfl
  simp only [Try.ntmps83, List.size_toArray, List.length_cons, List.length_nil, Nat.reduceAdd, Nat.reduceSub, Array.replicate_succ, Array.replicate_zero, List.push_toArray, List.append_toArray, List.nil_append, List.cons_append]
  gi_wp2
  refine wpIn_of_wpN ?_
  refine wp_region_held_drew (S := fun V => V.cell? ⟨bx, 0, none⟩ = some (.pointer none) ∧ V.cell? ⟨by_, 0, none⟩ = some (.int .i64 n0) ∧ Below W.heap.size W V) (by kernel_rfl) ?_ (fun hHeld => ?_)
  · have hdr : Below W.heap.size W W.drew := (Below.refl _ _).drew
    exact ⟨keepc hdr HC0.out.1, keepc hdr HC0.out.2, hdr⟩
  refine takeD (i := 0) (v := ?_) 6 rfl rfl (by kernel_rfl) (by kernel_rfl) (by kernel_rfl) (fun _ _ _ h => h) (by assumption) (Or.inl ⟨by rfl, ?_⟩) ?_
  rotate_left
  · intro w hSw
    (try dsimp only at hSw)
    go_simp
    try with_reducible rfl
  simp only [List.setIfInBounds_toArray, List.set_cons_zero, List.set_cons_succ]
  refine takeD (i := 2) (v := ?_) 8 rfl rfl (by kernel_rfl) (by kernel_rfl) (by kernel_rfl) (fun _ _ _ h => h) (by assumption) (Or.inl ⟨by rfl, ?_⟩) ?_
  rotate_left
  · intro w hSw
    (try dsimp only at hSw)
    go_simp
    try with_reducible rfl
  simp only [List.setIfInBounds_toArray, List.set_cons_zero, List.set_cons_succ]
  refine wpAnyH_ready (rs := [1]) (by kernel_rfl) (by simp) ?_
  refine AllReadyH.cons (by simp only [List.getElem?_toArray, List.getElem?_cons_succ, List.getElem?_cons_zero]; rfl) (fun K hK => ?_) AllReadyH.nil
  go_simp
  go_at_call 24; (with_reducible refine (HSZ.out _).mono ?_); rintro e w1 ⟨rfl, hb1⟩
  refine hK.out _ _ ?_ (fun hHeldN => ?_)
  · exact ⟨keepc hb1 hHeld.1, keepc hb1 hHeld.2.1, below_t hHeld.2.2 hb1⟩
  clear hK K hHeld
  have hHeld := hHeldN
  clear hHeldN
  (try simp only [Act.put, List.setIfInBounds_toArray, List.set_cons_zero, List.set_cons_succ])
  refine wpAnyH_ready (rs := [3]) (by kernel_rfl) (by simp) ?_
  refine AllReadyH.cons (by simp only [List.getElem?_toArray, List.getElem?_cons_succ, List.getElem?_cons_zero]; rfl) (fun K hK => ?_) AllReadyH.nil
  go_simp
  go_at_call 70; (with_reducible refine (HWR.out _).mono ?_); rintro e w2 ⟨rfl, hb2⟩
  refine hK.out _ _ ?_ (fun hHeldN => ?_)
  · exact ⟨keepc hb2 hHeld.1, keepc hb2 hHeld.2.1, below_t hHeld.2.2 hb2⟩
  clear hK K hHeld
  have hHeld := hHeldN
  clear hHeldN
  (try simp only [Act.put, List.setIfInBounds_toArray, List.set_cons_zero, List.set_cons_succ])
  refine takeD (i := 4) (v := ?_) 4 rfl rfl (by kernel_rfl) (by kernel_rfl) (by kernel_rfl) (fun _ _ _ h => h) (by assumption) (Or.inl ⟨by rfl, ?_⟩) ?_
  rotate_left
  · intro w hSw
    (try dsimp only at hSw)
    go_simp
    try with_reducible rfl
  simp only [List.setIfInBounds_toArray, List.set_cons_zero, List.set_cons_succ]
  refine wpAnyH_done (by kernel_rfl) ?_ _
  have HE := hid hHeld
  clear hHeld
  dsimp only [OnlyN]
  gi_wp2
  gi_loopw [4, 5] (fun v i wr => v = .int .i64 0 ∧ i = .int .i64 1 ∧ Hid (Below W.heap.size W wr)) (fun _ _ _ => 0)
  case atStart => exact ⟨rfl, rfl, HE.out.2.2⟩
  case round =>
    clear HE
    obtain ⟨rfl, rfl, HB⟩ := hrel
    have cb := keepc HB.out HC0.out.1
    have hl1 : bx < wr.heap.size := World.block_lt_of_cell? wr _ cb
    gi_wp2
    refine ⟨trivial, fun _ => (by omega), ?_⟩
    refine (callsIn_wide.2 (HSZ.out _)).mono ?_
    rintro e w3 ⟨rfl, hb3⟩
    have HB3 := hid (below_t HB.out hb3)
    clear hb3 HB cb hl1
    gi_wp2
    refine ⟨trivial, fun _ => (by omega), ?_⟩
    refine (callsIn_wide.2 (HCL.out _)).mono ?_
    rintro e w4 ⟨rfl, hb4⟩
    have HI4 := hid (HI.out _ _ _ _ (Grow.below (below_t HB3.out hb4) _) H0.out)
    clear hb4 HB3
    gi_wp2
    rename_i aK
    refine ⟨trivial, aK _ _ ?_⟩
    gi_wp2
    go_end0
    exact ⟨⟨_, rfl⟩, .inl ⟨_, HI4.out⟩⟩
set_option maxRecDepth 100000 in
set_option maxHeartbeats 4000000 in
theorem fields_nil_seq (n : Nat) (hn : 6 ≤ n) (bx : Nat) (W : World) : SeqF Fence.wide n Try.prog 81 #[.pointer (some ⟨bx, 0, none⟩)] encF (fun _ _ _ => False) 0 (RN bx) W := fun l I Ix hI hIx hR h0 hY => by
  have hb : W.cell? ⟨bx, 0, none⟩ = some (.pointer none) := hR _ _ _ h0
  have hlt : bx < W.heap.size := World.block_lt_of_cell? W _ hb
  have H0 := hid h0
  clear hY hR h0
  refine callsIn_of_wp_marks Try.func81 rfl trivial ?_ rfl
  simp only [Try.ntmps81, List.size_toArray, List.length_cons, List.length_nil, Nat.reduceAdd, Nat.reduceSub, Array.replicate_succ, Array.replicate_zero, List.push_toArray, List.append_toArray, List.nil_append, List.cons_append]
  gi_wp2
  refine ⟨trivial, fun _ => (by omega), ?_⟩
  refine (callsIn_wide.2 (attrsIt_nil _)).mono ?_
  rintro e w1 ⟨bs, rfl, hbs, hcs, hb1⟩
  have hg1 : Grow W.heap.size W w1 := (Grow.alloc W _ _).trans (Grow.below hb1 _)
  have hz1 : W.heap.size ≤ w1.heap.size := hg1.size
  have HI0 := hid (show I 0 [] w1 ∧ RN bs w1 from ⟨hI _ _ _ _ hg1 H0.out, hcs⟩)
  clear hb1 hg1 hcs hbs hb hlt
  gi_wp2
  refine rangeFunc_none (n := n) (w := w1) rfl (by omega) (gf := 93) (lb := #[.pointer (some ⟨bs, 0, none⟩)]) rfl trivial (enters_of Try.func93 (by kernel_rfl) rfl)
    (encs := encI) (fun _ => rfl) (R := RN bs) (fun V => I 0 [] V ∧ RN bs V) (fun A C hg h => ⟨hI _ _ _ _ (hg.mono hz1) h.1, cell_grow hg h.2⟩) (fun V h => h.2) HI0.out (fun V => attrs_nil_seq (n - 1) (by omega) bs V) ?done
  case done =>
    rintro D V hD hi hK
    have HK := hid hK
    have HI := hid hi
    clear hi hK
    gi_wp2
    refine ⟨by simp, .inl ⟨_, _, rfl, run_takeDeferred HK.out, ?_⟩⟩
    exact ⟨_, results_none rfl _ _ _, ⟨_, rfl⟩, .inl ⟨[], hI _ _ _ _ (Grow.put _ (by omega) HK.out rfl) HI.out.1⟩⟩
set_option maxRecDepth 100000 in
set_option maxHeartbeats 4000000 in
theorem modified_nil_seq (n : Nat) (hn : 7 ≤ n) (bx : Nat) (W : World) : SeqF Fence.wide n Try.prog 89 #[.pointer (some ⟨bx, 0, none⟩)] encI (fun _ _ _ => False) 0 (RN bx) W := fun l I Ix hI hIx hR h0 hY => by
  have hb : W.cell? ⟨bx, 0, none⟩ = some (.pointer none) := hR _ _ _ h0
  have hlt : bx < W.heap.size := World.block_lt_of_cell? W _ hb
  have H0 := hid h0
  clear hY hR h0
  refine callsIn_of_wp_marks Try.func89 rfl trivial ?_ rfl
  simp only [Try.ntmps89, List.size_toArray, List.length_cons, List.length_nil, Nat.reduceAdd, Nat.reduceSub, Array.replicate_succ, Array.replicate_zero, List.push_toArray, List.append_toArray, List.nil_append, List.cons_append]
  gi_wp2
  refine ⟨trivial, fun _ => (by omega), ?_⟩
  refine (callsIn_wide.2 (fieldsIt none _)).mono ?_
  rintro e w1 ⟨bs, rfl, hbs, hcs, hb1⟩
  have hg1 : Grow W.heap.size W w1 := (Grow.alloc W _ _).trans (Grow.below hb1 _)
  have hz1 : W.heap.size ≤ w1.heap.size := hg1.size
  have HI0 := hid (show I 0 [] w1 ∧ RN bs w1 from ⟨hI _ _ _ _ hg1 H0.out, hcs⟩)
  clear hb1 hg1 hcs hbs hb hlt
  gi_wp2
  refine rangeFunc_none (n := n) (w := w1) rfl (by omega) (gf := 81) (lb := #[.pointer (some ⟨bs, 0, none⟩)]) rfl trivial (enters_of Try.func81 (by kernel_rfl) rfl)
    (encs := encF) (fun _ => rfl) (R := RN bs) (fun V => I 0 [] V ∧ RN bs V) (fun A C hg h => ⟨hI _ _ _ _ (hg.mono hz1) h.1, cell_grow hg h.2⟩) (fun V h => h.2) HI0.out (fun V => fields_nil_seq (n - 1) (by omega) bs V) ?done
  case done =>
    rintro D V hD hi hK
    have HK := hid hK
    have HI := hid hi
    clear hi hK
    gi_wp2
    refine ⟨by simp, .inl ⟨_, _, rfl, run_takeDeferred HK.out, ?_⟩⟩
    exact ⟨_, results_none rfl _ _ _, ⟨_, rfl⟩, .inl ⟨[], hI _ _ _ _ (Grow.put _ (by omega) HK.out rfl) HI.out.1⟩⟩
theorem collectM_nil (bx : Nat) (w : World) (hb : w.cell? ⟨bx, 0, none⟩ = some (.pointer none)) : Calls Try.prog 48 #[.func (.func 89) #[] #[.pointer (some ⟨bx, 0, none⟩)]] w fun e w' => (∃ x c, e = .returned (.slice x 0 c)) ∧ Below w.heap.size w w' :=
  (collect_any 89 #[.pointer (some ⟨bx, 0, none⟩)] [] (by simp) (RN bx) (enters_of Try.func89 (by kernel_rfl) rfl) (fun V => SeqF.el0 (modified_nil_seq 7 (by omega) bx V)) w (fun V hV => keepc hV hb)).mono fun e w' h => by
    obtain ⟨v, rfl, h1, _, h3⟩ := h
    obtain ⟨y, c, rfl⟩ := row_any h1
    exact ⟨⟨y, c, rfl⟩, h3⟩
set_option maxRecDepth 100000 in
set_option maxHeartbeats 4000000 in
theorem length_nil (m : Nat) (hm : 6 ≤ m) (n0 : Int) (w : World) :
    CallsIn Fence.wide m Try.prog 51 #[.pointer none, .int .i64 n0] w fun e w' => e = .returned (.int .i64 0) ∧ Below w.heap.size w w' := by
  refine callsIn_of_wp_marks Try.func51 rfl trivial ?_ rfl
  simp only [Try.ntmps51, List.size_toArray, List.length_cons, List.length_nil, Nat.reduceAdd, Nat.reduceSub, Array.replicate_succ, Array.replicate_zero, List.push_toArray, List.append_toArray, List.nil_append, List.cons_append]
  gi_wp2
  obtain ⟨a0, ha0⟩ : ∃ a0, w.alloc (.cells #[.int .i64 0] 3) = a0 := ⟨_, rfl⟩
  have hz0 : a0.heap.size = w.heap.size + 1 := by rw [← ha0]; simp
  have hb0 : Below w.heap.size w a0 := by rw [← ha0]; exact bal (Below.refl _ _) _
  have oc : a0.cell? ⟨w.heap.size, 0, none⟩ = some (.int .i64 0) := by rw [← ha0]; simp [go_sem]
  have HBL := hid (show Below w.heap.size w a0 from hb0)
  have HOC := hid (show a0.cell? ⟨w.heap.size, 0, none⟩ = some (.int .i64 0) from oc)
  simp only [ha0]
  clear hz0 hb0 ha0
  clear oc
  refine ⟨trivial, fun _ => (by omega), ?_⟩
  refine (callsIn_wide.2 (placesIt none n0 _)).mono ?_
  rintro e w1 ⟨bx, by_, rfl, hbx, hby, hcx, hcy, hb1⟩
  have HB1 := hid (below_t HBL.out hb1)
  have hlz : w.heap.size ≤ w1.heap.size := HB1.out.size
  have HO1 := hid (keepc hb1 HOC.out)
  have HRR := hid (show RPn bx by_ n0 w1 from ⟨hcx, hcy⟩)
  clear hb1
  gi_wp2
  refine rangeFunc_none (n := m) (w := w1) rfl (by omega) (gf := 83) (lb := #[.pointer (some ⟨bx, 0, none⟩), .pointer (some ⟨by_, 0, none⟩)]) rfl trivial (enters_of Try.func83 (by kernel_rfl) rfl)
    (encs := encI) (fun _ => rfl) (R := RPn bx by_ n0) (fun V => RPn bx by_ n0 V ∧ Below w.heap.size w V ∧ V.cell? ⟨w.heap.size, 0, none⟩ = some (.int .i64 0)) (fun A C hg h => ⟨⟨cell_grow hg h.1.1, cell_grow hg h.1.2⟩, below_grow h.2.1 hg hlz (Nat.le_refl _), cell_grow hg h.2.2⟩) (fun V h => h.1) ⟨HRR.out, HB1.out, HO1.out⟩ (fun V => places_nil_seq (m - 1) (by omega) bx by_ n0 V) ?done
  case done =>
    rintro D V hD hi hK
    have HK := hid hK
    have HI := hid hi
    have ho := hi.2.2
    have hlo := World.block_lt_of_cell? V _ ho
    clear hi hK
    gi_wp2
    refine ⟨by simp, .inl ⟨_, _, rfl, run_takeDeferred HK.out, ?_⟩⟩
    have hg := Grow.put (m := w1.heap.size) (.deferred none) hD HK.out rfl
    exact ⟨.int .i64 0, by simp [results, Try.f51, go_sem], rfl, below_grow HI.out.2.1 hg hlz (Nat.le_refl _)⟩
set_option maxRecDepth 100000 in
set_option maxHeartbeats 4000000 in
theorem text_nil (m : Nat) (hm : 6 ≤ m) (n0 : Int) (w : World) :
    CallsIn Fence.wide m Try.prog 53 #[.pointer none, .int .i64 n0] w fun e w' => e = .returned (.slice none 0 0) ∧ Below w.heap.size w w' := by
  refine callsIn_of_wp_marks Try.func53 rfl trivial ?_ rfl
  simp only [Try.ntmps53, List.size_toArray, List.length_cons, List.length_nil, Nat.reduceAdd, Nat.reduceSub, Array.replicate_succ, Array.replicate_zero, List.push_toArray, List.append_toArray, List.nil_append, List.cons_append]
  gi_wp2
  obtain ⟨a0, ha0⟩ : ∃ a0, w.alloc (.cells #[.pointer none] 24) = a0 := ⟨_, rfl⟩
  have hz0 : a0.heap.size = w.heap.size + 1 := by rw [← ha0]; simp
  have hb0 : Below w.heap.size w a0 := by rw [← ha0]; exact bal (Below.refl _ _) _
  obtain ⟨a1, ha1⟩ : ∃ a1, a0.alloc (.cells #[.slice none 0 0] 32) = a1 := ⟨_, rfl⟩
  have hz1 : a1.heap.size = a0.heap.size + 1 := by rw [← ha1]; simp
  have hb1 : Below a0.heap.size a0 a1 := by rw [← ha1]; exact bal (Below.refl _ _) _
  have oc : a1.cell? ⟨w.heap.size + 1, 0, none⟩ = some (.slice none 0 0) := by rw [← ha1, ← hz0]; simp [go_sem]
  have HBL := hid (show Below w.heap.size w a1 from below_t (hb0) hb1)
  have HOC := hid (show a1.cell? ⟨w.heap.size + 1, 0, none⟩ = some (.slice none 0 0) from oc)
  simp only [ha0, ha1]
  clear hz0 hb0 ha0 hz1 hb1 ha1
  clear oc
  refine ⟨trivial, fun _ => (by omega), ?_⟩
  refine (callsIn_wide.2 (placesIt none n0 _)).mono ?_
  rintro e w1 ⟨bx, by_, rfl, hbx, hby, hcx, hcy, hb1⟩
  have HB1 := hid (below_t HBL.out hb1)
  have hlz : w.heap.size ≤ w1.heap.size := HB1.out.size
  have HO1 := hid (keepc hb1 HOC.out)
  have HRR := hid (show RPn bx by_ n0 w1 from ⟨hcx, hcy⟩)
  clear hb1
  gi_wp2
  refine rangeFunc_none (n := m) (w := w1) rfl (by omega) (gf := 83) (lb := #[.pointer (some ⟨bx, 0, none⟩), .pointer (some ⟨by_, 0, none⟩)]) rfl trivial (enters_of Try.func83 (by kernel_rfl) rfl)
    (encs := encI) (fun _ => rfl) (R := RPn bx by_ n0) (fun V => RPn bx by_ n0 V ∧ Below w.heap.size w V ∧ V.cell? ⟨w.heap.size + 1, 0, none⟩ = some (.slice none 0 0)) (fun A C hg h => ⟨⟨cell_grow hg h.1.1, cell_grow hg h.1.2⟩, below_grow h.2.1 hg hlz (Nat.le_refl _), cell_grow hg h.2.2⟩) (fun V h => h.1) ⟨HRR.out, HB1.out, HO1.out⟩ (fun V => places_nil_seq (m - 1) (by omega) bx by_ n0 V) ?done
  case done =>
    rintro D V hD hi hK
    have HK := hid hK
    have HI := hid hi
    have ho := hi.2.2
    have hlo := World.block_lt_of_cell? V _ ho
    clear hi hK
    gi_wp2
    refine ⟨by simp, .inl ⟨_, _, rfl, run_takeDeferred HK.out, ?_⟩⟩
    have hg := Grow.put (m := w1.heap.size) (.deferred none) hD HK.out rfl
    exact ⟨.slice none 0 0, by simp [results, Try.f53, go_sem], rfl, below_grow HI.out.2.1 hg hlz (Nat.le_refl _)⟩
set_option maxRecDepth 100000 in
set_option maxHeartbeats 4000000 in
theorem unprot_nil (m : Nat) (hm : 7 ≤ m) (w : World) :
    CallsIn Fence.wide m Try.prog 55 #[.pointer none] w fun e w' => e = .returned (.int .i64 0) ∧ Below w.heap.size w w' := by
  refine callsIn_of_wp_marks Try.func55 rfl trivial ?_ rfl
  simp only [Try.ntmps55, List.size_toArray, List.length_cons, List.length_nil, Nat.reduceAdd, Nat.reduceSub, Array.replicate_succ, Array.replicate_zero, List.push_toArray, List.append_toArray, List.nil_append, List.cons_append]
  gi_wp2
  obtain ⟨a0, ha0⟩ : ∃ a0, w.alloc (.cells #[.pointer none] 24) = a0 := ⟨_, rfl⟩
  have hz0 : a0.heap.size = w.heap.size + 1 := by rw [← ha0]; simp
  have hb0 : Below w.heap.size w a0 := by rw [← ha0]; exact bal (Below.refl _ _) _
  obtain ⟨a1, ha1⟩ : ∃ a1, a0.alloc (.cells #[.int .i64 0] 3) = a1 := ⟨_, rfl⟩
  have hz1 : a1.heap.size = a0.heap.size + 1 := by rw [← ha1]; simp
  have hb1 : Below a0.heap.size a0 a1 := by rw [← ha1]; exact bal (Below.refl _ _) _
  have oc : a1.cell? ⟨w.heap.size + 1, 0, none⟩ = some (.int .i64 0) := by rw [← ha1, ← hz0]; simp [go_sem]
  have HBL := hid (show Below w.heap.size w a1 from below_t (hb0) hb1)
  have HOC := hid (show a1.cell? ⟨w.heap.size + 1, 0, none⟩ = some (.int .i64 0) from oc)
  simp only [ha0, ha1]
  clear hz0 hb0 ha0 hz1 hb1 ha1
  clear oc
  refine ⟨trivial, fun _ => (by omega), ?_⟩
  refine (callsIn_wide.2 (fieldsIt none _)).mono ?_
  rintro e w1 ⟨bx, rfl, hbx, hcx, hb1⟩
  have HB1 := hid (below_t HBL.out hb1)
  have hlz : w.heap.size ≤ w1.heap.size := HB1.out.size
  have HO1 := hid (keepc hb1 HOC.out)
  have HRR := hid (show RN bx w1 from hcx)
  clear hb1
  gi_wp2
  refine rangeFunc_none (n := m) (w := w1) rfl (by omega) (gf := 81) (lb := #[.pointer (some ⟨bx, 0, none⟩)]) rfl trivial (enters_of Try.func81 (by kernel_rfl) rfl)
    (encs := encF) (fun _ => rfl) (R := RN bx) (fun V => RN bx V ∧ Below w.heap.size w V ∧ V.cell? ⟨w.heap.size + 1, 0, none⟩ = some (.int .i64 0)) (fun A C hg h => ⟨cell_grow hg h.1, below_grow h.2.1 hg hlz (Nat.le_refl _), cell_grow hg h.2.2⟩) (fun V h => h.1) ⟨HRR.out, HB1.out, HO1.out⟩ (fun V => fields_nil_seq (m - 1) (by omega) bx V) ?done
  case done =>
    rintro D V hD hi hK
    have HK := hid hK
    have HI := hid hi
    have ho := hi.2.2
    have hlo := World.block_lt_of_cell? V _ ho
    clear hi hK
    gi_wp2
    refine ⟨by simp, .inl ⟨_, _, rfl, run_takeDeferred HK.out, ?_⟩⟩
    have hg := Grow.put (m := w1.heap.size) (.deferred none) hD HK.out rfl
    exact ⟨.int .i64 0, by simp [results, Try.f55, go_sem], rfl, below_grow HI.out.2.1 hg hlz (Nat.le_refl _)⟩
set_option maxRecDepth 100000 in
set_option maxHeartbeats 4000000 in
theorem unmod_nil (m : Nat) (hm : 6 ≤ m) (w : World) :
    CallsIn Fence.wide m Try.prog 65 #[.pointer none] w fun e w' => (∃ v, e = .returned v) ∧ Below w.heap.size w w' := by
  refine callsIn_of_wp_marks Try.func65 rfl trivial ?_ rfl
  simp only [Try.ntmps65, List.size_toArray, List.length_cons, List.length_nil, Nat.reduceAdd, Nat.reduceSub, Array.replicate_succ, Array.replicate_zero, List.push_toArray, List.append_toArray, List.nil_append, List.cons_append]
  gi_wp2
  obtain ⟨a0, ha0⟩ : ∃ a0, w.alloc (.cells #[.pointer none] 24) = a0 := ⟨_, rfl⟩
  have hz0 : a0.heap.size = w.heap.size + 1 := by rw [← ha0]; simp
  have hb0 : Below w.heap.size w a0 := by rw [← ha0]; exact bal (Below.refl _ _) _
  have HBL := hid (show Below w.heap.size w a0 from hb0)
  simp only [ha0]
  clear hz0 hb0 ha0
  refine ⟨trivial, fun _ => (by omega), ?_⟩
  refine (callsIn_wide.2 (attrsIt_nil _)).mono ?_
  rintro e w1 ⟨bx, rfl, hbx, hcx, hb1⟩
  have HB1 := hid (below_t HBL.out hb1)
  have hlz : w.heap.size ≤ w1.heap.size := HB1.out.size
  have HRR := hid (show RN bx w1 from hcx)
  clear hb1
  gi_wp2
  refine rangeFunc_none (n := m) (w := w1) rfl (by omega) (gf := 93) (lb := #[.pointer (some ⟨bx, 0, none⟩)]) rfl trivial (enters_of Try.func93 (by kernel_rfl) rfl)
    (encs := encI) (fun _ => rfl) (R := RN bx) (fun V => RN bx V ∧ Below w.heap.size w V) (fun A C hg h => ⟨cell_grow hg h.1, below_grow h.2 hg hlz (Nat.le_refl _)⟩) (fun V h => h.1) ⟨HRR.out, HB1.out⟩ (fun V => attrs_nil_seq (m - 1) (by omega) bx V) ?done
  case done =>
    rintro D V hD hi hK
    have HK := hid hK
    have HI := hid hi
    clear hi hK
    gi_wp2
    refine ⟨by simp, .inl ⟨_, _, rfl, run_takeDeferred HK.out, ?_⟩⟩
    have hg := Grow.put (m := w1.heap.size) (.deferred none) hD HK.out rfl
    exact ⟨_, results_none rfl _ _ _, ⟨_, rfl⟩, below_grow HI.out.2 hg hlz (Nat.le_refl _)⟩
end Go.Proofs.Ytdaainifnbbhiaa
