/-
  Of no space nothing: erase's functions at nil.
-/
import Derived.Test.YtpehhinpohmpiaaEh
import Derived.Shelf.Bytes.SlCountOne
namespace Go.Proofs.Ytpehhinpohmpiaa
open Go.RowKit Go.Lib Go.Deep

set_option maxRecDepth 100000 in
set_option maxHeartbeats 4000000 in
theorem inrow_nil (rz : Int) (w : World) : Calls Try.prog 82 #[.pointer none, .int .i64 0, .int .i64 rz] w fun e w' => e = .returned (.bool false) ∧ Below w.heap.size w w' := by
  have HSZ := hid (fun W => (show Calls Try.prog 79 #[.pointer none] W fun e w' => e = .returned (.agg #[.int .i64 0, .int .i64 0]) ∧ Below W.heap.size W w' from size_nil W))
  have HCL := hid (fun W => cells_no 0 0 rfl W)
  go_enter Try.func82, Try.ntmps82
  go_wp2_with fail
  with_reducible refine (HSZ.out _).mono ?_
  rintro e w1 ⟨rfl, hb1⟩
  obtain ⟨W0, hW0⟩ : ∃ W0, w1.alloc (.cells #[.int .i64 0, .int .i64 0] 107) = W0 := ⟨_, rfl⟩
  have HZ := hid (show ∀ V, Below W0.heap.size W0 V → V.cell? ⟨w1.heap.size, 0, none⟩ = some (.int .i64 0) ∧ V.cell? ⟨w1.heap.size, 1, none⟩ = some (.int .i64 0) ∧ w1.heap.size < V.heap.size from fun V hV => by
    rw [← hW0] at hV
    obtain ⟨c0, c1, _, _, hs⟩ := box2 hV
    exact ⟨c0, c1, hs⟩)
  have HB0 := hid (show Below w.heap.size w W0 by rw [← hW0]; exact bal hb1 _)
  have HW0 := hid hW0
  clear hb1 hW0
  obtain ⟨z0, z1, z2⟩ := HZ.out _ (Below.refl _ _)
  go_wp2_with fail
  simp only [HW0.out]
  with_reducible refine (HCL.out _).mono ?_
  rintro e w2 ⟨rfl, hb2⟩
  have HB2 := hid hb2
  clear hb2 z0 z1 z2
  obtain ⟨z0, z1, z2⟩ := HZ.out _ HB2.out
  go_wp2
  go_ret
  exact ⟨rfl, below_t HB0.out HB2.out⟩
set_option maxRecDepth 100000 in
set_option maxHeartbeats 4000000 in
theorem row_nil_seq (n : Nat) (hn : 4 ≤ n) (bx by_ : Nat) (n0 : Int) (W : World) : SeqF Fence.wide n Try.prog 78 #[.pointer (some ⟨bx, 0, none⟩), .pointer (some ⟨by_, 0, none⟩)] encI (fun _ _ _ => False) 0 (RPn bx by_ n0) W := fun l I Ix hI hIx hR h0 hY => by
  have HI := hid hI
  have H0 := hid h0
  have HRR := hid (hR _ _ _ h0)
  have HR := hid hR
  have HSZ := hid (fun W => (show Calls Try.prog 79 #[.pointer none] W fun e w' => e = .returned (.agg #[.int .i64 0, .int .i64 0]) ∧ Below W.heap.size W w' from size_nil W))
  have HRW := hid (fun V => row_no 0 0 n0 rfl V)
  have HWR := hid (fun V => wrap_no 0 0 n0 rfl V)
  have HIN := hid (fun V => inrow_nil 0 V)
  obtain ⟨cx0, cy0⟩ := HRR.out
  have lx0 := World.block_lt_of_cell? W _ cx0
  have ly0 := World.block_lt_of_cell? W _ cy0
  clear hY hR hI h0 HRR
  refine callsIn_of_wp Try.func78 rfl trivial ?_ rfl
  simp only [Try.ntmps78, List.size_toArray, List.length_cons, List.length_nil, Nat.reduceAdd, Nat.reduceSub, Array.replicate_succ, Array.replicate_zero, List.push_toArray, List.append_toArray, List.nil_append, List.cons_append]
  gi_wp2
  refine wpIn_of_wpN ?_
  refine wp_region_held_drew (S := fun V => V.cell? ⟨bx, 0, none⟩ = some (.pointer none) ∧ V.cell? ⟨by_, 0, none⟩ = some (.int .i64 n0) ∧ Below W.heap.size W V) (by kernel_rfl) ?_ (fun hHeld => ?_)
  · have hdr : Below W.heap.size W W.drew := (Below.refl _ _).drew
    exact ⟨keepc hdr cx0, keepc hdr cy0, hdr⟩
  refine takeD (i := 0) (v := ?_) 6 rfl rfl (by kernel_rfl) (by kernel_rfl) (by kernel_rfl) (fun _ _ _ h => h) (by assumption) (Or.inl ⟨by rfl, ?_⟩) ?_
  rotate_left
  · intro w hSw
    (try dsimp only at hSw)
    go_simp
    try with_reducible rfl
  simp only [List.setIfInBounds_toArray, List.set_cons_zero, List.set_cons_succ]
  refine takeD (i := 2) (v := ?_) 8 rfl rfl (by kernel_rfl) (by kernel_rfl) (by kernel_rfl) (fun _ _ _ h => h) (by assumption) (Or.inl ⟨by rfl, ?_⟩) ?_
  rotate_left
  · intro w hSw
    (try dsimp only at hSw)
    go_simp
    try with_reducible rfl
  simp only [List.setIfInBounds_toArray, List.set_cons_zero, List.set_cons_succ]
  refine wpAnyH_ready (rs := [1]) (by kernel_rfl) (by simp) ?_
  refine AllReadyH.cons (by simp only [List.getElem?_toArray, List.getElem?_cons_succ, List.getElem?_cons_zero]; rfl) (fun K hK => ?_) AllReadyH.nil
  go_simp
  go_at_call 79; (with_reducible refine (HSZ.out _).mono ?_); rintro e w1a ⟨rfl, hb1⟩
  refine hK.out _ _ ?_ (fun hHeldN => ?_)
  · exact ⟨keepc hb1 hHeld.1, keepc hb1 hHeld.2.1, below_t hHeld.2.2 hb1⟩
  clear hK K hHeld
  have hHeld := hHeldN
  clear hHeldN
  (try simp only [Act.put, List.setIfInBounds_toArray, List.set_cons_zero, List.set_cons_succ])
  refine wpAnyH_ready (rs := [3]) (by kernel_rfl) (by simp) ?_
  refine AllReadyH.cons (by simp only [List.getElem?_toArray, List.getElem?_cons_succ, List.getElem?_cons_zero]; rfl) (fun K hK => ?_) AllReadyH.nil
  go_simp
  go_at_call 80; (with_reducible refine (HRW.out _).mono ?_); rintro e w1 ⟨rfl, hb2⟩
  refine hK.out _ _ ?_ (fun hHeldN => ?_)
  · exact ⟨keepc hb2 hHeld.1, keepc hb2 hHeld.2.1, below_t hHeld.2.2 hb2⟩
  clear hK K hHeld
  have hHeld := hHeldN
  clear hHeldN
  (try simp only [Act.put, List.setIfInBounds_toArray, List.set_cons_zero, List.set_cons_succ])
  refine takeD (i := 4) (v := ?_) 4 rfl rfl (by kernel_rfl) (by kernel_rfl) (by kernel_rfl) (fun _ _ _ h => h) (by assumption) (Or.inl ⟨by rfl, ?_⟩) ?_
  rotate_left
  · intro w hSw
    (try dsimp only at hSw)
    go_simp
    try with_reducible rfl
  simp only [List.setIfInBounds_toArray, List.set_cons_zero, List.set_cons_succ]
  refine wpAnyH_done (by kernel_rfl) ?_ _
  have HE := hid hHeld
  clear hHeld
  dsimp only [OnlyN]
  have HI1 := hid (HI.out _ _ _ _ (Grow.below HE.out.2.2 _) H0.out)
  have hz1 : W.heap.size ≤ w1.heap.size := HE.out.2.2.size
  clear HE H0 cx0 cy0 lx0 ly0
  obtain ⟨cx0, cy0⟩ := HR.out _ _ _ HI1.out
  have lx0 := World.block_lt_of_cell? w1 _ cx0
  have ly0 := World.block_lt_of_cell? w1 _ cy0
  gi_wp2
  refine wpIn_of_wpN ?_
  refine wp_region_held_drew (S := fun V => V.cell? ⟨bx, 0, none⟩ = some (.pointer none) ∧ V.cell? ⟨by_, 0, none⟩ = some (.int .i64 n0) ∧ Below w1.heap.size w1 V) (by kernel_rfl) ?_ (fun hHeld => ?_)
  · have hdr : Below w1.heap.size w1 w1.drew := (Below.refl _ _).drew
    exact ⟨keepc hdr cx0, keepc hdr cy0, hdr⟩
  refine takeD (i := 0) (v := ?_) 10 rfl rfl (by kernel_rfl) (by kernel_rfl) (by kernel_rfl) (fun _ _ _ h => h) (by assumption) (Or.inl ⟨by rfl, ?_⟩) ?_
  rotate_left
  · intro w hSw
    (try dsimp only at hSw)
    go_simp
    try with_reducible rfl
  simp only [List.setIfInBounds_toArray, List.set_cons_zero, List.set_cons_succ]
  refine takeD (i := 2) (v := ?_) 12 rfl rfl (by kernel_rfl) (by kernel_rfl) (by kernel_rfl) (fun _ _ _ h => h) (by assumption) (Or.inl ⟨by rfl, ?_⟩) ?_
  rotate_left
  · intro w hSw
    (try dsimp only at hSw)
    go_simp
    try with_reducible rfl
  simp only [List.setIfInBounds_toArray, List.set_cons_zero, List.set_cons_succ]
  refine wpAnyH_ready (rs := [1]) (by kernel_rfl) (by simp) ?_
  refine AllReadyH.cons (by simp only [List.getElem?_toArray, List.getElem?_cons_succ, List.getElem?_cons_zero]; rfl) (fun K hK => ?_) AllReadyH.nil
  go_simp
  go_at_call 79; (with_reducible refine (HSZ.out _).mono ?_); rintro e w2a ⟨rfl, hb1⟩
  refine hK.out _ _ ?_ (fun hHeldN => ?_)
  · exact ⟨keepc hb1 hHeld.1, keepc hb1 hHeld.2.1, below_t hHeld.2.2 hb1⟩
  clear hK K hHeld
  have hHeld := hHeldN
  clear hHeldN
  (try simp only [Act.put, List.setIfInBounds_toArray, List.set_cons_zero, List.set_cons_succ])
  refine wpAnyH_ready (rs := [3]) (by kernel_rfl) (by simp) ?_
  refine AllReadyH.cons (by simp only [List.getElem?_toArray, List.getElem?_cons_succ, List.getElem?_cons_zero]; rfl) (fun K hK => ?_) AllReadyH.nil
  go_simp
  go_at_call 81; (with_reducible refine (HWR.out _).mono ?_); rintro e w2 ⟨rfl, hb2⟩
  refine hK.out _ _ ?_ (fun hHeldN => ?_)
  · exact ⟨keepc hb2 hHeld.1, keepc hb2 hHeld.2.1, below_t hHeld.2.2 hb2⟩
  clear hK K hHeld
  have hHeld := hHeldN
  clear hHeldN
  (try simp only [Act.put, List.setIfInBounds_toArray, List.set_cons_zero, List.set_cons_succ])
  refine takeD (i := 4) (v := ?_) 5 rfl rfl (by kernel_rfl) (by kernel_rfl) (by kernel_rfl) (fun _ _ _ h => h) (by assumption) (Or.inl ⟨by rfl, ?_⟩) ?_
  rotate_left
  · intro w hSw
    (try dsimp only at hSw)
    go_simp
    try with_reducible rfl
  simp only [List.setIfInBounds_toArray, List.set_cons_zero, List.set_cons_succ]
  refine wpAnyH_done (by kernel_rfl) ?_ _
  have HE := hid hHeld
  clear hHeld
  dsimp only [OnlyN]
  have HI2 := hid (HI.out _ _ _ _ (Grow.below HE.out.2.2 _) HI1.out)
  clear HE HI1 cx0 cy0 lx0 ly0
  gi_wp2
  gi_loopw [5] (fun v wr => v = .int .i64 0 ∧ Hid (I 0 [] wr)) (fun v _ => 0)
  case atStart => exact ⟨rfl, HI2.out⟩
  case round =>
    clear HI2
    obtain ⟨rfl, hi⟩ := hrel
    obtain ⟨cb, -⟩ := HR.out _ _ _ hi
    have hltb : bx < wr.heap.size := World.block_lt_of_cell? wr _ cb
    have HI1 := hid hi
    clear hi
    gi_wp2
    refine ⟨trivial, fun _ => (by omega), ?_⟩
    refine (callsIn_wide.2 (HIN.out _)).mono ?_
    rintro e w3 ⟨rfl, hb3⟩
    have HI3 := hid (HI.out _ _ _ _ (Grow.below hb3 _) HI1.out)
    clear hb3
    gi_wp2
    rename_i aK _ _ _ _
    refine ⟨fun _ f => (by cases f), aK _ _ ?_⟩
    gi_wp2
    go_end0
    exact ⟨⟨_, rfl⟩, .inl ⟨_, HI3.out⟩⟩
set_option maxRecDepth 100000 in
set_option maxHeartbeats 4000000 in
theorem span_nil_seq (n : Nat) (hn : 4 ≤ n) (bx bp bq : Nat) (p q : Int) (W : World) : SeqF Fence.wide n Try.prog 139 #[.pointer (some ⟨bx, 0, none⟩), .pointer (some ⟨bp, 0, none⟩), .pointer (some ⟨bq, 0, none⟩)] encI (fun _ _ _ => False) 0 (RSp bx bp bq 0 0 p q) W := fun l I Ix hI hIx hR h0 hY => by
  have HWA := hid (fun V => wrap_no 0 0 p rfl V)
  have HLE := hid (fun V => length_no 0 0 p q rfl V)
  have HR := hid hR
  have HI := hid hI
  have H0 := hid h0
  obtain ⟨c0, c1, c2, c3⟩ := hR _ _ _ h0
  have l0 := World.block_lt_of_cell? W _ c0
  have l2 := World.block_lt_of_cell? W _ c2
  have l3 := World.block_lt_of_cell? W _ c3
  clear hY hR hI h0
  refine callsIn_of_wp Try.func139 rfl trivial ?_ rfl
  simp only [Try.ntmps139, List.size_toArray, List.length_cons, List.length_nil, Nat.reduceAdd, Nat.reduceSub, Array.replicate_succ, Array.replicate_zero, List.push_toArray, List.append_toArray, List.nil_append, List.cons_append]
  gi_wp2
  refine ⟨trivial, fun _ => (by omega), ?_⟩
  refine (callsIn_wide.2 (HWA.out _)).mono ?_
  rintro e w1 ⟨rfl, hb1⟩
  have HI1 := hid (HI.out _ _ _ _ (Grow.below hb1 _) H0.out)
  clear hb1 c0 c1 c2 c3 l0 l2 l3 H0
  obtain ⟨c0, c1, c2, c3⟩ := HR.out _ _ _ HI1.out
  have l0 := World.block_lt_of_cell? w1 _ c0
  have l2 := World.block_lt_of_cell? w1 _ c2
  have l3 := World.block_lt_of_cell? w1 _ c3
  gi_wp2
  refine ⟨trivial, fun _ => (by omega), ?_⟩
  refine (callsIn_wide.2 (HLE.out _)).mono ?_
  rintro e w2 ⟨rfl, hb2⟩
  have HI2 := hid (HI.out _ _ _ _ (Grow.below hb2 _) HI1.out)
  clear hb2 c0 c1 c2 c3 l0 l2 l3 HI1
  gi_wp2
  gi_loopw [14] (fun v wr => v = .int .i64 0 ∧ Hid (I 0 [] wr)) (fun v _ => 0)
  case atStart => exact ⟨rfl, HI2.out⟩
  case round =>
    clear HI2
    obtain ⟨rfl, hi⟩ := hrel
    have HI3 := hid hi
    clear hi
    gi_wp2
    go_end0
    exact ⟨⟨_, rfl⟩, .inl ⟨_, HI3.out⟩⟩
set_option maxRecDepth 100000 in
set_option maxHeartbeats 4000000 in
theorem end_nil (n : Int) (w : World) : Calls Try.prog 34 #[.pointer none, .int .i64 n] w fun e w' => e = .returned (.bool false) ∧ Below w.heap.size w w' := by
  have HO := hid (fun W => open_nil n W)
  go_enter Try.func34, Try.ntmps34
  go_wp2_with fail
  with_reducible refine (HO.out _).mono ?_
  rintro e w1 ⟨rfl, hb⟩
  have HB := hid (show Below w.heap.size w w1 from below_t (bal (Below.refl _ _) _) hb)
  clear hb
  go_wp2
  go_ret
  exact ⟨rfl, HB.out⟩
set_option maxRecDepth 100000 in
set_option maxHeartbeats 4000000 in
theorem delete_nil (n : Int) (w : World) : Calls Try.prog 28 #[.pointer none, .int .i64 n] w fun e w' => e = .returned (.bool false) ∧ Below w.heap.size w w' := by
  have HO := hid (fun W => open_nil n W)
  go_enter Try.func28, Try.ntmps28
  go_wp2_with fail
  with_reducible refine (HO.out _).mono ?_
  rintro e w1 ⟨rfl, hb⟩
  have HB := hid (show Below w.heap.size w w1 from below_t (bal (Below.refl _ _) _) hb)
  clear hb
  go_wp2
  go_ret
  exact ⟨rfl, HB.out⟩
set_option maxRecDepth 100000 in
set_option maxHeartbeats 4000000 in
theorem insert_nil (n c : Int) (w : World) : Calls Try.prog 27 #[.pointer none, .int .i64 n, .int .u8 c] w fun e w' => e = .returned (.bool false) ∧ Below w.heap.size w w' := by
  have HO := hid (fun W => open_nil n W)
  go_enter Try.func27, Try.ntmps27
  go_wp2_with fail
  with_reducible refine (HO.out _).mono ?_
  rintro e w1 ⟨rfl, hb⟩
  have HB := hid (show Below w.heap.size w w1 from hb)
  clear hb
  go_wp2
  go_ret
  exact ⟨rfl, HB.out⟩
set_option maxRecDepth 100000 in
set_option maxHeartbeats 4000000 in
theorem count_nil (b2 d : Nat) (w : World) (hc : w.cell? ⟨b2, 0, none⟩ = some (.int .u8 0)) : Calls Try.prog 87 #[.slice none 0 0, .slice (some ⟨b2, 0, none⟩) 1 d] w fun e w' => e = .returned (.int .i64 0) ∧ w = w' := by
  go_enter Try.func87, Try.ntmps87
  go_wp2_with fail
  rw [run_callFunc_extern Try.func131 (by kernel_rfl) (by kernel_rfl) (by kernel_rfl) (e := Extern.BytealgCount.count) (by kernel_rfl), Lib.run_countNil w 0 0 0]
  simp only [Result.andThen]
  rw [Oper.upon_value]
  go_wp2
  go_ret
  exact ⟨rfl, rfl⟩
set_option maxRecDepth 100000 in
set_option maxHeartbeats 4000000 in
theorem nulls_nil (n : Int) (w : World) : Calls Try.prog 31 #[.pointer none, .int .i64 n] w fun e w' => e = .returned (.int .i64 0) ∧ Below w.heap.size w w' := by
  have HT := hid (fun W => callsIn_wide.1 (text_nil 6 (by omega) n W))
  go_enter Try.func31, Try.ntmps31
  go_wp2_with fail
  with_reducible refine (HT.out _).mono ?_
  rintro e w1 ⟨rfl, hb⟩
  obtain ⟨W0, hW0⟩ : ∃ W0, w1.alloc (.cells #[.int .u8 0] 5) = W0 := ⟨_, rfl⟩
  have HC := hid (count_nil w1.heap.size 1 W0 (by rw [← hW0]; simp [go_sem]))
  have HB := hid (show Below w.heap.size w W0 by rw [← hW0]; exact bal hb _)
  have HW := hid hW0
  clear hb hW0
  go_wp2_with fail
  simp only [HW.out]
  with_reducible refine HC.out.mono ?_
  rintro e w2 ⟨rfl, rfl⟩
  go_wp2
  go_ret
  exact ⟨rfl, HB.out⟩
end Go.Proofs.Ytpehhinpohmpiaa
