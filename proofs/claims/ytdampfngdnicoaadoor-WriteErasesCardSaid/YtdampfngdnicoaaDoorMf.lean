/-
  One order executed: MF, SA, texts; all of them.
-/
import Derived.Test.YtdampfngdnicoaaDoorMe
namespace Go.Proofs.YtdampfngdnicoaaDoor
open Go.RowKit Go.Lib Go.Deep

section
variable {q b g : Nat} {x : Wst}
set_option maxRecDepth 100000 in
set_option maxHeartbeats 4000000 in
theorem exec_44 (d : OpD) (hk : d.kind = 44) (hx : ExOK x d) (pv tv : Value) (w : World) (h : WrM w q b g x) (hp : PairsIn w pv d.pairs) (ht : OwnB w tv d.text) (hd : ∀ k ∈ blkV tv, k ∉ [q, b, g]) : Calls Tryd.prog 45 #[.pointer (some ⟨q, 0, none⟩), opV d pv tv] w (WrD q b g (execW x d) w) := by
  obtain ⟨kd, ad, cd, gr, fa, ps, tx⟩ := d
  dsimp only at hk hp ht
  subst hk
  have hbw : w.heap.size ∉ [q, b, g] := fun k => by
    have := h.lts _ k
    omega
  obtain ⟨px, pc, rfl, -⟩ := pairs_at hp
  obtain ⟨tx0, tn, tc, rfl⟩ := own_slice ht
  have hpos := h.sp.ok.pos
  have hxn := h.lt
  have hin : I64 (x.n : Int) := i64_small (by omega) (by omega)
  have HAT := hid (fun W hW => (show Calls Tryd.prog 14 #[.pointer (some ⟨b, 0, none⟩), .int .i64 x.n] W fun e w' => e = .returned (x.s.cel x.n).v ∧ Below W.heap.size W w' from by
    have q := at_any (b := b) (g := g) (s := x.s) (x.n : Int) hin W hW
    unfold Spc.atC at q
    rwa [wr_nat h.lt] at q))
  have HAP := hid (fun W (hW : PairsIn W (.slice px ps.length pc) ps) => applied_any (x.s.cel x.n) ps hx.ps hx.pl (.slice px ps.length pc) W hW)
  have HPU := hid (fun W (hW : WrM W q b g x) => putw_any (apply_all (x.s.cel x.n) ps) (applyAll_ok (fun p hp => (hx.ps p hp).2) (h.sp.ok.cel _)) W hW)
  have HX := hid h
  have HPI := hid hp
  have HT := hid ht
  have HD := hid hd
  have hql := h.qlt
  have hqn1 : ¬ q = w.heap.size := by omega
  have hqn2 : ¬ w.heap.size = q := by omega
  clear h hp ht hd
  go_enter Tryd.func45, Tryd.ntmps45
  go_wp2_with fail
  obtain ⟨a0, ha0⟩ : ∃ a0, w.alloc (.cells #[.int .i64 44, .int .i64 ad, .int .u8 cd, .bool gr, .int .u8 fa, .slice px ps.length pc, .slice tx0 tn tc] 93) = a0 := ⟨_, rfl⟩
  have hba : Below w.heap.size w a0 := by rw [← ha0]; exact (Below.refl _ _).alloc (Nat.le_refl _) _
  have z0 : a0.cell? ⟨w.heap.size, 0, none⟩ = some (.int .i64 44) := by rw [← ha0]; simp [go_sem]
  have z1 : a0.cell? ⟨w.heap.size, 1, none⟩ = some (.int .i64 ad) := by rw [← ha0]; simp [go_sem]
  have z2 : a0.cell? ⟨w.heap.size, 2, none⟩ = some (.int .u8 cd) := by rw [← ha0]; simp [go_sem]
  have z3 : a0.cell? ⟨w.heap.size, 3, none⟩ = some (.bool gr) := by rw [← ha0]; simp [go_sem]
  have z4 : a0.cell? ⟨w.heap.size, 4, none⟩ = some (.int .u8 fa) := by rw [← ha0]; simp [go_sem]
  have z5 : a0.cell? ⟨w.heap.size, 5, none⟩ = some (.slice px ps.length pc) := by rw [← ha0]; simp [go_sem]
  have z6 : a0.cell? ⟨w.heap.size, 6, none⟩ = some (.slice tx0 tn tc) := by rw [← ha0]; simp [go_sem]
  simp only [ha0]
  have hsz : a0.heap.size = w.heap.size + 1 := by rw [← ha0]; simp
  have HBA := hid hba
  have HX0 := hid (HX.out.below hba)
  have hdr : Below a0.heap.size a0 a0.drew := (Below.refl _ _).drew
  have c0 := HX0.out.c0
  have c1 := HX0.out.c1
  have f1 := HX0.out.fr 1
  have f8 := HX0.out.fr 8
  clear ha0 hba HX
  have HEX : Hid (execW x ⟨44, ad, cd, gr, fa, ps, tx⟩ = { putW x (apply_all (x.s.cel x.n) ps) with wr := false }) := rfl
  generalize apply_all (x.s.cel x.n) ps = ca at HAP HPU HEX
  generalize x.s.cel x.n = cc at HAT HAP
  have HPI0 := hid (pairs_below HPI.out HBA.out)
  have hq0 := keepc hdr c1
  go_wp2
  refine wp_region_held_drew (S := fun V => V.cell? ⟨q, 0, none⟩ = some (.pointer (some ⟨b, 0, none⟩)) ∧ V.cell? ⟨w.heap.size, 5, none⟩ = some (.slice px ps.length pc)) (by kernel_rfl) ?_ (fun hHeld => ?_)
  · exact ⟨keepc hdr c0, keepc hdr z5⟩
  refine takeD (i := 0) (v := ?_) 97 rfl rfl (by kernel_rfl) (by kernel_rfl) (by kernel_rfl) (fun _ _ _ h => h) (by assumption) (Or.inl ⟨by rfl, ?_⟩) ?_
  rotate_left
  · intro w hSw
    (try dsimp only at hSw)
    go_simp
    try with_reducible rfl
  simp only [List.setIfInBounds_toArray, List.set_cons_zero, List.set_cons_succ]
  refine takeD (i := 1) (v := ?_) 98 rfl rfl (by kernel_rfl) (by kernel_rfl) (by kernel_rfl) (fun _ _ _ h => h) (by assumption) (Or.inl ⟨by rfl, ?_⟩) ?_
  rotate_left
  · intro w hSw
    (try dsimp only at hSw)
    go_simp
    try with_reducible rfl
  simp only [List.setIfInBounds_toArray, List.set_cons_zero, List.set_cons_succ]
  refine takeD (i := 2) (v := ?_) 99 rfl rfl (by kernel_rfl) (by kernel_rfl) (by kernel_rfl) (fun _ _ _ h => h) (by assumption) (Or.inl ⟨by rfl, ?_⟩) ?_
  rotate_left
  · intro w hSw
    (try dsimp only at hSw)
    go_simp
    try with_reducible rfl
  simp only [List.setIfInBounds_toArray, List.set_cons_zero, List.set_cons_succ]
  refine takeD (i := 3) (v := ?_) 100 rfl rfl (by kernel_rfl) (by kernel_rfl) (by kernel_rfl) (fun _ _ _ h => h) (by assumption) (Or.inl ⟨by rfl, ?_⟩) ?_
  rotate_left
  · intro w hSw
    (try dsimp only at hSw)
    go_simp
    try with_reducible rfl
  simp only [List.setIfInBounds_toArray, List.set_cons_zero, List.set_cons_succ]
  refine takeD (i := 4) (v := ?_) 101 rfl rfl (by kernel_rfl) (by kernel_rfl) (by kernel_rfl) (fun _ _ _ h => h) (by assumption) (Or.inl ⟨by rfl, ?_⟩) ?_
  rotate_left
  · intro w hSw
    (try dsimp only at hSw)
    go_simp
    try with_reducible rfl
  simp only [List.setIfInBounds_toArray, List.set_cons_zero, List.set_cons_succ]
  refine takeD (i := 5) (v := ?_) 102 rfl rfl (by kernel_rfl) (by kernel_rfl) (by kernel_rfl) (fun _ _ _ h => h) (by assumption) (Or.inl ⟨by rfl, ?_⟩) ?_
  rotate_left
  · intro w hSw
    (try dsimp only at hSw)
    go_simp
    try with_reducible rfl
  simp only [List.setIfInBounds_toArray, List.set_cons_zero, List.set_cons_succ]
  refine takeD (i := 6) (v := ?_) 103 rfl rfl (by kernel_rfl) (by kernel_rfl) (by kernel_rfl) (fun _ _ _ h => h) (by assumption) (Or.inl ⟨by rfl, ?_⟩) ?_
  rotate_left
  · intro w hSw
    (try dsimp only at hSw)
    go_simp
    try with_reducible rfl
  simp only [List.setIfInBounds_toArray, List.set_cons_zero, List.set_cons_succ]
  refine takeD (i := 7) (v := ?_) 104 rfl rfl (by kernel_rfl) (by kernel_rfl) (by kernel_rfl) (fun _ _ _ h => h) (by assumption) (Or.inl ⟨by rfl, ?_⟩) ?_
  rotate_left
  · intro w hSw
    (try dsimp only at hSw)
    go_simp
    try with_reducible rfl
  simp only [List.setIfInBounds_toArray, List.set_cons_zero, List.set_cons_succ]
  refine takeD (i := 10) (v := ?_) 107 rfl rfl (by kernel_rfl) (by kernel_rfl) (by kernel_rfl) (fun _ _ _ h => h) (by assumption) (Or.inl ⟨by rfl, ?_⟩) ?_
  rotate_left
  · intro w hSw
    (try dsimp only at hSw)
    go_simp
    try with_reducible rfl
  simp only [List.setIfInBounds_toArray, List.set_cons_zero, List.set_cons_succ]
  refine takeD (i := 11) (v := ?_) 108 rfl rfl (by kernel_rfl) (by kernel_rfl) (by kernel_rfl) (fun _ _ _ h => h) (by assumption) (Or.inl ⟨by rfl, ?_⟩) ?_
  rotate_left
  · intro w hSw
    (try dsimp only at hSw)
    go_simp
    try with_reducible rfl
  simp only [List.setIfInBounds_toArray, List.set_cons_zero, List.set_cons_succ]
  refine wpAnyH_ready (rs := [8]) (by kernel_rfl) (by simp) ?_
  refine AllReadyH.cons (by simp only [List.getElem?_toArray, List.getElem?_cons_succ, List.getElem?_cons_zero]; rfl) (fun K hK => ?_) AllReadyH.nil
  go_simp
  refine hK.out _ _ ?_ (fun hHeldN => ?_)
  · exact hHeld
  clear hK K hHeld
  have hHeld := hHeldN
  clear hHeldN
  (try simp only [Act.put, List.setIfInBounds_toArray, List.set_cons_zero, List.set_cons_succ])
  refine wpAnyH_ready (rs := [9]) (by kernel_rfl) (by simp) ?_
  refine AllReadyH.cons (by simp only [List.getElem?_toArray, List.getElem?_cons_succ, List.getElem?_cons_zero]; rfl) (fun K hK => ?_) AllReadyH.nil
  go_simp
  go_at_call 14; (with_reducible refine (HAT.out _ (HX0.out.sp.below hdr)).mono ?_); rintro e w1 ⟨rfl, hb1⟩
  refine hK.out _ _ ?_ (fun hHeldN => ?_)
  · exact ⟨keepc hb1 hHeld.1, keepc hb1 hHeld.2⟩
  have HB1 := hid (below_t hdr hb1)
  clear hb1
  clear hK K hHeld
  have hHeld := hHeldN
  clear hHeldN
  (try simp only [Act.put, List.setIfInBounds_toArray, List.set_cons_zero, List.set_cons_succ])
  refine wpAnyH_ready (rs := [12]) (by kernel_rfl) (by simp) ?_
  refine AllReadyH.cons (by simp only [List.getElem?_toArray, List.getElem?_cons_succ, List.getElem?_cons_zero]; rfl) (fun K hK => ?_) AllReadyH.nil
  go_simp
  go_at_call 65; (with_reducible refine (HAP.out _ (pairs_below HPI0.out HB1.out)).mono ?_); rintro e w2 ⟨rfl, hb2⟩
  refine hK.out _ _ ?_ (fun hHeldN => ?_)
  · exact ⟨keepc hb2 hHeld.1, keepc hb2 hHeld.2⟩
  have HB2 := hid (below_t HB1.out hb2)
  clear hb2
  clear hK K hHeld
  have hHeld := hHeldN
  clear hHeldN
  (try simp only [Act.put, List.setIfInBounds_toArray, List.set_cons_zero, List.set_cons_succ])
  refine wpAnyH_ready (rs := [13]) (by kernel_rfl) (by simp) ?_
  refine AllReadyH.cons (by simp only [List.getElem?_toArray, List.getElem?_cons_succ, List.getElem?_cons_zero]; rfl) (fun K hK => ?_) AllReadyH.nil
  go_simp
  go_at_call 62; (with_reducible refine (HPU.out _ (HX0.out.below HB2.out)).mono ?_); rintro e w3 ⟨⟨v3, rfl⟩, hw, hm⟩
  refine hK.out _ _ ?_ (fun hHeldN => ?_)
  · exact ⟨hw.c0, cell_moved hm hHeld.2 hbw⟩
  have y0 := cell_moved hm (keepc HB2.out z0) hbw
  have HW := hid hw
  have HM := hid (((Moved.below HBA.out [q, b, g]).trans (Moved.below HB2.out _)).trans hm)
  clear hw hm
  clear hK K hHeld
  have hHeld := hHeldN
  clear hHeldN
  (try simp only [Act.put, List.setIfInBounds_toArray, List.set_cons_zero, List.set_cons_succ])
  refine wpAnyH_done (by kernel_rfl) ?_ _
  clear hHeld
  have c8 := HW.out.c8
  have f8' := HW.out.fr 8
  go_wp2
  go_end0
  exact ⟨⟨_, rfl⟩, by rw [HEX.out]; exact HW.out.wr_ false, HM.out.trans (Moved.set (by simp) 8 _)⟩
theorem lk_far (w : World) (q k o : Nat) (u0 u1 u2 u3 u4 u5 : Value) (h : k ≠ q) : ((((((w.setCell ⟨q, 2, none⟩ u0).setCell ⟨q, 3, none⟩ u1).setCell ⟨q, 4, none⟩ u2).setCell ⟨q, 5, none⟩ u3).setCell ⟨q, 6, none⟩ u4).setCell ⟨q, 7, none⟩ u5).cell? ⟨k, o, none⟩ = w.cell? ⟨k, o, none⟩ := by
  rw [World.cell?_setCell_far _ _ _ _ h.symm, World.cell?_setCell_far _ _ _ _ h.symm, World.cell?_setCell_far _ _ _ _ h.symm, World.cell?_setCell_far _ _ _ _ h.symm, World.cell?_setCell_far _ _ _ _ h.symm, World.cell?_setCell_far _ _ _ _ h.symm]
theorem lk_moved (w : World) (q b g : Nat) (u0 u1 u2 u3 u4 u5 : Value) : Moved w ((((((w.setCell ⟨q, 2, none⟩ u0).setCell ⟨q, 3, none⟩ u1).setCell ⟨q, 4, none⟩ u2).setCell ⟨q, 5, none⟩ u3).setCell ⟨q, 6, none⟩ u4).setCell ⟨q, 7, none⟩ u5) [q, b, g] [q, b, g] := by
  have s := fun (A : World) (i : Nat) (u : Value) => Moved.set (a := A) (S := [q, b, g]) (g := q) (List.mem_cons_self ..) i u
  exact (((((s _ _ _).trans (s _ _ _)).trans (s _ _ _)).trans (s _ _ _)).trans (s _ _ _)).trans (s _ _ _)
set_option maxRecDepth 100000 in
set_option maxHeartbeats 4000000 in
theorem exec_40 (d : OpD) (hk : d.kind = 40) (hx : ExOK x d) (pv tv : Value) (w : World) (h : WrM w q b g x) (hp : PairsIn w pv d.pairs) (ht : OwnB w tv d.text) (hd : ∀ k ∈ blkV tv, k ∉ [q, b, g]) : Calls Tryd.prog 45 #[.pointer (some ⟨q, 0, none⟩), opV d pv tv] w (WrD q b g (execW x d) w) := by
  obtain ⟨kd, ad, cd, gr, fa, ps, tx⟩ := d
  dsimp only at hk hp ht
  subst hk
  have hbw : w.heap.size ∉ [q, b, g] := fun k => by
    have := h.lts _ k
    omega
  obtain ⟨px, pc, rfl, -⟩ := pairs_at hp
  obtain ⟨tx0, tn, tc, rfl⟩ := own_slice ht
  have HOK := hid (applyAll_ok (c := x.lk) (fun p hp => (hx.ps p hp).2) h.lk)
  have HAP := hid (fun W (hW : PairsIn W (.slice px ps.length pc) ps) => applied_any x.lk ps hx.ps hx.pl (.slice px ps.length pc) W hW)
  dsimp only at HOK
  have HX := hid h
  have HPI := hid hp
  have HT := hid ht
  have HD := hid hd
  have hql := h.qlt
  have hqn1 : ¬ q = w.heap.size := by omega
  have hqn2 : ¬ w.heap.size = q := by omega
  clear h hp ht hd
  go_enter Tryd.func45, Tryd.ntmps45
  go_wp2_with fail
  obtain ⟨a0, ha0⟩ : ∃ a0, w.alloc (.cells #[.int .i64 40, .int .i64 ad, .int .u8 cd, .bool gr, .int .u8 fa, .slice px ps.length pc, .slice tx0 tn tc] 93) = a0 := ⟨_, rfl⟩
  have hba : Below w.heap.size w a0 := by rw [← ha0]; exact (Below.refl _ _).alloc (Nat.le_refl _) _
  have z0 : a0.cell? ⟨w.heap.size, 0, none⟩ = some (.int .i64 40) := by rw [← ha0]; simp [go_sem]
  have z1 : a0.cell? ⟨w.heap.size, 1, none⟩ = some (.int .i64 ad) := by rw [← ha0]; simp [go_sem]
  have z2 : a0.cell? ⟨w.heap.size, 2, none⟩ = some (.int .u8 cd) := by rw [← ha0]; simp [go_sem]
  have z3 : a0.cell? ⟨w.heap.size, 3, none⟩ = some (.bool gr) := by rw [← ha0]; simp [go_sem]
  have z4 : a0.cell? ⟨w.heap.size, 4, none⟩ = some (.int .u8 fa) := by rw [← ha0]; simp [go_sem]
  have z5 : a0.cell? ⟨w.heap.size, 5, none⟩ = some (.slice px ps.length pc) := by rw [← ha0]; simp [go_sem]
  have z6 : a0.cell? ⟨w.heap.size, 6, none⟩ = some (.slice tx0 tn tc) := by rw [← ha0]; simp [go_sem]
  simp only [ha0]
  have hsz : a0.heap.size = w.heap.size + 1 := by rw [← ha0]; simp
  have HBA := hid hba
  have HX0 := hid (HX.out.below hba)
  have hdr : Below a0.heap.size a0 a0.drew := (Below.refl _ _).drew
  have c0 := HX0.out.c0
  have c1 := HX0.out.c1
  have f1 := HX0.out.fr 1
  have f8 := HX0.out.fr 8
  clear ha0 hba HX
  have HEX : Hid (execW x ⟨40, ad, cd, gr, fa, ps, tx⟩ = { x with lk := apply_all x.lk ps, wr := false }) := rfl
  generalize apply_all x.lk ps = ca at HAP HOK HEX
  obtain ⟨k0, k1, k2, k3, k4, k5⟩ := ca
  have HPI0 := hid (pairs_below HPI.out HBA.out)
  have e2 := keepc hdr HX0.out.c2
  have e3 := keepc hdr HX0.out.c3
  have e4 := keepc hdr HX0.out.c4
  have e5 := keepc hdr HX0.out.c5
  have e6 := keepc hdr HX0.out.c6
  have e7 := keepc hdr HX0.out.c7
  go_wp2
  refine wp_region_held_drew (S := fun V => V.cell? ⟨w.heap.size, 5, none⟩ = some (.slice px ps.length pc)) (by kernel_rfl) ?_ (fun hHeld => ?_)
  · exact keepc hdr z5
  refine takeD (i := 0) (v := ?_) 113 rfl rfl (by kernel_rfl) (by kernel_rfl) (by kernel_rfl) (fun _ _ _ h => h) (by assumption) (Or.inl ⟨by rfl, ?_⟩) ?_
  rotate_left
  · intro w hSw
    (try dsimp only at hSw)
    go_simp
    try with_reducible rfl
  simp only [List.setIfInBounds_toArray, List.set_cons_zero, List.set_cons_succ]
  refine takeD (i := 1) (v := ?_) 114 rfl rfl (by kernel_rfl) (by kernel_rfl) (by kernel_rfl) (fun _ _ _ h => h) (by assumption) (Or.inl ⟨by rfl, ?_⟩) ?_
  rotate_left
  · intro w hSw
    (try dsimp only at hSw)
    go_simp
    try with_reducible rfl
  simp only [List.setIfInBounds_toArray, List.set_cons_zero, List.set_cons_succ]
  refine takeD (i := 2) (v := ?_) 115 rfl rfl (by kernel_rfl) (by kernel_rfl) (by kernel_rfl) (fun _ _ _ h => h) (by assumption) (Or.inl ⟨by rfl, ?_⟩) ?_
  rotate_left
  · intro w hSw
    (try dsimp only at hSw)
    go_simp
    try with_reducible rfl
  simp only [List.setIfInBounds_toArray, List.set_cons_zero, List.set_cons_succ]
  refine takeD (i := 3) (v := ?_) 116 rfl rfl (by kernel_rfl) (by kernel_rfl) (by kernel_rfl) (fun _ _ _ h => h) (by assumption) (Or.inl ⟨by rfl, ?_⟩) ?_
  rotate_left
  · intro w hSw
    (try dsimp only at hSw)
    go_simp
    try with_reducible rfl
  simp only [List.setIfInBounds_toArray, List.set_cons_zero, List.set_cons_succ]
  refine takeD (i := 5) (v := ?_) 118 rfl rfl (by kernel_rfl) (by kernel_rfl) (by kernel_rfl) (fun _ _ _ h => h) (by assumption) (Or.inl ⟨by rfl, ?_⟩) ?_
  rotate_left
  · intro w hSw
    (try dsimp only at hSw)
    go_simp
    try with_reducible rfl
  simp only [List.setIfInBounds_toArray, List.set_cons_zero, List.set_cons_succ]
  refine takeD (i := 6) (v := ?_) 119 rfl rfl (by kernel_rfl) (by kernel_rfl) (by kernel_rfl) (fun _ _ _ h => h) (by assumption) (Or.inl ⟨by rfl, ?_⟩) ?_
  rotate_left
  · intro w hSw
    (try dsimp only at hSw)
    go_simp
    try with_reducible rfl
  simp only [List.setIfInBounds_toArray, List.set_cons_zero, List.set_cons_succ]
  refine wpAnyH_ready (rs := [4]) (by kernel_rfl) (by simp) ?_
  refine AllReadyH.cons (by simp only [List.getElem?_toArray, List.getElem?_cons_succ, List.getElem?_cons_zero]; rfl) (fun K hK => ?_) AllReadyH.nil
  go_simp
  refine hK.out _ _ ?_ (fun hHeldN => ?_)
  · exact hHeld
  clear hK K hHeld
  have hHeld := hHeldN
  clear hHeldN
  (try simp only [Act.put, List.setIfInBounds_toArray, List.set_cons_zero, List.set_cons_succ])
  refine wpAnyH_ready (rs := [7]) (by kernel_rfl) (by simp) ?_
  refine AllReadyH.cons (by simp only [List.getElem?_toArray, List.getElem?_cons_succ, List.getElem?_cons_zero]; rfl) (fun K hK => ?_) AllReadyH.nil
  go_simp
  go_at_call 65; (with_reducible refine (HAP.out _ (pairs_below HPI0.out hdr)).mono ?_); rintro e w2 ⟨rfl, hb2⟩
  refine hK.out _ _ ?_ (fun hHeldN => ?_)
  · exact keepc hb2 hHeld
  have HB2 := hid (below_t hdr hb2)
  clear hb2
  have HX2 := hid (HX0.out.below HB2.out)
  have d2 := HX2.out.c2
  have d3 := HX2.out.c3
  have d4 := HX2.out.c4
  have d5 := HX2.out.c5
  have d6 := HX2.out.c6
  have d7 := HX2.out.c7
  have g2 := HX2.out.fr 2
  have g3 := HX2.out.fr 3
  have g4 := HX2.out.fr 4
  have g5 := HX2.out.fr 5
  have g6 := HX2.out.fr 6
  have g7 := HX2.out.fr 7
  have y0 := keepc HB2.out z0
  have y5 := keepc HB2.out z5
  have HLK := hid ((HX2.out.lk_ HOK.out))
  dsimp only at HLK
  clear hK K hHeld
  have hHeld := hHeldN
  clear hHeldN
  (try simp only [Act.put, List.setIfInBounds_toArray, List.set_cons_zero, List.set_cons_succ])
  refine takeD (i := 8) (v := ?_) 121 rfl rfl (by kernel_rfl) (by kernel_rfl) (by kernel_rfl) (fun _ _ _ h => h) (by assumption) (Or.inl ⟨by rfl, ?_⟩) ?_
  rotate_left
  · intro w hSw
    (try dsimp only at hSw)
    go_simp
    try with_reducible rfl
  simp only [List.setIfInBounds_toArray, List.set_cons_zero, List.set_cons_succ]
  refine takeD (i := 9) (v := ?_) 122 rfl rfl (by kernel_rfl) (by kernel_rfl) (by kernel_rfl) (fun _ _ _ h => h) (by assumption) (Or.inl ⟨by rfl, ?_⟩) ?_
  rotate_left
  · intro w hSw
    (try dsimp only at hSw)
    go_simp
    try with_reducible rfl
  simp only [List.setIfInBounds_toArray, List.set_cons_zero, List.set_cons_succ]
  refine wpAnyH_ready (rs := [10]) (by kernel_rfl) (by simp) ?_
  refine AllReadyH.cons (by simp only [List.getElem?_toArray, List.getElem?_cons_succ, List.getElem?_cons_zero]; rfl) (fun K hK => ?_) AllReadyH.nil
  go_simp
  refine hK.out _ _ ?_ (fun hHeldN => ?_)
  · exact (lk_far _ _ _ _ _ _ _ _ _ _ (Ne.symm hqn1)).trans y5
  clear hK K hHeld
  have hHeld := hHeldN
  clear hHeldN
  (try simp only [Act.put, List.setIfInBounds_toArray, List.set_cons_zero, List.set_cons_succ])
  refine wpAnyH_done (by kernel_rfl) ?_ _
  clear hHeld
  have z0' := (lk_far w2 q w.heap.size 0 (.int .u8 k0) (.bool k1) (.int .u8 k2) (.int .u8 k3) (.int .u8 k4) (.int .u8 k5) (Ne.symm hqn1)).trans y0
  have HM := hid (((Moved.below HBA.out [q, b, g]).trans (Moved.below HB2.out _)).trans (lk_moved w2 q b g (.int .u8 k0) (.bool k1) (.int .u8 k2) (.int .u8 k3) (.int .u8 k4) (.int .u8 k5)))
  generalize ((((((w2.setCell ⟨q, 2, none⟩ (.int .u8 k0)).setCell ⟨q, 3, none⟩ (.bool k1)).setCell ⟨q, 4, none⟩ (.int .u8 k2)).setCell ⟨q, 5, none⟩ (.int .u8 k3)).setCell ⟨q, 6, none⟩ (.int .u8 k4)).setCell ⟨q, 7, none⟩ (.int .u8 k5)) = W at z0' HM HLK ⊢
  have HW := HLK
  clear HLK
  have c8 := HW.out.c8
  have f8' := HW.out.fr 8
  go_wp2
  go_end0
  exact ⟨⟨_, rfl⟩, by rw [HEX.out]; exact HW.out.wr_ false, HM.out.trans (Moved.set (by simp) 8 _)⟩
set_option maxRecDepth 100000 in
set_option maxHeartbeats 4000000 in
theorem exec_0 (d : OpD) (hk : d.kind = 0) (hx : ExOK x d) (pv tv : Value) (w : World) (h : WrM w q b g x) (hp : PairsIn w pv d.pairs) (ht : OwnB w tv d.text) (hd : ∀ k ∈ blkV tv, k ∉ [q, b, g]) : Calls Tryd.prog 45 #[.pointer (some ⟨q, 0, none⟩), opV d pv tv] w (WrD q b g (execW x d) w) := by
  obtain ⟨kd, ad, cd, gr, fa, ps, tx⟩ := d
  dsimp only at hk hp ht
  subst hk
  have hbw : w.heap.size ∉ [q, b, g] := fun k => by
    have := h.lts _ k
    omega
  obtain ⟨px, pc, rfl, -⟩ := pairs_at hp
  obtain ⟨tx0, tn, tc, rfl⟩ := own_slice ht
  have hx0 := hx.t0 rfl
  dsimp only at hx0
  have htl : tx.length ≤ 100000 := hx.tl
  have HTX := hid hx.tx
  dsimp only at HTX
  have HX := hid h
  have HPI := hid hp
  have HT := hid ht
  have HD := hid hd
  have hql := h.qlt
  have hqn1 : ¬ q = w.heap.size := by omega
  have hqn2 : ¬ w.heap.size = q := by omega
  clear h hp ht hd
  go_enter Tryd.func45, Tryd.ntmps45
  go_wp2_with fail
  obtain ⟨a0, ha0⟩ : ∃ a0, w.alloc (.cells #[.int .i64 0, .int .i64 ad, .int .u8 cd, .bool gr, .int .u8 fa, .slice px ps.length pc, .slice tx0 tn tc] 93) = a0 := ⟨_, rfl⟩
  have hba : Below w.heap.size w a0 := by rw [← ha0]; exact (Below.refl _ _).alloc (Nat.le_refl _) _
  have z0 : a0.cell? ⟨w.heap.size, 0, none⟩ = some (.int .i64 0) := by rw [← ha0]; simp [go_sem]
  have z1 : a0.cell? ⟨w.heap.size, 1, none⟩ = some (.int .i64 ad) := by rw [← ha0]; simp [go_sem]
  have z2 : a0.cell? ⟨w.heap.size, 2, none⟩ = some (.int .u8 cd) := by rw [← ha0]; simp [go_sem]
  have z3 : a0.cell? ⟨w.heap.size, 3, none⟩ = some (.bool gr) := by rw [← ha0]; simp [go_sem]
  have z4 : a0.cell? ⟨w.heap.size, 4, none⟩ = some (.int .u8 fa) := by rw [← ha0]; simp [go_sem]
  have z5 : a0.cell? ⟨w.heap.size, 5, none⟩ = some (.slice px ps.length pc) := by rw [← ha0]; simp [go_sem]
  have z6 : a0.cell? ⟨w.heap.size, 6, none⟩ = some (.slice tx0 tn tc) := by rw [← ha0]; simp [go_sem]
  simp only [ha0]
  have hsz : a0.heap.size = w.heap.size + 1 := by rw [← ha0]; simp
  have HBA := hid hba
  have HX0 := hid (HX.out.below hba)
  have hdr : Below a0.heap.size a0 a0.drew := (Below.refl _ _).drew
  have c0 := HX0.out.c0
  have c1 := HX0.out.c1
  have f1 := HX0.out.fr 1
  have f8 := HX0.out.fr 8
  clear ha0 hba HX
  have HEX : Hid (execW x ⟨0, ad, cd, gr, fa, ps, tx⟩ = { textW x tx with wr := true }) := rfl
  obtain ⟨tg, tcap, hte, htc1, htc2, htg⟩ := HT.out.slice hx0
  have HTE := hid hte
  simp only [Value.slice.injEq] at hte
  obtain ⟨rfl, rfl, rfl⟩ := hte
  have htb : tg ∉ [q, b, g] := HD.out tg (by simp [blkV, Value.ownBlock])
  have HT0 := hid (HT.out.step HBA.out)
  obtain ⟨N, hN⟩ : ∃ N, tx.length = N := ⟨_, rfl⟩
  have HN := hid hN
  rw [hN] at htl htc1 z6 ⊢
  have htm : N ≤ tc := htc1
  clear hN HTE HT htg
  clear c1 f1 f8 z1 z2 z3 z4 z5
  go_wp2
  go_loopw [13] (fun i wr => ∃ k : Nat, k ≤ N ∧ i = .int .i64 k ∧ Hid (WrM wr q b g (textW x (tx.take k))) ∧ Hid (wr.cell? ⟨w.heap.size, 0, none⟩ = some (.int .i64 0)) ∧ Hid (OwnB wr (.slice (some ⟨tg, 0, none⟩) tx.length tc) tx) ∧ Hid (Moved w wr [q, b, g] [q, b, g])) (fun i _ => N - (intOf i).toNat)
  case atStart => exact ⟨0, Nat.zero_le _, rfl, HX0, z0, HT0, Moved.below HBA.out _⟩
  case round =>
    obtain ⟨k, hk, rfl, HW, HZ, HO, HM⟩ := hrel
    by_cases hlt : k < N
    · have hkx : k < tx.length := by rw [HN.out]; exact hlt
      have e0 := HO.out.at k hkx
      have HTK := hid (textW_take x tx k hkx)
      obtain ⟨cc, hcc⟩ : ∃ cc, tx.getD k 0 = cc := ⟨_, rfl⟩
      rw [hcc] at e0 HTK
      have hcu : U8 cc := by
        rw [← hcc, List.getD, List.getElem?_eq_getElem hkx]
        exact HTX.out _ (List.getElem_mem hkx)
      obtain ⟨y, hy⟩ : ∃ y, textW x (tx.take k) = y := ⟨_, rfl⟩
      rw [hy] at HW HTK
      have HCH := hid (fun W (hW : WrM W q b g y) => char_any cc false W hW)
      have HPU := hid (fun W (hW : WrM W q b g y) => putw_any (charC y.lk cc false) (charC_ok hW.lk hcu false) W hW)
      clear hcc hcu hy
      go_wp2_with fail
      with_reducible refine (HCH.out _ HW.out).mono ?_
      rintro e w1 ⟨rfl, hb1⟩
      have HB1 := hid hb1
      clear hb1
      go_wp2_with fail
      with_reducible refine (HPU.out _ (HW.out.below HB1.out)).mono ?_
      rintro e w2 ⟨⟨v2, rfl⟩, hw, hm⟩
      have HW2 := hid hw
      have HZ2 := hid (cell_moved hm (keepc HB1.out HZ.out) hbw)
      have HO2 := hid ((HO.out.step HB1.out).moved hm (fun k hk => by
        have : k = tg := by simpa [blkV, Value.ownBlock] using hk
        rw [this]
        exact htb))
      have HM2 := hid ((HM.out.trans (Moved.below HB1.out _)).trans hm)
      clear hw hm
      go_wp2
      go_roundw
      case rel => exact ⟨k + 1, by omega, by go_num, by rw [HTK.out]; exact HW2, HZ2, HO2, HM2⟩
      case measure => simp [intOf]; omega
    · obtain rfl : k = N := by omega
      have HW1 : Hid (WrM wr q b g (textW x tx)) := by
        have := HW.out
        rwa [List.take_of_length_le (by rw [HN.out]; exact Nat.le_refl _)] at this
      have zz := HZ.out
      have c8 := HW1.out.c8
      have f8 := HW1.out.fr 8
      clear HW
      go_wp2
      go_end0
      exact ⟨⟨_, rfl⟩, by rw [HEX.out]; exact HW1.out.wr_ true, HM.out.trans (Moved.set (by simp) 8 _)⟩
/-- Any order. -/
theorem exec_any (d : OpD) (hk : d.kind ∈ [0, 5, 8, 17, 18, 19, 29, 40, 41, 44, 60]) (hx : ExOK x d) (pv tv : Value) (w : World) (h : WrM w q b g x) (hp : PairsIn w pv d.pairs) (ht : OwnB w tv d.text) (hd : ∀ k ∈ blkV tv, k ∉ [q, b, g]) : Calls Tryd.prog 45 #[.pointer (some ⟨q, 0, none⟩), opV d pv tv] w (WrD q b g (execW x d) w) := by
  simp only [List.mem_cons, List.not_mem_nil, or_false] at hk
  rcases hk with e | e | e | e | e | e | e | e | e | e | e
  · exact exec_0 d e hx pv tv w h hp ht hd
  · exact exec_5 d e hx pv tv w h hp ht hd
  · exact exec_8 d e hx pv tv w h hp ht hd
  · exact exec_17 d e hx pv tv w h hp ht
  · exact exec_18 d e hx pv tv w h hp ht hd
  · exact exec_19 d e hx pv tv w h hp ht hd
  · exact exec_29 d e hx pv tv w h hp ht hd
  · exact exec_40 d e hx pv tv w h hp ht hd
  · exact exec_41 d e hx pv tv w h hp ht hd
  · exact exec_44 d e hx pv tv w h hp ht hd
  · exact exec_60 d e hx pv tv w h hp ht hd
end
end Go.Proofs.YtdampfngdnicoaaDoor
