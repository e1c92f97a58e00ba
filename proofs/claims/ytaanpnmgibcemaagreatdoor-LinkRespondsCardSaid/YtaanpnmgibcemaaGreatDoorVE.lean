/-
  The law's lay.
-/
import Derived.Test.YtaanpnmgibcemaaGreatDoorVD
namespace Go.Proofs.YtaanpnmgibcemaaGreatDoor
open Go.RowKit Go.Lib Go.Deep

/-- A link, or none. -/
def NewA (T D : ByteArray) (fs : List Int) (b : Bool) (w : World) (e : Ending) (w' : World) : Prop := ∃ p, e = .returned (.tuple #[.pointer p, .int .i64 (cfErr T D fs)]) ∧ Below w.heap.size w w' ∧ (cfErr T D fs = 0 → ∃ L y, p = some ⟨L, 0, none⟩ ∧ LkM w' L (cfOf T D fs b) y Lk.new ∧ ∀ k ∈ y.foot L, w.heap.size ≤ k)
def LayD (T D : ByteArray) (fs : List Int) (b : Bool) (w : World) (e : Ending) (w' : World) : Prop := ∃ p v z, e = .returned (.tuple #[.pointer p, v, .int .i64 (cfErr T D fs), z]) ∧ Below w.heap.size w w' ∧ (cfErr T D fs = 0 → ∃ L y, p = some ⟨L, 0, none⟩ ∧ LkM w' L (cfOf T D fs b) y Lk.new ∧ ∀ k ∈ y.foot L, w.heap.size ≤ k)
section
variable {w : World}
theorem lnew_all (T D : ByteArray) (x : Option Addr) (c : Nat) (fs : List Int) (b : Bool) (hr : OwnB w (.slice x fs.length c) fs) (hl : fs.length ≤ 1000) (hT : T.size ≤ 1000) (hD : D.size ≤ 1000) : Calls Tryz.prog 32 #[.agg #[.string T, .string D, .slice x fs.length c, .bool b]] w (NewA T D fs b w) := by
  by_cases h : cfErr T D fs = 0
  · refine (lnew_ok T D x fs.length c fs b w hr.rdg rfl hl hT hD h).mono ?_
    rintro e w' ⟨L, y, rfl, h1, h2, h3⟩
    exact ⟨_, by rw [h], h2, fun _ => ⟨L, y, rfl, h1, h3⟩⟩
  · refine (lnew_no T D x fs.length c fs b w hr.rdg rfl hl hT hD h).mono ?_
    rintro e w' ⟨rfl, h2⟩
    exact ⟨none, rfl, h2, fun q => absurd q h⟩
set_option maxRecDepth 100000 in
set_option maxHeartbeats 4000000 in
theorem lay_any (T D : ByteArray) (x : Option Addr) (n c : Nat) (fs : List Int) (b : Bool) (hr : Reads w (.slice x n c) fs) (hT : T.size ≤ maxLen) (hD : D.size ≤ maxLen) : Calls Tryz.prog 10 #[.agg #[.string T, .string D, .slice x n c], .bool b] w (LayD (Ng.cutS T 45) (Ng.cutS D 45) (fs.take 8) b w) := by
  have HF := hid (fun W (hb : Below w.heap.size w W) => Ng.few_any T D x n c fs W (reads_below hr hb) hT hD)
  have hT2 : (Ng.cutS T 45).size ≤ 1000 := Nat.le_trans (Ng.cutS_size T 45) (by decide)
  have hD2 : (Ng.cutS D 45).size ≤ 1000 := Nat.le_trans (Ng.cutS_size D 45) (by decide)
  have hl2 : (fs.take 8).length ≤ 8 := by rw [List.length_take]; omega
  unfold Ng.FewD at HF
  generalize Ng.cutS T 45 = T2 at HF hT2 ⊢
  generalize Ng.cutS D 45 = D2 at HF hD2 ⊢
  generalize fs.take 8 = fs2 at HF hl2 ⊢
  have HNW := hid (fun W x c (h : OwnB W (.slice x fs2.length c) fs2) => lnew_all (w := W) T2 D2 x c fs2 b h (by omega) hT2 hD2)
  have HRN := hid (fun W x n c (h : OwnB W (.slice x n c) fs2) (hn : n = fs2.length) => rf11new_any (w := W) (T := T2) (D := D2) h hn (by omega) hT2 hD2 b)
  obtain ⟨er, her⟩ : ∃ er, cfErr T2 D2 fs2 = er := ⟨_, rfl⟩
  have HER := hid her
  unfold NewA at HNW
  unfold LayD
  rw [her] at HNW HRN ⊢
  clear hr hT hD hT2 hD2 her
  go_enter Tryz.func10, Tryz.ntmps10
  go_wp2_with fail
  with_reducible refine (HF.out _ (bal (Below.refl _ _) _)).mono ?_
  rintro e w1 ⟨v, rfl, ho, hb1, hk1⟩
  obtain ⟨x2, c2, rfl⟩ := own_len ho _ rfl
  have HO := hid ho
  obtain ⟨n2, hn2⟩ : ∃ n2, fs2.length = n2 := ⟨_, rfl⟩
  rw [hn2] at HO hk1
  have HN2 := hid hn2
  have z0 : w1.cell? ⟨w.heap.size, 0, none⟩ = some (.string T) := keepc hb1 (by simp [go_sem])
  have z1 : w1.cell? ⟨w.heap.size, 1, none⟩ = some (.string D) := keepc hb1 (by simp [go_sem])
  have z2 : w1.cell? ⟨w.heap.size, 2, none⟩ = some (.slice x n c) := keepc hb1 (by simp [go_sem])
  have hl0 : w.heap.size < (w.alloc (.cells #[.string T, .string D, .slice x n c] 24)).heap.size := by simp
  have f0 : w1.frozen? ⟨w.heap.size, 0, none⟩ = false := (hb1.frozen hl0).trans (by simp [go_sem])
  have f1 : w1.frozen? ⟨w.heap.size, 1, none⟩ = false := (hb1.frozen hl0).trans (by simp [go_sem])
  have f2 : w1.frozen? ⟨w.heap.size, 2, none⟩ = false := (hb1.frozen hl0).trans (by simp [go_sem])
  have hlw := World.block_lt_of_cell? w1 _ z0
  obtain ⟨y0, y1, y2, hbw⟩ := Ng.put3_end z0 z1 z2 (below_t (bal (Below.refl w.heap.size w) _) hb1) (Nat.le_refl _) (.string T2) (.string D2) (.slice x2 n2 c2)
  obtain ⟨W2, hW2⟩ : ∃ W2, Ng.put3 w1 w.heap.size (.string T2) (.string D2) (.slice x2 n2 c2) = W2 := ⟨_, rfl⟩
  have hmv : Moved w1 W2 [w.heap.size] [w.heap.size] := by
    rw [← hW2]
    exact ((Moved.set (by simp) 0 _).trans (Moved.set (by simp) 1 _)).trans (Moved.set (by simp) 2 _)
  rw [hW2] at y0 y1 y2 hbw
  have HBW := hid hbw
  have hO2 : OwnB W2 (.slice x2 n2 c2) fs2 := HO.out.moved hmv (fun b q f => by
    have := hk1 b q
    simp at f this
    omega)
  have HO2 := hid hO2
  have HCP := hid (fun V (hb : Below W2.heap.size W2 V) => copy_any _ fs2 V (reads_below hO2.reads hb) (by omega))
  have hlw2 := World.block_lt_of_cell? W2 _ y0
  unfold Ng.put3 at hW2
  rw [hn2]
  go_wp2_with fail
  clear z0 z1 z2 f0 f1 f2 hlw ho hb1 hk1 hmv hO2 hl0 HO hn2
  (try rw [hW2])
  refine wp_region_held_drew (S := fun V => V.cell? ⟨w.heap.size, 0, none⟩ = some (.string T2) ∧ V.cell? ⟨w.heap.size, 1, none⟩ = some (.string D2) ∧ V.cell? ⟨w.heap.size, 2, none⟩ = some (.slice x2 n2 c2) ∧ Below W2.heap.size W2 V) (by kernel_rfl) ?_ (fun hHeld => ?_)
  · have hdr : Below W2.heap.size W2 W2.drew := (Below.refl _ _).drew
    exact ⟨keepc hdr y0, keepc hdr y1, keepc hdr y2, hdr⟩
  refine takeD (i := 0) (v := ?_) 15 rfl rfl (by kernel_rfl) (by kernel_rfl) (by kernel_rfl) (fun _ _ _ h => h) (by assumption) (Or.inl ⟨by rfl, ?_⟩) ?_
  rotate_left
  · intro w hSw
    (try dsimp only at hSw)
    go_simp
    try with_reducible rfl
  simp only [List.setIfInBounds_toArray, List.set_cons_zero, List.set_cons_succ]
  refine takeD (i := 1) (v := ?_) 16 rfl rfl (by kernel_rfl) (by kernel_rfl) (by kernel_rfl) (fun _ _ _ h => h) (by assumption) (Or.inl ⟨by rfl, ?_⟩) ?_
  rotate_left
  · intro w hSw
    (try dsimp only at hSw)
    go_simp
    try with_reducible rfl
  simp only [List.setIfInBounds_toArray, List.set_cons_zero, List.set_cons_succ]
  refine takeD (i := 2) (v := ?_) 17 rfl rfl (by kernel_rfl) (by kernel_rfl) (by kernel_rfl) (fun _ _ _ h => h) (by assumption) (Or.inl ⟨by rfl, ?_⟩) ?_
  rotate_left
  · intro w hSw
    (try dsimp only at hSw)
    go_simp
    try with_reducible rfl
  simp only [List.setIfInBounds_toArray, List.set_cons_zero, List.set_cons_succ]
  refine takeD (i := 3) (v := ?_) 18 rfl rfl (by kernel_rfl) (by kernel_rfl) (by kernel_rfl) (fun _ _ _ h => h) (by assumption) (Or.inl ⟨by rfl, ?_⟩) ?_
  rotate_left
  · intro w hSw
    (try dsimp only at hSw)
    go_simp
    try with_reducible rfl
  simp only [List.setIfInBounds_toArray, List.set_cons_zero, List.set_cons_succ]
  refine takeD (i := 4) (v := ?_) 19 rfl rfl (by kernel_rfl) (by kernel_rfl) (by kernel_rfl) (fun _ _ _ h => h) (by assumption) (Or.inl ⟨by rfl, ?_⟩) ?_
  rotate_left
  · intro w hSw
    (try dsimp only at hSw)
    go_simp
    try with_reducible rfl
  simp only [List.setIfInBounds_toArray, List.set_cons_zero, List.set_cons_succ]
  refine takeD (i := 5) (v := ?_) 20 rfl rfl (by kernel_rfl) (by kernel_rfl) (by kernel_rfl) (fun _ _ _ h => h) (by assumption) (Or.inl ⟨by rfl, ?_⟩) ?_
  rotate_left
  · intro w hSw
    (try dsimp only at hSw)
    go_simp
    try with_reducible rfl
  simp only [List.setIfInBounds_toArray, List.set_cons_zero, List.set_cons_succ]
  refine takeD (i := 7) (v := ?_) 22 rfl rfl (by kernel_rfl) (by kernel_rfl) (by kernel_rfl) (fun _ _ _ h => h) (by assumption) (Or.inl ⟨by rfl, ?_⟩) ?_
  rotate_left
  · intro w hSw
    (try dsimp only at hSw)
    go_simp
    try with_reducible rfl
  simp only [List.setIfInBounds_toArray, List.set_cons_zero, List.set_cons_succ]
  refine wpAnyH_ready (rs := [6]) (by kernel_rfl) (by simp) ?_
  refine AllReadyH.cons (by simp only [List.getElem?_toArray, List.getElem?_cons_succ, List.getElem?_cons_zero]; rfl) (fun K hK => ?_) AllReadyH.nil
  go_simp
  go_at_call 30; (with_reducible refine (HCP.out _ hHeld.2.2.2).mono ?_); rintro e w3 ⟨v3, rfl, hr3, hb3, ho3, -⟩
  obtain ⟨x3, c3, rfl⟩ := own_len (show OwnB w3 v3 fs2 from ⟨hr3.1, ho3.mono (Nat.zero_le _)⟩) _ rfl
  have HO3 := hid (show OwnB w3 (.slice x3 fs2.length c3) fs2 from ⟨hr3.1, ho3.mono (Nat.zero_le _)⟩)
  have HK3 := hid (show w3.cell? ⟨w.heap.size, 0, none⟩ = some (.string T2) ∧ w3.cell? ⟨w.heap.size, 1, none⟩ = some (.string D2) ∧ w3.cell? ⟨w.heap.size, 2, none⟩ = some (.slice x2 n2 c2) ∧ Below W2.heap.size W2 w3 from ⟨keepc hb3 hHeld.1, keepc hb3 hHeld.2.1, keepc hb3 hHeld.2.2.1, below_t hHeld.2.2.2 hb3⟩)
  clear hr3 hb3 ho3
  refine hK.out _ _ ?_ (fun hHeldN => ?_)
  · exact HK3.out
  clear hK K hHeld
  have hHeld := hHeldN
  clear hHeldN
  (try simp only [Act.put, List.setIfInBounds_toArray, List.set_cons_zero, List.set_cons_succ])
  refine takeD (i := 8) (v := ?_) 23 rfl rfl (by kernel_rfl) (by kernel_rfl) (by kernel_rfl) (fun _ _ _ h => h) (by assumption) (Or.inl ⟨by rfl, ?_⟩) ?_
  rotate_left
  · intro w hSw
    (try dsimp only at hSw)
    go_simp
    try with_reducible rfl
  simp only [List.setIfInBounds_toArray, List.set_cons_zero, List.set_cons_succ]
  refine wpAnyH_ready (rs := [9]) (by kernel_rfl) (by simp) ?_
  refine AllReadyH.cons (by simp only [List.getElem?_toArray, List.getElem?_cons_succ, List.getElem?_cons_zero]; rfl) (fun K hK => ?_) AllReadyH.nil
  go_simp
  go_at_call 32; (with_reducible refine (HNW.out _ _ _ HO3.out).mono ?_); rintro e w4 ⟨p4, rfl, hb4, hok4⟩
  have HOK4 := hid hok4
  have HB4 := hid (below_t HK3.out.2.2.2 hb4)
  have HK4 := hid (show w4.cell? ⟨w.heap.size, 0, none⟩ = some (.string T2) ∧ w4.cell? ⟨w.heap.size, 1, none⟩ = some (.string D2) ∧ w4.cell? ⟨w.heap.size, 2, none⟩ = some (.slice x2 n2 c2) ∧ Below W2.heap.size W2 w4 from ⟨keepc hb4 HK3.out.1, keepc hb4 HK3.out.2.1, keepc hb4 HK3.out.2.2.1, HB4.out⟩)
  have HW34 := hid (show w.heap.size ≤ w3.heap.size from Nat.le_trans HBW.out.size HK3.out.2.2.2.size)
  clear hok4 hb4
  refine hK.out _ _ ?_ (fun hHeldN => ?_)
  · exact HK4.out
  clear hK K hHeld
  have hHeld := hHeldN
  clear hHeldN
  (try simp only [Act.put, List.setIfInBounds_toArray, List.set_cons_zero, List.set_cons_succ])
  refine takeD (i := 10) (v := ?_) 14 rfl rfl (by kernel_rfl) (by kernel_rfl) (by kernel_rfl) (fun _ _ _ h => h) (by assumption) (Or.inl ⟨by rfl, ?_⟩) ?_
  rotate_left
  · intro w hSw
    (try dsimp only at hSw)
    go_simp
    try with_reducible rfl
  simp only [List.setIfInBounds_toArray, List.set_cons_zero, List.set_cons_succ]
  refine takeD (i := 11) (v := ?_) 25 rfl rfl (by kernel_rfl) (by kernel_rfl) (by kernel_rfl) (fun _ _ _ h => h) (by assumption) (Or.inl ⟨by rfl, ?_⟩) ?_
  rotate_left
  · intro w hSw
    (try dsimp only at hSw)
    go_simp
    try with_reducible rfl
  simp only [List.setIfInBounds_toArray, List.set_cons_zero, List.set_cons_succ]
  refine takeD (i := 12) (v := ?_) 26 rfl rfl (by kernel_rfl) (by kernel_rfl) (by kernel_rfl) (fun _ _ _ h => h) (by assumption) (Or.inl ⟨by rfl, ?_⟩) ?_
  rotate_left
  · intro w hSw
    (try dsimp only at hSw)
    go_simp
    try with_reducible rfl
  simp only [List.setIfInBounds_toArray, List.set_cons_zero, List.set_cons_succ]
  refine takeD (i := 13) (v := ?_) 8 rfl rfl (by kernel_rfl) (by kernel_rfl) (by kernel_rfl) (fun _ _ _ h => h) (by assumption) (Or.inl ⟨by rfl, ?_⟩) ?_
  rotate_left
  · intro w hSw
    (try dsimp only at hSw)
    go_simp
    try with_reducible rfl
  simp only [List.setIfInBounds_toArray, List.set_cons_zero, List.set_cons_succ]
  refine takeD (i := 14) (v := ?_) 9 rfl rfl (by kernel_rfl) (by kernel_rfl) (by kernel_rfl) (fun _ _ _ h => h) (by assumption) (Or.inl ⟨by rfl, ?_⟩) ?_
  rotate_left
  · intro w hSw
    (try dsimp only at hSw)
    go_simp
    try with_reducible rfl
  simp only [List.setIfInBounds_toArray, List.set_cons_zero, List.set_cons_succ]
  refine wpAnyH_done (by kernel_rfl) ?_ _
  clear hHeld
  obtain ⟨k0, k1, k2, kb⟩ := HK4.out
  have hlk := World.block_lt_of_cell? w4 _ k0
  have HR5 := hid (HRN.out w4 x2 n2 c2 (HO2.out.step HB4.out) HN2.out.symm)
  have HB5 := hid (below_t HBW.out HB4.out)
  clear kb
  go_wp2_with fail
  with_reducible refine HR5.out.mono ?_
  rintro e w6 ⟨p6, rfl, hb6⟩
  have HB6 := hid (below_t HB5.out hb6)
  have HL6 := hid (show er = 0 → ∃ L y, p4 = some ⟨L, 0, none⟩ ∧ LkM w6 L (cfOf T2 D2 fs2 b) y Lk.new ∧ ∀ k ∈ y.foot L, w.heap.size ≤ k from fun q => by
    obtain ⟨L, y, h1, h2, h3⟩ := HOK4.out q
    exact ⟨L, y, h1, h2.step hb6, fun k hk => Nat.le_trans HW34.out (h3 k hk)⟩)
  clear hb6
  go_wp2
  exact bodyPost_ret (v := .tuple #[.pointer p4, .pointer p6, .int .i64 er, .int .i64 er]) (by simp [results, Tryz.results10, go_sem]) rfl ⟨_, _, _, rfl, HB6.out, HL6.out⟩
end
end Go.Proofs.YtaanpnmgibcemaaGreatDoor
