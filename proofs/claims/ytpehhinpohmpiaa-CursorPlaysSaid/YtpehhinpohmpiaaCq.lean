/-
  What differs between two spaces of the same cells: nothing.
-/
import Derived.Test.YtpehhinpohmpiaaCn
namespace Go.Proofs.Ytpehhinpohmpiaa
open Go.RowKit Go.Lib Go.Deep
section
attribute [local go_sem] Oper.semAt_some
set_option maxRecDepth 100000 in
set_option maxHeartbeats 8000000 in
theorem diff_same (n : Nat) (hn : 6 ≤ n) (b g b' g' : Nat) (s t : Spc) (w : World) (h : SpM w b g s) (k : SpM w b' g' t) (er : t.r = s.r) (ec : t.c = s.c) (eL : t.L = s.L) :
    CallsIn Fence.wide n Try.prog 46 #[.pointer (some ⟨b, 0, none⟩), .pointer (some ⟨b', 0, none⟩)] w fun e w' => e = .returned (.slice none 0 0) ∧ Below w.heap.size w w' := by
  have hN := h.ok.pos.2
  have HS := hid (show ∀ V, Below w.heap.size w V → SpM V b g s from fun V hV => h.below hV)
  have HK := hid (show ∀ V, Below w.heap.size w V → SpM V b' g' t from fun V hV => k.below hV)
  have HSN := hid (fun W (hb : Below w.heap.size w W) => (show Calls Try.prog 79 #[.pointer (some ⟨b, 0, none⟩)] W fun e w' => e = .returned (.agg #[.int .i64 s.r, .int .i64 s.c]) ∧ Below W.heap.size W w' from size_any W (h.below hb)))
  have HSZ := hid (fun W (hb : Below w.heap.size w W) => (show Calls Try.prog 79 #[.pointer (some ⟨b', 0, none⟩)] W fun e w' => e = .returned (.agg #[.int .i64 s.r, .int .i64 s.c]) ∧ Below W.heap.size W w' from by
    have q := size_any W (k.below hb)
    rwa [er, ec] at q))
  have HAT := hid (fun (q : Nat) (hq : q < s.L.length) W (hb : Below w.heap.size w W) => (show Calls Try.prog 20 #[.pointer (some ⟨b', 0, none⟩), .int .i64 q] W fun e w' => e = .returned (s.cel q).v ∧ Below W.heap.size W w' from by
    have q1 := at_any (b := b') (g := g') (s := t) (q : Int) (i64_small (by omega) (by omega)) W (k.below hb)
    unfold Spc.atC at q1
    rw [wr_nat (by rw [eL]; exact hq)] at q1
    have e1 : t.cel q = s.cel q := by unfold Spc.cel; rw [eL]
    rwa [e1] at q1))
  generalize s.r = R at HSN HSZ
  generalize s.c = C at HSN HSZ
  clear h k er ec eL
  refine callsIn_of_wp_marks Try.func46 rfl trivial ?_ rfl
  simp only [Try.ntmps46, List.size_toArray, List.length_cons, List.length_nil, Nat.reduceAdd, Nat.reduceSub, Array.replicate_succ, Array.replicate_zero, List.push_toArray, List.append_toArray, List.nil_append, List.cons_append]
  gi_wp2
  obtain ⟨w0, hw0⟩ : ∃ w0, w.alloc (.cells #[.pointer (some ⟨b', 0, none⟩)] 25) = w0 := ⟨_, rfl⟩
  have hz : w0.heap.size = w.heap.size + 1 := by rw [← hw0]; simp
  have hb0 : Below w.heap.size w w0 := by rw [← hw0]; exact bal (Below.refl _ _) _
  have hc0 : w0.cell? ⟨w.heap.size, 0, none⟩ = some (.pointer (some ⟨b', 0, none⟩)) := by rw [← hw0]; simp [go_sem]
  rw [hw0]
  have HC := hid hc0
  have HB0 := hid hb0
  have HZ := hid hz
  have hl0 : w.heap.size < w0.heap.size := World.block_lt_of_cell? w0 _ hc0
  clear hz hb0 hw0 hc0
  refine wpIn_of_wpN ?_
  refine wp_region_held_drew (S := fun V => V.cell? ⟨w.heap.size, 0, none⟩ = some (.pointer (some ⟨b', 0, none⟩)) ∧ Below w0.heap.size w0 V) (by kernel_rfl) ?_ (fun hHeld => ?_)
  · have hdr : Below w0.heap.size w0 w0.drew := (Below.refl _ _).drew
    exact ⟨keepc hdr HC.out, hdr⟩
  refine takeD (i := 0) (v := ?_) 9 rfl rfl (by kernel_rfl) (by kernel_rfl) (by kernel_rfl) (fun _ _ _ h => h) (by assumption) (Or.inl ⟨by rfl, ?_⟩) ?_
  rotate_left
  · intro w hSw
    (try dsimp only at hSw)
    go_simp
    try with_reducible rfl
  simp only [List.setIfInBounds_toArray, List.set_cons_zero, List.set_cons_succ]
  refine takeD (i := 2) (v := ?_) 11 rfl rfl (by kernel_rfl) (by kernel_rfl) (by kernel_rfl) (fun _ _ _ h => h) (by assumption) (Or.inl ⟨by rfl, ?_⟩) ?_
  rotate_left
  · intro w hSw
    (try dsimp only at hSw)
    go_simp
    try with_reducible rfl
  simp only [List.setIfInBounds_toArray, List.set_cons_zero, List.set_cons_succ]
  refine wpAnyH_ready (rs := [1, 5]) (by kernel_rfl) (by simp) ?_
  refine AllReadyH.cons (by simp only [List.getElem?_toArray, List.getElem?_cons_succ, List.getElem?_cons_zero]; rfl) (fun K hK => ?_) <| AllReadyH.cons (by simp only [List.getElem?_toArray, List.getElem?_cons_succ, List.getElem?_cons_zero]; rfl) (fun K hK => ?_) <| AllReadyH.nil
  · go_simp
    go_at_call 79; (with_reducible refine (HSN.out _ (below_t HB0.out hHeld.2)).mono ?_); rintro e w1 ⟨rfl, hb1⟩
    refine hK.out _ _ ?_ (fun hHeldN => ?_)
    · exact ⟨keepc hb1 hHeld.1, below_t hHeld.2 hb1⟩
    clear hK K hHeld
    have hHeld := hHeldN
    clear hHeldN
    (try simp only [Act.put, List.setIfInBounds_toArray, List.set_cons_zero, List.set_cons_succ])
    have hs1 : w0.heap.size ≤ w1.heap.size := hHeld.2.size
    refine wpAnyH_ready (rs := [3, 5]) (by kernel_rfl) (by simp) ?_
    refine AllReadyH.cons (by simp only [List.getElem?_toArray, List.getElem?_cons_succ, List.getElem?_cons_zero]; rfl) (fun K hK => ?_) <| AllReadyH.cons (by simp only [List.getElem?_toArray, List.getElem?_cons_succ, List.getElem?_cons_zero]; rfl) (fun K hK => ?_) <| AllReadyH.nil
    · go_simp
      go_at_call 79; (with_reducible refine (HSZ.out _ (below_t HB0.out hHeld.2)).mono ?_); rintro e w2 ⟨rfl, hb2⟩
      refine hK.out _ _ ?_ (fun hHeldN => ?_)
      · exact ⟨keepc hb2 hHeld.1, below_t hHeld.2 hb2⟩
      clear hK K hHeld
      have hHeld := hHeldN
      clear hHeldN
      (try simp only [Act.put, List.setIfInBounds_toArray, List.set_cons_zero, List.set_cons_succ])
      refine takeD (i := 4) (v := ?_) 13 rfl rfl (by kernel_rfl) (by kernel_rfl) (by kernel_rfl) (fun _ _ _ h => h) (by assumption) (Or.inl ⟨by rfl, ?_⟩) ?_
      rotate_left
      · intro w hSw
        (try dsimp only at hSw)
        go_simp
        try with_reducible rfl
      simp only [List.setIfInBounds_toArray, List.set_cons_zero, List.set_cons_succ]
      refine wpAnyH_ready (rs := [5]) (by kernel_rfl) (by simp) ?_
      refine AllReadyH.cons (by simp only [List.getElem?_toArray, List.getElem?_cons_succ, List.getElem?_cons_zero]; rfl) (fun K hK => ?_) <| AllReadyH.nil
      have hH0 := hHeld
      go_simp
      refine hK.out _ _ ?_ (fun hHeldN => ?_)
      · exact ⟨keepc (bal (Below.refl _ _) _) hHeld.1, bal hHeld.2 _⟩
      clear hK K hHeld
      have hHeld := hHeldN
      clear hHeldN
      (try simp only [Act.put, List.setIfInBounds_toArray, List.set_cons_zero, List.set_cons_succ])
      have hA : (w2.alloc (.cells #[.bool false] 4)).cell? ⟨w2.heap.size, 0, none⟩ = some (.bool false) := by simp [go_sem]
      have hlA := World.block_lt_of_cell? _ _ hA
      have hF : (w2.alloc (.cells #[.bool false] 4)).frozen? ⟨w2.heap.size, 0, none⟩ = false := by simp [go_sem]
      refine wpAnyH_ready (rs := [6]) (by kernel_rfl) (by simp) ?_
      refine AllReadyH.cons (by simp only [List.getElem?_toArray, List.getElem?_cons_succ, List.getElem?_cons_zero]; rfl) (fun K hK => ?_) AllReadyH.nil
      go_simp
      refine hK.out _ _ ?_ (fun hHeldN => ?_)
      · exact ⟨keepc (bal (Below.refl _ _) _) hH0.1, bal hH0.2 _⟩
      clear hK K hHeld
      have hHeld := hHeldN
      clear hHeldN
      (try simp only [Act.put, List.setIfInBounds_toArray, List.set_cons_zero, List.set_cons_succ])
      refine wpAnyH_done (by kernel_rfl) ?_ _
      have HE := hid hHeld
      clear hHeld
      dsimp only [OnlyN]
      have HA5 := hid (show (w2.alloc (.cells #[.bool false] 4)).cell? ⟨w2.heap.size, 0, none⟩ = some (.bool false) from by simp [go_sem])
      obtain ⟨X, hX⟩ : ∃ X, (w2.alloc (.cells #[.bool false] 4)) = X := ⟨_, rfl⟩
      rw [hX] at HA5 HE ⊢
      clear hX
      obtain ⟨A5, hA5⟩ : ∃ A5, w2.heap.size = A5 := ⟨_, rfl⟩
      rw [hA5] at HA5 ⊢
      have HX := hid (show Below w.heap.size w X from HB0.out.trans (HE.out.2.mono HB0.out.size))
      have HC1 := hid HE.out.1
      clear HE hA5
      gi_wp2
      refine ⟨trivial, fun _ => (by omega), ?_⟩
      refine (callsIn_wide.2 (all_any b _)).mono ?_
      rintro e w3 ⟨bs, rfl, hbs, hcs, hb3⟩
      have o1 : w3.cell? ⟨X.heap.size, 0, none⟩ = some (.slice none 0 0) := keepc hb3 (by simp [go_sem])
      have hb4 : Below X.heap.size X w3 := blw hb3
      obtain ⟨XS, hXS⟩ : ∃ XS, X.heap.size = XS := ⟨_, rfl⟩
      have HI0 := hid (show w3.cell? ⟨bs, 0, none⟩ = some (.pointer (some ⟨b, 0, none⟩)) ∧ w3.cell? ⟨w.heap.size, 0, none⟩ = some (.pointer (some ⟨b', 0, none⟩)) ∧ w3.cell? ⟨A5, 0, none⟩ = some (.bool false) ∧ w3.cell? ⟨XS, 0, none⟩ = some (.slice none 0 0) ∧ Below w.heap.size w w3 from ⟨hcs, keepc hb4 HC1.out, keepc hb4 HA5.out, by rw [← hXS]; exact o1, below_t HX.out hb4⟩)
      rw [hXS]
      have hlz : w.heap.size ≤ w3.heap.size := HI0.out.2.2.2.2.size
      clear hb3 hb4 hcs o1 hbs hXS
      gi_wp2
      refine rangeFunc_seq (n := n) (w := w3) rfl (by omega) (gf := 141) (lb := #[.pointer (some ⟨bs, 0, none⟩)]) rfl trivial (enters_of Try.func141 (by kernel_rfl) rfl)
        (encs := encA) (fun _ => rfl) (el := elA b s.L.length) (N := s.L.length) (R := RA bs b s.L.length)
        (fun k _ V => V.cell? ⟨bs, 0, none⟩ = some (.pointer (some ⟨b, 0, none⟩)) ∧ V.cell? ⟨w.heap.size, 0, none⟩ = some (.pointer (some ⟨b', 0, none⟩)) ∧ V.cell? ⟨A5, 0, none⟩ = some (.bool false) ∧ V.cell? ⟨XS, 0, none⟩ = some (.slice none 0 0) ∧ Below w.heap.size w V)
        (fun _ _ _ _ => False) ?hI ?hIx ?hR HI0.out
        (fun k S x a V => (∃ cb, x = (k, s.cel k) ∧ Six V cb (s.cel k) ∧ a = { tmps := #[.pointer (some ⟨b, 0, none⟩), .pointer (some ⟨b', 0, none⟩), undef, .pointer (some ⟨w.heap.size, 0, none⟩), .slice none 0 0, .pointer (some ⟨A5, 0, none⟩), .pointer (some ⟨XS, 0, none⟩), .int .i64 k, .pointer (some ⟨cb, 0, none⟩), .pointer (some ⟨b, 0, none⟩), .agg #[.int .i64 R, .int .i64 C], .pointer (some ⟨b', 0, none⟩), .agg #[.int .i64 R, .int .i64 C], .bool false, .pointer (some ⟨b, 0, none⟩), .func (.func 141) #[] #[.pointer (some ⟨bs, 0, none⟩)], .int .i64 k, (s.cel k).v, undef, undef, undef, undef, undef, undef, undef, undef, undef, undef, undef, undef, undef], defers := [] }) ∧ (V.cell? ⟨bs, 0, none⟩ = some (.pointer (some ⟨b, 0, none⟩)) ∧ V.cell? ⟨w.heap.size, 0, none⟩ = some (.pointer (some ⟨b', 0, none⟩)) ∧ V.cell? ⟨A5, 0, none⟩ = some (.bool false) ∧ V.cell? ⟨XS, 0, none⟩ = some (.slice none 0 0) ∧ Below w.heap.size w V)) ?hAx ?assign ?body ?iter ?done ?stop
      case hI => exact fun k S A C hg ⟨h1, h2, h3, h4, h5⟩ => ⟨cell_grow hg h1, cell_grow hg h2, cell_grow hg h3, cell_grow hg h4, below_grow h5 hg hlz (Nat.le_refl _)⟩
      case hIx => exact fun c k S A C hg h => h.elim
      case hR => exact fun k S V h => ⟨h.1, g, s, HS.out V h.2.2.2.2, rfl⟩
      case hAx => exact fun k S x a A C hg ⟨⟨cb, h01, h02, h03⟩, h1, h2, h3, h4, h5⟩ => ⟨⟨cb, h01, h02.grow hg, h03⟩, cell_grow hg h1, cell_grow hg h2, cell_grow hg h3, cell_grow hg h4, below_grow h5 hg hlz (Nat.le_refl _)⟩
      case iter => exact fun o1 o2 _ _ => all_seq (n - 1) (by omega) bs b s.L.length hN _
      case assign =>
        rintro l' k x S V KK hk hx1 hi hsz hK
        obtain rfl := elA_is (HS.out V hi.2.2.2.2) rfl hx1 hk
        have HK := hid hK
        have HI := hid hi
        clear hK hi hx1
        obtain ⟨c, hc⟩ : ∃ c, s.cel k = c := ⟨_, rfl⟩
        have hg := Grow.alloc V (.cells #[.int .u8 c.ch, .bool c.at_, .int .u8 c.fa, .int .u8 c.hi, .int .u8 c.co, .int .u8 c.se] 30) w3.heap.size
        have HN := hid (show Six (V.alloc (.cells #[.int .u8 c.ch, .bool c.at_, .int .u8 c.fa, .int .u8 c.hi, .int .u8 c.co, .int .u8 c.se] 30)) V.heap.size (s.cel k) from by rw [hc]; exact six_box V _ _ _ _ _ _ _)
        have HG := hid hg
        have HV := hid (show (s.cel k).v = c.v by rw [hc])
        clear hg
        rw [show encA (k, s.cel k) = #[.int .i64 k, c.v] by rw [← hc]]
        rw [HV.out] at HK
        clear hc
        obtain ⟨x0, x1, x2, x3, x4, x5⟩ := c
        gi_wp2
        obtain ⟨h1, h2, h3, h4, h5⟩ := HI.out
        refine HK.out _ _ (Touch.alloc V _ _ S) ⟨⟨V.heap.size, trivial, HN.out, ?_⟩, cell_grow HG.out h1, cell_grow HG.out h2, cell_grow HG.out h3, cell_grow HG.out h4, below_grow h5 HG.out hlz (Nat.le_refl _)⟩
        rfl
      case body =>
        rintro l' k x S a' V hk ⟨⟨cb, rfl, h6, rfl⟩, hJ⟩ hsz
        have HATk := hid (fun W (hb : Below V.heap.size V W) => HAT.out k hk W (below_t hJ.2.2.2.2 hb))
        obtain ⟨c, hc⟩ : ∃ c, s.cel k = c := ⟨_, rfl⟩
        rw [hc] at h6 HATk ⊢
        clear hc
        obtain ⟨x0, x1, x2, x3, x4, x5⟩ := c
        obtain ⟨z0, z1, z2, z3, z4, z5⟩ := h6
        dsimp only at z0 z1 z2 z3 z4 z5
        have HJ := hid hJ
        obtain ⟨-, j2, j3, -, -⟩ := hJ
        obtain ⟨V0, hV0⟩ : ∃ V0, V.drew = V0 := ⟨_, rfl⟩
        have HBV := hid (show Below V.heap.size V V0 by rw [← hV0]; exact (Below.refl _ _).drew)
        have z0 := keepc HBV.out z0
        have z1 := keepc HBV.out z1
        have z2 := keepc HBV.out z2
        have z3 := keepc HBV.out z3
        have z4 := keepc HBV.out z4
        have z5 := keepc HBV.out z5
        have j2 := keepc HBV.out j2
        have j3 := keepc HBV.out j3
        have l2 := World.block_lt_of_cell? _ _ j2
        have l3 := World.block_lt_of_cell? _ _ j3
        have lz := World.block_lt_of_cell? _ _ z0
        gi_wp2
        refine wpIn_region_round (by kernel_rfl) (by kernel_rfl) ?_
        rw [hV0]
        refine wpAnyIn_ready (rs := [0]) (by kernel_rfl) (by simp) ?_
        refine AllReadyIn.cons (by simp only [List.getElem?_toArray, List.getElem?_cons_zero]; rfl) (fun K hK => ?_) AllReadyIn.nil
        · go_simp
          refine hK _ _ ?_
          clear hK K
          (try simp only [Act.put, List.setIfInBounds_toArray, List.set_cons_zero, List.set_cons_succ])
          refine wpAnyIn_take (i := 1) (v := .bool false) (fuel := 6) rfl rfl (by kernel_rfl) (by kernel_rfl) (by kernel_rfl) (fun _ _ _ h => h) ⟨Or.inl ⟨by rfl, fun w => ?_⟩, fun _ => rfl⟩ ?_
          · go_simp
            try with_reducible rfl
          simp only [Act.put, List.setIfInBounds_toArray, List.set_cons_zero, List.set_cons_succ]
          refine wpAnyIn_take (i := 4) (v := .int .i64 k) (fuel := 5) rfl rfl (by kernel_rfl) (by kernel_rfl) (by kernel_rfl) (fun _ _ _ h => h) ⟨Or.inl ⟨by rfl, fun w => ?_⟩, fun _ => rfl⟩ ?_
          · go_simp
            try with_reducible rfl
          simp only [Act.put, List.setIfInBounds_toArray, List.set_cons_zero, List.set_cons_succ]
          refine wpAnyIn_ready (rs := [2, 3]) (by kernel_rfl) (by simp) ?_
          refine AllReadyIn.cons (by simp only [List.getElem?_toArray, List.getElem?_cons_succ, List.getElem?_cons_zero]; rfl) (fun K hK => ?_) (AllReadyIn.cons (by simp only [List.getElem?_toArray, List.getElem?_cons_succ, List.getElem?_cons_zero]; rfl) (fun K hK => ?_) AllReadyIn.nil)
          · go_simp
            refine hK _ _ ?_
            clear hK K
            (try simp only [Act.put, List.setIfInBounds_toArray, List.set_cons_zero, List.set_cons_succ])
            refine wpAnyIn_ready (rs := [3]) (by kernel_rfl) (by simp) ?_
            refine AllReadyIn.cons (by simp only [List.getElem?_toArray, List.getElem?_cons_succ, List.getElem?_cons_zero]; rfl) (fun K hK => ?_) AllReadyIn.nil
            · go_simp
              refine hK _ _ ?_
              clear hK K
              (try simp only [Act.put, List.setIfInBounds_toArray, List.set_cons_zero, List.set_cons_succ])
              refine wpAnyIn_ready (rs := [5]) (by kernel_rfl) (by simp) ?_
              refine AllReadyIn.cons (by simp only [List.getElem?_toArray, List.getElem?_cons_succ, List.getElem?_cons_zero]; rfl) (fun K hK => ?_) AllReadyIn.nil
              · go_simp
                refine ⟨trivial, fun _ => (by omega), ?_⟩
                refine (callsIn_wide.2 (HATk.out _ HBV.out)).mono ?_
                rintro e w4 ⟨rfl, hb4⟩
                refine hK _ _ ?_
                clear hK K
                have HB4 := hid (below_t HBV.out hb4)
                have y0 := keepc hb4 z0
                have y1 := keepc hb4 z1
                have y2 := keepc hb4 z2
                have y3 := keepc hb4 z3
                have y4 := keepc hb4 z4
                have y5 := keepc hb4 z5
                have ly := World.block_lt_of_cell? _ _ y0
                clear hb4
                (try simp only [Act.put, List.setIfInBounds_toArray, List.set_cons_zero, List.set_cons_succ])
                refine wpAnyIn_take (i := 6) (v := .bool false) (fuel := 1) rfl rfl (by kernel_rfl) (by kernel_rfl) (by kernel_rfl) (fun _ _ _ h => h) ⟨Or.inl ⟨by rfl, fun w => ?_⟩, fun _ => rfl⟩ ?_
                · go_simp
                  try with_reducible rfl
                simp only [Act.put, List.setIfInBounds_toArray, List.set_cons_zero, List.set_cons_succ]
                refine wpAnyIn_take (i := 7) (v := .bool false) (fuel := 0) rfl rfl (by kernel_rfl) (by kernel_rfl) (by kernel_rfl) (fun _ _ _ h => h) ⟨Or.inl ⟨by rfl, fun w => ?_⟩, fun _ => rfl⟩ ?_
                · go_simp
                  try with_reducible rfl
                simp only [Act.put, List.setIfInBounds_toArray, List.set_cons_zero, List.set_cons_succ]
                refine wpAnyIn_done (by kernel_rfl) ?_ _
                gi_wp2
                obtain ⟨j1, j2, j3, j4, j5⟩ := HJ.out
                have hb := HB4.out
                exact ⟨S, Touch.below hb _ S, keepc hb j1, keepc hb j2, keepc hb j3, keepc hb j4, below_t j5 hb⟩
          · go_simp
            refine hK _ _ ?_
            clear hK K
            (try simp only [Act.put, List.setIfInBounds_toArray, List.set_cons_zero, List.set_cons_succ])
            refine wpAnyIn_ready (rs := [2, 5]) (by kernel_rfl) (by simp) ?_
            refine AllReadyIn.cons (by simp only [List.getElem?_toArray, List.getElem?_cons_succ, List.getElem?_cons_zero]; rfl) (fun K hK => ?_) (AllReadyIn.cons (by simp only [List.getElem?_toArray, List.getElem?_cons_succ, List.getElem?_cons_zero]; rfl) (fun K hK => ?_) AllReadyIn.nil)
            · go_simp
              refine hK _ _ ?_
              clear hK K
              (try simp only [Act.put, List.setIfInBounds_toArray, List.set_cons_zero, List.set_cons_succ])
              refine wpAnyIn_ready (rs := [5]) (by kernel_rfl) (by simp) ?_
              refine AllReadyIn.cons (by simp only [List.getElem?_toArray, List.getElem?_cons_succ, List.getElem?_cons_zero]; rfl) (fun K hK => ?_) AllReadyIn.nil
              · go_simp
                refine ⟨trivial, fun _ => (by omega), ?_⟩
                refine (callsIn_wide.2 (HATk.out _ HBV.out)).mono ?_
                rintro e w4 ⟨rfl, hb4⟩
                refine hK _ _ ?_
                clear hK K
                have HB4 := hid (below_t HBV.out hb4)
                have y0 := keepc hb4 z0
                have y1 := keepc hb4 z1
                have y2 := keepc hb4 z2
                have y3 := keepc hb4 z3
                have y4 := keepc hb4 z4
                have y5 := keepc hb4 z5
                have ly := World.block_lt_of_cell? _ _ y0
                clear hb4
                (try simp only [Act.put, List.setIfInBounds_toArray, List.set_cons_zero, List.set_cons_succ])
                refine wpAnyIn_take (i := 6) (v := .bool false) (fuel := 1) rfl rfl (by kernel_rfl) (by kernel_rfl) (by kernel_rfl) (fun _ _ _ h => h) ⟨Or.inl ⟨by rfl, fun w => ?_⟩, fun _ => rfl⟩ ?_
                · go_simp
                  try with_reducible rfl
                simp only [Act.put, List.setIfInBounds_toArray, List.set_cons_zero, List.set_cons_succ]
                refine wpAnyIn_take (i := 7) (v := .bool false) (fuel := 0) rfl rfl (by kernel_rfl) (by kernel_rfl) (by kernel_rfl) (fun _ _ _ h => h) ⟨Or.inl ⟨by rfl, fun w => ?_⟩, fun _ => rfl⟩ ?_
                · go_simp
                  try with_reducible rfl
                simp only [Act.put, List.setIfInBounds_toArray, List.set_cons_zero, List.set_cons_succ]
                refine wpAnyIn_done (by kernel_rfl) ?_ _
                gi_wp2
                obtain ⟨j1, j2, j3, j4, j5⟩ := HJ.out
                have hb := HB4.out
                exact ⟨S, Touch.below hb _ S, keepc hb j1, keepc hb j2, keepc hb j3, keepc hb j4, below_t j5 hb⟩
            · go_simp
              refine ⟨trivial, fun _ => (by omega), ?_⟩
              refine (callsIn_wide.2 (HATk.out _ HBV.out)).mono ?_
              rintro e w4 ⟨rfl, hb4⟩
              refine hK _ _ ?_
              clear hK K
              have HB4 := hid (below_t HBV.out hb4)
              have y0 := keepc hb4 z0
              have y1 := keepc hb4 z1
              have y2 := keepc hb4 z2
              have y3 := keepc hb4 z3
              have y4 := keepc hb4 z4
              have y5 := keepc hb4 z5
              have ly := World.block_lt_of_cell? _ _ y0
              clear hb4
              (try simp only [Act.put, List.setIfInBounds_toArray, List.set_cons_zero, List.set_cons_succ])
              refine wpAnyIn_ready (rs := [2]) (by kernel_rfl) (by simp) ?_
              refine AllReadyIn.cons (by simp only [List.getElem?_toArray, List.getElem?_cons_succ, List.getElem?_cons_zero]; rfl) (fun K hK => ?_) AllReadyIn.nil
              · go_simp
                refine hK _ _ ?_
                clear hK K
                (try simp only [Act.put, List.setIfInBounds_toArray, List.set_cons_zero, List.set_cons_succ])
                refine wpAnyIn_take (i := 6) (v := .bool false) (fuel := 1) rfl rfl (by kernel_rfl) (by kernel_rfl) (by kernel_rfl) (fun _ _ _ h => h) ⟨Or.inl ⟨by rfl, fun w => ?_⟩, fun _ => rfl⟩ ?_
                · go_simp
                  try with_reducible rfl
                simp only [Act.put, List.setIfInBounds_toArray, List.set_cons_zero, List.set_cons_succ]
                refine wpAnyIn_take (i := 7) (v := .bool false) (fuel := 0) rfl rfl (by kernel_rfl) (by kernel_rfl) (by kernel_rfl) (fun _ _ _ h => h) ⟨Or.inl ⟨by rfl, fun w => ?_⟩, fun _ => rfl⟩ ?_
                · go_simp
                  try with_reducible rfl
                simp only [Act.put, List.setIfInBounds_toArray, List.set_cons_zero, List.set_cons_succ]
                refine wpAnyIn_done (by kernel_rfl) ?_ _
                gi_wp2
                obtain ⟨j1, j2, j3, j4, j5⟩ := HJ.out
                have hb := HB4.out
                exact ⟨S, Touch.below hb _ S, keepc hb j1, keepc hb j2, keepc hb j3, keepc hb j4, below_t j5 hb⟩
      case done =>
        rintro D S V hD ⟨_, _, _, h4, h5⟩ hK
        have hlt := World.block_lt_of_cell? V _ h4
        have HK := hid hK
        have HB := hid h5
        clear hK h5
        gi_wp2
        refine ⟨by simp, .inl ⟨_, _, rfl, run_takeDeferred HK.out, ?_⟩⟩
        have hg := Grow.put (m := w3.heap.size) (.deferred none) hD HK.out rfl
        exact ⟨.slice none 0 0, by simp [results, Try.f46, go_sem], rfl, below_grow HB.out hg hlz (Nat.le_refl _)⟩
      case stop => exact fun _ _ _ _ _ _ _ h => h.elim
    · go_simp
      refine hK.out _ _ ?_ (fun hHeldN => ?_)
      · exact ⟨keepc (bal (Below.refl _ _) _) hHeld.1, bal hHeld.2 _⟩
      clear hK K hHeld
      have hHeld := hHeldN
      clear hHeldN
      (try simp only [Act.put, List.setIfInBounds_toArray, List.set_cons_zero, List.set_cons_succ])
      have hA : (w1.alloc (.cells #[.bool false] 4)).cell? ⟨w1.heap.size, 0, none⟩ = some (.bool false) := by simp [go_sem]
      have hlA := World.block_lt_of_cell? _ _ hA
      have hF : (w1.alloc (.cells #[.bool false] 4)).frozen? ⟨w1.heap.size, 0, none⟩ = false := by simp [go_sem]
      refine wpAnyH_ready (rs := [3]) (by kernel_rfl) (by simp) ?_
      refine AllReadyH.cons (by simp only [List.getElem?_toArray, List.getElem?_cons_succ, List.getElem?_cons_zero]; rfl) (fun K hK => ?_) <| AllReadyH.nil
      go_simp
      go_at_call 79; (with_reducible refine (HSZ.out _ (below_t HB0.out hHeld.2)).mono ?_); rintro e w2 ⟨rfl, hb2⟩
      refine hK.out _ _ ?_ (fun hHeldN => ?_)
      · exact ⟨keepc hb2 hHeld.1, below_t hHeld.2 hb2⟩
      clear hK K hHeld
      have hHeld := hHeldN
      clear hHeldN
      (try simp only [Act.put, List.setIfInBounds_toArray, List.set_cons_zero, List.set_cons_succ])
      have hA2 := keepc hb2 hA
      have hF2 := (hb2.frozen hlA).trans hF
      clear hA hF
      have hl2 := World.block_lt_of_cell? _ _ hA2
      refine takeD (i := 4) (v := ?_) 13 rfl rfl (by kernel_rfl) (by kernel_rfl) (by kernel_rfl) (fun _ _ _ h => h) (by assumption) (Or.inl ⟨by rfl, ?_⟩) ?_
      rotate_left
      · intro w hSw
        (try dsimp only at hSw)
        go_simp
        try with_reducible rfl
      simp only [List.setIfInBounds_toArray, List.set_cons_zero, List.set_cons_succ]
      refine wpAnyH_ready (rs := [6]) (by kernel_rfl) (by simp) ?_
      refine AllReadyH.cons (by simp only [List.getElem?_toArray, List.getElem?_cons_succ, List.getElem?_cons_zero]; rfl) (fun K hK => ?_) AllReadyH.nil
      go_simp
      refine hK.out _ _ ?_ (fun hHeldN => ?_)
      · exact ⟨(World.cell?_setCell_far _ _ _ _ (by simp; omega)).trans hHeld.1, hHeld.2.sc _ _ _ (by omega)⟩
      clear hK K hHeld
      have hHeld := hHeldN
      clear hHeldN
      (try simp only [Act.put, List.setIfInBounds_toArray, List.set_cons_zero, List.set_cons_succ])
      refine wpAnyH_done (by kernel_rfl) ?_ _
      have HE := hid hHeld
      clear hHeld
      dsimp only [OnlyN]
      have HA5 := hid (show (w2.setCell ⟨w1.heap.size, 0, none⟩ (.bool false)).cell? ⟨w1.heap.size, 0, none⟩ = some (.bool false) from sc_same hA2)
      obtain ⟨X, hX⟩ : ∃ X, (w2.setCell ⟨w1.heap.size, 0, none⟩ (.bool false)) = X := ⟨_, rfl⟩
      rw [hX] at HA5 HE ⊢
      clear hX
      obtain ⟨A5, hA5⟩ : ∃ A5, w1.heap.size = A5 := ⟨_, rfl⟩
      rw [hA5] at HA5 ⊢
      have HX := hid (show Below w.heap.size w X from HB0.out.trans (HE.out.2.mono HB0.out.size))
      have HC1 := hid HE.out.1
      clear HE hA5
      gi_wp2
      refine ⟨trivial, fun _ => (by omega), ?_⟩
      refine (callsIn_wide.2 (all_any b _)).mono ?_
      rintro e w3 ⟨bs, rfl, hbs, hcs, hb3⟩
      have o1 : w3.cell? ⟨X.heap.size, 0, none⟩ = some (.slice none 0 0) := keepc hb3 (by simp [go_sem])
      have hb4 : Below X.heap.size X w3 := blw hb3
      obtain ⟨XS, hXS⟩ : ∃ XS, X.heap.size = XS := ⟨_, rfl⟩
      have HI0 := hid (show w3.cell? ⟨bs, 0, none⟩ = some (.pointer (some ⟨b, 0, none⟩)) ∧ w3.cell? ⟨w.heap.size, 0, none⟩ = some (.pointer (some ⟨b', 0, none⟩)) ∧ w3.cell? ⟨A5, 0, none⟩ = some (.bool false) ∧ w3.cell? ⟨XS, 0, none⟩ = some (.slice none 0 0) ∧ Below w.heap.size w w3 from ⟨hcs, keepc hb4 HC1.out, keepc hb4 HA5.out, by rw [← hXS]; exact o1, below_t HX.out hb4⟩)
      rw [hXS]
      have hlz : w.heap.size ≤ w3.heap.size := HI0.out.2.2.2.2.size
      clear hb3 hb4 hcs o1 hbs hXS
      gi_wp2
      refine rangeFunc_seq (n := n) (w := w3) rfl (by omega) (gf := 141) (lb := #[.pointer (some ⟨bs, 0, none⟩)]) rfl trivial (enters_of Try.func141 (by kernel_rfl) rfl)
        (encs := encA) (fun _ => rfl) (el := elA b s.L.length) (N := s.L.length) (R := RA bs b s.L.length)
        (fun k _ V => V.cell? ⟨bs, 0, none⟩ = some (.pointer (some ⟨b, 0, none⟩)) ∧ V.cell? ⟨w.heap.size, 0, none⟩ = some (.pointer (some ⟨b', 0, none⟩)) ∧ V.cell? ⟨A5, 0, none⟩ = some (.bool false) ∧ V.cell? ⟨XS, 0, none⟩ = some (.slice none 0 0) ∧ Below w.heap.size w V)
        (fun _ _ _ _ => False) ?hI ?hIx ?hR HI0.out
        (fun k S x a V => (∃ cb, x = (k, s.cel k) ∧ Six V cb (s.cel k) ∧ a = { tmps := #[.pointer (some ⟨b, 0, none⟩), .pointer (some ⟨b', 0, none⟩), undef, .pointer (some ⟨w.heap.size, 0, none⟩), .slice none 0 0, .pointer (some ⟨A5, 0, none⟩), .pointer (some ⟨XS, 0, none⟩), .int .i64 k, .pointer (some ⟨cb, 0, none⟩), .pointer (some ⟨b, 0, none⟩), .agg #[.int .i64 R, .int .i64 C], .pointer (some ⟨b', 0, none⟩), .agg #[.int .i64 R, .int .i64 C], .bool false, .pointer (some ⟨b, 0, none⟩), .func (.func 141) #[] #[.pointer (some ⟨bs, 0, none⟩)], .int .i64 k, (s.cel k).v, undef, undef, undef, undef, undef, undef, undef, undef, undef, undef, undef, undef, undef], defers := [] }) ∧ (V.cell? ⟨bs, 0, none⟩ = some (.pointer (some ⟨b, 0, none⟩)) ∧ V.cell? ⟨w.heap.size, 0, none⟩ = some (.pointer (some ⟨b', 0, none⟩)) ∧ V.cell? ⟨A5, 0, none⟩ = some (.bool false) ∧ V.cell? ⟨XS, 0, none⟩ = some (.slice none 0 0) ∧ Below w.heap.size w V)) ?hAx ?assign ?body ?iter ?done ?stop
      case hI => exact fun k S A C hg ⟨h1, h2, h3, h4, h5⟩ => ⟨cell_grow hg h1, cell_grow hg h2, cell_grow hg h3, cell_grow hg h4, below_grow h5 hg hlz (Nat.le_refl _)⟩
      case hIx => exact fun c k S A C hg h => h.elim
      case hR => exact fun k S V h => ⟨h.1, g, s, HS.out V h.2.2.2.2, rfl⟩
      case hAx => exact fun k S x a A C hg ⟨⟨cb, h01, h02, h03⟩, h1, h2, h3, h4, h5⟩ => ⟨⟨cb, h01, h02.grow hg, h03⟩, cell_grow hg h1, cell_grow hg h2, cell_grow hg h3, cell_grow hg h4, below_grow h5 hg hlz (Nat.le_refl _)⟩
      case iter => exact fun o1 o2 _ _ => all_seq (n - 1) (by omega) bs b s.L.length hN _
      case assign =>
        rintro l' k x S V KK hk hx1 hi hsz hK
        obtain rfl := elA_is (HS.out V hi.2.2.2.2) rfl hx1 hk
        have HK := hid hK
        have HI := hid hi
        clear hK hi hx1
        obtain ⟨c, hc⟩ : ∃ c, s.cel k = c := ⟨_, rfl⟩
        have hg := Grow.alloc V (.cells #[.int .u8 c.ch, .bool c.at_, .int .u8 c.fa, .int .u8 c.hi, .int .u8 c.co, .int .u8 c.se] 30) w3.heap.size
        have HN := hid (show Six (V.alloc (.cells #[.int .u8 c.ch, .bool c.at_, .int .u8 c.fa, .int .u8 c.hi, .int .u8 c.co, .int .u8 c.se] 30)) V.heap.size (s.cel k) from by rw [hc]; exact six_box V _ _ _ _ _ _ _)
        have HG := hid hg
        have HV := hid (show (s.cel k).v = c.v by rw [hc])
        clear hg
        rw [show encA (k, s.cel k) = #[.int .i64 k, c.v] by rw [← hc]]
        rw [HV.out] at HK
        clear hc
        obtain ⟨x0, x1, x2, x3, x4, x5⟩ := c
        gi_wp2
        obtain ⟨h1, h2, h3, h4, h5⟩ := HI.out
        refine HK.out _ _ (Touch.alloc V _ _ S) ⟨⟨V.heap.size, trivial, HN.out, ?_⟩, cell_grow HG.out h1, cell_grow HG.out h2, cell_grow HG.out h3, cell_grow HG.out h4, below_grow h5 HG.out hlz (Nat.le_refl _)⟩
        rfl
      case body =>
        rintro l' k x S a' V hk ⟨⟨cb, rfl, h6, rfl⟩, hJ⟩ hsz
        have HATk := hid (fun W (hb : Below V.heap.size V W) => HAT.out k hk W (below_t hJ.2.2.2.2 hb))
        obtain ⟨c, hc⟩ : ∃ c, s.cel k = c := ⟨_, rfl⟩
        rw [hc] at h6 HATk ⊢
        clear hc
        obtain ⟨x0, x1, x2, x3, x4, x5⟩ := c
        obtain ⟨z0, z1, z2, z3, z4, z5⟩ := h6
        dsimp only at z0 z1 z2 z3 z4 z5
        have HJ := hid hJ
        obtain ⟨-, j2, j3, -, -⟩ := hJ
        obtain ⟨V0, hV0⟩ : ∃ V0, V.drew = V0 := ⟨_, rfl⟩
        have HBV := hid (show Below V.heap.size V V0 by rw [← hV0]; exact (Below.refl _ _).drew)
        have z0 := keepc HBV.out z0
        have z1 := keepc HBV.out z1
        have z2 := keepc HBV.out z2
        have z3 := keepc HBV.out z3
        have z4 := keepc HBV.out z4
        have z5 := keepc HBV.out z5
        have j2 := keepc HBV.out j2
        have j3 := keepc HBV.out j3
        have l2 := World.block_lt_of_cell? _ _ j2
        have l3 := World.block_lt_of_cell? _ _ j3
        have lz := World.block_lt_of_cell? _ _ z0
        gi_wp2
        refine wpIn_region_round (by kernel_rfl) (by kernel_rfl) ?_
        rw [hV0]
        refine wpAnyIn_ready (rs := [0]) (by kernel_rfl) (by simp) ?_
        refine AllReadyIn.cons (by simp only [List.getElem?_toArray, List.getElem?_cons_zero]; rfl) (fun K hK => ?_) AllReadyIn.nil
        · go_simp
          refine hK _ _ ?_
          clear hK K
          (try simp only [Act.put, List.setIfInBounds_toArray, List.set_cons_zero, List.set_cons_succ])
          refine wpAnyIn_take (i := 1) (v := .bool false) (fuel := 6) rfl rfl (by kernel_rfl) (by kernel_rfl) (by kernel_rfl) (fun _ _ _ h => h) ⟨Or.inl ⟨by rfl, fun w => ?_⟩, fun _ => rfl⟩ ?_
          · go_simp
            try with_reducible rfl
          simp only [Act.put, List.setIfInBounds_toArray, List.set_cons_zero, List.set_cons_succ]
          refine wpAnyIn_take (i := 4) (v := .int .i64 k) (fuel := 5) rfl rfl (by kernel_rfl) (by kernel_rfl) (by kernel_rfl) (fun _ _ _ h => h) ⟨Or.inl ⟨by rfl, fun w => ?_⟩, fun _ => rfl⟩ ?_
          · go_simp
            try with_reducible rfl
          simp only [Act.put, List.setIfInBounds_toArray, List.set_cons_zero, List.set_cons_succ]
          refine wpAnyIn_ready (rs := [2, 3]) (by kernel_rfl) (by simp) ?_
          refine AllReadyIn.cons (by simp only [List.getElem?_toArray, List.getElem?_cons_succ, List.getElem?_cons_zero]; rfl) (fun K hK => ?_) (AllReadyIn.cons (by simp only [List.getElem?_toArray, List.getElem?_cons_succ, List.getElem?_cons_zero]; rfl) (fun K hK => ?_) AllReadyIn.nil)
          · go_simp
            refine hK _ _ ?_
            clear hK K
            (try simp only [Act.put, List.setIfInBounds_toArray, List.set_cons_zero, List.set_cons_succ])
            refine wpAnyIn_ready (rs := [3]) (by kernel_rfl) (by simp) ?_
            refine AllReadyIn.cons (by simp only [List.getElem?_toArray, List.getElem?_cons_succ, List.getElem?_cons_zero]; rfl) (fun K hK => ?_) AllReadyIn.nil
            · go_simp
              refine hK _ _ ?_
              clear hK K
              (try simp only [Act.put, List.setIfInBounds_toArray, List.set_cons_zero, List.set_cons_succ])
              refine wpAnyIn_ready (rs := [5]) (by kernel_rfl) (by simp) ?_
              refine AllReadyIn.cons (by simp only [List.getElem?_toArray, List.getElem?_cons_succ, List.getElem?_cons_zero]; rfl) (fun K hK => ?_) AllReadyIn.nil
              · go_simp
                refine ⟨trivial, fun _ => (by omega), ?_⟩
                refine (callsIn_wide.2 (HATk.out _ HBV.out)).mono ?_
                rintro e w4 ⟨rfl, hb4⟩
                refine hK _ _ ?_
                clear hK K
                have HB4 := hid (below_t HBV.out hb4)
                have y0 := keepc hb4 z0
                have y1 := keepc hb4 z1
                have y2 := keepc hb4 z2
                have y3 := keepc hb4 z3
                have y4 := keepc hb4 z4
                have y5 := keepc hb4 z5
                have ly := World.block_lt_of_cell? _ _ y0
                clear hb4
                (try simp only [Act.put, List.setIfInBounds_toArray, List.set_cons_zero, List.set_cons_succ])
                refine wpAnyIn_take (i := 6) (v := .bool false) (fuel := 1) rfl rfl (by kernel_rfl) (by kernel_rfl) (by kernel_rfl) (fun _ _ _ h => h) ⟨Or.inl ⟨by rfl, fun w => ?_⟩, fun _ => rfl⟩ ?_
                · go_simp
                  try with_reducible rfl
                simp only [Act.put, List.setIfInBounds_toArray, List.set_cons_zero, List.set_cons_succ]
                refine wpAnyIn_take (i := 7) (v := .bool false) (fuel := 0) rfl rfl (by kernel_rfl) (by kernel_rfl) (by kernel_rfl) (fun _ _ _ h => h) ⟨Or.inl ⟨by rfl, fun w => ?_⟩, fun _ => rfl⟩ ?_
                · go_simp
                  try with_reducible rfl
                simp only [Act.put, List.setIfInBounds_toArray, List.set_cons_zero, List.set_cons_succ]
                refine wpAnyIn_done (by kernel_rfl) ?_ _
                gi_wp2
                obtain ⟨j1, j2, j3, j4, j5⟩ := HJ.out
                have hb := HB4.out
                exact ⟨S, Touch.below hb _ S, keepc hb j1, keepc hb j2, keepc hb j3, keepc hb j4, below_t j5 hb⟩
          · go_simp
            refine hK _ _ ?_
            clear hK K
            (try simp only [Act.put, List.setIfInBounds_toArray, List.set_cons_zero, List.set_cons_succ])
            refine wpAnyIn_ready (rs := [2, 5]) (by kernel_rfl) (by simp) ?_
            refine AllReadyIn.cons (by simp only [List.getElem?_toArray, List.getElem?_cons_succ, List.getElem?_cons_zero]; rfl) (fun K hK => ?_) (AllReadyIn.cons (by simp only [List.getElem?_toArray, List.getElem?_cons_succ, List.getElem?_cons_zero]; rfl) (fun K hK => ?_) AllReadyIn.nil)
            · go_simp
              refine hK _ _ ?_
              clear hK K
              (try simp only [Act.put, List.setIfInBounds_toArray, List.set_cons_zero, List.set_cons_succ])
              refine wpAnyIn_ready (rs := [5]) (by kernel_rfl) (by simp) ?_
              refine AllReadyIn.cons (by simp only [List.getElem?_toArray, List.getElem?_cons_succ, List.getElem?_cons_zero]; rfl) (fun K hK => ?_) AllReadyIn.nil
              · go_simp
                refine ⟨trivial, fun _ => (by omega), ?_⟩
                refine (callsIn_wide.2 (HATk.out _ HBV.out)).mono ?_
                rintro e w4 ⟨rfl, hb4⟩
                refine hK _ _ ?_
                clear hK K
                have HB4 := hid (below_t HBV.out hb4)
                have y0 := keepc hb4 z0
                have y1 := keepc hb4 z1
                have y2 := keepc hb4 z2
                have y3 := keepc hb4 z3
                have y4 := keepc hb4 z4
                have y5 := keepc hb4 z5
                have ly := World.block_lt_of_cell? _ _ y0
                clear hb4
                (try simp only [Act.put, List.setIfInBounds_toArray, List.set_cons_zero, List.set_cons_succ])
                refine wpAnyIn_take (i := 6) (v := .bool false) (fuel := 1) rfl rfl (by kernel_rfl) (by kernel_rfl) (by kernel_rfl) (fun _ _ _ h => h) ⟨Or.inl ⟨by rfl, fun w => ?_⟩, fun _ => rfl⟩ ?_
                · go_simp
                  try with_reducible rfl
                simp only [Act.put, List.setIfInBounds_toArray, List.set_cons_zero, List.set_cons_succ]
                refine wpAnyIn_take (i := 7) (v := .bool false) (fuel := 0) rfl rfl (by kernel_rfl) (by kernel_rfl) (by kernel_rfl) (fun _ _ _ h => h) ⟨Or.inl ⟨by rfl, fun w => ?_⟩, fun _ => rfl⟩ ?_
                · go_simp
                  try with_reducible rfl
                simp only [Act.put, List.setIfInBounds_toArray, List.set_cons_zero, List.set_cons_succ]
                refine wpAnyIn_done (by kernel_rfl) ?_ _
                gi_wp2
                obtain ⟨j1, j2, j3, j4, j5⟩ := HJ.out
                have hb := HB4.out
                exact ⟨S, Touch.below hb _ S, keepc hb j1, keepc hb j2, keepc hb j3, keepc hb j4, below_t j5 hb⟩
            · go_simp
              refine ⟨trivial, fun _ => (by omega), ?_⟩
              refine (callsIn_wide.2 (HATk.out _ HBV.out)).mono ?_
              rintro e w4 ⟨rfl, hb4⟩
              refine hK _ _ ?_
              clear hK K
              have HB4 := hid (below_t HBV.out hb4)
              have y0 := keepc hb4 z0
              have y1 := keepc hb4 z1
              have y2 := keepc hb4 z2
              have y3 := keepc hb4 z3
              have y4 := keepc hb4 z4
              have y5 := keepc hb4 z5
              have ly := World.block_lt_of_cell? _ _ y0
              clear hb4
              (try simp only [Act.put, List.setIfInBounds_toArray, List.set_cons_zero, List.set_cons_succ])
              refine wpAnyIn_ready (rs := [2]) (by kernel_rfl) (by simp) ?_
              refine AllReadyIn.cons (by simp only [List.getElem?_toArray, List.getElem?_cons_succ, List.getElem?_cons_zero]; rfl) (fun K hK => ?_) AllReadyIn.nil
              · go_simp
                refine hK _ _ ?_
                clear hK K
                (try simp only [Act.put, List.setIfInBounds_toArray, List.set_cons_zero, List.set_cons_succ])
                refine wpAnyIn_take (i := 6) (v := .bool false) (fuel := 1) rfl rfl (by kernel_rfl) (by kernel_rfl) (by kernel_rfl) (fun _ _ _ h => h) ⟨Or.inl ⟨by rfl, fun w => ?_⟩, fun _ => rfl⟩ ?_
                · go_simp
                  try with_reducible rfl
                simp only [Act.put, List.setIfInBounds_toArray, List.set_cons_zero, List.set_cons_succ]
                refine wpAnyIn_take (i := 7) (v := .bool false) (fuel := 0) rfl rfl (by kernel_rfl) (by kernel_rfl) (by kernel_rfl) (fun _ _ _ h => h) ⟨Or.inl ⟨by rfl, fun w => ?_⟩, fun _ => rfl⟩ ?_
                · go_simp
                  try with_reducible rfl
                simp only [Act.put, List.setIfInBounds_toArray, List.set_cons_zero, List.set_cons_succ]
                refine wpAnyIn_done (by kernel_rfl) ?_ _
                gi_wp2
                obtain ⟨j1, j2, j3, j4, j5⟩ := HJ.out
                have hb := HB4.out
                exact ⟨S, Touch.below hb _ S, keepc hb j1, keepc hb j2, keepc hb j3, keepc hb j4, below_t j5 hb⟩
      case done =>
        rintro D S V hD ⟨_, _, _, h4, h5⟩ hK
        have hlt := World.block_lt_of_cell? V _ h4
        have HK := hid hK
        have HB := hid h5
        clear hK h5
        gi_wp2
        refine ⟨by simp, .inl ⟨_, _, rfl, run_takeDeferred HK.out, ?_⟩⟩
        have hg := Grow.put (m := w3.heap.size) (.deferred none) hD HK.out rfl
        exact ⟨.slice none 0 0, by simp [results, Try.f46, go_sem], rfl, below_grow HB.out hg hlz (Nat.le_refl _)⟩
      case stop => exact fun _ _ _ _ _ _ _ h => h.elim
  · go_simp
    refine hK.out _ _ ?_ (fun hHeldN => ?_)
    · exact ⟨keepc (bal (Below.refl _ _) _) hHeld.1, bal hHeld.2 _⟩
    clear hK K hHeld
    have hHeld := hHeldN
    clear hHeldN
    (try simp only [Act.put, List.setIfInBounds_toArray, List.set_cons_zero, List.set_cons_succ])
    have hA : (w0.drew.alloc (.cells #[.bool false] 4)).cell? ⟨w0.heap.size, 0, none⟩ = some (.bool false) := by simp [go_sem]
    have hlA := World.block_lt_of_cell? _ _ hA
    have hF : (w0.drew.alloc (.cells #[.bool false] 4)).frozen? ⟨w0.heap.size, 0, none⟩ = false := by simp [go_sem]
    refine wpAnyH_ready (rs := [1]) (by kernel_rfl) (by simp) ?_
    refine AllReadyH.cons (by simp only [List.getElem?_toArray, List.getElem?_cons_succ, List.getElem?_cons_zero]; rfl) (fun K hK => ?_) <| AllReadyH.nil
    go_simp
    go_at_call 79; (with_reducible refine (HSN.out _ (below_t HB0.out hHeld.2)).mono ?_); rintro e w1 ⟨rfl, hb1⟩
    refine hK.out _ _ ?_ (fun hHeldN => ?_)
    · exact ⟨keepc hb1 hHeld.1, below_t hHeld.2 hb1⟩
    clear hK K hHeld
    have hHeld := hHeldN
    clear hHeldN
    (try simp only [Act.put, List.setIfInBounds_toArray, List.set_cons_zero, List.set_cons_succ])
    have hs1 : w0.heap.size ≤ w1.heap.size := hHeld.2.size
    have hA1 := keepc hb1 hA
    have hF1 := (hb1.frozen hlA).trans hF
    have hl1 := World.block_lt_of_cell? _ _ hA1
    clear hA hF
    refine wpAnyH_ready (rs := [3]) (by kernel_rfl) (by simp) ?_
    refine AllReadyH.cons (by simp only [List.getElem?_toArray, List.getElem?_cons_succ, List.getElem?_cons_zero]; rfl) (fun K hK => ?_) <| AllReadyH.nil
    go_simp
    go_at_call 79; (with_reducible refine (HSZ.out _ (below_t HB0.out hHeld.2)).mono ?_); rintro e w2 ⟨rfl, hb2⟩
    refine hK.out _ _ ?_ (fun hHeldN => ?_)
    · exact ⟨keepc hb2 hHeld.1, below_t hHeld.2 hb2⟩
    clear hK K hHeld
    have hHeld := hHeldN
    clear hHeldN
    (try simp only [Act.put, List.setIfInBounds_toArray, List.set_cons_zero, List.set_cons_succ])
    have hA2 := keepc hb2 hA1
    have hF2 := (hb2.frozen hl1).trans hF1
    clear hA1 hF1
    have hl2 := World.block_lt_of_cell? _ _ hA2
    refine takeD (i := 4) (v := ?_) 13 rfl rfl (by kernel_rfl) (by kernel_rfl) (by kernel_rfl) (fun _ _ _ h => h) (by assumption) (Or.inl ⟨by rfl, ?_⟩) ?_
    rotate_left
    · intro w hSw
      (try dsimp only at hSw)
      go_simp
      try with_reducible rfl
    simp only [List.setIfInBounds_toArray, List.set_cons_zero, List.set_cons_succ]
    refine wpAnyH_ready (rs := [6]) (by kernel_rfl) (by simp) ?_
    refine AllReadyH.cons (by simp only [List.getElem?_toArray, List.getElem?_cons_succ, List.getElem?_cons_zero]; rfl) (fun K hK => ?_) AllReadyH.nil
    go_simp
    refine hK.out _ _ ?_ (fun hHeldN => ?_)
    · exact ⟨(World.cell?_setCell_far _ _ _ _ (by simp; omega)).trans hHeld.1, hHeld.2.sc _ _ _ (by omega)⟩
    clear hK K hHeld
    have hHeld := hHeldN
    clear hHeldN
    (try simp only [Act.put, List.setIfInBounds_toArray, List.set_cons_zero, List.set_cons_succ])
    refine wpAnyH_done (by kernel_rfl) ?_ _
    have HE := hid hHeld
    clear hHeld
    dsimp only [OnlyN]
    have HA5 := hid (show (w2.setCell ⟨w0.heap.size, 0, none⟩ (.bool false)).cell? ⟨w0.heap.size, 0, none⟩ = some (.bool false) from sc_same hA2)
    obtain ⟨X, hX⟩ : ∃ X, (w2.setCell ⟨w0.heap.size, 0, none⟩ (.bool false)) = X := ⟨_, rfl⟩
    rw [hX] at HA5 HE ⊢
    clear hX
    obtain ⟨A5, hA5⟩ : ∃ A5, w0.heap.size = A5 := ⟨_, rfl⟩
    rw [hA5] at HA5 ⊢
    have HX := hid (show Below w.heap.size w X from HB0.out.trans (HE.out.2.mono HB0.out.size))
    have HC1 := hid HE.out.1
    clear HE hA5
    gi_wp2
    refine ⟨trivial, fun _ => (by omega), ?_⟩
    refine (callsIn_wide.2 (all_any b _)).mono ?_
    rintro e w3 ⟨bs, rfl, hbs, hcs, hb3⟩
    have o1 : w3.cell? ⟨X.heap.size, 0, none⟩ = some (.slice none 0 0) := keepc hb3 (by simp [go_sem])
    have hb4 : Below X.heap.size X w3 := blw hb3
    obtain ⟨XS, hXS⟩ : ∃ XS, X.heap.size = XS := ⟨_, rfl⟩
    have HI0 := hid (show w3.cell? ⟨bs, 0, none⟩ = some (.pointer (some ⟨b, 0, none⟩)) ∧ w3.cell? ⟨w.heap.size, 0, none⟩ = some (.pointer (some ⟨b', 0, none⟩)) ∧ w3.cell? ⟨A5, 0, none⟩ = some (.bool false) ∧ w3.cell? ⟨XS, 0, none⟩ = some (.slice none 0 0) ∧ Below w.heap.size w w3 from ⟨hcs, keepc hb4 HC1.out, keepc hb4 HA5.out, by rw [← hXS]; exact o1, below_t HX.out hb4⟩)
    rw [hXS]
    have hlz : w.heap.size ≤ w3.heap.size := HI0.out.2.2.2.2.size
    clear hb3 hb4 hcs o1 hbs hXS
    gi_wp2
    refine rangeFunc_seq (n := n) (w := w3) rfl (by omega) (gf := 141) (lb := #[.pointer (some ⟨bs, 0, none⟩)]) rfl trivial (enters_of Try.func141 (by kernel_rfl) rfl)
      (encs := encA) (fun _ => rfl) (el := elA b s.L.length) (N := s.L.length) (R := RA bs b s.L.length)
      (fun k _ V => V.cell? ⟨bs, 0, none⟩ = some (.pointer (some ⟨b, 0, none⟩)) ∧ V.cell? ⟨w.heap.size, 0, none⟩ = some (.pointer (some ⟨b', 0, none⟩)) ∧ V.cell? ⟨A5, 0, none⟩ = some (.bool false) ∧ V.cell? ⟨XS, 0, none⟩ = some (.slice none 0 0) ∧ Below w.heap.size w V)
      (fun _ _ _ _ => False) ?hI ?hIx ?hR HI0.out
      (fun k S x a V => (∃ cb, x = (k, s.cel k) ∧ Six V cb (s.cel k) ∧ a = { tmps := #[.pointer (some ⟨b, 0, none⟩), .pointer (some ⟨b', 0, none⟩), undef, .pointer (some ⟨w.heap.size, 0, none⟩), .slice none 0 0, .pointer (some ⟨A5, 0, none⟩), .pointer (some ⟨XS, 0, none⟩), .int .i64 k, .pointer (some ⟨cb, 0, none⟩), .pointer (some ⟨b, 0, none⟩), .agg #[.int .i64 R, .int .i64 C], .pointer (some ⟨b', 0, none⟩), .agg #[.int .i64 R, .int .i64 C], .bool false, .pointer (some ⟨b, 0, none⟩), .func (.func 141) #[] #[.pointer (some ⟨bs, 0, none⟩)], .int .i64 k, (s.cel k).v, undef, undef, undef, undef, undef, undef, undef, undef, undef, undef, undef, undef, undef], defers := [] }) ∧ (V.cell? ⟨bs, 0, none⟩ = some (.pointer (some ⟨b, 0, none⟩)) ∧ V.cell? ⟨w.heap.size, 0, none⟩ = some (.pointer (some ⟨b', 0, none⟩)) ∧ V.cell? ⟨A5, 0, none⟩ = some (.bool false) ∧ V.cell? ⟨XS, 0, none⟩ = some (.slice none 0 0) ∧ Below w.heap.size w V)) ?hAx ?assign ?body ?iter ?done ?stop
    case hI => exact fun k S A C hg ⟨h1, h2, h3, h4, h5⟩ => ⟨cell_grow hg h1, cell_grow hg h2, cell_grow hg h3, cell_grow hg h4, below_grow h5 hg hlz (Nat.le_refl _)⟩
    case hIx => exact fun c k S A C hg h => h.elim
    case hR => exact fun k S V h => ⟨h.1, g, s, HS.out V h.2.2.2.2, rfl⟩
    case hAx => exact fun k S x a A C hg ⟨⟨cb, h01, h02, h03⟩, h1, h2, h3, h4, h5⟩ => ⟨⟨cb, h01, h02.grow hg, h03⟩, cell_grow hg h1, cell_grow hg h2, cell_grow hg h3, cell_grow hg h4, below_grow h5 hg hlz (Nat.le_refl _)⟩
    case iter => exact fun o1 o2 _ _ => all_seq (n - 1) (by omega) bs b s.L.length hN _
    case assign =>
      rintro l' k x S V KK hk hx1 hi hsz hK
      obtain rfl := elA_is (HS.out V hi.2.2.2.2) rfl hx1 hk
      have HK := hid hK
      have HI := hid hi
      clear hK hi hx1
      obtain ⟨c, hc⟩ : ∃ c, s.cel k = c := ⟨_, rfl⟩
      have hg := Grow.alloc V (.cells #[.int .u8 c.ch, .bool c.at_, .int .u8 c.fa, .int .u8 c.hi, .int .u8 c.co, .int .u8 c.se] 30) w3.heap.size
      have HN := hid (show Six (V.alloc (.cells #[.int .u8 c.ch, .bool c.at_, .int .u8 c.fa, .int .u8 c.hi, .int .u8 c.co, .int .u8 c.se] 30)) V.heap.size (s.cel k) from by rw [hc]; exact six_box V _ _ _ _ _ _ _)
      have HG := hid hg
      have HV := hid (show (s.cel k).v = c.v by rw [hc])
      clear hg
      rw [show encA (k, s.cel k) = #[.int .i64 k, c.v] by rw [← hc]]
      rw [HV.out] at HK
      clear hc
      obtain ⟨x0, x1, x2, x3, x4, x5⟩ := c
      gi_wp2
      obtain ⟨h1, h2, h3, h4, h5⟩ := HI.out
      refine HK.out _ _ (Touch.alloc V _ _ S) ⟨⟨V.heap.size, trivial, HN.out, ?_⟩, cell_grow HG.out h1, cell_grow HG.out h2, cell_grow HG.out h3, cell_grow HG.out h4, below_grow h5 HG.out hlz (Nat.le_refl _)⟩
      rfl
    case body =>
      rintro l' k x S a' V hk ⟨⟨cb, rfl, h6, rfl⟩, hJ⟩ hsz
      have HATk := hid (fun W (hb : Below V.heap.size V W) => HAT.out k hk W (below_t hJ.2.2.2.2 hb))
      obtain ⟨c, hc⟩ : ∃ c, s.cel k = c := ⟨_, rfl⟩
      rw [hc] at h6 HATk ⊢
      clear hc
      obtain ⟨x0, x1, x2, x3, x4, x5⟩ := c
      obtain ⟨z0, z1, z2, z3, z4, z5⟩ := h6
      dsimp only at z0 z1 z2 z3 z4 z5
      have HJ := hid hJ
      obtain ⟨-, j2, j3, -, -⟩ := hJ
      obtain ⟨V0, hV0⟩ : ∃ V0, V.drew = V0 := ⟨_, rfl⟩
      have HBV := hid (show Below V.heap.size V V0 by rw [← hV0]; exact (Below.refl _ _).drew)
      have z0 := keepc HBV.out z0
      have z1 := keepc HBV.out z1
      have z2 := keepc HBV.out z2
      have z3 := keepc HBV.out z3
      have z4 := keepc HBV.out z4
      have z5 := keepc HBV.out z5
      have j2 := keepc HBV.out j2
      have j3 := keepc HBV.out j3
      have l2 := World.block_lt_of_cell? _ _ j2
      have l3 := World.block_lt_of_cell? _ _ j3
      have lz := World.block_lt_of_cell? _ _ z0
      gi_wp2
      refine wpIn_region_round (by kernel_rfl) (by kernel_rfl) ?_
      rw [hV0]
      refine wpAnyIn_ready (rs := [0]) (by kernel_rfl) (by simp) ?_
      refine AllReadyIn.cons (by simp only [List.getElem?_toArray, List.getElem?_cons_zero]; rfl) (fun K hK => ?_) AllReadyIn.nil
      · go_simp
        refine hK _ _ ?_
        clear hK K
        (try simp only [Act.put, List.setIfInBounds_toArray, List.set_cons_zero, List.set_cons_succ])
        refine wpAnyIn_take (i := 1) (v := .bool false) (fuel := 6) rfl rfl (by kernel_rfl) (by kernel_rfl) (by kernel_rfl) (fun _ _ _ h => h) ⟨Or.inl ⟨by rfl, fun w => ?_⟩, fun _ => rfl⟩ ?_
        · go_simp
          try with_reducible rfl
        simp only [Act.put, List.setIfInBounds_toArray, List.set_cons_zero, List.set_cons_succ]
        refine wpAnyIn_take (i := 4) (v := .int .i64 k) (fuel := 5) rfl rfl (by kernel_rfl) (by kernel_rfl) (by kernel_rfl) (fun _ _ _ h => h) ⟨Or.inl ⟨by rfl, fun w => ?_⟩, fun _ => rfl⟩ ?_
        · go_simp
          try with_reducible rfl
        simp only [Act.put, List.setIfInBounds_toArray, List.set_cons_zero, List.set_cons_succ]
        refine wpAnyIn_ready (rs := [2, 3]) (by kernel_rfl) (by simp) ?_
        refine AllReadyIn.cons (by simp only [List.getElem?_toArray, List.getElem?_cons_succ, List.getElem?_cons_zero]; rfl) (fun K hK => ?_) (AllReadyIn.cons (by simp only [List.getElem?_toArray, List.getElem?_cons_succ, List.getElem?_cons_zero]; rfl) (fun K hK => ?_) AllReadyIn.nil)
        · go_simp
          refine hK _ _ ?_
          clear hK K
          (try simp only [Act.put, List.setIfInBounds_toArray, List.set_cons_zero, List.set_cons_succ])
          refine wpAnyIn_ready (rs := [3]) (by kernel_rfl) (by simp) ?_
          refine AllReadyIn.cons (by simp only [List.getElem?_toArray, List.getElem?_cons_succ, List.getElem?_cons_zero]; rfl) (fun K hK => ?_) AllReadyIn.nil
          · go_simp
            refine hK _ _ ?_
            clear hK K
            (try simp only [Act.put, List.setIfInBounds_toArray, List.set_cons_zero, List.set_cons_succ])
            refine wpAnyIn_ready (rs := [5]) (by kernel_rfl) (by simp) ?_
            refine AllReadyIn.cons (by simp only [List.getElem?_toArray, List.getElem?_cons_succ, List.getElem?_cons_zero]; rfl) (fun K hK => ?_) AllReadyIn.nil
            · go_simp
              refine ⟨trivial, fun _ => (by omega), ?_⟩
              refine (callsIn_wide.2 (HATk.out _ HBV.out)).mono ?_
              rintro e w4 ⟨rfl, hb4⟩
              refine hK _ _ ?_
              clear hK K
              have HB4 := hid (below_t HBV.out hb4)
              have y0 := keepc hb4 z0
              have y1 := keepc hb4 z1
              have y2 := keepc hb4 z2
              have y3 := keepc hb4 z3
              have y4 := keepc hb4 z4
              have y5 := keepc hb4 z5
              have ly := World.block_lt_of_cell? _ _ y0
              clear hb4
              (try simp only [Act.put, List.setIfInBounds_toArray, List.set_cons_zero, List.set_cons_succ])
              refine wpAnyIn_take (i := 6) (v := .bool false) (fuel := 1) rfl rfl (by kernel_rfl) (by kernel_rfl) (by kernel_rfl) (fun _ _ _ h => h) ⟨Or.inl ⟨by rfl, fun w => ?_⟩, fun _ => rfl⟩ ?_
              · go_simp
                try with_reducible rfl
              simp only [Act.put, List.setIfInBounds_toArray, List.set_cons_zero, List.set_cons_succ]
              refine wpAnyIn_take (i := 7) (v := .bool false) (fuel := 0) rfl rfl (by kernel_rfl) (by kernel_rfl) (by kernel_rfl) (fun _ _ _ h => h) ⟨Or.inl ⟨by rfl, fun w => ?_⟩, fun _ => rfl⟩ ?_
              · go_simp
                try with_reducible rfl
              simp only [Act.put, List.setIfInBounds_toArray, List.set_cons_zero, List.set_cons_succ]
              refine wpAnyIn_done (by kernel_rfl) ?_ _
              gi_wp2
              obtain ⟨j1, j2, j3, j4, j5⟩ := HJ.out
              have hb := HB4.out
              exact ⟨S, Touch.below hb _ S, keepc hb j1, keepc hb j2, keepc hb j3, keepc hb j4, below_t j5 hb⟩
        · go_simp
          refine hK _ _ ?_
          clear hK K
          (try simp only [Act.put, List.setIfInBounds_toArray, List.set_cons_zero, List.set_cons_succ])
          refine wpAnyIn_ready (rs := [2, 5]) (by kernel_rfl) (by simp) ?_
          refine AllReadyIn.cons (by simp only [List.getElem?_toArray, List.getElem?_cons_succ, List.getElem?_cons_zero]; rfl) (fun K hK => ?_) (AllReadyIn.cons (by simp only [List.getElem?_toArray, List.getElem?_cons_succ, List.getElem?_cons_zero]; rfl) (fun K hK => ?_) AllReadyIn.nil)
          · go_simp
            refine hK _ _ ?_
            clear hK K
            (try simp only [Act.put, List.setIfInBounds_toArray, List.set_cons_zero, List.set_cons_succ])
            refine wpAnyIn_ready (rs := [5]) (by kernel_rfl) (by simp) ?_
            refine AllReadyIn.cons (by simp only [List.getElem?_toArray, List.getElem?_cons_succ, List.getElem?_cons_zero]; rfl) (fun K hK => ?_) AllReadyIn.nil
            · go_simp
              refine ⟨trivial, fun _ => (by omega), ?_⟩
              refine (callsIn_wide.2 (HATk.out _ HBV.out)).mono ?_
              rintro e w4 ⟨rfl, hb4⟩
              refine hK _ _ ?_
              clear hK K
              have HB4 := hid (below_t HBV.out hb4)
              have y0 := keepc hb4 z0
              have y1 := keepc hb4 z1
              have y2 := keepc hb4 z2
              have y3 := keepc hb4 z3
              have y4 := keepc hb4 z4
              have y5 := keepc hb4 z5
              have ly := World.block_lt_of_cell? _ _ y0
              clear hb4
              (try simp only [Act.put, List.setIfInBounds_toArray, List.set_cons_zero, List.set_cons_succ])
              refine wpAnyIn_take (i := 6) (v := .bool false) (fuel := 1) rfl rfl (by kernel_rfl) (by kernel_rfl) (by kernel_rfl) (fun _ _ _ h => h) ⟨Or.inl ⟨by rfl, fun w => ?_⟩, fun _ => rfl⟩ ?_
              · go_simp
                try with_reducible rfl
              simp only [Act.put, List.setIfInBounds_toArray, List.set_cons_zero, List.set_cons_succ]
              refine wpAnyIn_take (i := 7) (v := .bool false) (fuel := 0) rfl rfl (by kernel_rfl) (by kernel_rfl) (by kernel_rfl) (fun _ _ _ h => h) ⟨Or.inl ⟨by rfl, fun w => ?_⟩, fun _ => rfl⟩ ?_
              · go_simp
                try with_reducible rfl
              simp only [Act.put, List.setIfInBounds_toArray, List.set_cons_zero, List.set_cons_succ]
              refine wpAnyIn_done (by kernel_rfl) ?_ _
              gi_wp2
              obtain ⟨j1, j2, j3, j4, j5⟩ := HJ.out
              have hb := HB4.out
              exact ⟨S, Touch.below hb _ S, keepc hb j1, keepc hb j2, keepc hb j3, keepc hb j4, below_t j5 hb⟩
          · go_simp
            refine ⟨trivial, fun _ => (by omega), ?_⟩
            refine (callsIn_wide.2 (HATk.out _ HBV.out)).mono ?_
            rintro e w4 ⟨rfl, hb4⟩
            refine hK _ _ ?_
            clear hK K
            have HB4 := hid (below_t HBV.out hb4)
            have y0 := keepc hb4 z0
            have y1 := keepc hb4 z1
            have y2 := keepc hb4 z2
            have y3 := keepc hb4 z3
            have y4 := keepc hb4 z4
            have y5 := keepc hb4 z5
            have ly := World.block_lt_of_cell? _ _ y0
            clear hb4
            (try simp only [Act.put, List.setIfInBounds_toArray, List.set_cons_zero, List.set_cons_succ])
            refine wpAnyIn_ready (rs := [2]) (by kernel_rfl) (by simp) ?_
            refine AllReadyIn.cons (by simp only [List.getElem?_toArray, List.getElem?_cons_succ, List.getElem?_cons_zero]; rfl) (fun K hK => ?_) AllReadyIn.nil
            · go_simp
              refine hK _ _ ?_
              clear hK K
              (try simp only [Act.put, List.setIfInBounds_toArray, List.set_cons_zero, List.set_cons_succ])
              refine wpAnyIn_take (i := 6) (v := .bool false) (fuel := 1) rfl rfl (by kernel_rfl) (by kernel_rfl) (by kernel_rfl) (fun _ _ _ h => h) ⟨Or.inl ⟨by rfl, fun w => ?_⟩, fun _ => rfl⟩ ?_
              · go_simp
                try with_reducible rfl
              simp only [Act.put, List.setIfInBounds_toArray, List.set_cons_zero, List.set_cons_succ]
              refine wpAnyIn_take (i := 7) (v := .bool false) (fuel := 0) rfl rfl (by kernel_rfl) (by kernel_rfl) (by kernel_rfl) (fun _ _ _ h => h) ⟨Or.inl ⟨by rfl, fun w => ?_⟩, fun _ => rfl⟩ ?_
              · go_simp
                try with_reducible rfl
              simp only [Act.put, List.setIfInBounds_toArray, List.set_cons_zero, List.set_cons_succ]
              refine wpAnyIn_done (by kernel_rfl) ?_ _
              gi_wp2
              obtain ⟨j1, j2, j3, j4, j5⟩ := HJ.out
              have hb := HB4.out
              exact ⟨S, Touch.below hb _ S, keepc hb j1, keepc hb j2, keepc hb j3, keepc hb j4, below_t j5 hb⟩
    case done =>
      rintro D S V hD ⟨_, _, _, h4, h5⟩ hK
      have hlt := World.block_lt_of_cell? V _ h4
      have HK := hid hK
      have HB := hid h5
      clear hK h5
      gi_wp2
      refine ⟨by simp, .inl ⟨_, _, rfl, run_takeDeferred HK.out, ?_⟩⟩
      have hg := Grow.put (m := w3.heap.size) (.deferred none) hD HK.out rfl
      exact ⟨.slice none 0 0, by simp [results, Try.f46, go_sem], rfl, below_grow HB.out hg hlz (Nat.le_refl _)⟩
    case stop => exact fun _ _ _ _ _ _ _ h => h.elim
end
end Go.Proofs.Ytpehhinpohmpiaa
