/-
  sfield: the field that stands for an act, or why there is none.
-/
import Derived.Test.YtdpgmepblmlaaaaDoorSf
namespace Go.Proofs.YtdpgmepblmlaaaaDoor
open Go.RowKit Go.Lib Go.Deep

theorem fieldF_len {a : AcD} (h : ActOK a) : (fieldF a).data.length ≤ 10000000 := by
  obtain ⟨⟨h1, h2⟩, _, _⟩ := h
  unfold fieldF
  split
  · show 2 ≤ 10000000; omega
  split
  · show (([255, 3, a.req] : List Int) ++ a.codes).length ≤ 10000000
    rw [List.length_append]; show 3 + a.codes.length ≤ 10000000; omega
  split
  · show 2 ≤ 10000000; omega
  split
  · show 1 ≤ 10000000; omega
  split
  · show 2 ≤ 10000000; omega
  split
  · show (([0] : List Int) ++ a.rcd).length ≤ 10000000
    rw [List.length_append]; show 1 + a.rcd.length ≤ 10000000; omega
  · show 1 ≤ 10000000; omega
set_option maxRecDepth 100000 in
set_option maxHeartbeats 4000000 in
theorem field_any (a : AcD) (cv rv : Value) (w : World) (h1 : Reads w cv a.codes) (h2 : Reads w rv a.rcd) (hok : ActOK a) (hC : Cods w) : Calls Tryd.prog 24 #[acV a cv rv] w (MkD (makeF a) w) := by
  have HPL := hid (fun W (hW : Below w.heap.size w W) => plainP_any a cv rv W (reads_below h1 hW) (reads_below h2 hW) hok (hC.go hW))
  have HMP := hid (makeF_prog a)
  have HFL := hid (fieldF_len hok)
  have HCO := hid (fun W (hW : Below w.heap.size w W) => hC.go hW)
  obtain ⟨k, cd, md, al, rq, cs, rs⟩ := a
  unfold acV at HPL ⊢
  unfold plF at HPL
  dsimp only at h1 h2 HPL HMP ⊢
  generalize makeF ⟨k, cd, md, al, rq, cs, rs⟩ = mk at HMP ⊢
  generalize fieldF ⟨k, cd, md, al, rq, cs, rs⟩ = fd at HPL HMP HFL
  obtain ⟨id, ds⟩ := fd
  obtain ⟨x1, c1, rfl⟩ := reads_sl h1
  obtain ⟨x2, c2, rfl⟩ := reads_sl h2
  generalize cs.length = n1 at *
  generalize rs.length = n2 at *
  clear h1 h2 hC hok
  have HP0 := hid (HPL.out _ (bal (bal (Below.refl w.heap.size w) (.cells #[.int .i64 k, .int .i64 cd, .int .i64 md, .bool al, .int .u8 rq, .slice x1 n1 c1, .slice x2 n2 c2] 38)) (.cells #[.int .u8 0, .slice none 0 0] 35)))
  have HX0 := hid (Box7.step (Box7.new (v0 := .int .i64 k) (v1 := .int .i64 cd) (v2 := .int .i64 md) (v3 := .bool al) (v4 := .int .u8 rq) (v5 := .slice x1 n1 c1) (v6 := .slice x2 n2 c2) w 38) (bal (Below.refl _ _) (.cells #[.int .u8 0, .slice none 0 0] 35)))
  have HY0 := hid (show Box2 ((w.alloc (.cells #[.int .i64 k, .int .i64 cd, .int .i64 md, .bool al, .int .u8 rq, .slice x1 n1 c1, .slice x2 n2 c2] 38)).alloc (.cells #[.int .u8 0, .slice none 0 0] 35)) (w.heap.size + 1) (.int .u8 0) (.slice none 0 0) from ⟨by simp [go_sem], by simp [go_sem], by simp [go_sem], by simp [go_sem]⟩)
  have HB0 := hid (show Below w.heap.size w ((w.alloc (.cells #[.int .i64 k, .int .i64 cd, .int .i64 md, .bool al, .int .u8 rq, .slice x1 n1 c1, .slice x2 n2 c2] 38)).alloc (.cells #[.int .u8 0, .slice none 0 0] 35)) from bal (bal (Below.refl _ _) _) _)
  go_enter Tryd.func24, Tryd.ntmps24
  by_cases hk : k < 1 ∨ 9 < k
  · have HM := hid (HMP.out.trans (if_pos hk))
    rw [if_pos hk] at HP0
    go_wp2_with fail
    with_reducible refine HP0.out.mono ?_
    rintro e V1 ⟨dv, rfl, ho, hb, -⟩
    obtain ⟨xd, nd, dd, rfl⟩ := own_slice ho
    have hba := below_t hb (bal (Below.refl V1.heap.size V1) (.cells #[.int .u8 0, .slice xd nd dd] 35))
    have HYg := hid (HY0.out.step hba)
    have HBg := hid (below_t HB0.out hba)
    have hs0 := hb.size
    rw [World.size_alloc, World.size_alloc] at hs0
    have hs1 : w.heap.size < V1.heap.size := by omega
    have hs2 : w.heap.size + 1 < V1.heap.size := by omega
    have HYv := hid (HY0.out.step hb)
    clear ho hb HX0 HY0 HB0 HP0 hba
    dsimp only [sfZ]
    obtain ⟨r0, r1, -, -⟩ := HYg.out.put (.int .u8 0) (.slice none 0 0)
    have HF := hid (show MkD mk w (.returned (.tuple #[.agg #[.int .u8 0, .slice none 0 0], .int .i64 1])) (((V1.alloc (.cells #[.int .u8 0, .slice xd nd dd] 35)).setCell ⟨w.heap.size + 1, 0, none⟩ (.int .u8 0)).setCell ⟨w.heap.size + 1, 1, none⟩ (.slice none 0 0)) from by rw [HM.out]; exact ⟨_, rfl, OwnB.nil _, (HBg.out.setCell (p := ⟨w.heap.size + 1, 0, none⟩) (by exact Nat.le_succ _) _).setCell (p := ⟨w.heap.size + 1, 1, none⟩) (by exact Nat.le_succ _) _, fun _ q => (by cases q)⟩)
    obtain ⟨y0, y1, y2, y3⟩ := HYv.out
    clear HYg HYv HBg
    revert r0 r1 HF
    generalize hW : (((V1.alloc (.cells #[.int .u8 0, .slice xd nd dd] 35)).setCell ⟨w.heap.size + 1, 0, none⟩ (.int .u8 0)).setCell ⟨w.heap.size + 1, 1, none⟩ (.slice none 0 0)) = Wf
    intro r0 r1 HF
    rw [World.setCell_alloc_past _ _ _ _ hs2, World.setCell_alloc_past _ _ _ _ (by simpa [World.setCell] using hs2)] at hW
    go_wp2
    (try rw [hW])
    exact bodyPost_ret (v := .tuple #[.agg #[.int .u8 0, .slice none 0 0], .int .i64 1]) (by simp [results, Tryd.results24, go_sem, r0, r1]) rfl HF.out
  · have HM := hid (HMP.out.trans (if_neg hk))
    rw [if_neg hk] at HP0
    go_wp2_with fail
    with_reducible refine HP0.out.mono ?_
    rintro e V1 ⟨dv, rfl, ho, hb, hkn⟩
    dsimp only at ho ⊢
    obtain ⟨xd, nd, dd, rfl⟩ := own_slice ho
    have hba : Below V1.heap.size V1 (V1.alloc (.cells #[.int .u8 id, .slice xd nd dd] 35)) := bal (Below.refl V1.heap.size V1) _
    have hbb := below_t hb hba
    have HX1 := hid (HX0.out.step hbb)
    have HY1 := hid (HY0.out.step hbb)
    have HB1 := hid (below_t HB0.out hbb)
    have HT1 := hid (show Box2 (V1.alloc (.cells #[.int .u8 id, .slice xd nd dd] 35)) V1.heap.size (.int .u8 id) (.slice xd nd dd) from ⟨by simp [go_sem], by simp [go_sem], by simp [go_sem], by simp [go_sem]⟩)
    have HD1 := hid (ho.step hba)
    have HKN := hid (show ∀ j ∈ blkV (.slice xd nd dd), w.heap.size + 1 < j from fun j hj => by have := hkn j hj; rw [World.size_alloc, World.size_alloc] at this; omega)
    have hs0 := hb.size
    rw [World.size_alloc, World.size_alloc] at hs0
    have HOF := hid (act_any ⟨id, ds⟩ (.slice xd nd dd) _ HD1.out.reads HFL.out (HCO.out _ HB1.out))
    dsimp only at HOF
    generalize actF ⟨id, ds⟩ = res at HOF HM
    obtain ⟨er2, ⟨k2, cd2, md2, al2, rq2, cs2, rs2⟩⟩ := res
    dsimp only at HM
    clear ho hb hkn HX0 HY0 HB0 HP0 hba hbb HCO HPL HMP HFL
    go_wp2_with fail
    with_reducible refine HOF.out.mono ?_
    rintro e V2 ⟨cw, rw', rfl, ho1, ho2, hb2, -, -⟩
    dsimp only at ho1 ho2
    dsimp only [acV]
    obtain ⟨xc, nc, cc, rfl⟩ := own_slice ho1
    obtain ⟨xr, nr, cr, rfl⟩ := own_slice ho2
    have hs3 := hb2.size
    rw [World.size_alloc] at hs3
    have hbc := below_t hb2 (bal (Below.refl V2.heap.size V2) (.cells #[.int .i64 k2, .int .i64 cd2, .int .i64 md2, .bool al2, .int .u8 rq2, .slice xc nc cc, .slice xr nr cr] 38))
    have HYg := hid (HY1.out.step hbc)
    have HYv := hid (HY1.out.step hb2)
    have HBg := hid (below_t HB1.out hbc)
    have HD2 := hid (HD1.out.step hbc)
    obtain ⟨z0, z1, z2, z3, z4, z5, z6, -⟩ := HX1.out.step hb2
    obtain ⟨v0, v1, -, -⟩ := HT1.out.step hb2
    have hs4 : w.heap.size < V2.heap.size := by omega
    have hs5 : w.heap.size + 1 < V2.heap.size := by omega
    have hs6 : V1.heap.size < V2.heap.size := by omega
    clear ho1 ho2 hb2 hbc HX1 HY1 HB1 HT1 HD1 HOF
    by_cases he2 : er2 = 0
    · subst he2
      by_cases h5 : k = 5
      · by_cases hm : md2 = md
        · have HM2 := hid (HM.out.trans (if_neg (fun q => q.elim (fun q => q rfl) (fun q => q.2 hm))))
          subst h5 hm
          obtain ⟨r0, r1, -, -⟩ := HYg.out.put (.int .u8 id) (.slice xd nd dd)
          have HF := hid (show MkD mk w (.returned (.tuple #[.agg #[.int .u8 id, .slice xd nd dd], .int .i64 0])) (((V2.alloc (.cells #[.int .i64 k2, .int .i64 cd2, .int .i64 md2, .bool al2, .int .u8 rq2, .slice xc nc cc, .slice xr nr cr] 38)).setCell ⟨w.heap.size + 1, 0, none⟩ (.int .u8 id)).setCell ⟨w.heap.size + 1, 1, none⟩ (.slice xd nd dd)) from by rw [HM2.out]; exact ⟨_, rfl, put2_own _ _ HD2.out HKN.out, (HBg.out.setCell (p := ⟨w.heap.size + 1, 0, none⟩) (by exact Nat.le_succ _) _).setCell (p := ⟨w.heap.size + 1, 1, none⟩) (by exact Nat.le_succ _) _, fun j hj => by have := HKN.out j hj; omega⟩)
          obtain ⟨y0, y1, y2, y3⟩ := HYv.out
          clear HYg HYv HBg
          revert r0 r1 HF
          generalize hW : (((V2.alloc (.cells #[.int .i64 k2, .int .i64 cd2, .int .i64 md2, .bool al2, .int .u8 rq2, .slice xc nc cc, .slice xr nr cr] 38)).setCell ⟨w.heap.size + 1, 0, none⟩ (.int .u8 id)).setCell ⟨w.heap.size + 1, 1, none⟩ (.slice xd nd dd)) = Wf
          intro r0 r1 HF
          rw [World.setCell_alloc_past _ _ _ _ hs5, World.setCell_alloc_past _ _ _ _ (by simpa [World.setCell] using hs5)] at hW
          go_wp2
          (try rw [hW])
          exact bodyPost_ret (v := .tuple #[.agg #[.int .u8 id, .slice xd nd dd], .int .i64 0]) (by simp [results, Tryd.results24, go_sem, r0, r1]) rfl HF.out
        · have HM2 := hid (HM.out.trans (if_pos (.inr ⟨h5, hm⟩)))
          have hne : (md2 == md) = false := by simpa using hm
          have hne' : (md2 != md) = true := by simpa using hm
          subst h5
          obtain ⟨r0, r1, -, -⟩ := HYg.out.put (.int .u8 0) (.slice none 0 0)
          have HF := hid (show MkD mk w (.returned (.tuple #[.agg #[.int .u8 0, .slice none 0 0], .int .i64 4])) (((V2.alloc (.cells #[.int .i64 k2, .int .i64 cd2, .int .i64 md2, .bool al2, .int .u8 rq2, .slice xc nc cc, .slice xr nr cr] 38)).setCell ⟨w.heap.size + 1, 0, none⟩ (.int .u8 0)).setCell ⟨w.heap.size + 1, 1, none⟩ (.slice none 0 0)) from by rw [HM2.out]; exact ⟨_, rfl, OwnB.nil _, (HBg.out.setCell (p := ⟨w.heap.size + 1, 0, none⟩) (by exact Nat.le_succ _) _).setCell (p := ⟨w.heap.size + 1, 1, none⟩) (by exact Nat.le_succ _) _, fun _ q => (by cases q)⟩)
          obtain ⟨y0, y1, y2, y3⟩ := HYv.out
          clear HYg HYv HBg
          revert r0 r1 HF
          generalize hW : (((V2.alloc (.cells #[.int .i64 k2, .int .i64 cd2, .int .i64 md2, .bool al2, .int .u8 rq2, .slice xc nc cc, .slice xr nr cr] 38)).setCell ⟨w.heap.size + 1, 0, none⟩ (.int .u8 0)).setCell ⟨w.heap.size + 1, 1, none⟩ (.slice none 0 0)) = Wf
          intro r0 r1 HF
          rw [World.setCell_alloc_past _ _ _ _ hs5, World.setCell_alloc_past _ _ _ _ (by simpa [World.setCell] using hs5)] at hW
          go_wp2
          (try rw [hW])
          exact bodyPost_ret (v := .tuple #[.agg #[.int .u8 0, .slice none 0 0], .int .i64 4]) (by simp [results, Tryd.results24, go_sem, r0, r1]) rfl HF.out
      · have HM2 := hid (HM.out.trans (if_neg (fun q => q.elim (fun q => q rfl) (fun q => h5 q.1))))
        have hk5 : (k == 5) = false := by simpa using h5
        obtain ⟨r0, r1, -, -⟩ := HYg.out.put (.int .u8 id) (.slice xd nd dd)
        have HF := hid (show MkD mk w (.returned (.tuple #[.agg #[.int .u8 id, .slice xd nd dd], .int .i64 0])) (((V2.alloc (.cells #[.int .i64 k2, .int .i64 cd2, .int .i64 md2, .bool al2, .int .u8 rq2, .slice xc nc cc, .slice xr nr cr] 38)).setCell ⟨w.heap.size + 1, 0, none⟩ (.int .u8 id)).setCell ⟨w.heap.size + 1, 1, none⟩ (.slice xd nd dd)) from by rw [HM2.out]; exact ⟨_, rfl, put2_own _ _ HD2.out HKN.out, (HBg.out.setCell (p := ⟨w.heap.size + 1, 0, none⟩) (by exact Nat.le_succ _) _).setCell (p := ⟨w.heap.size + 1, 1, none⟩) (by exact Nat.le_succ _) _, fun j hj => by have := HKN.out j hj; omega⟩)
        obtain ⟨y0, y1, y2, y3⟩ := HYv.out
        clear HYg HYv HBg
        revert r0 r1 HF
        generalize hW : (((V2.alloc (.cells #[.int .i64 k2, .int .i64 cd2, .int .i64 md2, .bool al2, .int .u8 rq2, .slice xc nc cc, .slice xr nr cr] 38)).setCell ⟨w.heap.size + 1, 0, none⟩ (.int .u8 id)).setCell ⟨w.heap.size + 1, 1, none⟩ (.slice xd nd dd)) = Wf
        intro r0 r1 HF
        rw [World.setCell_alloc_past _ _ _ _ hs5, World.setCell_alloc_past _ _ _ _ (by simpa [World.setCell] using hs5)] at hW
        go_wp2
        (try rw [hW])
        exact bodyPost_ret (v := .tuple #[.agg #[.int .u8 id, .slice xd nd dd], .int .i64 0]) (by simp [results, Tryd.results24, go_sem, r0, r1]) rfl HF.out
    · have HM2 := hid (HM.out.trans (if_pos (.inl he2)))
      have hne : (er2 == 0) = false := by simpa using he2
      have hne' : (er2 != 0) = true := by simpa using he2
      obtain ⟨r0, r1, -, -⟩ := HYg.out.put (.int .u8 0) (.slice none 0 0)
      have HF := hid (show MkD mk w (.returned (.tuple #[.agg #[.int .u8 0, .slice none 0 0], .int .i64 4])) (((V2.alloc (.cells #[.int .i64 k2, .int .i64 cd2, .int .i64 md2, .bool al2, .int .u8 rq2, .slice xc nc cc, .slice xr nr cr] 38)).setCell ⟨w.heap.size + 1, 0, none⟩ (.int .u8 0)).setCell ⟨w.heap.size + 1, 1, none⟩ (.slice none 0 0)) from by rw [HM2.out]; exact ⟨_, rfl, OwnB.nil _, (HBg.out.setCell (p := ⟨w.heap.size + 1, 0, none⟩) (by exact Nat.le_succ _) _).setCell (p := ⟨w.heap.size + 1, 1, none⟩) (by exact Nat.le_succ _) _, fun _ q => (by cases q)⟩)
      obtain ⟨y0, y1, y2, y3⟩ := HYv.out
      clear HYg HYv HBg
      revert r0 r1 HF
      generalize hW : (((V2.alloc (.cells #[.int .i64 k2, .int .i64 cd2, .int .i64 md2, .bool al2, .int .u8 rq2, .slice xc nc cc, .slice xr nr cr] 38)).setCell ⟨w.heap.size + 1, 0, none⟩ (.int .u8 0)).setCell ⟨w.heap.size + 1, 1, none⟩ (.slice none 0 0)) = Wf
      intro r0 r1 HF
      rw [World.setCell_alloc_past _ _ _ _ hs5, World.setCell_alloc_past _ _ _ _ (by simpa [World.setCell] using hs5)] at hW
      go_wp2
      (try rw [hW])
      exact bodyPost_ret (v := .tuple #[.agg #[.int .u8 0, .slice none 0 0], .int .i64 4]) (by simp [results, Tryd.results24, go_sem, r0, r1]) rfl HF.out
end Go.Proofs.YtdpgmepblmlaaaaDoor
