/-
  The reference's Make of acts with bytes of their own; of any act.
-/
import Derived.Test.YtdpgmepblmlaaaaDoorRy
namespace Go.Proofs.YtdpgmepblmlaaaaDoor
open Go.RowKit Go.Lib Go.Deep

theorem Box2.moved {w w' : World} {b : Nat} {v0 v1 : Value} (h : Box2 w b v0 v1) {S S' : List Nat} (m : Moved w w' S S') (hb : b ∉ S) : Box2 w' b v0 v1 :=
  ⟨cell_moved m h.c0 hb, cell_moved m h.c1 hb, (World.frozen?_of_block (a := ⟨b, 0, none⟩) (m.block b h.lt hb)).trans h.f0, (World.frozen?_of_block (a := ⟨b, 1, none⟩) (m.block b h.lt hb)).trans h.f1⟩
theorem set2_moved (w : World) (b : Nat) (u0 u1 : Value) : Moved w ((w.setCell ⟨b, 0, none⟩ u0).setCell ⟨b, 1, none⟩ u1) [b] [b] := (Moved.set (S := [b]) (List.mem_singleton_self _) 0 u0).trans (Moved.set (S := [b]) (List.mem_singleton_self _) 1 u1)
set_option maxRecDepth 100000 in
set_option maxHeartbeats 4000000 in
theorem make_9 (a : AcD) (cv rv : Value) (w : World) (h1 : Reads w cv a.codes) (h2 : Reads w rv a.rcd) (hk : a.kind = 9) (hl : a.rcd.length ≤ 1000000) : Calls Tryd.prog 25 #[acV a cv rv] w (MkD (makeF a) w) := by
  have HPL := hid (fun W (hW : Below w.heap.size w W) => plain_any a cv rv W (reads_below h1 hW) (reads_below h2 hW))
  have HNO := hid (fun w' (hb : Below w.heap.size w w') (q : makeF a = (4, sfZ)) => mk_no (er := 4) q hb)
  obtain ⟨k, cd, md, al, rq, cs, rs⟩ := a
  unfold acV at HPL ⊢
  dsimp only at h1 h2 hk HPL hl ⊢
  subst hk
  have HMK := hid (show makeF ⟨9, cd, md, al, rq, cs, rs⟩ = if (actF ⟨64, ([(0 : Int)] ++ rs)⟩).1 ≠ 0 ∨ (actF ⟨64, ([(0 : Int)] ++ rs)⟩).2 ≠ plainF ⟨9, cd, md, al, rq, cs, rs⟩ then (4, sfZ) else (0, ⟨64, ([(0 : Int)] ++ rs)⟩) from rfl)
  generalize plainF ⟨9, cd, md, al, rq, cs, rs⟩ = pa at HPL HMK
  generalize makeF ⟨9, cd, md, al, rq, cs, rs⟩ = mk at HNO HMK ⊢
  have HU := hid (fun W (hW : Below w.heap.size w W) => reads_below h2 hW)
  have HBY := hid (show BytL ([(0 : Int)] ++ rs) from (show BytL [(0 : Int)] from by intro x hx; simp only [List.mem_cons, List.not_mem_nil, or_false] at hx; omega).append h2.1)
  obtain ⟨x1, c1, rfl⟩ := reads_sl h1
  obtain ⟨x2, c2, rfl⟩ := reads_sl h2
  clear h1 h2
  generalize cs.length = n1 at *
  obtain ⟨n2, hn1⟩ : ∃ n, rs.length = n := ⟨_, rfl⟩
  have HN1 := hid hn1
  rw [hn1] at HPL HU hl ⊢
  clear hn1
  go_enter Tryd.func25, Tryd.ntmps25
  have hbl : Below w.heap.size w ((((w.alloc (.cells #[.int .i64 9, .int .i64 cd, .int .i64 md, .bool al, .int .u8 rq, .slice x1 n1 c1, .slice x2 n2 c2] 41)).alloc (.cells #[.int .u8 0, .slice none 0 0] 36)).alloc (.cells #[.int .u8 0, .slice none 0 0] 36)).alloc (.cells #[.int .u8 ((0 : Int))] 5)) := bal (bal (bal (bal (Below.refl _ _) _) _) _) _
  have HUl := hid (HU.out _ hbl)
  have HO := hid (World.ownsRow_lit (e := 5) (size := 1) (base := w.heap.size + 1 + 1 + 1) (((w.alloc (.cells #[.int .i64 9, .int .i64 cd, .int .i64 md, .bool al, .int .u8 rq, .slice x1 n1 c1, .slice x2 n2 c2] 41)).alloc (.cells #[.int .u8 0, .slice none 0 0] 36)).alloc (.cells #[.int .u8 0, .slice none 0 0] 36)) #[.int .u8 ((0 : Int))] 1 (by simp) (by unfold maxLen; omega) rfl)
  rw [show (((w.alloc (.cells #[.int .i64 9, .int .i64 cd, .int .i64 md, .bool al, .int .u8 rq, .slice x1 n1 c1, .slice x2 n2 c2] 41)).alloc (.cells #[.int .u8 0, .slice none 0 0] 36)).alloc (.cells #[.int .u8 0, .slice none 0 0] 36)).heap.size = w.heap.size + 1 + 1 + 1 by simp] at HO
  have HXl := hid (show Box7 ((((w.alloc (.cells #[.int .i64 9, .int .i64 cd, .int .i64 md, .bool al, .int .u8 rq, .slice x1 n1 c1, .slice x2 n2 c2] 41)).alloc (.cells #[.int .u8 0, .slice none 0 0] 36)).alloc (.cells #[.int .u8 0, .slice none 0 0] 36)).alloc (.cells #[.int .u8 ((0 : Int))] 5)) w.heap.size (.int .i64 9) (.int .i64 cd) (.int .i64 md) (.bool al) (.int .u8 rq) (.slice x1 n1 c1) (.slice x2 n2 c2) from ⟨by simp [go_sem], by simp [go_sem], by simp [go_sem], by simp [go_sem], by simp [go_sem], by simp [go_sem], by simp [go_sem], fun i _ => by simp [go_sem]⟩)
  have HYl := hid (show Box2 ((((w.alloc (.cells #[.int .i64 9, .int .i64 cd, .int .i64 md, .bool al, .int .u8 rq, .slice x1 n1 c1, .slice x2 n2 c2] 41)).alloc (.cells #[.int .u8 0, .slice none 0 0] 36)).alloc (.cells #[.int .u8 0, .slice none 0 0] 36)).alloc (.cells #[.int .u8 ((0 : Int))] 5)) (w.heap.size + 1) (.int .u8 0) (.slice none 0 0) from ⟨by simp [go_sem], by simp [go_sem], by simp [go_sem], by simp [go_sem]⟩)
  have HTl := hid (show Box2 ((((w.alloc (.cells #[.int .i64 9, .int .i64 cd, .int .i64 md, .bool al, .int .u8 rq, .slice x1 n1 c1, .slice x2 n2 c2] 41)).alloc (.cells #[.int .u8 0, .slice none 0 0] 36)).alloc (.cells #[.int .u8 0, .slice none 0 0] 36)).alloc (.cells #[.int .u8 ((0 : Int))] 5)) (w.heap.size + 1 + 1) (.int .u8 0) (.slice none 0 0) from ⟨by simp [go_sem], by simp [go_sem], by simp [go_sem], by simp [go_sem]⟩)
  have HBl := hid hbl
  clear hbl HU
  go_wp2_with (at_builtin; refine wpList_append_bytes rfl (.tmp 67) (.tmp 69) rfl (w.heap.size + 1 + 1 + 1) 1 _ _ [(0 : Int)] rs rfl rfl HO.out HUl.out (by have := HN1.out; omega) (by simp) (1 + n2) (by rw [HN1.out]) _ rfl ?_; intro y cap w' hown hgrow; have HW := hid hown; have hmv : Moved _ w' [w.heap.size + 1 + 1 + 1] [] := Moved.grown hgrow (fun k hk => List.mem_singleton.2 (Option.some.inj hk).symm) (fun k hk => by cases hk); have HXg := hid (HXl.out.moved hmv (fun q => by have := List.mem_singleton.1 q; omega)); have HYg := hid (HYl.out.moved hmv (fun q => by have := List.mem_singleton.1 q; omega)); have HTg := hid (HTl.out.moved hmv (fun q => by have := List.mem_singleton.1 q; omega)); have HBg := hid (HBl.out.grown hgrow (by simp; omega) (fun k hk => by have e : w.heap.size + 1 + 1 + 1 = k := Option.some.inj hk; omega)); obtain ⟨z0, z1, z2, z3⟩ := HTg.out; clear hown hgrow hmv HXl HYl HTl HBl HO HUl)
  obtain ⟨W3, hW3⟩ : ∃ W3, ((w'.setCell ⟨w.heap.size + 1 + 1, 0, none⟩ (.int .u8 (64))).setCell ⟨w.heap.size + 1 + 1, 1, none⟩ (.slice y (1 + n2) cap)) = W3 := ⟨_, rfl⟩
  have hmv := set2_moved w' (w.heap.size + 1 + 1) (.int .u8 (64)) (.slice y (1 + n2) cap)
  have HD0 : OwnB w' (.slice y (1 + n2) cap) ([(0 : Int)] ++ rs) := ⟨HBY.out, by
    have q := HW.out.mono (Nat.zero_le _)
    show World.ownsRow w' 0 5 1 (.slice y (1 + n2) cap) ([(0 : Int)] ++ rs).length (List.map (Value.int .u8) ([(0 : Int)] ++ rs))
    rw [show ([(0 : Int)] ++ rs).length = 1 + n2 by rw [List.length_append, HN1.out]; rfl]
    exact q⟩
  have HFR := hid (show ∀ k ∈ blkV (.slice y (1 + n2) cap), w.heap.size + 1 < k from fun k hk => by have := (HW.out.lt k (mem_blkV.1 hk)).1; omega)
  have HFR2 := hid (show ∀ k ∈ blkV (.slice y (1 + n2) cap), w.heap.size + 1 + 1 < k from fun k hk => by have := (HW.out.lt k (mem_blkV.1 hk)).1; omega)
  have HB3 := hid (show Below w.heap.size w W3 by rw [← hW3]; exact (HBg.out.setCell (p := ⟨w.heap.size + 1 + 1, 0, none⟩) (by exact Nat.le_add_right _ 2) _).setCell (p := ⟨w.heap.size + 1 + 1, 1, none⟩) (by exact Nat.le_add_right _ 2) _)
  have HX := hid (show Box7 W3 w.heap.size (.int .i64 9) (.int .i64 cd) (.int .i64 md) (.bool al) (.int .u8 rq) (.slice x1 n1 c1) (.slice x2 n2 c2) by rw [← hW3]; exact HXg.out.moved hmv (fun q => by have := List.mem_singleton.1 q; omega))
  have HY := hid (show Box2 W3 (w.heap.size + 1) (.int .u8 0) (.slice none 0 0) by rw [← hW3]; exact HYg.out.moved hmv (fun q => by have := List.mem_singleton.1 q; omega))
  have HT := hid (show Box2 W3 (w.heap.size + 1 + 1) (.int .u8 (64)) (.slice y (1 + n2) cap) by rw [← hW3]; exact HTg.out.put _ _)
  have HD := hid (show OwnB W3 (.slice y (1 + n2) cap) ([(0 : Int)] ++ rs) by rw [← hW3]; exact put2_own _ _ HD0 HFR2.out)
  clear HXg HYg HTg HBg hmv HD0 HW HFR2 z0 z1 z2 z3
  have HOF := hid (rof_any ⟨64, ([(0 : Int)] ++ rs)⟩ (.slice y (1 + n2) cap) W3 HD.out.reads (by show ([(0 : Int)] ++ rs).length ≤ 10000000; rw [List.length_append, HN1.out]; show 1 + n2 ≤ 10000000; omega))
  rw [hW3]
  clear hW3
  generalize actF ⟨64, ([(0 : Int)] ++ rs)⟩ = res at HOF HMK
  obtain ⟨er2, ⟨k2, cd2, md2, al2, rq2, cs2, rs2⟩⟩ := res
  dsimp only at HOF HMK
  with_reducible refine HOF.out.mono ?_
  rintro e V1 ⟨cw, rw', rfl, ho1, ho2, hb1, hk1, hk2⟩
  dsimp only at ho1 ho2
  dsimp only [acV]
  obtain ⟨xc, nc, cc, rfl⟩ := own_slice ho1
  obtain ⟨xr, nr, cr, rfl⟩ := own_slice ho2
  have hbA : Below V1.heap.size V1 (V1.alloc (.cells #[.int .i64 k2, .int .i64 cd2, .int .i64 md2, .bool al2, .int .u8 rq2, .slice xc nc cc, .slice xr nr cr] 41)) := bal (Below.refl _ _) _
  have hb2 := below_t hb1 hbA
  have HBV := hid (below_t HB3.out hb2)
  have HU1 := hid (ho1.step hbA)
  have HU2 := hid (ho2.step hbA)
  have HX2 := hid (HX.out.step hb2)
  have HY2 := hid (HY.out.grow (Grow.below hb2 0))
  have HT2 := hid (HT.out.grow (Grow.below hb2 0))
  have HD2 := hid (HD.out.step hb2)
  clear ho1 ho2 hb1 hk1 hk2 hb2 hbA
  by_cases he2 : er2 = 0
  · subst he2
    have hdr : Below (V1.alloc (.cells #[.int .i64 k2, .int .i64 cd2, .int .i64 md2, .bool al2, .int .u8 rq2, .slice xc nc cc, .slice xr nr cr] 41)).heap.size (V1.alloc (.cells #[.int .i64 k2, .int .i64 cd2, .int .i64 md2, .bool al2, .int .u8 rq2, .slice xc nc cc, .slice xr nr cr] 41)) (V1.alloc (.cells #[.int .i64 k2, .int .i64 cd2, .int .i64 md2, .bool al2, .int .u8 rq2, .slice xc nc cc, .slice xr nr cr] 41)).drew := (Below.refl _ _).drew
    have HP0 := hid (HPL.out _ (below_t HBV.out hdr))
    have HSG := hid (fun (cp rp : Value) W (hW : Below (V1.alloc (.cells #[.int .i64 k2, .int .i64 cd2, .int .i64 md2, .bool al2, .int .u8 rq2, .slice xc nc cc, .slice xr nr cr] 41)).heap.size (V1.alloc (.cells #[.int .i64 k2, .int .i64 cd2, .int .i64 md2, .bool al2, .int .u8 rq2, .slice xc nc cc, .slice xr nr cr] 41)) W) (q3 : Reads W cp pa.codes) (q4 : Reads W rp pa.rcd) => rsame_gen ⟨k2, cd2, md2, al2, rq2, cs2, rs2⟩ pa (.slice xc nc cc) (.slice xr nr cr) cp rp W (HU1.out.step hW).reads (HU2.out.step hW).reads q3 q4)
    unfold acV at HP0 HSG
    dsimp only at HSG
    have HX1 := hid (b14_step (w0 := V1.alloc (.cells #[.int .i64 k2, .int .i64 cd2, .int .i64 md2, .bool al2, .int .u8 rq2, .slice xc nc cc, .slice xr nr cr] 41)) ⟨HX2.out.c0, HX2.out.c1, HX2.out.c2, HX2.out.c3, HX2.out.c4, HX2.out.c5, HX2.out.c6, (by simp [go_sem] : (V1.alloc (.cells #[.int .i64 k2, .int .i64 cd2, .int .i64 md2, .bool al2, .int .u8 rq2, .slice xc nc cc, .slice xr nr cr] 41)).cell? ⟨V1.heap.size, 0, none⟩ = some (.int .i64 k2)), (by simp [go_sem] : (V1.alloc (.cells #[.int .i64 k2, .int .i64 cd2, .int .i64 md2, .bool al2, .int .u8 rq2, .slice xc nc cc, .slice xr nr cr] 41)).cell? ⟨V1.heap.size, 1, none⟩ = some (.int .i64 cd2)), (by simp [go_sem] : (V1.alloc (.cells #[.int .i64 k2, .int .i64 cd2, .int .i64 md2, .bool al2, .int .u8 rq2, .slice xc nc cc, .slice xr nr cr] 41)).cell? ⟨V1.heap.size, 2, none⟩ = some (.int .i64 md2)), (by simp [go_sem] : (V1.alloc (.cells #[.int .i64 k2, .int .i64 cd2, .int .i64 md2, .bool al2, .int .u8 rq2, .slice xc nc cc, .slice xr nr cr] 41)).cell? ⟨V1.heap.size, 3, none⟩ = some (.bool al2)), (by simp [go_sem] : (V1.alloc (.cells #[.int .i64 k2, .int .i64 cd2, .int .i64 md2, .bool al2, .int .u8 rq2, .slice xc nc cc, .slice xr nr cr] 41)).cell? ⟨V1.heap.size, 4, none⟩ = some (.int .u8 rq2)), (by simp [go_sem] : (V1.alloc (.cells #[.int .i64 k2, .int .i64 cd2, .int .i64 md2, .bool al2, .int .u8 rq2, .slice xc nc cc, .slice xr nr cr] 41)).cell? ⟨V1.heap.size, 5, none⟩ = some (.slice xc nc cc)), (by simp [go_sem] : (V1.alloc (.cells #[.int .i64 k2, .int .i64 cd2, .int .i64 md2, .bool al2, .int .u8 rq2, .slice xc nc cc, .slice xr nr cr] 41)).cell? ⟨V1.heap.size, 6, none⟩ = some (.slice xr nr cr)), Below.refl _ _⟩ hdr)
    go_wp2
    go_region_held3 (fun w' => w'.cell? ⟨w.heap.size, 0, none⟩ = some (.int .i64 9) ∧ w'.cell? ⟨w.heap.size, 1, none⟩ = some (.int .i64 cd) ∧ w'.cell? ⟨w.heap.size, 2, none⟩ = some (.int .i64 md) ∧ w'.cell? ⟨w.heap.size, 3, none⟩ = some (.bool al) ∧ w'.cell? ⟨w.heap.size, 4, none⟩ = some (.int .u8 rq) ∧ w'.cell? ⟨w.heap.size, 5, none⟩ = some (.slice x1 n1 c1) ∧ w'.cell? ⟨w.heap.size, 6, none⟩ = some (.slice x2 n2 c2) ∧ w'.cell? ⟨V1.heap.size, 0, none⟩ = some (.int .i64 k2) ∧ w'.cell? ⟨V1.heap.size, 1, none⟩ = some (.int .i64 cd2) ∧ w'.cell? ⟨V1.heap.size, 2, none⟩ = some (.int .i64 md2) ∧ w'.cell? ⟨V1.heap.size, 3, none⟩ = some (.bool al2) ∧ w'.cell? ⟨V1.heap.size, 4, none⟩ = some (.int .u8 rq2) ∧ w'.cell? ⟨V1.heap.size, 5, none⟩ = some (.slice xc nc cc) ∧ w'.cell? ⟨V1.heap.size, 6, none⟩ = some (.slice xr nr cr) ∧ Below (V1.alloc (.cells #[.int .i64 k2, .int .i64 cd2, .int .i64 md2, .bool al2, .int .u8 rq2, .slice xc nc cc, .slice xr nr cr] 41)).heap.size (V1.alloc (.cells #[.int .i64 k2, .int .i64 cd2, .int .i64 md2, .bool al2, .int .u8 rq2, .slice xc nc cc, .slice xr nr cr] 41)) w') (first | with_reducible exact HX1.out | with_reducible exact b14_step (by assumption) (by assumption)) (first | (go_at_call 29; (with_reducible refine HP0.out.mono ?_); rintro e w5 ⟨cp, rp, rfl, hq1, hq2, hb5⟩; dsimp only [acV]; have HSA := hid (HSG.out cp rp w5 (below_t hdr hb5) hq1 hq2); obtain ⟨x5, c5, rfl⟩ := reads_sl hq1; obtain ⟨x6, c6, rfl⟩ := reads_sl hq2; clear hq1 hq2) | (go_at_call 18; (with_reducible refine HSA.out.mono ?_); rintro e w6 ⟨⟨r, rfl, hr⟩, hb6⟩; have HR := hid hr; clear hr))
    all_goals
      rename_i hH
      obtain ⟨-, -, -, -, -, -, -, -, -, -, -, -, -, -, hBE⟩ := hH
      have HB4 := hid (below_t HBV.out hBE)
      have HY3 := hid (HY2.out.step hBE)
      have HT3 := hid (HT2.out.step hBE)
      have HD3 := hid (HD2.out.step hBE)
      clear hBE HX2 HY2 HT2 HD2 HU1 HU2 HBV HX1 hdr
      cases r
      · have HM4 := hid (HMK.out.trans (if_pos (.inr (fun q => by have := HR.out.2 q; cases this))))
        clear HT3 HD3
        obtain ⟨z0, z1, z2, z3⟩ := HY3.out
        obtain ⟨r0, r1, -, -⟩ := HY3.out.put (.int .u8 0) (.slice none 0 0)
        have HF := hid (HNO.out _ ((HB4.out.setCell (p := ⟨w.heap.size + 1, 0, none⟩) (by exact Nat.le_succ _) (.int .u8 0)).setCell (p := ⟨w.heap.size + 1, 1, none⟩) (by exact Nat.le_succ _) (.slice none 0 0)) HM4.out)
        clear HY3 HB4 HM4
        revert r0 r1 HF
        generalize hW : ((w6.setCell ⟨w.heap.size + 1, 0, none⟩ (.int .u8 0)).setCell ⟨w.heap.size + 1, 1, none⟩ (.slice none 0 0)) = Wf
        intro r0 r1 HF
        go_wp2
        (try rw [hW])
        exact bodyPost_ret (v := .tuple #[.agg #[.int .u8 0, .slice none 0 0], .int .i64 4]) (by simp [results, Tryd.results25, go_sem, r0, r1]) rfl HF.out
      · have HM0 := hid (HMK.out.trans (if_neg (fun q => q.elim (fun q => q rfl) (fun q => q (HR.out.1 rfl)))))
        obtain ⟨z0, z1, z2, z3⟩ := HY3.out
        obtain ⟨t0, t1, -, -⟩ := HT3.out
        obtain ⟨r0, r1, -, -⟩ := HY3.out.put (.int .u8 (64)) (.slice y (1 + n2) cap)
        have HF := hid (show MkD mk w (.returned (.tuple #[.agg #[.int .u8 (64), .slice y (1 + n2) cap], .int .i64 0])) ((w6.setCell ⟨w.heap.size + 1, 0, none⟩ (.int .u8 (64))).setCell ⟨w.heap.size + 1, 1, none⟩ (.slice y (1 + n2) cap)) from by
          rw [HM0.out]
          exact ⟨_, rfl, put2_own _ _ HD3.out HFR.out, (HB4.out.setCell (p := ⟨w.heap.size + 1, 0, none⟩) (by exact Nat.le_succ _) _).setCell (p := ⟨w.heap.size + 1, 1, none⟩) (by exact Nat.le_succ _) _, fun k hk => by have := HFR.out k hk; omega⟩)
        clear HY3 HT3 HD3 HB4 HM0
        revert r0 r1 HF
        generalize hW : ((w6.setCell ⟨w.heap.size + 1, 0, none⟩ (.int .u8 (64))).setCell ⟨w.heap.size + 1, 1, none⟩ (.slice y (1 + n2) cap)) = Wf
        intro r0 r1 HF
        go_wp2
        (try rw [hW])
        exact bodyPost_ret (v := .tuple #[.agg #[.int .u8 (64), .slice y (1 + n2) cap], .int .i64 0]) (by simp [results, Tryd.results25, go_sem, r0, r1]) rfl HF.out
  · have hne : (er2 == 0) = false := by simpa using he2
    have hne' : (er2 != 0) = true := by simpa using he2
    have HM4 := hid (HMK.out.trans (if_pos (.inl he2)))
    go_wp2
    go_quiet (fail)
    have HB4 := hid (below_drewN HBV.out nq)
    have HY3 := hid (HY2.out.grow (Grow.below (below_drewN (Below.refl _ _) nq) 0))
    clear HX2 HY2 HT2 HD2 HU1 HU2 HBV
    revert HB4 HY3
    generalize ((V1.alloc (.cells #[.int .i64 k2, .int .i64 cd2, .int .i64 md2, .bool al2, .int .u8 rq2, .slice xc nc cc, .slice xr nr cr] 41)).drewN nq) = W4
    intro HB4 HY3
    obtain ⟨z0, z1, z2, z3⟩ := HY3.out
    obtain ⟨r0, r1, -, -⟩ := HY3.out.put (.int .u8 0) (.slice none 0 0)
    have HF := hid (HNO.out _ ((HB4.out.setCell (p := ⟨w.heap.size + 1, 0, none⟩) (by exact Nat.le_succ _) (.int .u8 0)).setCell (p := ⟨w.heap.size + 1, 1, none⟩) (by exact Nat.le_succ _) (.slice none 0 0)) HM4.out)
    clear HY3 HB4 HM4
    revert r0 r1 HF
    generalize hW : ((W4.setCell ⟨w.heap.size + 1, 0, none⟩ (.int .u8 0)).setCell ⟨w.heap.size + 1, 1, none⟩ (.slice none 0 0)) = Wf
    intro r0 r1 HF
    go_wp2
    (try rw [hW])
    exact bodyPost_ret (v := .tuple #[.agg #[.int .u8 0, .slice none 0 0], .int .i64 4]) (by simp [results, Tryd.results25, go_sem, r0, r1]) rfl HF.out
set_option maxRecDepth 100000 in
set_option maxHeartbeats 4000000 in
theorem make_2 (a : AcD) (cv rv : Value) (w : World) (h1 : Reads w cv a.codes) (h2 : Reads w rv a.rcd) (hk : a.kind = 2) (hl : a.codes.length ≤ 1000000) (hq : 0 ≤ a.req ∧ a.req < 256) : Calls Tryd.prog 25 #[acV a cv rv] w (MkD (makeF a) w) := by
  have HPL := hid (fun W (hW : Below w.heap.size w W) => plain_any a cv rv W (reads_below h1 hW) (reads_below h2 hW))
  have HNO := hid (fun w' (hb : Below w.heap.size w w') (q : makeF a = (4, sfZ)) => mk_no (er := 4) q hb)
  obtain ⟨k, cd, md, al, rq, cs, rs⟩ := a
  unfold acV at HPL ⊢
  dsimp only at h1 h2 hk HPL hl hq ⊢
  subst hk
  have HMK := hid (show makeF ⟨2, cd, md, al, rq, cs, rs⟩ = if (actF ⟨1, ([255, 3, rq] ++ cs)⟩).1 ≠ 0 ∨ (actF ⟨1, ([255, 3, rq] ++ cs)⟩).2 ≠ plainF ⟨2, cd, md, al, rq, cs, rs⟩ then (4, sfZ) else (0, ⟨1, ([255, 3, rq] ++ cs)⟩) from rfl)
  generalize plainF ⟨2, cd, md, al, rq, cs, rs⟩ = pa at HPL HMK
  generalize makeF ⟨2, cd, md, al, rq, cs, rs⟩ = mk at HNO HMK ⊢
  have HU := hid (fun W (hW : Below w.heap.size w W) => reads_below h1 hW)
  have HBY := hid (show BytL ([255, 3, rq] ++ cs) from (show BytL [255, 3, rq] from by intro x hx; simp only [List.mem_cons, List.not_mem_nil, or_false] at hx; omega).append h1.1)
  obtain ⟨x1, c1, rfl⟩ := reads_sl h1
  obtain ⟨x2, c2, rfl⟩ := reads_sl h2
  clear h1 h2
  generalize rs.length = n2 at *
  obtain ⟨n1, hn1⟩ : ∃ n, cs.length = n := ⟨_, rfl⟩
  have HN1 := hid hn1
  rw [hn1] at HPL HU hl ⊢
  clear hn1
  go_enter Tryd.func25, Tryd.ntmps25
  have hbl : Below w.heap.size w ((((w.alloc (.cells #[.int .i64 2, .int .i64 cd, .int .i64 md, .bool al, .int .u8 rq, .slice x1 n1 c1, .slice x2 n2 c2] 41)).alloc (.cells #[.int .u8 0, .slice none 0 0] 36)).alloc (.cells #[.int .u8 0, .slice none 0 0] 36)).alloc (.cells #[.int .u8 (255), .int .u8 (3), .int .u8 (rq)] 5)) := bal (bal (bal (bal (Below.refl _ _) _) _) _) _
  have HUl := hid (HU.out _ hbl)
  have HO := hid (World.ownsRow_lit (e := 5) (size := 1) (base := w.heap.size + 1 + 1 + 1) (((w.alloc (.cells #[.int .i64 2, .int .i64 cd, .int .i64 md, .bool al, .int .u8 rq, .slice x1 n1 c1, .slice x2 n2 c2] 41)).alloc (.cells #[.int .u8 0, .slice none 0 0] 36)).alloc (.cells #[.int .u8 0, .slice none 0 0] 36)) #[.int .u8 (255), .int .u8 (3), .int .u8 (rq)] 3 (by simp) (by unfold maxLen; omega) rfl)
  rw [show (((w.alloc (.cells #[.int .i64 2, .int .i64 cd, .int .i64 md, .bool al, .int .u8 rq, .slice x1 n1 c1, .slice x2 n2 c2] 41)).alloc (.cells #[.int .u8 0, .slice none 0 0] 36)).alloc (.cells #[.int .u8 0, .slice none 0 0] 36)).heap.size = w.heap.size + 1 + 1 + 1 by simp] at HO
  have HXl := hid (show Box7 ((((w.alloc (.cells #[.int .i64 2, .int .i64 cd, .int .i64 md, .bool al, .int .u8 rq, .slice x1 n1 c1, .slice x2 n2 c2] 41)).alloc (.cells #[.int .u8 0, .slice none 0 0] 36)).alloc (.cells #[.int .u8 0, .slice none 0 0] 36)).alloc (.cells #[.int .u8 (255), .int .u8 (3), .int .u8 (rq)] 5)) w.heap.size (.int .i64 2) (.int .i64 cd) (.int .i64 md) (.bool al) (.int .u8 rq) (.slice x1 n1 c1) (.slice x2 n2 c2) from ⟨by simp [go_sem], by simp [go_sem], by simp [go_sem], by simp [go_sem], by simp [go_sem], by simp [go_sem], by simp [go_sem], fun i _ => by simp [go_sem]⟩)
  have HYl := hid (show Box2 ((((w.alloc (.cells #[.int .i64 2, .int .i64 cd, .int .i64 md, .bool al, .int .u8 rq, .slice x1 n1 c1, .slice x2 n2 c2] 41)).alloc (.cells #[.int .u8 0, .slice none 0 0] 36)).alloc (.cells #[.int .u8 0, .slice none 0 0] 36)).alloc (.cells #[.int .u8 (255), .int .u8 (3), .int .u8 (rq)] 5)) (w.heap.size + 1) (.int .u8 0) (.slice none 0 0) from ⟨by simp [go_sem], by simp [go_sem], by simp [go_sem], by simp [go_sem]⟩)
  have HTl := hid (show Box2 ((((w.alloc (.cells #[.int .i64 2, .int .i64 cd, .int .i64 md, .bool al, .int .u8 rq, .slice x1 n1 c1, .slice x2 n2 c2] 41)).alloc (.cells #[.int .u8 0, .slice none 0 0] 36)).alloc (.cells #[.int .u8 0, .slice none 0 0] 36)).alloc (.cells #[.int .u8 (255), .int .u8 (3), .int .u8 (rq)] 5)) (w.heap.size + 1 + 1) (.int .u8 0) (.slice none 0 0) from ⟨by simp [go_sem], by simp [go_sem], by simp [go_sem], by simp [go_sem]⟩)
  have HBl := hid hbl
  clear hbl HU
  go_wp2_with (at_builtin; refine wpList_append_bytes rfl (.tmp 27) (.tmp 29) rfl (w.heap.size + 1 + 1 + 1) 3 _ _ [255, 3, rq] cs rfl rfl HO.out HUl.out (by have := HN1.out; omega) (by simp) (3 + n1) (by rw [HN1.out]) _ rfl ?_; intro y cap w' hown hgrow; have HW := hid hown; have hmv : Moved _ w' [w.heap.size + 1 + 1 + 1] [] := Moved.grown hgrow (fun k hk => List.mem_singleton.2 (Option.some.inj hk).symm) (fun k hk => by cases hk); have HXg := hid (HXl.out.moved hmv (fun q => by have := List.mem_singleton.1 q; omega)); have HYg := hid (HYl.out.moved hmv (fun q => by have := List.mem_singleton.1 q; omega)); have HTg := hid (HTl.out.moved hmv (fun q => by have := List.mem_singleton.1 q; omega)); have HBg := hid (HBl.out.grown hgrow (by simp; omega) (fun k hk => by have e : w.heap.size + 1 + 1 + 1 = k := Option.some.inj hk; omega)); obtain ⟨z0, z1, z2, z3⟩ := HTg.out; clear hown hgrow hmv HXl HYl HTl HBl HO HUl)
  obtain ⟨W3, hW3⟩ : ∃ W3, ((w'.setCell ⟨w.heap.size + 1 + 1, 0, none⟩ (.int .u8 (1))).setCell ⟨w.heap.size + 1 + 1, 1, none⟩ (.slice y (3 + n1) cap)) = W3 := ⟨_, rfl⟩
  have hmv := set2_moved w' (w.heap.size + 1 + 1) (.int .u8 (1)) (.slice y (3 + n1) cap)
  have HD0 : OwnB w' (.slice y (3 + n1) cap) ([255, 3, rq] ++ cs) := ⟨HBY.out, by
    have q := HW.out.mono (Nat.zero_le _)
    show World.ownsRow w' 0 5 1 (.slice y (3 + n1) cap) ([255, 3, rq] ++ cs).length (List.map (Value.int .u8) ([255, 3, rq] ++ cs))
    rw [show ([255, 3, rq] ++ cs).length = 3 + n1 by rw [List.length_append, HN1.out]; rfl]
    exact q⟩
  have HFR := hid (show ∀ k ∈ blkV (.slice y (3 + n1) cap), w.heap.size + 1 < k from fun k hk => by have := (HW.out.lt k (mem_blkV.1 hk)).1; omega)
  have HFR2 := hid (show ∀ k ∈ blkV (.slice y (3 + n1) cap), w.heap.size + 1 + 1 < k from fun k hk => by have := (HW.out.lt k (mem_blkV.1 hk)).1; omega)
  have HB3 := hid (show Below w.heap.size w W3 by rw [← hW3]; exact (HBg.out.setCell (p := ⟨w.heap.size + 1 + 1, 0, none⟩) (by exact Nat.le_add_right _ 2) _).setCell (p := ⟨w.heap.size + 1 + 1, 1, none⟩) (by exact Nat.le_add_right _ 2) _)
  have HX := hid (show Box7 W3 w.heap.size (.int .i64 2) (.int .i64 cd) (.int .i64 md) (.bool al) (.int .u8 rq) (.slice x1 n1 c1) (.slice x2 n2 c2) by rw [← hW3]; exact HXg.out.moved hmv (fun q => by have := List.mem_singleton.1 q; omega))
  have HY := hid (show Box2 W3 (w.heap.size + 1) (.int .u8 0) (.slice none 0 0) by rw [← hW3]; exact HYg.out.moved hmv (fun q => by have := List.mem_singleton.1 q; omega))
  have HT := hid (show Box2 W3 (w.heap.size + 1 + 1) (.int .u8 (1)) (.slice y (3 + n1) cap) by rw [← hW3]; exact HTg.out.put _ _)
  have HD := hid (show OwnB W3 (.slice y (3 + n1) cap) ([255, 3, rq] ++ cs) by rw [← hW3]; exact put2_own _ _ HD0 HFR2.out)
  clear HXg HYg HTg HBg hmv HD0 HW HFR2 z0 z1 z2 z3
  have HOF := hid (rof_any ⟨1, ([255, 3, rq] ++ cs)⟩ (.slice y (3 + n1) cap) W3 HD.out.reads (by show ([255, 3, rq] ++ cs).length ≤ 10000000; rw [List.length_append, HN1.out]; show 3 + n1 ≤ 10000000; omega))
  rw [hW3]
  clear hW3
  generalize actF ⟨1, ([255, 3, rq] ++ cs)⟩ = res at HOF HMK
  obtain ⟨er2, ⟨k2, cd2, md2, al2, rq2, cs2, rs2⟩⟩ := res
  dsimp only at HOF HMK
  with_reducible refine HOF.out.mono ?_
  rintro e V1 ⟨cw, rw', rfl, ho1, ho2, hb1, hk1, hk2⟩
  dsimp only at ho1 ho2
  dsimp only [acV]
  obtain ⟨xc, nc, cc, rfl⟩ := own_slice ho1
  obtain ⟨xr, nr, cr, rfl⟩ := own_slice ho2
  have hbA : Below V1.heap.size V1 (V1.alloc (.cells #[.int .i64 k2, .int .i64 cd2, .int .i64 md2, .bool al2, .int .u8 rq2, .slice xc nc cc, .slice xr nr cr] 41)) := bal (Below.refl _ _) _
  have hb2 := below_t hb1 hbA
  have HBV := hid (below_t HB3.out hb2)
  have HU1 := hid (ho1.step hbA)
  have HU2 := hid (ho2.step hbA)
  have HX2 := hid (HX.out.step hb2)
  have HY2 := hid (HY.out.grow (Grow.below hb2 0))
  have HT2 := hid (HT.out.grow (Grow.below hb2 0))
  have HD2 := hid (HD.out.step hb2)
  clear ho1 ho2 hb1 hk1 hk2 hb2 hbA
  by_cases he2 : er2 = 0
  · subst he2
    have hdr : Below (V1.alloc (.cells #[.int .i64 k2, .int .i64 cd2, .int .i64 md2, .bool al2, .int .u8 rq2, .slice xc nc cc, .slice xr nr cr] 41)).heap.size (V1.alloc (.cells #[.int .i64 k2, .int .i64 cd2, .int .i64 md2, .bool al2, .int .u8 rq2, .slice xc nc cc, .slice xr nr cr] 41)) (V1.alloc (.cells #[.int .i64 k2, .int .i64 cd2, .int .i64 md2, .bool al2, .int .u8 rq2, .slice xc nc cc, .slice xr nr cr] 41)).drew := (Below.refl _ _).drew
    have HP0 := hid (HPL.out _ (below_t HBV.out hdr))
    have HSG := hid (fun (cp rp : Value) W (hW : Below (V1.alloc (.cells #[.int .i64 k2, .int .i64 cd2, .int .i64 md2, .bool al2, .int .u8 rq2, .slice xc nc cc, .slice xr nr cr] 41)).heap.size (V1.alloc (.cells #[.int .i64 k2, .int .i64 cd2, .int .i64 md2, .bool al2, .int .u8 rq2, .slice xc nc cc, .slice xr nr cr] 41)) W) (q3 : Reads W cp pa.codes) (q4 : Reads W rp pa.rcd) => rsame_gen ⟨k2, cd2, md2, al2, rq2, cs2, rs2⟩ pa (.slice xc nc cc) (.slice xr nr cr) cp rp W (HU1.out.step hW).reads (HU2.out.step hW).reads q3 q4)
    unfold acV at HP0 HSG
    dsimp only at HSG
    have HX1 := hid (b14_step (w0 := V1.alloc (.cells #[.int .i64 k2, .int .i64 cd2, .int .i64 md2, .bool al2, .int .u8 rq2, .slice xc nc cc, .slice xr nr cr] 41)) ⟨HX2.out.c0, HX2.out.c1, HX2.out.c2, HX2.out.c3, HX2.out.c4, HX2.out.c5, HX2.out.c6, (by simp [go_sem] : (V1.alloc (.cells #[.int .i64 k2, .int .i64 cd2, .int .i64 md2, .bool al2, .int .u8 rq2, .slice xc nc cc, .slice xr nr cr] 41)).cell? ⟨V1.heap.size, 0, none⟩ = some (.int .i64 k2)), (by simp [go_sem] : (V1.alloc (.cells #[.int .i64 k2, .int .i64 cd2, .int .i64 md2, .bool al2, .int .u8 rq2, .slice xc nc cc, .slice xr nr cr] 41)).cell? ⟨V1.heap.size, 1, none⟩ = some (.int .i64 cd2)), (by simp [go_sem] : (V1.alloc (.cells #[.int .i64 k2, .int .i64 cd2, .int .i64 md2, .bool al2, .int .u8 rq2, .slice xc nc cc, .slice xr nr cr] 41)).cell? ⟨V1.heap.size, 2, none⟩ = some (.int .i64 md2)), (by simp [go_sem] : (V1.alloc (.cells #[.int .i64 k2, .int .i64 cd2, .int .i64 md2, .bool al2, .int .u8 rq2, .slice xc nc cc, .slice xr nr cr] 41)).cell? ⟨V1.heap.size, 3, none⟩ = some (.bool al2)), (by simp [go_sem] : (V1.alloc (.cells #[.int .i64 k2, .int .i64 cd2, .int .i64 md2, .bool al2, .int .u8 rq2, .slice xc nc cc, .slice xr nr cr] 41)).cell? ⟨V1.heap.size, 4, none⟩ = some (.int .u8 rq2)), (by simp [go_sem] : (V1.alloc (.cells #[.int .i64 k2, .int .i64 cd2, .int .i64 md2, .bool al2, .int .u8 rq2, .slice xc nc cc, .slice xr nr cr] 41)).cell? ⟨V1.heap.size, 5, none⟩ = some (.slice xc nc cc)), (by simp [go_sem] : (V1.alloc (.cells #[.int .i64 k2, .int .i64 cd2, .int .i64 md2, .bool al2, .int .u8 rq2, .slice xc nc cc, .slice xr nr cr] 41)).cell? ⟨V1.heap.size, 6, none⟩ = some (.slice xr nr cr)), Below.refl _ _⟩ hdr)
    go_wp2
    go_region_held3 (fun w' => w'.cell? ⟨w.heap.size, 0, none⟩ = some (.int .i64 2) ∧ w'.cell? ⟨w.heap.size, 1, none⟩ = some (.int .i64 cd) ∧ w'.cell? ⟨w.heap.size, 2, none⟩ = some (.int .i64 md) ∧ w'.cell? ⟨w.heap.size, 3, none⟩ = some (.bool al) ∧ w'.cell? ⟨w.heap.size, 4, none⟩ = some (.int .u8 rq) ∧ w'.cell? ⟨w.heap.size, 5, none⟩ = some (.slice x1 n1 c1) ∧ w'.cell? ⟨w.heap.size, 6, none⟩ = some (.slice x2 n2 c2) ∧ w'.cell? ⟨V1.heap.size, 0, none⟩ = some (.int .i64 k2) ∧ w'.cell? ⟨V1.heap.size, 1, none⟩ = some (.int .i64 cd2) ∧ w'.cell? ⟨V1.heap.size, 2, none⟩ = some (.int .i64 md2) ∧ w'.cell? ⟨V1.heap.size, 3, none⟩ = some (.bool al2) ∧ w'.cell? ⟨V1.heap.size, 4, none⟩ = some (.int .u8 rq2) ∧ w'.cell? ⟨V1.heap.size, 5, none⟩ = some (.slice xc nc cc) ∧ w'.cell? ⟨V1.heap.size, 6, none⟩ = some (.slice xr nr cr) ∧ Below (V1.alloc (.cells #[.int .i64 k2, .int .i64 cd2, .int .i64 md2, .bool al2, .int .u8 rq2, .slice xc nc cc, .slice xr nr cr] 41)).heap.size (V1.alloc (.cells #[.int .i64 k2, .int .i64 cd2, .int .i64 md2, .bool al2, .int .u8 rq2, .slice xc nc cc, .slice xr nr cr] 41)) w') (first | with_reducible exact HX1.out | with_reducible exact b14_step (by assumption) (by assumption)) (first | (go_at_call 29; (with_reducible refine HP0.out.mono ?_); rintro e w5 ⟨cp, rp, rfl, hq1, hq2, hb5⟩; dsimp only [acV]; have HSA := hid (HSG.out cp rp w5 (below_t hdr hb5) hq1 hq2); obtain ⟨x5, c5, rfl⟩ := reads_sl hq1; obtain ⟨x6, c6, rfl⟩ := reads_sl hq2; clear hq1 hq2) | (go_at_call 18; (with_reducible refine HSA.out.mono ?_); rintro e w6 ⟨⟨r, rfl, hr⟩, hb6⟩; have HR := hid hr; clear hr))
    all_goals
      rename_i hH
      obtain ⟨-, -, -, -, -, -, -, -, -, -, -, -, -, -, hBE⟩ := hH
      have HB4 := hid (below_t HBV.out hBE)
      have HY3 := hid (HY2.out.step hBE)
      have HT3 := hid (HT2.out.step hBE)
      have HD3 := hid (HD2.out.step hBE)
      clear hBE HX2 HY2 HT2 HD2 HU1 HU2 HBV HX1 hdr
      cases r
      · have HM4 := hid (HMK.out.trans (if_pos (.inr (fun q => by have := HR.out.2 q; cases this))))
        clear HT3 HD3
        obtain ⟨z0, z1, z2, z3⟩ := HY3.out
        obtain ⟨r0, r1, -, -⟩ := HY3.out.put (.int .u8 0) (.slice none 0 0)
        have HF := hid (HNO.out _ ((HB4.out.setCell (p := ⟨w.heap.size + 1, 0, none⟩) (by exact Nat.le_succ _) (.int .u8 0)).setCell (p := ⟨w.heap.size + 1, 1, none⟩) (by exact Nat.le_succ _) (.slice none 0 0)) HM4.out)
        clear HY3 HB4 HM4
        revert r0 r1 HF
        generalize hW : ((w6.setCell ⟨w.heap.size + 1, 0, none⟩ (.int .u8 0)).setCell ⟨w.heap.size + 1, 1, none⟩ (.slice none 0 0)) = Wf
        intro r0 r1 HF
        go_wp2
        (try rw [hW])
        exact bodyPost_ret (v := .tuple #[.agg #[.int .u8 0, .slice none 0 0], .int .i64 4]) (by simp [results, Tryd.results25, go_sem, r0, r1]) rfl HF.out
      · have HM0 := hid (HMK.out.trans (if_neg (fun q => q.elim (fun q => q rfl) (fun q => q (HR.out.1 rfl)))))
        obtain ⟨z0, z1, z2, z3⟩ := HY3.out
        obtain ⟨t0, t1, -, -⟩ := HT3.out
        obtain ⟨r0, r1, -, -⟩ := HY3.out.put (.int .u8 (1)) (.slice y (3 + n1) cap)
        have HF := hid (show MkD mk w (.returned (.tuple #[.agg #[.int .u8 (1), .slice y (3 + n1) cap], .int .i64 0])) ((w6.setCell ⟨w.heap.size + 1, 0, none⟩ (.int .u8 (1))).setCell ⟨w.heap.size + 1, 1, none⟩ (.slice y (3 + n1) cap)) from by
          rw [HM0.out]
          exact ⟨_, rfl, put2_own _ _ HD3.out HFR.out, (HB4.out.setCell (p := ⟨w.heap.size + 1, 0, none⟩) (by exact Nat.le_succ _) _).setCell (p := ⟨w.heap.size + 1, 1, none⟩) (by exact Nat.le_succ _) _, fun k hk => by have := HFR.out k hk; omega⟩)
        clear HY3 HT3 HD3 HB4 HM0
        revert r0 r1 HF
        generalize hW : ((w6.setCell ⟨w.heap.size + 1, 0, none⟩ (.int .u8 (1))).setCell ⟨w.heap.size + 1, 1, none⟩ (.slice y (3 + n1) cap)) = Wf
        intro r0 r1 HF
        go_wp2
        (try rw [hW])
        exact bodyPost_ret (v := .tuple #[.agg #[.int .u8 (1), .slice y (3 + n1) cap], .int .i64 0]) (by simp [results, Tryd.results25, go_sem, r0, r1]) rfl HF.out
  · have hne : (er2 == 0) = false := by simpa using he2
    have hne' : (er2 != 0) = true := by simpa using he2
    have HM4 := hid (HMK.out.trans (if_pos (.inl he2)))
    go_wp2
    go_quiet (fail)
    have HB4 := hid (below_drewN HBV.out nq)
    have HY3 := hid (HY2.out.grow (Grow.below (below_drewN (Below.refl _ _) nq) 0))
    clear HX2 HY2 HT2 HD2 HU1 HU2 HBV
    revert HB4 HY3
    generalize ((V1.alloc (.cells #[.int .i64 k2, .int .i64 cd2, .int .i64 md2, .bool al2, .int .u8 rq2, .slice xc nc cc, .slice xr nr cr] 41)).drewN nq) = W4
    intro HB4 HY3
    obtain ⟨z0, z1, z2, z3⟩ := HY3.out
    obtain ⟨r0, r1, -, -⟩ := HY3.out.put (.int .u8 0) (.slice none 0 0)
    have HF := hid (HNO.out _ ((HB4.out.setCell (p := ⟨w.heap.size + 1, 0, none⟩) (by exact Nat.le_succ _) (.int .u8 0)).setCell (p := ⟨w.heap.size + 1, 1, none⟩) (by exact Nat.le_succ _) (.slice none 0 0)) HM4.out)
    clear HY3 HB4 HM4
    revert r0 r1 HF
    generalize hW : ((W4.setCell ⟨w.heap.size + 1, 0, none⟩ (.int .u8 0)).setCell ⟨w.heap.size + 1, 1, none⟩ (.slice none 0 0)) = Wf
    intro r0 r1 HF
    go_wp2
    (try rw [hW])
    exact bodyPost_ret (v := .tuple #[.agg #[.int .u8 0, .slice none 0 0], .int .i64 4]) (by simp [results, Tryd.results25, go_sem, r0, r1]) rfl HF.out
set_option maxRecDepth 100000 in
set_option maxHeartbeats 4000000 in
theorem make_no (a : AcD) (cv rv : Value) (w : World) (h1 : Reads w cv a.codes) (h2 : Reads w rv a.rcd) (hk : a.kind < 1 ∨ 9 < a.kind) : Calls Tryd.prog 25 #[acV a cv rv] w (MkD (makeF a) w) := by
  have HE := hid (fun w' (hb : Below w.heap.size w w') => mk_no (a := a) (er := 1) (if_pos hk) hb)
  generalize makeF a = mk at HE ⊢
  obtain ⟨k, cd, md, al, rq, cs, rs⟩ := a
  unfold acV
  dsimp only at h1 h2 hk ⊢
  obtain ⟨x1, c1, rfl⟩ := reads_sl h1
  obtain ⟨x2, c2, rfl⟩ := reads_sl h2
  clear h1 h2
  generalize cs.length = n1 at *
  generalize rs.length = n2 at *
  by_cases h0 : k < 1
  · clear hk
    go_enter Tryd.func25, Tryd.ntmps25
    go_wp2
    refine bodyPost_ret (v := .tuple #[.agg #[.int .u8 0, .slice none 0 0], .int .i64 1]) (by simp [results, Tryd.results25, go_sem]) rfl (HE.out _ ?_)
    exact bal (bal (Below.refl _ _) _) _
  · have h9 : 9 < k := hk.resolve_left h0
    clear hk
    go_enter Tryd.func25, Tryd.ntmps25
    go_wp2
    refine bodyPost_ret (v := .tuple #[.agg #[.int .u8 0, .slice none 0 0], .int .i64 1]) (by simp [results, Tryd.results25, go_sem]) rfl (HE.out _ ?_)
    exact bal (bal (Below.refl _ _) _) _
theorem make_any (a : AcD) (cv rv : Value) (w : World) (h1 : Reads w cv a.codes) (h2 : Reads w rv a.rcd) (hl1 : a.codes.length ≤ 1000000) (hl2 : a.rcd.length ≤ 1000000) (hq : 0 ≤ a.req ∧ a.req < 256) (hI : I64 a.cmd) : Calls Tryd.prog 25 #[acV a cv rv] w (MkD (makeF a) w) := by
  by_cases hk : a.kind < 1 ∨ 9 < a.kind
  · exact make_no a cv rv w h1 h2 hk
  by_cases e1 : a.kind = 1
  · exact make_1 a cv rv w h1 h2 e1
  by_cases e2 : a.kind = 2
  · exact make_2 a cv rv w h1 h2 e2 hl1 hq
  by_cases e3 : a.kind = 3
  · exact make_3 a cv rv w h1 h2 e3 hI
  by_cases e4 : a.kind = 4
  · cases ha : a.alt
    · exact make_4f a cv rv w h1 h2 e4 ha
    · exact make_4t a cv rv w h1 h2 e4 ha
  by_cases e5 : a.kind = 5
  · exact make_5 a cv rv w h1 h2 e5
  by_cases e6 : a.kind = 6
  · exact make_6 a cv rv w h1 h2 e6
  by_cases e7 : a.kind = 7
  · exact make_7 a cv rv w h1 h2 e7
  by_cases e8 : a.kind = 8
  · exact make_8 a cv rv w h1 h2 e8
  exact make_9 a cv rv w h1 h2 (by omega) hl2
theorem fieldF_ok {a : AcD} (hk : ¬ (a.kind < 1 ∨ 9 < a.kind)) (h1 : a.codes.length ≤ 1000000) (h2 : a.rcd.length ≤ 1000000) : (0 ≤ (fieldF a).id ∧ (fieldF a).id < 256) ∧ (fieldF a).data.length ≤ 10000000 := by
  unfold fieldF
  repeat' split
  all_goals
    refine ⟨⟨by dsimp only; omega, by dsimp only; omega⟩, ?_⟩
    simp only [List.length_append, List.length_cons, List.length_nil]
    omega
theorem makeF_ok {a : AcD} (h1 : a.codes.length ≤ 1000000) (h2 : a.rcd.length ≤ 1000000) : (0 ≤ (makeF a).2.id ∧ (makeF a).2.id < 256) ∧ (makeF a).2.data.length ≤ 10000000 := by
  unfold makeF
  split
  · exact ⟨⟨Int.le_refl _, by decide⟩, by decide⟩
  · split
    · exact ⟨⟨Int.le_refl _, by decide⟩, by decide⟩
    · exact fieldF_ok (by assumption) h1 h2
end Go.Proofs.YtdpgmepblmlaaaaDoor
