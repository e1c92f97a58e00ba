/-
  SfieldActs: every act has its field.
-/
import Derived.Test.YtdpgmepblmlaaaaDoorSk
import Derived.Deep.RegionHeld3
namespace Go.Proofs.YtdpgmepblmlaaaaDoor
open Go.RowKit Go.Lib Go.Deep

theorem fewF_fewA (a : AcD) : fewF (fewF a) = fewF a := by
  unfold fewF
  simp [List.take_take]
/-- The kind's cell and those of two fields. -/
abbrev C5 (w0 w : World) (b b' b'' : Nat) (v0 u0 u1 t0 t1 : Value) : Prop := w.cell? ⟨b, 0, none⟩ = some v0 ∧ w.cell? ⟨b', 0, none⟩ = some u0 ∧ w.cell? ⟨b', 1, none⟩ = some u1 ∧ w.cell? ⟨b'', 0, none⟩ = some t0 ∧ w.cell? ⟨b'', 1, none⟩ = some t1 ∧ Below w0.heap.size w0 w
theorem c5_step {w0 w w' : World} {b b' b'' : Nat} {v0 u0 u1 t0 t1 : Value} (h : w.cell? ⟨b, 0, none⟩ = some v0 ∧ w.cell? ⟨b', 0, none⟩ = some u0 ∧ w.cell? ⟨b', 1, none⟩ = some u1 ∧ w.cell? ⟨b'', 0, none⟩ = some t0 ∧ w.cell? ⟨b'', 1, none⟩ = some t1 ∧ Below w0.heap.size w0 w) (hb : Below w.heap.size w w') : C5 w0 w' b b' b'' v0 u0 u1 t0 t1 := by
  obtain ⟨a0, a1, a2, a3, a4, hB⟩ := h
  exact ⟨keepc hb a0, keepc hb a1, keepc hb a2, keepc hb a3, keepc hb a4, below_t hB hb⟩
set_option maxRecDepth 100000 in
set_option maxHeartbeats 4000000 in
theorem sfieldActs_walk (d : AcD) (cv rv : Value) (w : World) (h1 : Reads w cv d.codes) (h2 : Reads w rv d.rcd) (hq : 0 ≤ d.req ∧ d.req < 256) (hI : I64 d.cmd) (hC : Cods w) (hK : Knd w) : Calls Tryd.prog 4 #[acV d cv rv] w fun e w' => e = .returned (.bool true) ∧ Below w.heap.size w w' := by
  have HAW := hid (awake21 (w.alloc (.cells #[.int .i64 d.kind, .int .i64 d.cmd, .int .i64 d.mode, .bool d.alt, .int .u8 d.req, cv, rv] 41)) (hC.go (bal (Below.refl _ _) _)))
  have HF1 := hid (fun W (hW : Below w.heap.size w W) => few_any d cv rv W (reads_below h1 hW) (reads_below h2 hW))
  have hok : ActOK (fewF d) := ⟨⟨by show (d.codes.take 20).length ≤ _; rw [List.length_take]; omega, by show (d.rcd.take 300).length ≤ _; rw [List.length_take]; omega⟩, hq, hI⟩
  have HOK := hid hok
  have HF2 := hid (fun cv1 rv1 W (q1 : Reads W cv1 (fewF d).codes) (q2 : Reads W rv1 (fewF d).rcd) => (show Calls Tryd.prog 23 #[acV (fewF d) cv1 rv1] W (fun e w' => ∃ cv rv, e = .returned (acV (fewF d) cv rv) ∧ ActM W w' (fewF d) cv rv) from by
    have q := few_any (fewF d) cv1 rv1 W q1 q2
    rwa [fewF_fewA] at q))
  have HFI := hid (fun cv1 rv1 W (q1 : Reads W cv1 (fewF d).codes) (q2 : Reads W rv1 (fewF d).rcd) (hW : Below w.heap.size w W) => field_any (fewF d) cv1 rv1 W q1 q2 HOK.out (hC.go hW))
  have HMK := hid (fun cv1 rv1 W (q1 : Reads W cv1 (fewF d).codes) (q2 : Reads W rv1 (fewF d).rcd) => make_any (fewF d) cv1 rv1 W q1 q2 HOK.out.1.1 HOK.out.1.2 HOK.out.2.1 HOK.out.2.2)
  have HPL := hid (fun cv1 rv1 W (q1 : Reads W cv1 (fewF d).codes) (q2 : Reads W rv1 (fewF d).rcd) => plain_any (fewF d) cv1 rv1 W q1 q2)
  have HFO := makeF_ok (a := fewF d) hok.1.1 hok.1.2
  have HTOLD := hid (fun h => makeF_told (a := fewF d) h)
  have HKN := hid (fun W (hW : Below w.heap.size w W) => kname_any d.kind W (hK.go hW))
  have HCO := hid (fun W (hW : Below w.heap.size w W) => hC.go hW)
  obtain ⟨k2, cd, md, al, rq, cs, rs⟩ := d
  obtain ⟨xc, nc, cc, hcv⟩ : ∃ x n c, cv = .slice x n c := by obtain ⟨x, c, e⟩ := reads_sl h1; exact ⟨x, _, c, e⟩
  obtain ⟨xr, nr, cr, hrv⟩ : ∃ x n c, rv = .slice x n c := by obtain ⟨x, c, e⟩ := reads_sl h2; exact ⟨x, _, c, e⟩
  subst hcv hrv
  dsimp only [acV, fewF] at HAW HF1 HF2 HFI HMK HPL HFO HTOLD HKN
  unfold acV
  generalize hmm : makeF ⟨k2, cd, md, al, rq, cs.take 20, rs.take 300⟩ = m at HFI HMK HFO HTOLD
  generalize plainF ⟨k2, cd, md, al, rq, cs.take 20, rs.take 300⟩ = pd at HPL HTOLD
  obtain ⟨er, ⟨fid, fds⟩⟩ := m
  dsimp only at HFO HTOLD
  have HFOK := hid HFO
  clear hmm hok HFO h1 h2 hC hK hq hI HOK
  have hbx : Below w.heap.size w (w.alloc (.cells #[.int .i64 k2, .int .i64 cd, .int .i64 md, .bool al, .int .u8 rq, .slice xc nc cc, .slice xr nr cr] 41)) := bal (Below.refl _ _) _
  have HXN := hid (Box7.new (v0 := .int .i64 k2) (v1 := .int .i64 cd) (v2 := .int .i64 md) (v3 := .bool al) (v4 := .int .u8 rq) (v5 := .slice xc nc cc) (v6 := .slice xr nr cr) w 41)
  go_enter Tryd.func4, Tryd.ntmps4
  go_wp2_with fail
  with_reducible refine HAW.out.mono ?_
  rintro e w1 ⟨rfl, hb1⟩
  have hbw1 := below_t hbx hb1
  have HX1 := hid (HXN.out.step hb1)
  have HF10 := hid (HF1.out w1 hbw1)
  have hs1 : w.heap.size < w1.heap.size := Nat.lt_of_lt_of_le (by simp) hb1.size
  obtain ⟨z0, z1, z2, z3, z4, z5, z6, -⟩ := HX1.out
  clear HXN hb1 hbx HAW
  go_wp2_with fail
  with_reducible refine HF10.out.mono ?_
  rintro e V1 ⟨cw, rw', rfl, ho1, ho2, hb2, hk1, hk2⟩
  dsimp only at ho1 ho2 ⊢
  obtain ⟨yc, mc, dc, rfl⟩ := own_slice ho1
  obtain ⟨yr, mr, dr, rfl⟩ := own_slice ho2
  have hbw2 := below_t hbw1 hb2
  have HXV := hid (HX1.out.step hb2)
  have hsz1 : w.heap.size < V1.heap.size := Nat.lt_of_lt_of_le hs1 hb2.size
  have hOP : Opn7 V1 w.heap.size := ⟨_, _, _, _, _, _, _, HXV.out⟩
  obtain ⟨V2, hV2⟩ : ∃ V2, put7 V1 w.heap.size (.int .i64 k2) (.int .i64 cd) (.int .i64 md) (.bool al) (.int .u8 rq) (.slice yc mc dc) (.slice yr mr dr) = V2 := ⟨_, rfl⟩
  have HB2 := hid (show Below w.heap.size w V2 by rw [← hV2]; exact put7_below hbw2 (Nat.le_refl _) _ _ _ _ _ _ _)
  have HX2 := hid (show Box7 V2 w.heap.size (.int .i64 k2) (.int .i64 cd) (.int .i64 md) (.bool al) (.int .u8 rq) (.slice yc mc dc) (.slice yr mr dr) by rw [← hV2]; exact hOP.put _ _ _ _ _ _ _)
  have HT1 := hid (show OwnB V2 (.slice yc mc dc) (cs.take 20) by rw [← hV2]; exact put7_own ho1 (fun b hb => Nat.lt_of_lt_of_le hs1 (hk1 b hb)) _ _ _ _ _ _ _)
  have HT2 := hid (show OwnB V2 (.slice yr mr dr) (rs.take 300) by rw [← hV2]; exact put7_own ho2 (fun b hb => Nat.lt_of_lt_of_le hs1 (hk2 b hb)) _ _ _ _ _ _ _)
  have hs2 : w.heap.size < V2.heap.size := Nat.lt_of_lt_of_le hsz1 (by rw [← hV2]; simp [put7, World.setCell])
  have HF20 := hid (HF2.out _ _ V2 HT1.out.reads HT2.out.reads)
  obtain ⟨z0, z1, z2, z3, z4, z5, z6, zf⟩ := HXV.out
  have f0 := zf 0 (by omega)
  have f1 := zf 1 (by omega)
  have f2 := zf 2 (by omega)
  have f3 := zf 3 (by omega)
  have f4 := zf 4 (by omega)
  have f5 := zf 5 (by omega)
  have f6 := zf 6 (by omega)
  clear zf hbw1 hbw2 HX1 HF10 HF1 ho1 ho2 hk1 hk2 hb2 HXV hOP
  unfold put7 at hV2
  go_upto_region 4 with fail
  (try rw [hV2])
  clear hV2 z0 z1 z2 z3 z4 z5 z6 f0 f1 f2 f3 f4 f5 f6 hsz1
  obtain ⟨z0, z1, z2, z3, z4, z5, z6, -⟩ := HX2.out
  go_wp2_with fail
  with_reducible refine HF20.out.mono ?_
  rintro e V3 ⟨cw2, rw2, rfl, ho1, ho2, hb3, -, -⟩
  dsimp only at ho1 ho2 ⊢
  obtain ⟨zc, pc, ec, rfl⟩ := own_slice ho1
  obtain ⟨zr, pr, er0, rfl⟩ := own_slice ho2
  have HFI0 := hid (HFI.out _ _ V3 ho1.reads ho2.reads (below_t HB2.out hb3))
  clear ho1 ho2 HF20 HF2 HFI
  go_wp2_with fail
  with_reducible refine HFI0.out.mono ?_
  rintro e V4 ⟨dv, rfl, hod, hb4, -⟩
  dsimp only at hod ⊢
  obtain ⟨xd, nd, dd, rfl⟩ := own_slice hod
  have hb24 := below_t hb3 hb4
  have hba : Below V4.heap.size V4 (V4.alloc (.cells #[.int .u8 fid, .slice xd nd dd] 35)) := bal (Below.refl _ _) _
  have hb25 := below_t hb24 hba
  have HMK0 := hid (HMK.out _ _ (V4.alloc (.cells #[.int .u8 fid, .slice xd nd dd] 35)) (HT1.out.step hb25).reads (HT2.out.step hb25).reads)
  have HX5 := hid (HX2.out.step hb25)
  have HD5 := hid (hod.step hba)
  have HU5 := hid (show Box2 (V4.alloc (.cells #[.int .u8 fid, .slice xd nd dd] 35)) V4.heap.size (.int .u8 fid) (.slice xd nd dd) from ⟨by simp [go_sem], by simp [go_sem], by simp [go_sem], by simp [go_sem]⟩)
  have hs4 : w.heap.size < V4.heap.size := Nat.lt_of_lt_of_le hs2 hb24.size
  have HB25 := hid hb25
  obtain ⟨z0, z1, z2, z3, z4, z5, z6, -⟩ := HX2.out.step hb24
  clear hb3 hb4 hb24 hod hba hb25 HFI0 HMK
  go_wp2_with fail
  with_reducible refine HMK0.out.mono ?_
  rintro e V5 ⟨gv, rfl, hog, hb5, -⟩
  dsimp only at hog ⊢
  obtain ⟨xg, ng, dg, rfl⟩ := own_slice hog
  have hba : Below V5.heap.size V5 (V5.alloc (.cells #[.int .u8 fid, .slice xg ng dg] 36)) := bal (Below.refl _ _) _
  have hb6 := below_t hb5 hba
  have hs5 : V4.heap.size < V5.heap.size := by have h := hb5.size; rw [World.size_alloc] at h; omega
  have HX6 := hid (HX5.out.step hb6)
  have HD6 := hid (HD5.out.step hb6)
  have HU6 := hid (HU5.out.step hb6)
  have HG6 := hid (hog.step hba)
  have HR6 := hid (show Box2 (V5.alloc (.cells #[.int .u8 fid, .slice xg ng dg] 36)) V5.heap.size (.int .u8 fid) (.slice xg ng dg) from ⟨by simp [go_sem], by simp [go_sem], by simp [go_sem], by simp [go_sem]⟩)
  have HB6 := hid (below_t HB2.out (below_t HB25.out hb6))
  have HT61 := hid (HT1.out.step (below_t HB25.out hb6))
  have HT62 := hid (HT2.out.step (below_t HB25.out hb6))
  clear hba hb5 hb6 hog HX5 HD5 HU5 HMK0 z0 z1 z2 z3 z4 z5 z6 HX2 HT1 HT2 HB25
  go_upto_region 6 with fail
  obtain ⟨V6, hV6⟩ : ∃ V6, V5.alloc (.cells #[.int .u8 fid, .slice xg ng dg] 36) = V6 := ⟨_, rfl⟩
  rw [hV6] at HX6 HD6 HU6 HG6 HR6 HB6 HT61 HT62 ⊢
  have hs6 : V5.heap.size < V6.heap.size := by rw [← hV6]; simp
  clear hV6
  generalize V5.heap.size = b3 at *
  generalize V4.heap.size = b2 at *
  have hdr : Below V6.heap.size V6 V6.drew := (Below.refl _ _).drew
  have HSM := hid (fun W (hW : Below V6.heap.size V6 W) => same_true (.slice xd nd dd) (.slice xg ng dg) fds W (HD6.out.step hW).reads (HG6.out.step hW).reads)
  have HN1 := hid (fun W (hW : Below V6.heap.size V6 W) => HKN.out W (below_t HB6.out hW))
  have HN2 := hid (fun W => rkname_any k2 W)
  obtain ⟨z0, z1, z2, z3, z4, z5, z6, -⟩ := HX6.out
  obtain ⟨u0, u1, -, -⟩ := HU6.out
  obtain ⟨t0, t1, -, -⟩ := HR6.out
  have HXC := hid (c5_step (w0 := V6) ⟨z0, u0, u1, t0, t1, Below.refl _ _⟩ hdr)
  clear z1 z2 z3 z4 z5 z6
  generalize kdS k2 = nm at HN1 HN2
  have HNO := hid HN1
  go_region_held3 (fun w' => w'.cell? ⟨w.heap.size, 0, none⟩ = some (.int .i64 k2) ∧ w'.cell? ⟨b2, 0, none⟩ = some (.int .u8 fid) ∧ w'.cell? ⟨b2, 1, none⟩ = some (.slice xd nd dd) ∧ w'.cell? ⟨b3, 0, none⟩ = some (.int .u8 fid) ∧ w'.cell? ⟨b3, 1, none⟩ = some (.slice xg ng dg) ∧ Below V6.heap.size V6 w') (first | with_reducible exact HXC.out | with_reducible exact c5_step (by assumption) (by assumption)) (first | (go_at_call 26; (with_reducible refine (HSM.out _ hdr).mono ?_); rintro e w7 ⟨rfl, rfl⟩) | (go_at_call 27; (with_reducible refine (HN1.out _ hdr).mono ?_); rintro e w8 ⟨rfl, hb8⟩) | (go_at_call 28; (with_reducible refine (HN2.out _).mono ?_); rintro e w9 ⟨rfl, hb9⟩) | fail)
  rename_i hH
  obtain ⟨-, -, -, -, -, hBE⟩ := hH
  have HB9 := hid (below_t HB6.out hBE)
  by_cases he : er = 0
  · subst he
    have hact := HTOLD.out rfl
    have hq := act_any ⟨fid, fds⟩ (.slice xd nd dd) w9 (HD6.out.step hBE).reads HFOK.out.2 (HCO.out _ HB9.out)
    rw [hact] at hq
    have HOF := hid hq
    obtain ⟨k4, cd4, md4, al4, rq4, cs4, rs4⟩ := pd
    dsimp only at HOF
    obtain ⟨u0, u1, -, -⟩ := HU6.out.step hBE
    have HX9 := hid (HX6.out.step hBE)
    have HT91 := hid (HT61.out.step hBE)
    have HT92 := hid (HT62.out.step hBE)
    clear hact hq hBE HX6 HU6 HR6 HD6 HG6 HT61 HT62 HSM HN1 HN2 HXC hdr z0 t0 t1
    go_wp2_with fail
    with_reducible refine HOF.out.mono ?_
    rintro e V7 ⟨cv7, rv7, rfl, ho1, ho2, hb7, -, -⟩
    dsimp only at ho1 ho2
    dsimp only [acV]
    obtain ⟨uc, tc, wc, rfl⟩ := own_slice ho1
    obtain ⟨ur, tr, wr4, rfl⟩ := own_slice ho2
    have hba : Below V7.heap.size V7 (V7.alloc (.cells #[.int .i64 k4, .int .i64 cd4, .int .i64 md4, .bool al4, .int .u8 rq4, .slice uc tc wc, .slice ur tr wr4] 38)) := bal (Below.refl _ _) _
    have hb8 := below_t hb7 hba
    have HX8 := hid (HX9.out.step hb8)
    have HY8 := hid (Box7.new (v0 := .int .i64 k4) (v1 := .int .i64 cd4) (v2 := .int .i64 md4) (v3 := .bool al4) (v4 := .int .u8 rq4) (v5 := .slice uc tc wc) (v6 := .slice ur tr wr4) V7 38)
    have HT81 := hid (HT91.out.step hb8)
    have HT82 := hid (HT92.out.step hb8)
    have HU1 := hid (ho1.step hba)
    have HU2 := hid (ho2.step hba)
    have HB8 := hid (below_t HB9.out hb8)
    clear hba hb8 hb7 ho1 ho2 HX9 HT91 HT92 HOF u0 u1
    go_upto_region 11 with fail
    obtain ⟨V8, hV8⟩ : ∃ V8, V7.alloc (.cells #[.int .i64 k4, .int .i64 cd4, .int .i64 md4, .bool al4, .int .u8 rq4, .slice uc tc wc, .slice ur tr wr4] 38) = V8 := ⟨_, rfl⟩
    rw [hV8] at HX8 HY8 HT81 HT82 HU1 HU2 HB8 ⊢
    clear hV8
    generalize V7.heap.size = b7 at *
    have hdr : Below V8.heap.size V8 V8.drew := (Below.refl _ _).drew
    have HP0 := hid (HPL.out _ _ V8.drew (HT81.out.step hdr).reads (HT82.out.step hdr).reads)
    have HSG := hid (fun cp rp W (hW : Below V8.heap.size V8 W) (q3 : Reads W cp cs4) (q4 : Reads W rp rs4) => rsame_any ⟨k4, cd4, md4, al4, rq4, cs4, rs4⟩ (.slice uc tc wc) (.slice ur tr wr4) cp rp W (HU1.out.step hW).reads (HU2.out.step hW).reads q3 q4)
    dsimp only [acV] at HP0 HSG
    obtain ⟨a0, a1, a2, a3, a4, a5, a6, -⟩ := HX8.out
    obtain ⟨c0, c1, c2, c3, c4, c5, c6, -⟩ := HY8.out
    have HX1 := hid (b14_step (w0 := V8) ⟨a0, a1, a2, a3, a4, a5, a6, c0, c1, c2, c3, c4, c5, c6, Below.refl _ _⟩ hdr)
    clear a0 a1 a2 a3 a4 a5 a6 c0 c1 c2 c3 c4 c5 c6 HX8 HY8
    go_region_held3 (fun w' => w'.cell? ⟨w.heap.size, 0, none⟩ = some (.int .i64 k2) ∧ w'.cell? ⟨w.heap.size, 1, none⟩ = some (.int .i64 cd) ∧ w'.cell? ⟨w.heap.size, 2, none⟩ = some (.int .i64 md) ∧ w'.cell? ⟨w.heap.size, 3, none⟩ = some (.bool al) ∧ w'.cell? ⟨w.heap.size, 4, none⟩ = some (.int .u8 rq) ∧ w'.cell? ⟨w.heap.size, 5, none⟩ = some (.slice yc mc dc) ∧ w'.cell? ⟨w.heap.size, 6, none⟩ = some (.slice yr mr dr) ∧ w'.cell? ⟨b7, 0, none⟩ = some (.int .i64 k4) ∧ w'.cell? ⟨b7, 1, none⟩ = some (.int .i64 cd4) ∧ w'.cell? ⟨b7, 2, none⟩ = some (.int .i64 md4) ∧ w'.cell? ⟨b7, 3, none⟩ = some (.bool al4) ∧ w'.cell? ⟨b7, 4, none⟩ = some (.int .u8 rq4) ∧ w'.cell? ⟨b7, 5, none⟩ = some (.slice uc tc wc) ∧ w'.cell? ⟨b7, 6, none⟩ = some (.slice ur tr wr4) ∧ Below V8.heap.size V8 w') (first | with_reducible exact HX1.out | with_reducible exact b14_step (by assumption) (by assumption)) (first | (go_at_call 29; (with_reducible refine HP0.out.mono ?_); rintro e w10 ⟨cp, rp, rfl, hq1, hq2, hb10⟩; dsimp only [acV]; have HSA := hid (HSG.out cp rp w10 (below_t hdr hb10) hq1 hq2); obtain ⟨x5, c5, rfl⟩ := reads_sl hq1; obtain ⟨x6, c6, rfl⟩ := reads_sl hq2; clear hq1 hq2) | (go_at_call 18; (with_reducible refine HSA.out.mono ?_); rintro e w11 ⟨rfl, hb11⟩) | fail)
    all_goals
      rename_i hH
      obtain ⟨-, -, -, -, -, -, -, -, -, -, -, -, -, -, hBE⟩ := hH
      have HFIN := hid (below_t HB8.out hBE)
      clear hBE hdr
      go_wp2
      go_ret
      exact ⟨rfl, HFIN.out⟩
  · have hne : (er == 0) = false := by simpa using he
    have hne' : (er != 0) = true := by simpa using he
    clear hdr
    go_wp2
    go_ret
    exact ⟨rfl, HB9.out⟩
end Go.Proofs.YtdpgmepblmlaaaaDoor
