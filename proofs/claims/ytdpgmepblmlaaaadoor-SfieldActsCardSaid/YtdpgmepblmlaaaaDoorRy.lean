/-
  The reference's Make: the field that stands for an act.
-/
import Derived.Test.YtdpgmepblmlaaaaDoorRx
import Derived.BigQuiet
import Derived.Deep.RegionHeld3
namespace Go.Proofs.YtdpgmepblmlaaaaDoor
open Go.RowKit Go.Lib Go.Deep

instance acDec : DecidableEq AcD := fun a b =>
  if h : a.kind = b.kind ∧ a.cmd = b.cmd ∧ a.mode = b.mode ∧ a.alt = b.alt ∧ a.req = b.req ∧ a.codes = b.codes ∧ a.rcd = b.rcd then .isTrue (by
    obtain ⟨_, _, _, _, _, _, _⟩ := a
    obtain ⟨_, _, _, _, _, _, _⟩ := b
    obtain ⟨rfl, rfl, rfl, rfl, rfl, rfl, rfl⟩ := h
    rfl) else .isFalse (fun e => h (by subst e; exact ⟨rfl, rfl, rfl, rfl, rfl, rfl, rfl⟩))
/-- The field of an act's kind. -/
def fieldF (a : AcD) : SfD :=
  if a.kind = 1 then ⟨1, [255, 2]⟩
  else if a.kind = 2 then ⟨1, [255, 3, a.req] ++ a.codes⟩
  else if a.kind = 3 then ⟨1, [0, (ncF a.cmd).2.2]⟩
  else if a.kind = 4 then ⟨3, [if a.alt then 128 else 0]⟩
  else if a.kind = 5 then ⟨9, [0, a.mode % 256]⟩
  else if a.kind = 9 then ⟨64, [0] ++ a.rcd⟩
  else ⟨6 + a.kind, [0]⟩
def makeF (a : AcD) : Int × SfD := if a.kind < 1 ∨ 9 < a.kind then (1, sfZ) else if (actF (fieldF a)).1 ≠ 0 ∨ (actF (fieldF a)).2 ≠ plainF a then (4, sfZ) else (0, fieldF a)
theorem wrap_byt (n : Int) : BytL [0, n % 256] := by
  intro x hx
  simp only [List.mem_cons, List.not_mem_nil, or_false] at hx
  rcases hx with rfl | rfl
  · omega
  · omega
theorem codL_byt : ∀ k, k < 9 → 0 ≤ (codL.getD k (ByteArray.empty, 0, 0)).2.2 ∧ (codL.getD k (ByteArray.empty, 0, 0)).2.2 < 256 := by decide +kernel
theorem ncF_byt (n : Int) : BytL [0, (ncF n).2.2] := by
  intro x hx
  simp only [List.mem_cons, List.not_mem_nil, or_false] at hx
  rcases hx with rfl | rfl
  · omega
  · unfold ncF
    split
    · exact codL_byt _ (by omega)
    · exact ⟨Int.le_refl _, by decide⟩
/-- A field of one's own, and the error. -/
def MkD (m : Int × SfD) (w : World) (e : Ending) (w' : World) : Prop := ∃ dv, e = .returned (.tuple #[.agg #[.int .u8 m.2.id, dv], .int .i64 m.1]) ∧ OwnB w' dv m.2.data ∧ Below w.heap.size w w' ∧ ∀ k ∈ blkV dv, w.heap.size ≤ k
theorem mk_no {a : AcD} {er : Int} {w w' : World} (h : makeF a = (er, sfZ)) (hb : Below w.heap.size w w') : MkD (makeF a) w (.returned (.tuple #[.agg #[.int .u8 0, .slice none 0 0], .int .i64 er])) w' := by
  rw [h]
  exact ⟨_, rfl, OwnB.nil _, hb, fun _ q => (by cases q)⟩
/-- Two boxes' cells. -/
abbrev B14 (w0 w : World) (g g' : Nat) (v0 v1 v2 v3 v4 v5 v6 u0 u1 u2 u3 u4 u5 u6 : Value) : Prop := w.cell? ⟨g, 0, none⟩ = some v0 ∧ w.cell? ⟨g, 1, none⟩ = some v1 ∧ w.cell? ⟨g, 2, none⟩ = some v2 ∧ w.cell? ⟨g, 3, none⟩ = some v3 ∧ w.cell? ⟨g, 4, none⟩ = some v4 ∧ w.cell? ⟨g, 5, none⟩ = some v5 ∧ w.cell? ⟨g, 6, none⟩ = some v6 ∧ w.cell? ⟨g', 0, none⟩ = some u0 ∧ w.cell? ⟨g', 1, none⟩ = some u1 ∧ w.cell? ⟨g', 2, none⟩ = some u2 ∧ w.cell? ⟨g', 3, none⟩ = some u3 ∧ w.cell? ⟨g', 4, none⟩ = some u4 ∧ w.cell? ⟨g', 5, none⟩ = some u5 ∧ w.cell? ⟨g', 6, none⟩ = some u6 ∧ Below w0.heap.size w0 w
theorem b14_step {w0 w w' : World} {g g' : Nat} {v0 v1 v2 v3 v4 v5 v6 u0 u1 u2 u3 u4 u5 u6 : Value} (h : w.cell? ⟨g, 0, none⟩ = some v0 ∧ w.cell? ⟨g, 1, none⟩ = some v1 ∧ w.cell? ⟨g, 2, none⟩ = some v2 ∧ w.cell? ⟨g, 3, none⟩ = some v3 ∧ w.cell? ⟨g, 4, none⟩ = some v4 ∧ w.cell? ⟨g, 5, none⟩ = some v5 ∧ w.cell? ⟨g, 6, none⟩ = some v6 ∧ w.cell? ⟨g', 0, none⟩ = some u0 ∧ w.cell? ⟨g', 1, none⟩ = some u1 ∧ w.cell? ⟨g', 2, none⟩ = some u2 ∧ w.cell? ⟨g', 3, none⟩ = some u3 ∧ w.cell? ⟨g', 4, none⟩ = some u4 ∧ w.cell? ⟨g', 5, none⟩ = some u5 ∧ w.cell? ⟨g', 6, none⟩ = some u6 ∧ Below w0.heap.size w0 w) (hb : Below w.heap.size w w') : B14 w0 w' g g' v0 v1 v2 v3 v4 v5 v6 u0 u1 u2 u3 u4 u5 u6 := by
  obtain ⟨a0, a1, a2, a3, a4, a5, a6, b0, b1, b2, b3, b4, b5, b6, hB⟩ := h
  exact ⟨keepc hb a0, keepc hb a1, keepc hb a2, keepc hb a3, keepc hb a4, keepc hb a5, keepc hb a6, keepc hb b0, keepc hb b1, keepc hb b2, keepc hb b3, keepc hb b4, keepc hb b5, keepc hb b6, below_t hB hb⟩
set_option maxRecDepth 100000 in
set_option maxHeartbeats 4000000 in
theorem make_1 (a : AcD) (cv rv : Value) (w : World) (h1 : Reads w cv a.codes) (h2 : Reads w rv a.rcd) (hk : a.kind = 1) : Calls Tryd.prog 25 #[acV a cv rv] w (MkD (makeF a) w) := by
  have HPL := hid (fun W (hW : Below w.heap.size w W) => plain_any a cv rv W (reads_below h1 hW) (reads_below h2 hW))
  have HNO := hid (fun w' (hb : Below w.heap.size w w') (q : makeF a = (4, sfZ)) => mk_no (er := 4) q hb)
  obtain ⟨k, cd, md, al, rq, cs, rs⟩ := a
  unfold acV at HPL ⊢
  dsimp only at h1 h2 hk HPL ⊢
  subst hk
  have HMK := hid (show makeF ⟨1, cd, md, al, rq, cs, rs⟩ = if (actF ⟨1, [255, 2]⟩).1 ≠ 0 ∨ (actF ⟨1, [255, 2]⟩).2 ≠ plainF ⟨1, cd, md, al, rq, cs, rs⟩ then (4, sfZ) else (0, ⟨1, [255, 2]⟩) from rfl)
  generalize plainF ⟨1, cd, md, al, rq, cs, rs⟩ = pa at HPL HMK
  generalize makeF ⟨1, cd, md, al, rq, cs, rs⟩ = mk at HNO HMK ⊢
  obtain ⟨x1, c1, rfl⟩ := reads_sl h1
  obtain ⟨x2, c2, rfl⟩ := reads_sl h2
  clear h1 h2
  generalize cs.length = n1 at *
  generalize rs.length = n2 at *
  go_enter Tryd.func25, Tryd.ntmps25
  go_upto_region 23 with fail
  obtain ⟨W3, hW3⟩ : ∃ W3, (((w.alloc (.cells #[.int .i64 1, .int .i64 cd, .int .i64 md, .bool al, .int .u8 rq, .slice x1 n1 c1, .slice x2 n2 c2] 41)).alloc (.cells #[.int .u8 0, .slice none 0 0] 36)).alloc (.cells #[.int .u8 (1), .slice (some ⟨w.heap.size + 1 + 1 + 1, 0, none⟩) 2 2] 36)).alloc (.cells #[.int .u8 (255), .int .u8 (2)] 5) = W3 := ⟨_, rfl⟩
  have HB3 := hid (show Below w.heap.size w W3 by rw [← hW3]; exact bal (bal (bal (bal (Below.refl _ _) _) _) _) _)
  have HX := hid (show Box7 W3 w.heap.size (.int .i64 1) (.int .i64 cd) (.int .i64 md) (.bool al) (.int .u8 rq) (.slice x1 n1 c1) (.slice x2 n2 c2) from by rw [← hW3]; exact ⟨by simp [go_sem], by simp [go_sem], by simp [go_sem], by simp [go_sem], by simp [go_sem], by simp [go_sem], by simp [go_sem], fun i _ => by simp [go_sem]⟩)
  have HY := hid (show Box2 W3 (w.heap.size + 1) (.int .u8 0) (.slice none 0 0) from by rw [← hW3]; exact ⟨by simp [go_sem], by simp [go_sem], by simp [go_sem], by simp [go_sem]⟩)
  have HT := hid (show Box2 W3 (w.heap.size + 1 + 1) (.int .u8 (1)) (.slice (some ⟨w.heap.size + 1 + 1 + 1, 0, none⟩) 2 2) from by rw [← hW3]; exact ⟨by simp [go_sem], by simp [go_sem], by simp [go_sem], by simp [go_sem]⟩)
  have HD := hid (show OwnB W3 (.slice (some ⟨w.heap.size + 1 + 1 + 1, 0, none⟩) 2 2) [255, 2] from by rw [← hW3]; exact own_lit _ #[.int .u8 (255), .int .u8 (2)] 2 [255, 2] (by decide) rfl rfl (by omega) _ (by simp))
  have HFR := hid (show ∀ k ∈ blkV (.slice (some ⟨w.heap.size + 1 + 1 + 1, 0, none⟩) 2 2), w.heap.size + 1 < k from fun k hk => by simp [blkV, Value.ownBlock] at hk; omega)
  have HOF := hid (rof_any ⟨1, [255, 2]⟩ (.slice (some ⟨w.heap.size + 1 + 1 + 1, 0, none⟩) 2 2) W3 HD.out.reads (by decide))
  rw [hW3]
  clear hW3
  obtain ⟨t0, t1, -, -⟩ := HT.out
  generalize actF ⟨1, [255, 2]⟩ = res at HOF HMK
  obtain ⟨er2, ⟨k2, cd2, md2, al2, rq2, cs2, rs2⟩⟩ := res
  dsimp only at HOF HMK
  go_wp2_with fail
  with_reducible refine HOF.out.mono ?_
  rintro e V1 ⟨cw, rw', rfl, ho1, ho2, hb1, hk1, hk2⟩
  dsimp only at ho1 ho2
  dsimp only [acV]
  obtain ⟨xc, nc, cc, rfl⟩ := own_slice ho1
  obtain ⟨xr, nr, cr, rfl⟩ := own_slice ho2
  have hbA : Below V1.heap.size V1 (V1.alloc (.cells #[.int .i64 k2, .int .i64 cd2, .int .i64 md2, .bool al2, .int .u8 rq2, .slice xc nc cc, .slice xr nr cr] 41)) := bal (Below.refl _ _) _
  have hb2 := below_t hb1 hbA
  have HBV := hid (below_t HB3.out hb2)
  have HU1 := hid (ho1.step hbA)
  have HU2 := hid (ho2.step hbA)
  have HX2 := hid (HX.out.step hb2)
  have HY2 := hid (HY.out.grow (Grow.below hb2 0))
  have HT2 := hid (HT.out.grow (Grow.below hb2 0))
  have HD2 := hid (HD.out.step hb2)
  clear ho1 ho2 hb1 hk1 hk2 hb2 hbA t0 t1
  by_cases he2 : er2 = 0
  · subst he2
    have hdr : Below (V1.alloc (.cells #[.int .i64 k2, .int .i64 cd2, .int .i64 md2, .bool al2, .int .u8 rq2, .slice xc nc cc, .slice xr nr cr] 41)).heap.size (V1.alloc (.cells #[.int .i64 k2, .int .i64 cd2, .int .i64 md2, .bool al2, .int .u8 rq2, .slice xc nc cc, .slice xr nr cr] 41)) (V1.alloc (.cells #[.int .i64 k2, .int .i64 cd2, .int .i64 md2, .bool al2, .int .u8 rq2, .slice xc nc cc, .slice xr nr cr] 41)).drew := (Below.refl _ _).drew
    have HP0 := hid (HPL.out _ (below_t HBV.out hdr))
    have HSG := hid (fun (cp rp : Value) W (hW : Below (V1.alloc (.cells #[.int .i64 k2, .int .i64 cd2, .int .i64 md2, .bool al2, .int .u8 rq2, .slice xc nc cc, .slice xr nr cr] 41)).heap.size (V1.alloc (.cells #[.int .i64 k2, .int .i64 cd2, .int .i64 md2, .bool al2, .int .u8 rq2, .slice xc nc cc, .slice xr nr cr] 41)) W) (q3 : Reads W cp pa.codes) (q4 : Reads W rp pa.rcd) => rsame_gen ⟨k2, cd2, md2, al2, rq2, cs2, rs2⟩ pa (.slice xc nc cc) (.slice xr nr cr) cp rp W (HU1.out.step hW).reads (HU2.out.step hW).reads q3 q4)
    unfold acV at HP0 HSG
    dsimp only at HSG
    have HX1 := hid (b14_step (w0 := V1.alloc (.cells #[.int .i64 k2, .int .i64 cd2, .int .i64 md2, .bool al2, .int .u8 rq2, .slice xc nc cc, .slice xr nr cr] 41)) ⟨HX2.out.c0, HX2.out.c1, HX2.out.c2, HX2.out.c3, HX2.out.c4, HX2.out.c5, HX2.out.c6, (by simp [go_sem] : (V1.alloc (.cells #[.int .i64 k2, .int .i64 cd2, .int .i64 md2, .bool al2, .int .u8 rq2, .slice xc nc cc, .slice xr nr cr] 41)).cell? ⟨V1.heap.size, 0, none⟩ = some (.int .i64 k2)), (by simp [go_sem] : (V1.alloc (.cells #[.int .i64 k2, .int .i64 cd2, .int .i64 md2, .bool al2, .int .u8 rq2, .slice xc nc cc, .slice xr nr cr] 41)).cell? ⟨V1.heap.size, 1, none⟩ = some (.int .i64 cd2)), (by simp [go_sem] : (V1.alloc (.cells #[.int .i64 k2, .int .i64 cd2, .int .i64 md2, .bool al2, .int .u8 rq2, .slice xc nc cc, .slice xr nr cr] 41)).cell? ⟨V1.heap.size, 2, none⟩ = some (.int .i64 md2)), (by simp [go_sem] : (V1.alloc (.cells #[.int .i64 k2, .int .i64 cd2, .int .i64 md2, .bool al2, .int .u8 rq2, .slice xc nc cc, .slice xr nr cr] 41)).cell? ⟨V1.heap.size, 3, none⟩ = some (.bool al2)), (by simp [go_sem] : (V1.alloc (.cells #[.int .i64 k2, .int .i64 cd2, .int .i64 md2, .bool al2, .int .u8 rq2, .slice xc nc cc, .slice xr nr cr] 41)).cell? ⟨V1.heap.size, 4, none⟩ = some (.int .u8 rq2)), (by simp [go_sem] : (V1.alloc (.cells #[.int .i64 k2, .int .i64 cd2, .int .i64 md2, .bool al2, .int .u8 rq2, .slice xc nc cc, .slice xr nr cr] 41)).cell? ⟨V1.heap.size, 5, none⟩ = some (.slice xc nc cc)), (by simp [go_sem] : (V1.alloc (.cells #[.int .i64 k2, .int .i64 cd2, .int .i64 md2, .bool al2, .int .u8 rq2, .slice xc nc cc, .slice xr nr cr] 41)).cell? ⟨V1.heap.size, 6, none⟩ = some (.slice xr nr cr)), Below.refl _ _⟩ hdr)
    go_wp2
    go_region_held3 (fun w' => w'.cell? ⟨w.heap.size, 0, none⟩ = some (.int .i64 1) ∧ w'.cell? ⟨w.heap.size, 1, none⟩ = some (.int .i64 cd) ∧ w'.cell? ⟨w.heap.size, 2, none⟩ = some (.int .i64 md) ∧ w'.cell? ⟨w.heap.size, 3, none⟩ = some (.bool al) ∧ w'.cell? ⟨w.heap.size, 4, none⟩ = some (.int .u8 rq) ∧ w'.cell? ⟨w.heap.size, 5, none⟩ = some (.slice x1 n1 c1) ∧ w'.cell? ⟨w.heap.size, 6, none⟩ = some (.slice x2 n2 c2) ∧ w'.cell? ⟨V1.heap.size, 0, none⟩ = some (.int .i64 k2) ∧ w'.cell? ⟨V1.heap.size, 1, none⟩ = some (.int .i64 cd2) ∧ w'.cell? ⟨V1.heap.size, 2, none⟩ = some (.int .i64 md2) ∧ w'.cell? ⟨V1.heap.size, 3, none⟩ = some (.bool al2) ∧ w'.cell? ⟨V1.heap.size, 4, none⟩ = some (.int .u8 rq2) ∧ w'.cell? ⟨V1.heap.size, 5, none⟩ = some (.slice xc nc cc) ∧ w'.cell? ⟨V1.heap.size, 6, none⟩ = some (.slice xr nr cr) ∧ Below (V1.alloc (.cells #[.int .i64 k2, .int .i64 cd2, .int .i64 md2, .bool al2, .int .u8 rq2, .slice xc nc cc, .slice xr nr cr] 41)).heap.size (V1.alloc (.cells #[.int .i64 k2, .int .i64 cd2, .int .i64 md2, .bool al2, .int .u8 rq2, .slice xc nc cc, .slice xr nr cr] 41)) w') (first | with_reducible exact HX1.out | with_reducible exact b14_step (by assumption) (by assumption)) (first | (go_at_call 29; (with_reducible refine HP0.out.mono ?_); rintro e w5 ⟨cp, rp, rfl, hq1, hq2, hb5⟩; dsimp only [acV]; have HSA := hid (HSG.out cp rp w5 (below_t hdr hb5) hq1 hq2); obtain ⟨x5, c5, rfl⟩ := reads_sl hq1; obtain ⟨x6, c6, rfl⟩ := reads_sl hq2; clear hq1 hq2) | (go_at_call 18; (with_reducible refine HSA.out.mono ?_); rintro e w6 ⟨⟨r, rfl, hr⟩, hb6⟩; have HR := hid hr; clear hr))
    all_goals
      rename_i hH
      obtain ⟨-, -, -, -, -, -, -, -, -, -, -, -, -, -, hBE⟩ := hH
      have HB4 := hid (below_t HBV.out hBE)
      have HY3 := hid (HY2.out.step hBE)
      have HT3 := hid (HT2.out.step hBE)
      have HD3 := hid (HD2.out.step hBE)
      clear hBE HX2 HY2 HT2 HD2 HU1 HU2 HBV HX1 hdr
      cases r
      · have HM4 := hid (HMK.out.trans (if_pos (.inr (fun q => by have := HR.out.2 q; cases this))))
        clear HT3 HD3
        obtain ⟨z0, z1, z2, z3⟩ := HY3.out
        obtain ⟨r0, r1, -, -⟩ := HY3.out.put (.int .u8 0) (.slice none 0 0)
        have HF := hid (HNO.out _ ((HB4.out.setCell (p := ⟨w.heap.size + 1, 0, none⟩) (by exact Nat.le_succ _) (.int .u8 0)).setCell (p := ⟨w.heap.size + 1, 1, none⟩) (by exact Nat.le_succ _) (.slice none 0 0)) HM4.out)
        clear HY3 HB4 HM4
        revert r0 r1 HF
        generalize hW : ((w6.setCell ⟨w.heap.size + 1, 0, none⟩ (.int .u8 0)).setCell ⟨w.heap.size + 1, 1, none⟩ (.slice none 0 0)) = Wf
        intro r0 r1 HF
        go_wp2
        (try rw [hW])
        exact bodyPost_ret (v := .tuple #[.agg #[.int .u8 0, .slice none 0 0], .int .i64 4]) (by simp [results, Tryd.results25, go_sem, r0, r1]) rfl HF.out
      · have HM0 := hid (HMK.out.trans (if_neg (fun q => q.elim (fun q => q rfl) (fun q => q (HR.out.1 rfl)))))
        obtain ⟨z0, z1, z2, z3⟩ := HY3.out
        obtain ⟨t0, t1, -, -⟩ := HT3.out
        obtain ⟨r0, r1, -, -⟩ := HY3.out.put (.int .u8 (1)) (.slice (some ⟨w.heap.size + 1 + 1 + 1, 0, none⟩) 2 2)
        have HF := hid (show MkD mk w (.returned (.tuple #[.agg #[.int .u8 (1), .slice (some ⟨w.heap.size + 1 + 1 + 1, 0, none⟩) 2 2], .int .i64 0])) ((w6.setCell ⟨w.heap.size + 1, 0, none⟩ (.int .u8 (1))).setCell ⟨w.heap.size + 1, 1, none⟩ (.slice (some ⟨w.heap.size + 1 + 1 + 1, 0, none⟩) 2 2)) from by
          rw [HM0.out]
          exact ⟨_, rfl, put2_own _ _ HD3.out HFR.out, (HB4.out.setCell (p := ⟨w.heap.size + 1, 0, none⟩) (by exact Nat.le_succ _) _).setCell (p := ⟨w.heap.size + 1, 1, none⟩) (by exact Nat.le_succ _) _, fun k hk => by have := HFR.out k hk; omega⟩)
        clear HY3 HT3 HD3 HB4 HM0
        revert r0 r1 HF
        generalize hW : ((w6.setCell ⟨w.heap.size + 1, 0, none⟩ (.int .u8 (1))).setCell ⟨w.heap.size + 1, 1, none⟩ (.slice (some ⟨w.heap.size + 1 + 1 + 1, 0, none⟩) 2 2)) = Wf
        intro r0 r1 HF
        go_wp2
        (try rw [hW])
        exact bodyPost_ret (v := .tuple #[.agg #[.int .u8 (1), .slice (some ⟨w.heap.size + 1 + 1 + 1, 0, none⟩) 2 2], .int .i64 0]) (by simp [results, Tryd.results25, go_sem, r0, r1]) rfl HF.out
  · have hne : (er2 == 0) = false := by simpa using he2
    have hne' : (er2 != 0) = true := by simpa using he2
    have HM4 := hid (HMK.out.trans (if_pos (.inl he2)))
    go_wp2
    go_quiet (fail)
    have HB4 := hid (below_drewN HBV.out nq)
    have HY3 := hid (HY2.out.grow (Grow.below (below_drewN (Below.refl _ _) nq) 0))
    clear HX2 HY2 HT2 HD2 HU1 HU2 HBV
    revert HB4 HY3
    generalize ((V1.alloc (.cells #[.int .i64 k2, .int .i64 cd2, .int .i64 md2, .bool al2, .int .u8 rq2, .slice xc nc cc, .slice xr nr cr] 41)).drewN nq) = W4
    intro HB4 HY3
    obtain ⟨z0, z1, z2, z3⟩ := HY3.out
    obtain ⟨r0, r1, -, -⟩ := HY3.out.put (.int .u8 0) (.slice none 0 0)
    have HF := hid (HNO.out _ ((HB4.out.setCell (p := ⟨w.heap.size + 1, 0, none⟩) (by exact Nat.le_succ _) (.int .u8 0)).setCell (p := ⟨w.heap.size + 1, 1, none⟩) (by exact Nat.le_succ _) (.slice none 0 0)) HM4.out)
    clear HY3 HB4 HM4
    revert r0 r1 HF
    generalize hW : ((W4.setCell ⟨w.heap.size + 1, 0, none⟩ (.int .u8 0)).setCell ⟨w.heap.size + 1, 1, none⟩ (.slice none 0 0)) = Wf
    intro r0 r1 HF
    go_wp2
    (try rw [hW])
    exact bodyPost_ret (v := .tuple #[.agg #[.int .u8 0, .slice none 0 0], .int .i64 4]) (by simp [results, Tryd.results25, go_sem, r0, r1]) rfl HF.out
set_option maxRecDepth 100000 in
set_option maxHeartbeats 4000000 in
theorem make_6 (a : AcD) (cv rv : Value) (w : World) (h1 : Reads w cv a.codes) (h2 : Reads w rv a.rcd) (hk : a.kind = 6) : Calls Tryd.prog 25 #[acV a cv rv] w (MkD (makeF a) w) := by
  have HPL := hid (fun W (hW : Below w.heap.size w W) => plain_any a cv rv W (reads_below h1 hW) (reads_below h2 hW))
  have HNO := hid (fun w' (hb : Below w.heap.size w w') (q : makeF a = (4, sfZ)) => mk_no (er := 4) q hb)
  obtain ⟨k, cd, md, al, rq, cs, rs⟩ := a
  unfold acV at HPL ⊢
  dsimp only at h1 h2 hk HPL ⊢
  subst hk
  have HMK := hid (show makeF ⟨6, cd, md, al, rq, cs, rs⟩ = if (actF ⟨12, [0]⟩).1 ≠ 0 ∨ (actF ⟨12, [0]⟩).2 ≠ plainF ⟨6, cd, md, al, rq, cs, rs⟩ then (4, sfZ) else (0, ⟨12, [0]⟩) from rfl)
  generalize plainF ⟨6, cd, md, al, rq, cs, rs⟩ = pa at HPL HMK
  generalize makeF ⟨6, cd, md, al, rq, cs, rs⟩ = mk at HNO HMK ⊢
  obtain ⟨x1, c1, rfl⟩ := reads_sl h1
  obtain ⟨x2, c2, rfl⟩ := reads_sl h2
  clear h1 h2
  generalize cs.length = n1 at *
  generalize rs.length = n2 at *
  go_enter Tryd.func25, Tryd.ntmps25
  go_upto_region 23 with fail
  obtain ⟨W3, hW3⟩ : ∃ W3, (((w.alloc (.cells #[.int .i64 6, .int .i64 cd, .int .i64 md, .bool al, .int .u8 rq, .slice x1 n1 c1, .slice x2 n2 c2] 41)).alloc (.cells #[.int .u8 0, .slice none 0 0] 36)).alloc (.cells #[.int .u8 (12), .slice (some ⟨w.heap.size + 1 + 1 + 1, 0, none⟩) 1 1] 36)).alloc (.cells #[.int .u8 (0)] 5) = W3 := ⟨_, rfl⟩
  have HB3 := hid (show Below w.heap.size w W3 by rw [← hW3]; exact bal (bal (bal (bal (Below.refl _ _) _) _) _) _)
  have HX := hid (show Box7 W3 w.heap.size (.int .i64 6) (.int .i64 cd) (.int .i64 md) (.bool al) (.int .u8 rq) (.slice x1 n1 c1) (.slice x2 n2 c2) from by rw [← hW3]; exact ⟨by simp [go_sem], by simp [go_sem], by simp [go_sem], by simp [go_sem], by simp [go_sem], by simp [go_sem], by simp [go_sem], fun i _ => by simp [go_sem]⟩)
  have HY := hid (show Box2 W3 (w.heap.size + 1) (.int .u8 0) (.slice none 0 0) from by rw [← hW3]; exact ⟨by simp [go_sem], by simp [go_sem], by simp [go_sem], by simp [go_sem]⟩)
  have HT := hid (show Box2 W3 (w.heap.size + 1 + 1) (.int .u8 (12)) (.slice (some ⟨w.heap.size + 1 + 1 + 1, 0, none⟩) 1 1) from by rw [← hW3]; exact ⟨by simp [go_sem], by simp [go_sem], by simp [go_sem], by simp [go_sem]⟩)
  have HD := hid (show OwnB W3 (.slice (some ⟨w.heap.size + 1 + 1 + 1, 0, none⟩) 1 1) [0] from by rw [← hW3]; exact own_lit _ #[.int .u8 (0)] 1 [0] (by decide) rfl rfl (by omega) _ (by simp))
  have HFR := hid (show ∀ k ∈ blkV (.slice (some ⟨w.heap.size + 1 + 1 + 1, 0, none⟩) 1 1), w.heap.size + 1 < k from fun k hk => by simp [blkV, Value.ownBlock] at hk; omega)
  have HOF := hid (rof_any ⟨12, [0]⟩ (.slice (some ⟨w.heap.size + 1 + 1 + 1, 0, none⟩) 1 1) W3 HD.out.reads (by decide))
  rw [hW3]
  clear hW3
  obtain ⟨t0, t1, -, -⟩ := HT.out
  generalize actF ⟨12, [0]⟩ = res at HOF HMK
  obtain ⟨er2, ⟨k2, cd2, md2, al2, rq2, cs2, rs2⟩⟩ := res
  dsimp only at HOF HMK
  go_wp2_with fail
  with_reducible refine HOF.out.mono ?_
  rintro e V1 ⟨cw, rw', rfl, ho1, ho2, hb1, hk1, hk2⟩
  dsimp only at ho1 ho2
  dsimp only [acV]
  obtain ⟨xc, nc, cc, rfl⟩ := own_slice ho1
  obtain ⟨xr, nr, cr, rfl⟩ := own_slice ho2
  have hbA : Below V1.heap.size V1 (V1.alloc (.cells #[.int .i64 k2, .int .i64 cd2, .int .i64 md2, .bool al2, .int .u8 rq2, .slice xc nc cc, .slice xr nr cr] 41)) := bal (Below.refl _ _) _
  have hb2 := below_t hb1 hbA
  have HBV := hid (below_t HB3.out hb2)
  have HU1 := hid (ho1.step hbA)
  have HU2 := hid (ho2.step hbA)
  have HX2 := hid (HX.out.step hb2)
  have HY2 := hid (HY.out.grow (Grow.below hb2 0))
  have HT2 := hid (HT.out.grow (Grow.below hb2 0))
  have HD2 := hid (HD.out.step hb2)
  clear ho1 ho2 hb1 hk1 hk2 hb2 hbA t0 t1
  by_cases he2 : er2 = 0
  · subst he2
    have hdr : Below (V1.alloc (.cells #[.int .i64 k2, .int .i64 cd2, .int .i64 md2, .bool al2, .int .u8 rq2, .slice xc nc cc, .slice xr nr cr] 41)).heap.size (V1.alloc (.cells #[.int .i64 k2, .int .i64 cd2, .int .i64 md2, .bool al2, .int .u8 rq2, .slice xc nc cc, .slice xr nr cr] 41)) (V1.alloc (.cells #[.int .i64 k2, .int .i64 cd2, .int .i64 md2, .bool al2, .int .u8 rq2, .slice xc nc cc, .slice xr nr cr] 41)).drew := (Below.refl _ _).drew
    have HP0 := hid (HPL.out _ (below_t HBV.out hdr))
    have HSG := hid (fun (cp rp : Value) W (hW : Below (V1.alloc (.cells #[.int .i64 k2, .int .i64 cd2, .int .i64 md2, .bool al2, .int .u8 rq2, .slice xc nc cc, .slice xr nr cr] 41)).heap.size (V1.alloc (.cells #[.int .i64 k2, .int .i64 cd2, .int .i64 md2, .bool al2, .int .u8 rq2, .slice xc nc cc, .slice xr nr cr] 41)) W) (q3 : Reads W cp pa.codes) (q4 : Reads W rp pa.rcd) => rsame_gen ⟨k2, cd2, md2, al2, rq2, cs2, rs2⟩ pa (.slice xc nc cc) (.slice xr nr cr) cp rp W (HU1.out.step hW).reads (HU2.out.step hW).reads q3 q4)
    unfold acV at HP0 HSG
    dsimp only at HSG
    have HX1 := hid (b14_step (w0 := V1.alloc (.cells #[.int .i64 k2, .int .i64 cd2, .int .i64 md2, .bool al2, .int .u8 rq2, .slice xc nc cc, .slice xr nr cr] 41)) ⟨HX2.out.c0, HX2.out.c1, HX2.out.c2, HX2.out.c3, HX2.out.c4, HX2.out.c5, HX2.out.c6, (by simp [go_sem] : (V1.alloc (.cells #[.int .i64 k2, .int .i64 cd2, .int .i64 md2, .bool al2, .int .u8 rq2, .slice xc nc cc, .slice xr nr cr] 41)).cell? ⟨V1.heap.size, 0, none⟩ = some (.int .i64 k2)), (by simp [go_sem] : (V1.alloc (.cells #[.int .i64 k2, .int .i64 cd2, .int .i64 md2, .bool al2, .int .u8 rq2, .slice xc nc cc, .slice xr nr cr] 41)).cell? ⟨V1.heap.size, 1, none⟩ = some (.int .i64 cd2)), (by simp [go_sem] : (V1.alloc (.cells #[.int .i64 k2, .int .i64 cd2, .int .i64 md2, .bool al2, .int .u8 rq2, .slice xc nc cc, .slice xr nr cr] 41)).cell? ⟨V1.heap.size, 2, none⟩ = some (.int .i64 md2)), (by simp [go_sem] : (V1.alloc (.cells #[.int .i64 k2, .int .i64 cd2, .int .i64 md2, .bool al2, .int .u8 rq2, .slice xc nc cc, .slice xr nr cr] 41)).cell? ⟨V1.heap.size, 3, none⟩ = some (.bool al2)), (by simp [go_sem] : (V1.alloc (.cells #[.int .i64 k2, .int .i64 cd2, .int .i64 md2, .bool al2, .int .u8 rq2, .slice xc nc cc, .slice xr nr cr] 41)).cell? ⟨V1.heap.size, 4, none⟩ = some (.int .u8 rq2)), (by simp [go_sem] : (V1.alloc (.cells #[.int .i64 k2, .int .i64 cd2, .int .i64 md2, .bool al2, .int .u8 rq2, .slice xc nc cc, .slice xr nr cr] 41)).cell? ⟨V1.heap.size, 5, none⟩ = some (.slice xc nc cc)), (by simp [go_sem] : (V1.alloc (.cells #[.int .i64 k2, .int .i64 cd2, .int .i64 md2, .bool al2, .int .u8 rq2, .slice xc nc cc, .slice xr nr cr] 41)).cell? ⟨V1.heap.size, 6, none⟩ = some (.slice xr nr cr)), Below.refl _ _⟩ hdr)
    go_wp2
    go_region_held3 (fun w' => w'.cell? ⟨w.heap.size, 0, none⟩ = some (.int .i64 6) ∧ w'.cell? ⟨w.heap.size, 1, none⟩ = some (.int .i64 cd) ∧ w'.cell? ⟨w.heap.size, 2, none⟩ = some (.int .i64 md) ∧ w'.cell? ⟨w.heap.size, 3, none⟩ = some (.bool al) ∧ w'.cell? ⟨w.heap.size, 4, none⟩ = some (.int .u8 rq) ∧ w'.cell? ⟨w.heap.size, 5, none⟩ = some (.slice x1 n1 c1) ∧ w'.cell? ⟨w.heap.size, 6, none⟩ = some (.slice x2 n2 c2) ∧ w'.cell? ⟨V1.heap.size, 0, none⟩ = some (.int .i64 k2) ∧ w'.cell? ⟨V1.heap.size, 1, none⟩ = some (.int .i64 cd2) ∧ w'.cell? ⟨V1.heap.size, 2, none⟩ = some (.int .i64 md2) ∧ w'.cell? ⟨V1.heap.size, 3, none⟩ = some (.bool al2) ∧ w'.cell? ⟨V1.heap.size, 4, none⟩ = some (.int .u8 rq2) ∧ w'.cell? ⟨V1.heap.size, 5, none⟩ = some (.slice xc nc cc) ∧ w'.cell? ⟨V1.heap.size, 6, none⟩ = some (.slice xr nr cr) ∧ Below (V1.alloc (.cells #[.int .i64 k2, .int .i64 cd2, .int .i64 md2, .bool al2, .int .u8 rq2, .slice xc nc cc, .slice xr nr cr] 41)).heap.size (V1.alloc (.cells #[.int .i64 k2, .int .i64 cd2, .int .i64 md2, .bool al2, .int .u8 rq2, .slice xc nc cc, .slice xr nr cr] 41)) w') (first | with_reducible exact HX1.out | with_reducible exact b14_step (by assumption) (by assumption)) (first | (go_at_call 29; (with_reducible refine HP0.out.mono ?_); rintro e w5 ⟨cp, rp, rfl, hq1, hq2, hb5⟩; dsimp only [acV]; have HSA := hid (HSG.out cp rp w5 (below_t hdr hb5) hq1 hq2); obtain ⟨x5, c5, rfl⟩ := reads_sl hq1; obtain ⟨x6, c6, rfl⟩ := reads_sl hq2; clear hq1 hq2) | (go_at_call 18; (with_reducible refine HSA.out.mono ?_); rintro e w6 ⟨⟨r, rfl, hr⟩, hb6⟩; have HR := hid hr; clear hr))
    all_goals
      rename_i hH
      obtain ⟨-, -, -, -, -, -, -, -, -, -, -, -, -, -, hBE⟩ := hH
      have HB4 := hid (below_t HBV.out hBE)
      have HY3 := hid (HY2.out.step hBE)
      have HT3 := hid (HT2.out.step hBE)
      have HD3 := hid (HD2.out.step hBE)
      clear hBE HX2 HY2 HT2 HD2 HU1 HU2 HBV HX1 hdr
      cases r
      · have HM4 := hid (HMK.out.trans (if_pos (.inr (fun q => by have := HR.out.2 q; cases this))))
        clear HT3 HD3
        obtain ⟨z0, z1, z2, z3⟩ := HY3.out
        obtain ⟨r0, r1, -, -⟩ := HY3.out.put (.int .u8 0) (.slice none 0 0)
        have HF := hid (HNO.out _ ((HB4.out.setCell (p := ⟨w.heap.size + 1, 0, none⟩) (by exact Nat.le_succ _) (.int .u8 0)).setCell (p := ⟨w.heap.size + 1, 1, none⟩) (by exact Nat.le_succ _) (.slice none 0 0)) HM4.out)
        clear HY3 HB4 HM4
        revert r0 r1 HF
        generalize hW : ((w6.setCell ⟨w.heap.size + 1, 0, none⟩ (.int .u8 0)).setCell ⟨w.heap.size + 1, 1, none⟩ (.slice none 0 0)) = Wf
        intro r0 r1 HF
        go_wp2
        (try rw [hW])
        exact bodyPost_ret (v := .tuple #[.agg #[.int .u8 0, .slice none 0 0], .int .i64 4]) (by simp [results, Tryd.results25, go_sem, r0, r1]) rfl HF.out
      · have HM0 := hid (HMK.out.trans (if_neg (fun q => q.elim (fun q => q rfl) (fun q => q (HR.out.1 rfl)))))
        obtain ⟨z0, z1, z2, z3⟩ := HY3.out
        obtain ⟨t0, t1, -, -⟩ := HT3.out
        obtain ⟨r0, r1, -, -⟩ := HY3.out.put (.int .u8 (12)) (.slice (some ⟨w.heap.size + 1 + 1 + 1, 0, none⟩) 1 1)
        have HF := hid (show MkD mk w (.returned (.tuple #[.agg #[.int .u8 (12), .slice (some ⟨w.heap.size + 1 + 1 + 1, 0, none⟩) 1 1], .int .i64 0])) ((w6.setCell ⟨w.heap.size + 1, 0, none⟩ (.int .u8 (12))).setCell ⟨w.heap.size + 1, 1, none⟩ (.slice (some ⟨w.heap.size + 1 + 1 + 1, 0, none⟩) 1 1)) from by
          rw [HM0.out]
          exact ⟨_, rfl, put2_own _ _ HD3.out HFR.out, (HB4.out.setCell (p := ⟨w.heap.size + 1, 0, none⟩) (by exact Nat.le_succ _) _).setCell (p := ⟨w.heap.size + 1, 1, none⟩) (by exact Nat.le_succ _) _, fun k hk => by have := HFR.out k hk; omega⟩)
        clear HY3 HT3 HD3 HB4 HM0
        revert r0 r1 HF
        generalize hW : ((w6.setCell ⟨w.heap.size + 1, 0, none⟩ (.int .u8 (12))).setCell ⟨w.heap.size + 1, 1, none⟩ (.slice (some ⟨w.heap.size + 1 + 1 + 1, 0, none⟩) 1 1)) = Wf
        intro r0 r1 HF
        go_wp2
        (try rw [hW])
        exact bodyPost_ret (v := .tuple #[.agg #[.int .u8 (12), .slice (some ⟨w.heap.size + 1 + 1 + 1, 0, none⟩) 1 1], .int .i64 0]) (by simp [results, Tryd.results25, go_sem, r0, r1]) rfl HF.out
  · have hne : (er2 == 0) = false := by simpa using he2
    have hne' : (er2 != 0) = true := by simpa using he2
    have HM4 := hid (HMK.out.trans (if_pos (.inl he2)))
    go_wp2
    go_quiet (fail)
    have HB4 := hid (below_drewN HBV.out nq)
    have HY3 := hid (HY2.out.grow (Grow.below (below_drewN (Below.refl _ _) nq) 0))
    clear HX2 HY2 HT2 HD2 HU1 HU2 HBV
    revert HB4 HY3
    generalize ((V1.alloc (.cells #[.int .i64 k2, .int .i64 cd2, .int .i64 md2, .bool al2, .int .u8 rq2, .slice xc nc cc, .slice xr nr cr] 41)).drewN nq) = W4
    intro HB4 HY3
    obtain ⟨z0, z1, z2, z3⟩ := HY3.out
    obtain ⟨r0, r1, -, -⟩ := HY3.out.put (.int .u8 0) (.slice none 0 0)
    have HF := hid (HNO.out _ ((HB4.out.setCell (p := ⟨w.heap.size + 1, 0, none⟩) (by exact Nat.le_succ _) (.int .u8 0)).setCell (p := ⟨w.heap.size + 1, 1, none⟩) (by exact Nat.le_succ _) (.slice none 0 0)) HM4.out)
    clear HY3 HB4 HM4
    revert r0 r1 HF
    generalize hW : ((W4.setCell ⟨w.heap.size + 1, 0, none⟩ (.int .u8 0)).setCell ⟨w.heap.size + 1, 1, none⟩ (.slice none 0 0)) = Wf
    intro r0 r1 HF
    go_wp2
    (try rw [hW])
    exact bodyPost_ret (v := .tuple #[.agg #[.int .u8 0, .slice none 0 0], .int .i64 4]) (by simp [results, Tryd.results25, go_sem, r0, r1]) rfl HF.out
set_option maxRecDepth 100000 in
set_option maxHeartbeats 4000000 in
theorem make_7 (a : AcD) (cv rv : Value) (w : World) (h1 : Reads w cv a.codes) (h2 : Reads w rv a.rcd) (hk : a.kind = 7) : Calls Tryd.prog 25 #[acV a cv rv] w (MkD (makeF a) w) := by
  have HPL := hid (fun W (hW : Below w.heap.size w W) => plain_any a cv rv W (reads_below h1 hW) (reads_below h2 hW))
  have HNO := hid (fun w' (hb : Below w.heap.size w w') (q : makeF a = (4, sfZ)) => mk_no (er := 4) q hb)
  obtain ⟨k, cd, md, al, rq, cs, rs⟩ := a
  unfold acV at HPL ⊢
  dsimp only at h1 h2 hk HPL ⊢
  subst hk
  have HMK := hid (show makeF ⟨7, cd, md, al, rq, cs, rs⟩ = if (actF ⟨13, [0]⟩).1 ≠ 0 ∨ (actF ⟨13, [0]⟩).2 ≠ plainF ⟨7, cd, md, al, rq, cs, rs⟩ then (4, sfZ) else (0, ⟨13, [0]⟩) from rfl)
  generalize plainF ⟨7, cd, md, al, rq, cs, rs⟩ = pa at HPL HMK
  generalize makeF ⟨7, cd, md, al, rq, cs, rs⟩ = mk at HNO HMK ⊢
  obtain ⟨x1, c1, rfl⟩ := reads_sl h1
  obtain ⟨x2, c2, rfl⟩ := reads_sl h2
  clear h1 h2
  generalize cs.length = n1 at *
  generalize rs.length = n2 at *
  go_enter Tryd.func25, Tryd.ntmps25
  go_upto_region 23 with fail
  obtain ⟨W3, hW3⟩ : ∃ W3, (((w.alloc (.cells #[.int .i64 7, .int .i64 cd, .int .i64 md, .bool al, .int .u8 rq, .slice x1 n1 c1, .slice x2 n2 c2] 41)).alloc (.cells #[.int .u8 0, .slice none 0 0] 36)).alloc (.cells #[.int .u8 (13), .slice (some ⟨w.heap.size + 1 + 1 + 1, 0, none⟩) 1 1] 36)).alloc (.cells #[.int .u8 (0)] 5) = W3 := ⟨_, rfl⟩
  have HB3 := hid (show Below w.heap.size w W3 by rw [← hW3]; exact bal (bal (bal (bal (Below.refl _ _) _) _) _) _)
  have HX := hid (show Box7 W3 w.heap.size (.int .i64 7) (.int .i64 cd) (.int .i64 md) (.bool al) (.int .u8 rq) (.slice x1 n1 c1) (.slice x2 n2 c2) from by rw [← hW3]; exact ⟨by simp [go_sem], by simp [go_sem], by simp [go_sem], by simp [go_sem], by simp [go_sem], by simp [go_sem], by simp [go_sem], fun i _ => by simp [go_sem]⟩)
  have HY := hid (show Box2 W3 (w.heap.size + 1) (.int .u8 0) (.slice none 0 0) from by rw [← hW3]; exact ⟨by simp [go_sem], by simp [go_sem], by simp [go_sem], by simp [go_sem]⟩)
  have HT := hid (show Box2 W3 (w.heap.size + 1 + 1) (.int .u8 (13)) (.slice (some ⟨w.heap.size + 1 + 1 + 1, 0, none⟩) 1 1) from by rw [← hW3]; exact ⟨by simp [go_sem], by simp [go_sem], by simp [go_sem], by simp [go_sem]⟩)
  have HD := hid (show OwnB W3 (.slice (some ⟨w.heap.size + 1 + 1 + 1, 0, none⟩) 1 1) [0] from by rw [← hW3]; exact own_lit _ #[.int .u8 (0)] 1 [0] (by decide) rfl rfl (by omega) _ (by simp))
  have HFR := hid (show ∀ k ∈ blkV (.slice (some ⟨w.heap.size + 1 + 1 + 1, 0, none⟩) 1 1), w.heap.size + 1 < k from fun k hk => by simp [blkV, Value.ownBlock] at hk; omega)
  have HOF := hid (rof_any ⟨13, [0]⟩ (.slice (some ⟨w.heap.size + 1 + 1 + 1, 0, none⟩) 1 1) W3 HD.out.reads (by decide))
  rw [hW3]
  clear hW3
  obtain ⟨t0, t1, -, -⟩ := HT.out
  generalize actF ⟨13, [0]⟩ = res at HOF HMK
  obtain ⟨er2, ⟨k2, cd2, md2, al2, rq2, cs2, rs2⟩⟩ := res
  dsimp only at HOF HMK
  go_wp2_with fail
  with_reducible refine HOF.out.mono ?_
  rintro e V1 ⟨cw, rw', rfl, ho1, ho2, hb1, hk1, hk2⟩
  dsimp only at ho1 ho2
  dsimp only [acV]
  obtain ⟨xc, nc, cc, rfl⟩ := own_slice ho1
  obtain ⟨xr, nr, cr, rfl⟩ := own_slice ho2
  have hbA : Below V1.heap.size V1 (V1.alloc (.cells #[.int .i64 k2, .int .i64 cd2, .int .i64 md2, .bool al2, .int .u8 rq2, .slice xc nc cc, .slice xr nr cr] 41)) := bal (Below.refl _ _) _
  have hb2 := below_t hb1 hbA
  have HBV := hid (below_t HB3.out hb2)
  have HU1 := hid (ho1.step hbA)
  have HU2 := hid (ho2.step hbA)
  have HX2 := hid (HX.out.step hb2)
  have HY2 := hid (HY.out.grow (Grow.below hb2 0))
  have HT2 := hid (HT.out.grow (Grow.below hb2 0))
  have HD2 := hid (HD.out.step hb2)
  clear ho1 ho2 hb1 hk1 hk2 hb2 hbA t0 t1
  by_cases he2 : er2 = 0
  · subst he2
    have hdr : Below (V1.alloc (.cells #[.int .i64 k2, .int .i64 cd2, .int .i64 md2, .bool al2, .int .u8 rq2, .slice xc nc cc, .slice xr nr cr] 41)).heap.size (V1.alloc (.cells #[.int .i64 k2, .int .i64 cd2, .int .i64 md2, .bool al2, .int .u8 rq2, .slice xc nc cc, .slice xr nr cr] 41)) (V1.alloc (.cells #[.int .i64 k2, .int .i64 cd2, .int .i64 md2, .bool al2, .int .u8 rq2, .slice xc nc cc, .slice xr nr cr] 41)).drew := (Below.refl _ _).drew
    have HP0 := hid (HPL.out _ (below_t HBV.out hdr))
    have HSG := hid (fun (cp rp : Value) W (hW : Below (V1.alloc (.cells #[.int .i64 k2, .int .i64 cd2, .int .i64 md2, .bool al2, .int .u8 rq2, .slice xc nc cc, .slice xr nr cr] 41)).heap.size (V1.alloc (.cells #[.int .i64 k2, .int .i64 cd2, .int .i64 md2, .bool al2, .int .u8 rq2, .slice xc nc cc, .slice xr nr cr] 41)) W) (q3 : Reads W cp pa.codes) (q4 : Reads W rp pa.rcd) => rsame_gen ⟨k2, cd2, md2, al2, rq2, cs2, rs2⟩ pa (.slice xc nc cc) (.slice xr nr cr) cp rp W (HU1.out.step hW).reads (HU2.out.step hW).reads q3 q4)
    unfold acV at HP0 HSG
    dsimp only at HSG
    have HX1 := hid (b14_step (w0 := V1.alloc (.cells #[.int .i64 k2, .int .i64 cd2, .int .i64 md2, .bool al2, .int .u8 rq2, .slice xc nc cc, .slice xr nr cr] 41)) ⟨HX2.out.c0, HX2.out.c1, HX2.out.c2, HX2.out.c3, HX2.out.c4, HX2.out.c5, HX2.out.c6, (by simp [go_sem] : (V1.alloc (.cells #[.int .i64 k2, .int .i64 cd2, .int .i64 md2, .bool al2, .int .u8 rq2, .slice xc nc cc, .slice xr nr cr] 41)).cell? ⟨V1.heap.size, 0, none⟩ = some (.int .i64 k2)), (by simp [go_sem] : (V1.alloc (.cells #[.int .i64 k2, .int .i64 cd2, .int .i64 md2, .bool al2, .int .u8 rq2, .slice xc nc cc, .slice xr nr cr] 41)).cell? ⟨V1.heap.size, 1, none⟩ = some (.int .i64 cd2)), (by simp [go_sem] : (V1.alloc (.cells #[.int .i64 k2, .int .i64 cd2, .int .i64 md2, .bool al2, .int .u8 rq2, .slice xc nc cc, .slice xr nr cr] 41)).cell? ⟨V1.heap.size, 2, none⟩ = some (.int .i64 md2)), (by simp [go_sem] : (V1.alloc (.cells #[.int .i64 k2, .int .i64 cd2, .int .i64 md2, .bool al2, .int .u8 rq2, .slice xc nc cc, .slice xr nr cr] 41)).cell? ⟨V1.heap.size, 3, none⟩ = some (.bool al2)), (by simp [go_sem] : (V1.alloc (.cells #[.int .i64 k2, .int .i64 cd2, .int .i64 md2, .bool al2, .int .u8 rq2, .slice xc nc cc, .slice xr nr cr] 41)).cell? ⟨V1.heap.size, 4, none⟩ = some (.int .u8 rq2)), (by simp [go_sem] : (V1.alloc (.cells #[.int .i64 k2, .int .i64 cd2, .int .i64 md2, .bool al2, .int .u8 rq2, .slice xc nc cc, .slice xr nr cr] 41)).cell? ⟨V1.heap.size, 5, none⟩ = some (.slice xc nc cc)), (by simp [go_sem] : (V1.alloc (.cells #[.int .i64 k2, .int .i64 cd2, .int .i64 md2, .bool al2, .int .u8 rq2, .slice xc nc cc, .slice xr nr cr] 41)).cell? ⟨V1.heap.size, 6, none⟩ = some (.slice xr nr cr)), Below.refl _ _⟩ hdr)
    go_wp2
    go_region_held3 (fun w' => w'.cell? ⟨w.heap.size, 0, none⟩ = some (.int .i64 7) ∧ w'.cell? ⟨w.heap.size, 1, none⟩ = some (.int .i64 cd) ∧ w'.cell? ⟨w.heap.size, 2, none⟩ = some (.int .i64 md) ∧ w'.cell? ⟨w.heap.size, 3, none⟩ = some (.bool al) ∧ w'.cell? ⟨w.heap.size, 4, none⟩ = some (.int .u8 rq) ∧ w'.cell? ⟨w.heap.size, 5, none⟩ = some (.slice x1 n1 c1) ∧ w'.cell? ⟨w.heap.size, 6, none⟩ = some (.slice x2 n2 c2) ∧ w'.cell? ⟨V1.heap.size, 0, none⟩ = some (.int .i64 k2) ∧ w'.cell? ⟨V1.heap.size, 1, none⟩ = some (.int .i64 cd2) ∧ w'.cell? ⟨V1.heap.size, 2, none⟩ = some (.int .i64 md2) ∧ w'.cell? ⟨V1.heap.size, 3, none⟩ = some (.bool al2) ∧ w'.cell? ⟨V1.heap.size, 4, none⟩ = some (.int .u8 rq2) ∧ w'.cell? ⟨V1.heap.size, 5, none⟩ = some (.slice xc nc cc) ∧ w'.cell? ⟨V1.heap.size, 6, none⟩ = some (.slice xr nr cr) ∧ Below (V1.alloc (.cells #[.int .i64 k2, .int .i64 cd2, .int .i64 md2, .bool al2, .int .u8 rq2, .slice xc nc cc, .slice xr nr cr] 41)).heap.size (V1.alloc (.cells #[.int .i64 k2, .int .i64 cd2, .int .i64 md2, .bool al2, .int .u8 rq2, .slice xc nc cc, .slice xr nr cr] 41)) w') (first | with_reducible exact HX1.out | with_reducible exact b14_step (by assumption) (by assumption)) (first | (go_at_call 29; (with_reducible refine HP0.out.mono ?_); rintro e w5 ⟨cp, rp, rfl, hq1, hq2, hb5⟩; dsimp only [acV]; have HSA := hid (HSG.out cp rp w5 (below_t hdr hb5) hq1 hq2); obtain ⟨x5, c5, rfl⟩ := reads_sl hq1; obtain ⟨x6, c6, rfl⟩ := reads_sl hq2; clear hq1 hq2) | (go_at_call 18; (with_reducible refine HSA.out.mono ?_); rintro e w6 ⟨⟨r, rfl, hr⟩, hb6⟩; have HR := hid hr; clear hr))
    all_goals
      rename_i hH
      obtain ⟨-, -, -, -, -, -, -, -, -, -, -, -, -, -, hBE⟩ := hH
      have HB4 := hid (below_t HBV.out hBE)
      have HY3 := hid (HY2.out.step hBE)
      have HT3 := hid (HT2.out.step hBE)
      have HD3 := hid (HD2.out.step hBE)
      clear hBE HX2 HY2 HT2 HD2 HU1 HU2 HBV HX1 hdr
      cases r
      · have HM4 := hid (HMK.out.trans (if_pos (.inr (fun q => by have := HR.out.2 q; cases this))))
        clear HT3 HD3
        obtain ⟨z0, z1, z2, z3⟩ := HY3.out
        obtain ⟨r0, r1, -, -⟩ := HY3.out.put (.int .u8 0) (.slice none 0 0)
        have HF := hid (HNO.out _ ((HB4.out.setCell (p := ⟨w.heap.size + 1, 0, none⟩) (by exact Nat.le_succ _) (.int .u8 0)).setCell (p := ⟨w.heap.size + 1, 1, none⟩) (by exact Nat.le_succ _) (.slice none 0 0)) HM4.out)
        clear HY3 HB4 HM4
        revert r0 r1 HF
        generalize hW : ((w6.setCell ⟨w.heap.size + 1, 0, none⟩ (.int .u8 0)).setCell ⟨w.heap.size + 1, 1, none⟩ (.slice none 0 0)) = Wf
        intro r0 r1 HF
        go_wp2
        (try rw [hW])
        exact bodyPost_ret (v := .tuple #[.agg #[.int .u8 0, .slice none 0 0], .int .i64 4]) (by simp [results, Tryd.results25, go_sem, r0, r1]) rfl HF.out
      · have HM0 := hid (HMK.out.trans (if_neg (fun q => q.elim (fun q => q rfl) (fun q => q (HR.out.1 rfl)))))
        obtain ⟨z0, z1, z2, z3⟩ := HY3.out
        obtain ⟨t0, t1, -, -⟩ := HT3.out
        obtain ⟨r0, r1, -, -⟩ := HY3.out.put (.int .u8 (13)) (.slice (some ⟨w.heap.size + 1 + 1 + 1, 0, none⟩) 1 1)
        have HF := hid (show MkD mk w (.returned (.tuple #[.agg #[.int .u8 (13), .slice (some ⟨w.heap.size + 1 + 1 + 1, 0, none⟩) 1 1], .int .i64 0])) ((w6.setCell ⟨w.heap.size + 1, 0, none⟩ (.int .u8 (13))).setCell ⟨w.heap.size + 1, 1, none⟩ (.slice (some ⟨w.heap.size + 1 + 1 + 1, 0, none⟩) 1 1)) from by
          rw [HM0.out]
          exact ⟨_, rfl, put2_own _ _ HD3.out HFR.out, (HB4.out.setCell (p := ⟨w.heap.size + 1, 0, none⟩) (by exact Nat.le_succ _) _).setCell (p := ⟨w.heap.size + 1, 1, none⟩) (by exact Nat.le_succ _) _, fun k hk => by have := HFR.out k hk; omega⟩)
        clear HY3 HT3 HD3 HB4 HM0
        revert r0 r1 HF
        generalize hW : ((w6.setCell ⟨w.heap.size + 1, 0, none⟩ (.int .u8 (13))).setCell ⟨w.heap.size + 1, 1, none⟩ (.slice (some ⟨w.heap.size + 1 + 1 + 1, 0, none⟩) 1 1)) = Wf
        intro r0 r1 HF
        go_wp2
        (try rw [hW])
        exact bodyPost_ret (v := .tuple #[.agg #[.int .u8 (13), .slice (some ⟨w.heap.size + 1 + 1 + 1, 0, none⟩) 1 1], .int .i64 0]) (by simp [results, Tryd.results25, go_sem, r0, r1]) rfl HF.out
  · have hne : (er2 == 0) = false := by simpa using he2
    have hne' : (er2 != 0) = true := by simpa using he2
    have HM4 := hid (HMK.out.trans (if_pos (.inl he2)))
    go_wp2
    go_quiet (fail)
    have HB4 := hid (below_drewN HBV.out nq)
    have HY3 := hid (HY2.out.grow (Grow.below (below_drewN (Below.refl _ _) nq) 0))
    clear HX2 HY2 HT2 HD2 HU1 HU2 HBV
    revert HB4 HY3
    generalize ((V1.alloc (.cells #[.int .i64 k2, .int .i64 cd2, .int .i64 md2, .bool al2, .int .u8 rq2, .slice xc nc cc, .slice xr nr cr] 41)).drewN nq) = W4
    intro HB4 HY3
    obtain ⟨z0, z1, z2, z3⟩ := HY3.out
    obtain ⟨r0, r1, -, -⟩ := HY3.out.put (.int .u8 0) (.slice none 0 0)
    have HF := hid (HNO.out _ ((HB4.out.setCell (p := ⟨w.heap.size + 1, 0, none⟩) (by exact Nat.le_succ _) (.int .u8 0)).setCell (p := ⟨w.heap.size + 1, 1, none⟩) (by exact Nat.le_succ _) (.slice none 0 0)) HM4.out)
    clear HY3 HB4 HM4
    revert r0 r1 HF
    generalize hW : ((W4.setCell ⟨w.heap.size + 1, 0, none⟩ (.int .u8 0)).setCell ⟨w.heap.size + 1, 1, none⟩ (.slice none 0 0)) = Wf
    intro r0 r1 HF
    go_wp2
    (try rw [hW])
    exact bodyPost_ret (v := .tuple #[.agg #[.int .u8 0, .slice none 0 0], .int .i64 4]) (by simp [results, Tryd.results25, go_sem, r0, r1]) rfl HF.out
set_option maxRecDepth 100000 in
set_option maxHeartbeats 4000000 in
theorem make_8 (a : AcD) (cv rv : Value) (w : World) (h1 : Reads w cv a.codes) (h2 : Reads w rv a.rcd) (hk : a.kind = 8) : Calls Tryd.prog 25 #[acV a cv rv] w (MkD (makeF a) w) := by
  have HPL := hid (fun W (hW : Below w.heap.size w W) => plain_any a cv rv W (reads_below h1 hW) (reads_below h2 hW))
  have HNO := hid (fun w' (hb : Below w.heap.size w w') (q : makeF a = (4, sfZ)) => mk_no (er := 4) q hb)
  obtain ⟨k, cd, md, al, rq, cs, rs⟩ := a
  unfold acV at HPL ⊢
  dsimp only at h1 h2 hk HPL ⊢
  subst hk
  have HMK := hid (show makeF ⟨8, cd, md, al, rq, cs, rs⟩ = if (actF ⟨14, [0]⟩).1 ≠ 0 ∨ (actF ⟨14, [0]⟩).2 ≠ plainF ⟨8, cd, md, al, rq, cs, rs⟩ then (4, sfZ) else (0, ⟨14, [0]⟩) from rfl)
  generalize plainF ⟨8, cd, md, al, rq, cs, rs⟩ = pa at HPL HMK
  generalize makeF ⟨8, cd, md, al, rq, cs, rs⟩ = mk at HNO HMK ⊢
  obtain ⟨x1, c1, rfl⟩ := reads_sl h1
  obtain ⟨x2, c2, rfl⟩ := reads_sl h2
  clear h1 h2
  generalize cs.length = n1 at *
  generalize rs.length = n2 at *
  go_enter Tryd.func25, Tryd.ntmps25
  go_upto_region 23 with fail
  obtain ⟨W3, hW3⟩ : ∃ W3, (((w.alloc (.cells #[.int .i64 8, .int .i64 cd, .int .i64 md, .bool al, .int .u8 rq, .slice x1 n1 c1, .slice x2 n2 c2] 41)).alloc (.cells #[.int .u8 0, .slice none 0 0] 36)).alloc (.cells #[.int .u8 (14), .slice (some ⟨w.heap.size + 1 + 1 + 1, 0, none⟩) 1 1] 36)).alloc (.cells #[.int .u8 (0)] 5) = W3 := ⟨_, rfl⟩
  have HB3 := hid (show Below w.heap.size w W3 by rw [← hW3]; exact bal (bal (bal (bal (Below.refl _ _) _) _) _) _)
  have HX := hid (show Box7 W3 w.heap.size (.int .i64 8) (.int .i64 cd) (.int .i64 md) (.bool al) (.int .u8 rq) (.slice x1 n1 c1) (.slice x2 n2 c2) from by rw [← hW3]; exact ⟨by simp [go_sem], by simp [go_sem], by simp [go_sem], by simp [go_sem], by simp [go_sem], by simp [go_sem], by simp [go_sem], fun i _ => by simp [go_sem]⟩)
  have HY := hid (show Box2 W3 (w.heap.size + 1) (.int .u8 0) (.slice none 0 0) from by rw [← hW3]; exact ⟨by simp [go_sem], by simp [go_sem], by simp [go_sem], by simp [go_sem]⟩)
  have HT := hid (show Box2 W3 (w.heap.size + 1 + 1) (.int .u8 (14)) (.slice (some ⟨w.heap.size + 1 + 1 + 1, 0, none⟩) 1 1) from by rw [← hW3]; exact ⟨by simp [go_sem], by simp [go_sem], by simp [go_sem], by simp [go_sem]⟩)
  have HD := hid (show OwnB W3 (.slice (some ⟨w.heap.size + 1 + 1 + 1, 0, none⟩) 1 1) [0] from by rw [← hW3]; exact own_lit _ #[.int .u8 (0)] 1 [0] (by decide) rfl rfl (by omega) _ (by simp))
  have HFR := hid (show ∀ k ∈ blkV (.slice (some ⟨w.heap.size + 1 + 1 + 1, 0, none⟩) 1 1), w.heap.size + 1 < k from fun k hk => by simp [blkV, Value.ownBlock] at hk; omega)
  have HOF := hid (rof_any ⟨14, [0]⟩ (.slice (some ⟨w.heap.size + 1 + 1 + 1, 0, none⟩) 1 1) W3 HD.out.reads (by decide))
  rw [hW3]
  clear hW3
  obtain ⟨t0, t1, -, -⟩ := HT.out
  generalize actF ⟨14, [0]⟩ = res at HOF HMK
  obtain ⟨er2, ⟨k2, cd2, md2, al2, rq2, cs2, rs2⟩⟩ := res
  dsimp only at HOF HMK
  go_wp2_with fail
  with_reducible refine HOF.out.mono ?_
  rintro e V1 ⟨cw, rw', rfl, ho1, ho2, hb1, hk1, hk2⟩
  dsimp only at ho1 ho2
  dsimp only [acV]
  obtain ⟨xc, nc, cc, rfl⟩ := own_slice ho1
  obtain ⟨xr, nr, cr, rfl⟩ := own_slice ho2
  have hbA : Below V1.heap.size V1 (V1.alloc (.cells #[.int .i64 k2, .int .i64 cd2, .int .i64 md2, .bool al2, .int .u8 rq2, .slice xc nc cc, .slice xr nr cr] 41)) := bal (Below.refl _ _) _
  have hb2 := below_t hb1 hbA
  have HBV := hid (below_t HB3.out hb2)
  have HU1 := hid (ho1.step hbA)
  have HU2 := hid (ho2.step hbA)
  have HX2 := hid (HX.out.step hb2)
  have HY2 := hid (HY.out.grow (Grow.below hb2 0))
  have HT2 := hid (HT.out.grow (Grow.below hb2 0))
  have HD2 := hid (HD.out.step hb2)
  clear ho1 ho2 hb1 hk1 hk2 hb2 hbA t0 t1
  by_cases he2 : er2 = 0
  · subst he2
    have hdr : Below (V1.alloc (.cells #[.int .i64 k2, .int .i64 cd2, .int .i64 md2, .bool al2, .int .u8 rq2, .slice xc nc cc, .slice xr nr cr] 41)).heap.size (V1.alloc (.cells #[.int .i64 k2, .int .i64 cd2, .int .i64 md2, .bool al2, .int .u8 rq2, .slice xc nc cc, .slice xr nr cr] 41)) (V1.alloc (.cells #[.int .i64 k2, .int .i64 cd2, .int .i64 md2, .bool al2, .int .u8 rq2, .slice xc nc cc, .slice xr nr cr] 41)).drew := (Below.refl _ _).drew
    have HP0 := hid (HPL.out _ (below_t HBV.out hdr))
    have HSG := hid (fun (cp rp : Value) W (hW : Below (V1.alloc (.cells #[.int .i64 k2, .int .i64 cd2, .int .i64 md2, .bool al2, .int .u8 rq2, .slice xc nc cc, .slice xr nr cr] 41)).heap.size (V1.alloc (.cells #[.int .i64 k2, .int .i64 cd2, .int .i64 md2, .bool al2, .int .u8 rq2, .slice xc nc cc, .slice xr nr cr] 41)) W) (q3 : Reads W cp pa.codes) (q4 : Reads W rp pa.rcd) => rsame_gen ⟨k2, cd2, md2, al2, rq2, cs2, rs2⟩ pa (.slice xc nc cc) (.slice xr nr cr) cp rp W (HU1.out.step hW).reads (HU2.out.step hW).reads q3 q4)
    unfold acV at HP0 HSG
    dsimp only at HSG
    have HX1 := hid (b14_step (w0 := V1.alloc (.cells #[.int .i64 k2, .int .i64 cd2, .int .i64 md2, .bool al2, .int .u8 rq2, .slice xc nc cc, .slice xr nr cr] 41)) ⟨HX2.out.c0, HX2.out.c1, HX2.out.c2, HX2.out.c3, HX2.out.c4, HX2.out.c5, HX2.out.c6, (by simp [go_sem] : (V1.alloc (.cells #[.int .i64 k2, .int .i64 cd2, .int .i64 md2, .bool al2, .int .u8 rq2, .slice xc nc cc, .slice xr nr cr] 41)).cell? ⟨V1.heap.size, 0, none⟩ = some (.int .i64 k2)), (by simp [go_sem] : (V1.alloc (.cells #[.int .i64 k2, .int .i64 cd2, .int .i64 md2, .bool al2, .int .u8 rq2, .slice xc nc cc, .slice xr nr cr] 41)).cell? ⟨V1.heap.size, 1, none⟩ = some (.int .i64 cd2)), (by simp [go_sem] : (V1.alloc (.cells #[.int .i64 k2, .int .i64 cd2, .int .i64 md2, .bool al2, .int .u8 rq2, .slice xc nc cc, .slice xr nr cr] 41)).cell? ⟨V1.heap.size, 2, none⟩ = some (.int .i64 md2)), (by simp [go_sem] : (V1.alloc (.cells #[.int .i64 k2, .int .i64 cd2, .int .i64 md2, .bool al2, .int .u8 rq2, .slice xc nc cc, .slice xr nr cr] 41)).cell? ⟨V1.heap.size, 3, none⟩ = some (.bool al2)), (by simp [go_sem] : (V1.alloc (.cells #[.int .i64 k2, .int .i64 cd2, .int .i64 md2, .bool al2, .int .u8 rq2, .slice xc nc cc, .slice xr nr cr] 41)).cell? ⟨V1.heap.size, 4, none⟩ = some (.int .u8 rq2)), (by simp [go_sem] : (V1.alloc (.cells #[.int .i64 k2, .int .i64 cd2, .int .i64 md2, .bool al2, .int .u8 rq2, .slice xc nc cc, .slice xr nr cr] 41)).cell? ⟨V1.heap.size, 5, none⟩ = some (.slice xc nc cc)), (by simp [go_sem] : (V1.alloc (.cells #[.int .i64 k2, .int .i64 cd2, .int .i64 md2, .bool al2, .int .u8 rq2, .slice xc nc cc, .slice xr nr cr] 41)).cell? ⟨V1.heap.size, 6, none⟩ = some (.slice xr nr cr)), Below.refl _ _⟩ hdr)
    go_wp2
    go_region_held3 (fun w' => w'.cell? ⟨w.heap.size, 0, none⟩ = some (.int .i64 8) ∧ w'.cell? ⟨w.heap.size, 1, none⟩ = some (.int .i64 cd) ∧ w'.cell? ⟨w.heap.size, 2, none⟩ = some (.int .i64 md) ∧ w'.cell? ⟨w.heap.size, 3, none⟩ = some (.bool al) ∧ w'.cell? ⟨w.heap.size, 4, none⟩ = some (.int .u8 rq) ∧ w'.cell? ⟨w.heap.size, 5, none⟩ = some (.slice x1 n1 c1) ∧ w'.cell? ⟨w.heap.size, 6, none⟩ = some (.slice x2 n2 c2) ∧ w'.cell? ⟨V1.heap.size, 0, none⟩ = some (.int .i64 k2) ∧ w'.cell? ⟨V1.heap.size, 1, none⟩ = some (.int .i64 cd2) ∧ w'.cell? ⟨V1.heap.size, 2, none⟩ = some (.int .i64 md2) ∧ w'.cell? ⟨V1.heap.size, 3, none⟩ = some (.bool al2) ∧ w'.cell? ⟨V1.heap.size, 4, none⟩ = some (.int .u8 rq2) ∧ w'.cell? ⟨V1.heap.size, 5, none⟩ = some (.slice xc nc cc) ∧ w'.cell? ⟨V1.heap.size, 6, none⟩ = some (.slice xr nr cr) ∧ Below (V1.alloc (.cells #[.int .i64 k2, .int .i64 cd2, .int .i64 md2, .bool al2, .int .u8 rq2, .slice xc nc cc, .slice xr nr cr] 41)).heap.size (V1.alloc (.cells #[.int .i64 k2, .int .i64 cd2, .int .i64 md2, .bool al2, .int .u8 rq2, .slice xc nc cc, .slice xr nr cr] 41)) w') (first | with_reducible exact HX1.out | with_reducible exact b14_step (by assumption) (by assumption)) (first | (go_at_call 29; (with_reducible refine HP0.out.mono ?_); rintro e w5 ⟨cp, rp, rfl, hq1, hq2, hb5⟩; dsimp only [acV]; have HSA := hid (HSG.out cp rp w5 (below_t hdr hb5) hq1 hq2); obtain ⟨x5, c5, rfl⟩ := reads_sl hq1; obtain ⟨x6, c6, rfl⟩ := reads_sl hq2; clear hq1 hq2) | (go_at_call 18; (with_reducible refine HSA.out.mono ?_); rintro e w6 ⟨⟨r, rfl, hr⟩, hb6⟩; have HR := hid hr; clear hr))
    all_goals
      rename_i hH
      obtain ⟨-, -, -, -, -, -, -, -, -, -, -, -, -, -, hBE⟩ := hH
      have HB4 := hid (below_t HBV.out hBE)
      have HY3 := hid (HY2.out.step hBE)
      have HT3 := hid (HT2.out.step hBE)
      have HD3 := hid (HD2.out.step hBE)
      clear hBE HX2 HY2 HT2 HD2 HU1 HU2 HBV HX1 hdr
      cases r
      · have HM4 := hid (HMK.out.trans (if_pos (.inr (fun q => by have := HR.out.2 q; cases this))))
        clear HT3 HD3
        obtain ⟨z0, z1, z2, z3⟩ := HY3.out
        obtain ⟨r0, r1, -, -⟩ := HY3.out.put (.int .u8 0) (.slice none 0 0)
        have HF := hid (HNO.out _ ((HB4.out.setCell (p := ⟨w.heap.size + 1, 0, none⟩) (by exact Nat.le_succ _) (.int .u8 0)).setCell (p := ⟨w.heap.size + 1, 1, none⟩) (by exact Nat.le_succ _) (.slice none 0 0)) HM4.out)
        clear HY3 HB4 HM4
        revert r0 r1 HF
        generalize hW : ((w6.setCell ⟨w.heap.size + 1, 0, none⟩ (.int .u8 0)).setCell ⟨w.heap.size + 1, 1, none⟩ (.slice none 0 0)) = Wf
        intro r0 r1 HF
        go_wp2
        (try rw [hW])
        exact bodyPost_ret (v := .tuple #[.agg #[.int .u8 0, .slice none 0 0], .int .i64 4]) (by simp [results, Tryd.results25, go_sem, r0, r1]) rfl HF.out
      · have HM0 := hid (HMK.out.trans (if_neg (fun q => q.elim (fun q => q rfl) (fun q => q (HR.out.1 rfl)))))
        obtain ⟨z0, z1, z2, z3⟩ := HY3.out
        obtain ⟨t0, t1, -, -⟩ := HT3.out
        obtain ⟨r0, r1, -, -⟩ := HY3.out.put (.int .u8 (14)) (.slice (some ⟨w.heap.size + 1 + 1 + 1, 0, none⟩) 1 1)
        have HF := hid (show MkD mk w (.returned (.tuple #[.agg #[.int .u8 (14), .slice (some ⟨w.heap.size + 1 + 1 + 1, 0, none⟩) 1 1], .int .i64 0])) ((w6.setCell ⟨w.heap.size + 1, 0, none⟩ (.int .u8 (14))).setCell ⟨w.heap.size + 1, 1, none⟩ (.slice (some ⟨w.heap.size + 1 + 1 + 1, 0, none⟩) 1 1)) from by
          rw [HM0.out]
          exact ⟨_, rfl, put2_own _ _ HD3.out HFR.out, (HB4.out.setCell (p := ⟨w.heap.size + 1, 0, none⟩) (by exact Nat.le_succ _) _).setCell (p := ⟨w.heap.size + 1, 1, none⟩) (by exact Nat.le_succ _) _, fun k hk => by have := HFR.out k hk; omega⟩)
        clear HY3 HT3 HD3 HB4 HM0
        revert r0 r1 HF
        generalize hW : ((w6.setCell ⟨w.heap.size + 1, 0, none⟩ (.int .u8 (14))).setCell ⟨w.heap.size + 1, 1, none⟩ (.slice (some ⟨w.heap.size + 1 + 1 + 1, 0, none⟩) 1 1)) = Wf
        intro r0 r1 HF
        go_wp2
        (try rw [hW])
        exact bodyPost_ret (v := .tuple #[.agg #[.int .u8 (14), .slice (some ⟨w.heap.size + 1 + 1 + 1, 0, none⟩) 1 1], .int .i64 0]) (by simp [results, Tryd.results25, go_sem, r0, r1]) rfl HF.out
  · have hne : (er2 == 0) = false := by simpa using he2
    have hne' : (er2 != 0) = true := by simpa using he2
    have HM4 := hid (HMK.out.trans (if_pos (.inl he2)))
    go_wp2
    go_quiet (fail)
    have HB4 := hid (below_drewN HBV.out nq)
    have HY3 := hid (HY2.out.grow (Grow.below (below_drewN (Below.refl _ _) nq) 0))
    clear HX2 HY2 HT2 HD2 HU1 HU2 HBV
    revert HB4 HY3
    generalize ((V1.alloc (.cells #[.int .i64 k2, .int .i64 cd2, .int .i64 md2, .bool al2, .int .u8 rq2, .slice xc nc cc, .slice xr nr cr] 41)).drewN nq) = W4
    intro HB4 HY3
    obtain ⟨z0, z1, z2, z3⟩ := HY3.out
    obtain ⟨r0, r1, -, -⟩ := HY3.out.put (.int .u8 0) (.slice none 0 0)
    have HF := hid (HNO.out _ ((HB4.out.setCell (p := ⟨w.heap.size + 1, 0, none⟩) (by exact Nat.le_succ _) (.int .u8 0)).setCell (p := ⟨w.heap.size + 1, 1, none⟩) (by exact Nat.le_succ _) (.slice none 0 0)) HM4.out)
    clear HY3 HB4 HM4
    revert r0 r1 HF
    generalize hW : ((W4.setCell ⟨w.heap.size + 1, 0, none⟩ (.int .u8 0)).setCell ⟨w.heap.size + 1, 1, none⟩ (.slice none 0 0)) = Wf
    intro r0 r1 HF
    go_wp2
    (try rw [hW])
    exact bodyPost_ret (v := .tuple #[.agg #[.int .u8 0, .slice none 0 0], .int .i64 4]) (by simp [results, Tryd.results25, go_sem, r0, r1]) rfl HF.out
set_option maxRecDepth 100000 in
set_option maxHeartbeats 4000000 in
theorem make_5 (a : AcD) (cv rv : Value) (w : World) (h1 : Reads w cv a.codes) (h2 : Reads w rv a.rcd) (hk : a.kind = 5) : Calls Tryd.prog 25 #[acV a cv rv] w (MkD (makeF a) w) := by
  have HPL := hid (fun W (hW : Below w.heap.size w W) => plain_any a cv rv W (reads_below h1 hW) (reads_below h2 hW))
  have HNO := hid (fun w' (hb : Below w.heap.size w w') (q : makeF a = (4, sfZ)) => mk_no (er := 4) q hb)
  obtain ⟨k, cd, md, al, rq, cs, rs⟩ := a
  unfold acV at HPL ⊢
  dsimp only at h1 h2 hk HPL ⊢
  subst hk
  have HMK := hid (show makeF ⟨5, cd, md, al, rq, cs, rs⟩ = if (actF ⟨9, [0, md % 256]⟩).1 ≠ 0 ∨ (actF ⟨9, [0, md % 256]⟩).2 ≠ plainF ⟨5, cd, md, al, rq, cs, rs⟩ then (4, sfZ) else (0, ⟨9, [0, md % 256]⟩) from rfl)
  generalize plainF ⟨5, cd, md, al, rq, cs, rs⟩ = pa at HPL HMK
  generalize makeF ⟨5, cd, md, al, rq, cs, rs⟩ = mk at HNO HMK ⊢
  obtain ⟨x1, c1, rfl⟩ := reads_sl h1
  obtain ⟨x2, c2, rfl⟩ := reads_sl h2
  clear h1 h2
  generalize cs.length = n1 at *
  generalize rs.length = n2 at *
  go_enter Tryd.func25, Tryd.ntmps25
  go_upto_region 23 with fail
  obtain ⟨W3, hW3⟩ : ∃ W3, (((w.alloc (.cells #[.int .i64 5, .int .i64 cd, .int .i64 md, .bool al, .int .u8 rq, .slice x1 n1 c1, .slice x2 n2 c2] 41)).alloc (.cells #[.int .u8 0, .slice none 0 0] 36)).alloc (.cells #[.int .u8 (9), .slice (some ⟨w.heap.size + 1 + 1 + 1, 0, none⟩) 2 2] 36)).alloc (.cells #[.int .u8 (0), .int .u8 (md % 256)] 5) = W3 := ⟨_, rfl⟩
  have HB3 := hid (show Below w.heap.size w W3 by rw [← hW3]; exact bal (bal (bal (bal (Below.refl _ _) _) _) _) _)
  have HX := hid (show Box7 W3 w.heap.size (.int .i64 5) (.int .i64 cd) (.int .i64 md) (.bool al) (.int .u8 rq) (.slice x1 n1 c1) (.slice x2 n2 c2) from by rw [← hW3]; exact ⟨by simp [go_sem], by simp [go_sem], by simp [go_sem], by simp [go_sem], by simp [go_sem], by simp [go_sem], by simp [go_sem], fun i _ => by simp [go_sem]⟩)
  have HY := hid (show Box2 W3 (w.heap.size + 1) (.int .u8 0) (.slice none 0 0) from by rw [← hW3]; exact ⟨by simp [go_sem], by simp [go_sem], by simp [go_sem], by simp [go_sem]⟩)
  have HT := hid (show Box2 W3 (w.heap.size + 1 + 1) (.int .u8 (9)) (.slice (some ⟨w.heap.size + 1 + 1 + 1, 0, none⟩) 2 2) from by rw [← hW3]; exact ⟨by simp [go_sem], by simp [go_sem], by simp [go_sem], by simp [go_sem]⟩)
  have HD := hid (show OwnB W3 (.slice (some ⟨w.heap.size + 1 + 1 + 1, 0, none⟩) 2 2) [0, md % 256] from by rw [← hW3]; exact own_lit _ #[.int .u8 (0), .int .u8 (md % 256)] 2 [0, md % 256] (wrap_byt md) rfl rfl (by omega) _ (by simp))
  have HFR := hid (show ∀ k ∈ blkV (.slice (some ⟨w.heap.size + 1 + 1 + 1, 0, none⟩) 2 2), w.heap.size + 1 < k from fun k hk => by simp [blkV, Value.ownBlock] at hk; omega)
  have HOF := hid (rof_any ⟨9, [0, md % 256]⟩ (.slice (some ⟨w.heap.size + 1 + 1 + 1, 0, none⟩) 2 2) W3 HD.out.reads (by show 2 ≤ 10000000; omega))
  rw [hW3]
  clear hW3
  obtain ⟨t0, t1, -, -⟩ := HT.out
  generalize actF ⟨9, [0, md % 256]⟩ = res at HOF HMK
  obtain ⟨er2, ⟨k2, cd2, md2, al2, rq2, cs2, rs2⟩⟩ := res
  dsimp only at HOF HMK
  go_wp2_with fail
  with_reducible refine HOF.out.mono ?_
  rintro e V1 ⟨cw, rw', rfl, ho1, ho2, hb1, hk1, hk2⟩
  dsimp only at ho1 ho2
  dsimp only [acV]
  obtain ⟨xc, nc, cc, rfl⟩ := own_slice ho1
  obtain ⟨xr, nr, cr, rfl⟩ := own_slice ho2
  have hbA : Below V1.heap.size V1 (V1.alloc (.cells #[.int .i64 k2, .int .i64 cd2, .int .i64 md2, .bool al2, .int .u8 rq2, .slice xc nc cc, .slice xr nr cr] 41)) := bal (Below.refl _ _) _
  have hb2 := below_t hb1 hbA
  have HBV := hid (below_t HB3.out hb2)
  have HU1 := hid (ho1.step hbA)
  have HU2 := hid (ho2.step hbA)
  have HX2 := hid (HX.out.step hb2)
  have HY2 := hid (HY.out.grow (Grow.below hb2 0))
  have HT2 := hid (HT.out.grow (Grow.below hb2 0))
  have HD2 := hid (HD.out.step hb2)
  clear ho1 ho2 hb1 hk1 hk2 hb2 hbA t0 t1
  by_cases he2 : er2 = 0
  · subst he2
    have hdr : Below (V1.alloc (.cells #[.int .i64 k2, .int .i64 cd2, .int .i64 md2, .bool al2, .int .u8 rq2, .slice xc nc cc, .slice xr nr cr] 41)).heap.size (V1.alloc (.cells #[.int .i64 k2, .int .i64 cd2, .int .i64 md2, .bool al2, .int .u8 rq2, .slice xc nc cc, .slice xr nr cr] 41)) (V1.alloc (.cells #[.int .i64 k2, .int .i64 cd2, .int .i64 md2, .bool al2, .int .u8 rq2, .slice xc nc cc, .slice xr nr cr] 41)).drew := (Below.refl _ _).drew
    have HP0 := hid (HPL.out _ (below_t HBV.out hdr))
    have HSG := hid (fun (cp rp : Value) W (hW : Below (V1.alloc (.cells #[.int .i64 k2, .int .i64 cd2, .int .i64 md2, .bool al2, .int .u8 rq2, .slice xc nc cc, .slice xr nr cr] 41)).heap.size (V1.alloc (.cells #[.int .i64 k2, .int .i64 cd2, .int .i64 md2, .bool al2, .int .u8 rq2, .slice xc nc cc, .slice xr nr cr] 41)) W) (q3 : Reads W cp pa.codes) (q4 : Reads W rp pa.rcd) => rsame_gen ⟨k2, cd2, md2, al2, rq2, cs2, rs2⟩ pa (.slice xc nc cc) (.slice xr nr cr) cp rp W (HU1.out.step hW).reads (HU2.out.step hW).reads q3 q4)
    unfold acV at HP0 HSG
    dsimp only at HSG
    have HX1 := hid (b14_step (w0 := V1.alloc (.cells #[.int .i64 k2, .int .i64 cd2, .int .i64 md2, .bool al2, .int .u8 rq2, .slice xc nc cc, .slice xr nr cr] 41)) ⟨HX2.out.c0, HX2.out.c1, HX2.out.c2, HX2.out.c3, HX2.out.c4, HX2.out.c5, HX2.out.c6, (by simp [go_sem] : (V1.alloc (.cells #[.int .i64 k2, .int .i64 cd2, .int .i64 md2, .bool al2, .int .u8 rq2, .slice xc nc cc, .slice xr nr cr] 41)).cell? ⟨V1.heap.size, 0, none⟩ = some (.int .i64 k2)), (by simp [go_sem] : (V1.alloc (.cells #[.int .i64 k2, .int .i64 cd2, .int .i64 md2, .bool al2, .int .u8 rq2, .slice xc nc cc, .slice xr nr cr] 41)).cell? ⟨V1.heap.size, 1, none⟩ = some (.int .i64 cd2)), (by simp [go_sem] : (V1.alloc (.cells #[.int .i64 k2, .int .i64 cd2, .int .i64 md2, .bool al2, .int .u8 rq2, .slice xc nc cc, .slice xr nr cr] 41)).cell? ⟨V1.heap.size, 2, none⟩ = some (.int .i64 md2)), (by simp [go_sem] : (V1.alloc (.cells #[.int .i64 k2, .int .i64 cd2, .int .i64 md2, .bool al2, .int .u8 rq2, .slice xc nc cc, .slice xr nr cr] 41)).cell? ⟨V1.heap.size, 3, none⟩ = some (.bool al2)), (by simp [go_sem] : (V1.alloc (.cells #[.int .i64 k2, .int .i64 cd2, .int .i64 md2, .bool al2, .int .u8 rq2, .slice xc nc cc, .slice xr nr cr] 41)).cell? ⟨V1.heap.size, 4, none⟩ = some (.int .u8 rq2)), (by simp [go_sem] : (V1.alloc (.cells #[.int .i64 k2, .int .i64 cd2, .int .i64 md2, .bool al2, .int .u8 rq2, .slice xc nc cc, .slice xr nr cr] 41)).cell? ⟨V1.heap.size, 5, none⟩ = some (.slice xc nc cc)), (by simp [go_sem] : (V1.alloc (.cells #[.int .i64 k2, .int .i64 cd2, .int .i64 md2, .bool al2, .int .u8 rq2, .slice xc nc cc, .slice xr nr cr] 41)).cell? ⟨V1.heap.size, 6, none⟩ = some (.slice xr nr cr)), Below.refl _ _⟩ hdr)
    go_wp2
    go_region_held3 (fun w' => w'.cell? ⟨w.heap.size, 0, none⟩ = some (.int .i64 5) ∧ w'.cell? ⟨w.heap.size, 1, none⟩ = some (.int .i64 cd) ∧ w'.cell? ⟨w.heap.size, 2, none⟩ = some (.int .i64 md) ∧ w'.cell? ⟨w.heap.size, 3, none⟩ = some (.bool al) ∧ w'.cell? ⟨w.heap.size, 4, none⟩ = some (.int .u8 rq) ∧ w'.cell? ⟨w.heap.size, 5, none⟩ = some (.slice x1 n1 c1) ∧ w'.cell? ⟨w.heap.size, 6, none⟩ = some (.slice x2 n2 c2) ∧ w'.cell? ⟨V1.heap.size, 0, none⟩ = some (.int .i64 k2) ∧ w'.cell? ⟨V1.heap.size, 1, none⟩ = some (.int .i64 cd2) ∧ w'.cell? ⟨V1.heap.size, 2, none⟩ = some (.int .i64 md2) ∧ w'.cell? ⟨V1.heap.size, 3, none⟩ = some (.bool al2) ∧ w'.cell? ⟨V1.heap.size, 4, none⟩ = some (.int .u8 rq2) ∧ w'.cell? ⟨V1.heap.size, 5, none⟩ = some (.slice xc nc cc) ∧ w'.cell? ⟨V1.heap.size, 6, none⟩ = some (.slice xr nr cr) ∧ Below (V1.alloc (.cells #[.int .i64 k2, .int .i64 cd2, .int .i64 md2, .bool al2, .int .u8 rq2, .slice xc nc cc, .slice xr nr cr] 41)).heap.size (V1.alloc (.cells #[.int .i64 k2, .int .i64 cd2, .int .i64 md2, .bool al2, .int .u8 rq2, .slice xc nc cc, .slice xr nr cr] 41)) w') (first | with_reducible exact HX1.out | with_reducible exact b14_step (by assumption) (by assumption)) (first | (go_at_call 29; (with_reducible refine HP0.out.mono ?_); rintro e w5 ⟨cp, rp, rfl, hq1, hq2, hb5⟩; dsimp only [acV]; have HSA := hid (HSG.out cp rp w5 (below_t hdr hb5) hq1 hq2); obtain ⟨x5, c5, rfl⟩ := reads_sl hq1; obtain ⟨x6, c6, rfl⟩ := reads_sl hq2; clear hq1 hq2) | (go_at_call 18; (with_reducible refine HSA.out.mono ?_); rintro e w6 ⟨⟨r, rfl, hr⟩, hb6⟩; have HR := hid hr; clear hr))
    all_goals
      rename_i hH
      obtain ⟨-, -, -, -, -, -, -, -, -, -, -, -, -, -, hBE⟩ := hH
      have HB4 := hid (below_t HBV.out hBE)
      have HY3 := hid (HY2.out.step hBE)
      have HT3 := hid (HT2.out.step hBE)
      have HD3 := hid (HD2.out.step hBE)
      clear hBE HX2 HY2 HT2 HD2 HU1 HU2 HBV HX1 hdr
      cases r
      · have HM4 := hid (HMK.out.trans (if_pos (.inr (fun q => by have := HR.out.2 q; cases this))))
        clear HT3 HD3
        obtain ⟨z0, z1, z2, z3⟩ := HY3.out
        obtain ⟨r0, r1, -, -⟩ := HY3.out.put (.int .u8 0) (.slice none 0 0)
        have HF := hid (HNO.out _ ((HB4.out.setCell (p := ⟨w.heap.size + 1, 0, none⟩) (by exact Nat.le_succ _) (.int .u8 0)).setCell (p := ⟨w.heap.size + 1, 1, none⟩) (by exact Nat.le_succ _) (.slice none 0 0)) HM4.out)
        clear HY3 HB4 HM4
        revert r0 r1 HF
        generalize hW : ((w6.setCell ⟨w.heap.size + 1, 0, none⟩ (.int .u8 0)).setCell ⟨w.heap.size + 1, 1, none⟩ (.slice none 0 0)) = Wf
        intro r0 r1 HF
        go_wp2
        (try rw [hW])
        exact bodyPost_ret (v := .tuple #[.agg #[.int .u8 0, .slice none 0 0], .int .i64 4]) (by simp [results, Tryd.results25, go_sem, r0, r1]) rfl HF.out
      · have HM0 := hid (HMK.out.trans (if_neg (fun q => q.elim (fun q => q rfl) (fun q => q (HR.out.1 rfl)))))
        obtain ⟨z0, z1, z2, z3⟩ := HY3.out
        obtain ⟨t0, t1, -, -⟩ := HT3.out
        obtain ⟨r0, r1, -, -⟩ := HY3.out.put (.int .u8 (9)) (.slice (some ⟨w.heap.size + 1 + 1 + 1, 0, none⟩) 2 2)
        have HF := hid (show MkD mk w (.returned (.tuple #[.agg #[.int .u8 (9), .slice (some ⟨w.heap.size + 1 + 1 + 1, 0, none⟩) 2 2], .int .i64 0])) ((w6.setCell ⟨w.heap.size + 1, 0, none⟩ (.int .u8 (9))).setCell ⟨w.heap.size + 1, 1, none⟩ (.slice (some ⟨w.heap.size + 1 + 1 + 1, 0, none⟩) 2 2)) from by
          rw [HM0.out]
          exact ⟨_, rfl, put2_own _ _ HD3.out HFR.out, (HB4.out.setCell (p := ⟨w.heap.size + 1, 0, none⟩) (by exact Nat.le_succ _) _).setCell (p := ⟨w.heap.size + 1, 1, none⟩) (by exact Nat.le_succ _) _, fun k hk => by have := HFR.out k hk; omega⟩)
        clear HY3 HT3 HD3 HB4 HM0
        revert r0 r1 HF
        generalize hW : ((w6.setCell ⟨w.heap.size + 1, 0, none⟩ (.int .u8 (9))).setCell ⟨w.heap.size + 1, 1, none⟩ (.slice (some ⟨w.heap.size + 1 + 1 + 1, 0, none⟩) 2 2)) = Wf
        intro r0 r1 HF
        go_wp2
        (try rw [hW])
        exact bodyPost_ret (v := .tuple #[.agg #[.int .u8 (9), .slice (some ⟨w.heap.size + 1 + 1 + 1, 0, none⟩) 2 2], .int .i64 0]) (by simp [results, Tryd.results25, go_sem, r0, r1]) rfl HF.out
  · have hne : (er2 == 0) = false := by simpa using he2
    have hne' : (er2 != 0) = true := by simpa using he2
    have HM4 := hid (HMK.out.trans (if_pos (.inl he2)))
    go_wp2
    go_quiet (fail)
    have HB4 := hid (below_drewN HBV.out nq)
    have HY3 := hid (HY2.out.grow (Grow.below (below_drewN (Below.refl _ _) nq) 0))
    clear HX2 HY2 HT2 HD2 HU1 HU2 HBV
    revert HB4 HY3
    generalize ((V1.alloc (.cells #[.int .i64 k2, .int .i64 cd2, .int .i64 md2, .bool al2, .int .u8 rq2, .slice xc nc cc, .slice xr nr cr] 41)).drewN nq) = W4
    intro HB4 HY3
    obtain ⟨z0, z1, z2, z3⟩ := HY3.out
    obtain ⟨r0, r1, -, -⟩ := HY3.out.put (.int .u8 0) (.slice none 0 0)
    have HF := hid (HNO.out _ ((HB4.out.setCell (p := ⟨w.heap.size + 1, 0, none⟩) (by exact Nat.le_succ _) (.int .u8 0)).setCell (p := ⟨w.heap.size + 1, 1, none⟩) (by exact Nat.le_succ _) (.slice none 0 0)) HM4.out)
    clear HY3 HB4 HM4
    revert r0 r1 HF
    generalize hW : ((W4.setCell ⟨w.heap.size + 1, 0, none⟩ (.int .u8 0)).setCell ⟨w.heap.size + 1, 1, none⟩ (.slice none 0 0)) = Wf
    intro r0 r1 HF
    go_wp2
    (try rw [hW])
    exact bodyPost_ret (v := .tuple #[.agg #[.int .u8 0, .slice none 0 0], .int .i64 4]) (by simp [results, Tryd.results25, go_sem, r0, r1]) rfl HF.out
set_option maxRecDepth 100000 in
set_option maxHeartbeats 4000000 in
theorem make_4t (a : AcD) (cv rv : Value) (w : World) (h1 : Reads w cv a.codes) (h2 : Reads w rv a.rcd) (hk : a.kind = 4) (ha : a.alt = true) : Calls Tryd.prog 25 #[acV a cv rv] w (MkD (makeF a) w) := by
  have HPL := hid (fun W (hW : Below w.heap.size w W) => plain_any a cv rv W (reads_below h1 hW) (reads_below h2 hW))
  have HNO := hid (fun w' (hb : Below w.heap.size w w') (q : makeF a = (4, sfZ)) => mk_no (er := 4) q hb)
  obtain ⟨k, cd, md, al, rq, cs, rs⟩ := a
  unfold acV at HPL ⊢
  dsimp only at h1 h2 hk HPL ha ⊢
  subst hk
  subst ha
  have HMK := hid (show makeF ⟨4, cd, md, true, rq, cs, rs⟩ = if (actF ⟨3, [128]⟩).1 ≠ 0 ∨ (actF ⟨3, [128]⟩).2 ≠ plainF ⟨4, cd, md, true, rq, cs, rs⟩ then (4, sfZ) else (0, ⟨3, [128]⟩) from rfl)
  generalize plainF ⟨4, cd, md, true, rq, cs, rs⟩ = pa at HPL HMK
  generalize makeF ⟨4, cd, md, true, rq, cs, rs⟩ = mk at HNO HMK ⊢
  obtain ⟨x1, c1, rfl⟩ := reads_sl h1
  obtain ⟨x2, c2, rfl⟩ := reads_sl h2
  clear h1 h2
  generalize cs.length = n1 at *
  generalize rs.length = n2 at *
  go_enter Tryd.func25, Tryd.ntmps25
  go_upto_region 23 with fail
  obtain ⟨W3, hW3⟩ : ∃ W3, (((w.alloc (.cells #[.int .i64 4, .int .i64 cd, .int .i64 md, .bool true, .int .u8 rq, .slice x1 n1 c1, .slice x2 n2 c2] 41)).alloc (.cells #[.int .u8 0, .slice none 0 0] 36)).alloc (.cells #[.int .u8 (3), .slice (some ⟨w.heap.size + 1 + 1 + 1, 0, none⟩) 1 1] 36)).alloc (.cells #[.int .u8 (128)] 5) = W3 := ⟨_, rfl⟩
  have HB3 := hid (show Below w.heap.size w W3 by rw [← hW3]; exact bal (bal (bal (bal (Below.refl _ _) _) _) _) _)
  have HX := hid (show Box7 W3 w.heap.size (.int .i64 4) (.int .i64 cd) (.int .i64 md) (.bool true) (.int .u8 rq) (.slice x1 n1 c1) (.slice x2 n2 c2) from by rw [← hW3]; exact ⟨by simp [go_sem], by simp [go_sem], by simp [go_sem], by simp [go_sem], by simp [go_sem], by simp [go_sem], by simp [go_sem], fun i _ => by simp [go_sem]⟩)
  have HY := hid (show Box2 W3 (w.heap.size + 1) (.int .u8 0) (.slice none 0 0) from by rw [← hW3]; exact ⟨by simp [go_sem], by simp [go_sem], by simp [go_sem], by simp [go_sem]⟩)
  have HT := hid (show Box2 W3 (w.heap.size + 1 + 1) (.int .u8 (3)) (.slice (some ⟨w.heap.size + 1 + 1 + 1, 0, none⟩) 1 1) from by rw [← hW3]; exact ⟨by simp [go_sem], by simp [go_sem], by simp [go_sem], by simp [go_sem]⟩)
  have HD := hid (show OwnB W3 (.slice (some ⟨w.heap.size + 1 + 1 + 1, 0, none⟩) 1 1) [128] from by rw [← hW3]; exact own_lit _ #[.int .u8 (128)] 1 [128] (by decide) rfl rfl (by omega) _ (by simp))
  have HFR := hid (show ∀ k ∈ blkV (.slice (some ⟨w.heap.size + 1 + 1 + 1, 0, none⟩) 1 1), w.heap.size + 1 < k from fun k hk => by simp [blkV, Value.ownBlock] at hk; omega)
  have HOF := hid (rof_any ⟨3, [128]⟩ (.slice (some ⟨w.heap.size + 1 + 1 + 1, 0, none⟩) 1 1) W3 HD.out.reads (by decide))
  rw [hW3]
  clear hW3
  obtain ⟨t0, t1, -, -⟩ := HT.out
  generalize actF ⟨3, [128]⟩ = res at HOF HMK
  obtain ⟨er2, ⟨k2, cd2, md2, al2, rq2, cs2, rs2⟩⟩ := res
  dsimp only at HOF HMK
  go_wp2_with fail
  with_reducible refine HOF.out.mono ?_
  rintro e V1 ⟨cw, rw', rfl, ho1, ho2, hb1, hk1, hk2⟩
  dsimp only at ho1 ho2
  dsimp only [acV]
  obtain ⟨xc, nc, cc, rfl⟩ := own_slice ho1
  obtain ⟨xr, nr, cr, rfl⟩ := own_slice ho2
  have hbA : Below V1.heap.size V1 (V1.alloc (.cells #[.int .i64 k2, .int .i64 cd2, .int .i64 md2, .bool al2, .int .u8 rq2, .slice xc nc cc, .slice xr nr cr] 41)) := bal (Below.refl _ _) _
  have hb2 := below_t hb1 hbA
  have HBV := hid (below_t HB3.out hb2)
  have HU1 := hid (ho1.step hbA)
  have HU2 := hid (ho2.step hbA)
  have HX2 := hid (HX.out.step hb2)
  have HY2 := hid (HY.out.grow (Grow.below hb2 0))
  have HT2 := hid (HT.out.grow (Grow.below hb2 0))
  have HD2 := hid (HD.out.step hb2)
  clear ho1 ho2 hb1 hk1 hk2 hb2 hbA t0 t1
  by_cases he2 : er2 = 0
  · subst he2
    have hdr : Below (V1.alloc (.cells #[.int .i64 k2, .int .i64 cd2, .int .i64 md2, .bool al2, .int .u8 rq2, .slice xc nc cc, .slice xr nr cr] 41)).heap.size (V1.alloc (.cells #[.int .i64 k2, .int .i64 cd2, .int .i64 md2, .bool al2, .int .u8 rq2, .slice xc nc cc, .slice xr nr cr] 41)) (V1.alloc (.cells #[.int .i64 k2, .int .i64 cd2, .int .i64 md2, .bool al2, .int .u8 rq2, .slice xc nc cc, .slice xr nr cr] 41)).drew := (Below.refl _ _).drew
    have HP0 := hid (HPL.out _ (below_t HBV.out hdr))
    have HSG := hid (fun (cp rp : Value) W (hW : Below (V1.alloc (.cells #[.int .i64 k2, .int .i64 cd2, .int .i64 md2, .bool al2, .int .u8 rq2, .slice xc nc cc, .slice xr nr cr] 41)).heap.size (V1.alloc (.cells #[.int .i64 k2, .int .i64 cd2, .int .i64 md2, .bool al2, .int .u8 rq2, .slice xc nc cc, .slice xr nr cr] 41)) W) (q3 : Reads W cp pa.codes) (q4 : Reads W rp pa.rcd) => rsame_gen ⟨k2, cd2, md2, al2, rq2, cs2, rs2⟩ pa (.slice xc nc cc) (.slice xr nr cr) cp rp W (HU1.out.step hW).reads (HU2.out.step hW).reads q3 q4)
    unfold acV at HP0 HSG
    dsimp only at HSG
    have HX1 := hid (b14_step (w0 := V1.alloc (.cells #[.int .i64 k2, .int .i64 cd2, .int .i64 md2, .bool al2, .int .u8 rq2, .slice xc nc cc, .slice xr nr cr] 41)) ⟨HX2.out.c0, HX2.out.c1, HX2.out.c2, HX2.out.c3, HX2.out.c4, HX2.out.c5, HX2.out.c6, (by simp [go_sem] : (V1.alloc (.cells #[.int .i64 k2, .int .i64 cd2, .int .i64 md2, .bool al2, .int .u8 rq2, .slice xc nc cc, .slice xr nr cr] 41)).cell? ⟨V1.heap.size, 0, none⟩ = some (.int .i64 k2)), (by simp [go_sem] : (V1.alloc (.cells #[.int .i64 k2, .int .i64 cd2, .int .i64 md2, .bool al2, .int .u8 rq2, .slice xc nc cc, .slice xr nr cr] 41)).cell? ⟨V1.heap.size, 1, none⟩ = some (.int .i64 cd2)), (by simp [go_sem] : (V1.alloc (.cells #[.int .i64 k2, .int .i64 cd2, .int .i64 md2, .bool al2, .int .u8 rq2, .slice xc nc cc, .slice xr nr cr] 41)).cell? ⟨V1.heap.size, 2, none⟩ = some (.int .i64 md2)), (by simp [go_sem] : (V1.alloc (.cells #[.int .i64 k2, .int .i64 cd2, .int .i64 md2, .bool al2, .int .u8 rq2, .slice xc nc cc, .slice xr nr cr] 41)).cell? ⟨V1.heap.size, 3, none⟩ = some (.bool al2)), (by simp [go_sem] : (V1.alloc (.cells #[.int .i64 k2, .int .i64 cd2, .int .i64 md2, .bool al2, .int .u8 rq2, .slice xc nc cc, .slice xr nr cr] 41)).cell? ⟨V1.heap.size, 4, none⟩ = some (.int .u8 rq2)), (by simp [go_sem] : (V1.alloc (.cells #[.int .i64 k2, .int .i64 cd2, .int .i64 md2, .bool al2, .int .u8 rq2, .slice xc nc cc, .slice xr nr cr] 41)).cell? ⟨V1.heap.size, 5, none⟩ = some (.slice xc nc cc)), (by simp [go_sem] : (V1.alloc (.cells #[.int .i64 k2, .int .i64 cd2, .int .i64 md2, .bool al2, .int .u8 rq2, .slice xc nc cc, .slice xr nr cr] 41)).cell? ⟨V1.heap.size, 6, none⟩ = some (.slice xr nr cr)), Below.refl _ _⟩ hdr)
    go_wp2
    go_region_held3 (fun w' => w'.cell? ⟨w.heap.size, 0, none⟩ = some (.int .i64 4) ∧ w'.cell? ⟨w.heap.size, 1, none⟩ = some (.int .i64 cd) ∧ w'.cell? ⟨w.heap.size, 2, none⟩ = some (.int .i64 md) ∧ w'.cell? ⟨w.heap.size, 3, none⟩ = some (.bool true) ∧ w'.cell? ⟨w.heap.size, 4, none⟩ = some (.int .u8 rq) ∧ w'.cell? ⟨w.heap.size, 5, none⟩ = some (.slice x1 n1 c1) ∧ w'.cell? ⟨w.heap.size, 6, none⟩ = some (.slice x2 n2 c2) ∧ w'.cell? ⟨V1.heap.size, 0, none⟩ = some (.int .i64 k2) ∧ w'.cell? ⟨V1.heap.size, 1, none⟩ = some (.int .i64 cd2) ∧ w'.cell? ⟨V1.heap.size, 2, none⟩ = some (.int .i64 md2) ∧ w'.cell? ⟨V1.heap.size, 3, none⟩ = some (.bool al2) ∧ w'.cell? ⟨V1.heap.size, 4, none⟩ = some (.int .u8 rq2) ∧ w'.cell? ⟨V1.heap.size, 5, none⟩ = some (.slice xc nc cc) ∧ w'.cell? ⟨V1.heap.size, 6, none⟩ = some (.slice xr nr cr) ∧ Below (V1.alloc (.cells #[.int .i64 k2, .int .i64 cd2, .int .i64 md2, .bool al2, .int .u8 rq2, .slice xc nc cc, .slice xr nr cr] 41)).heap.size (V1.alloc (.cells #[.int .i64 k2, .int .i64 cd2, .int .i64 md2, .bool al2, .int .u8 rq2, .slice xc nc cc, .slice xr nr cr] 41)) w') (first | with_reducible exact HX1.out | with_reducible exact b14_step (by assumption) (by assumption)) (first | (go_at_call 29; (with_reducible refine HP0.out.mono ?_); rintro e w5 ⟨cp, rp, rfl, hq1, hq2, hb5⟩; dsimp only [acV]; have HSA := hid (HSG.out cp rp w5 (below_t hdr hb5) hq1 hq2); obtain ⟨x5, c5, rfl⟩ := reads_sl hq1; obtain ⟨x6, c6, rfl⟩ := reads_sl hq2; clear hq1 hq2) | (go_at_call 18; (with_reducible refine HSA.out.mono ?_); rintro e w6 ⟨⟨r, rfl, hr⟩, hb6⟩; have HR := hid hr; clear hr))
    all_goals
      rename_i hH
      obtain ⟨-, -, -, -, -, -, -, -, -, -, -, -, -, -, hBE⟩ := hH
      have HB4 := hid (below_t HBV.out hBE)
      have HY3 := hid (HY2.out.step hBE)
      have HT3 := hid (HT2.out.step hBE)
      have HD3 := hid (HD2.out.step hBE)
      clear hBE HX2 HY2 HT2 HD2 HU1 HU2 HBV HX1 hdr
      cases r
      · have HM4 := hid (HMK.out.trans (if_pos (.inr (fun q => by have := HR.out.2 q; cases this))))
        clear HT3 HD3
        obtain ⟨z0, z1, z2, z3⟩ := HY3.out
        obtain ⟨r0, r1, -, -⟩ := HY3.out.put (.int .u8 0) (.slice none 0 0)
        have HF := hid (HNO.out _ ((HB4.out.setCell (p := ⟨w.heap.size + 1, 0, none⟩) (by exact Nat.le_succ _) (.int .u8 0)).setCell (p := ⟨w.heap.size + 1, 1, none⟩) (by exact Nat.le_succ _) (.slice none 0 0)) HM4.out)
        clear HY3 HB4 HM4
        revert r0 r1 HF
        generalize hW : ((w6.setCell ⟨w.heap.size + 1, 0, none⟩ (.int .u8 0)).setCell ⟨w.heap.size + 1, 1, none⟩ (.slice none 0 0)) = Wf
        intro r0 r1 HF
        go_wp2
        (try rw [hW])
        exact bodyPost_ret (v := .tuple #[.agg #[.int .u8 0, .slice none 0 0], .int .i64 4]) (by simp [results, Tryd.results25, go_sem, r0, r1]) rfl HF.out
      · have HM0 := hid (HMK.out.trans (if_neg (fun q => q.elim (fun q => q rfl) (fun q => q (HR.out.1 rfl)))))
        obtain ⟨z0, z1, z2, z3⟩ := HY3.out
        obtain ⟨t0, t1, -, -⟩ := HT3.out
        obtain ⟨r0, r1, -, -⟩ := HY3.out.put (.int .u8 (3)) (.slice (some ⟨w.heap.size + 1 + 1 + 1, 0, none⟩) 1 1)
        have HF := hid (show MkD mk w (.returned (.tuple #[.agg #[.int .u8 (3), .slice (some ⟨w.heap.size + 1 + 1 + 1, 0, none⟩) 1 1], .int .i64 0])) ((w6.setCell ⟨w.heap.size + 1, 0, none⟩ (.int .u8 (3))).setCell ⟨w.heap.size + 1, 1, none⟩ (.slice (some ⟨w.heap.size + 1 + 1 + 1, 0, none⟩) 1 1)) from by
          rw [HM0.out]
          exact ⟨_, rfl, put2_own _ _ HD3.out HFR.out, (HB4.out.setCell (p := ⟨w.heap.size + 1, 0, none⟩) (by exact Nat.le_succ _) _).setCell (p := ⟨w.heap.size + 1, 1, none⟩) (by exact Nat.le_succ _) _, fun k hk => by have := HFR.out k hk; omega⟩)
        clear HY3 HT3 HD3 HB4 HM0
        revert r0 r1 HF
        generalize hW : ((w6.setCell ⟨w.heap.size + 1, 0, none⟩ (.int .u8 (3))).setCell ⟨w.heap.size + 1, 1, none⟩ (.slice (some ⟨w.heap.size + 1 + 1 + 1, 0, none⟩) 1 1)) = Wf
        intro r0 r1 HF
        go_wp2
        (try rw [hW])
        exact bodyPost_ret (v := .tuple #[.agg #[.int .u8 (3), .slice (some ⟨w.heap.size + 1 + 1 + 1, 0, none⟩) 1 1], .int .i64 0]) (by simp [results, Tryd.results25, go_sem, r0, r1]) rfl HF.out
  · have hne : (er2 == 0) = false := by simpa using he2
    have hne' : (er2 != 0) = true := by simpa using he2
    have HM4 := hid (HMK.out.trans (if_pos (.inl he2)))
    go_wp2
    go_quiet (fail)
    have HB4 := hid (below_drewN HBV.out nq)
    have HY3 := hid (HY2.out.grow (Grow.below (below_drewN (Below.refl _ _) nq) 0))
    clear HX2 HY2 HT2 HD2 HU1 HU2 HBV
    revert HB4 HY3
    generalize ((V1.alloc (.cells #[.int .i64 k2, .int .i64 cd2, .int .i64 md2, .bool al2, .int .u8 rq2, .slice xc nc cc, .slice xr nr cr] 41)).drewN nq) = W4
    intro HB4 HY3
    obtain ⟨z0, z1, z2, z3⟩ := HY3.out
    obtain ⟨r0, r1, -, -⟩ := HY3.out.put (.int .u8 0) (.slice none 0 0)
    have HF := hid (HNO.out _ ((HB4.out.setCell (p := ⟨w.heap.size + 1, 0, none⟩) (by exact Nat.le_succ _) (.int .u8 0)).setCell (p := ⟨w.heap.size + 1, 1, none⟩) (by exact Nat.le_succ _) (.slice none 0 0)) HM4.out)
    clear HY3 HB4 HM4
    revert r0 r1 HF
    generalize hW : ((W4.setCell ⟨w.heap.size + 1, 0, none⟩ (.int .u8 0)).setCell ⟨w.heap.size + 1, 1, none⟩ (.slice none 0 0)) = Wf
    intro r0 r1 HF
    go_wp2
    (try rw [hW])
    exact bodyPost_ret (v := .tuple #[.agg #[.int .u8 0, .slice none 0 0], .int .i64 4]) (by simp [results, Tryd.results25, go_sem, r0, r1]) rfl HF.out
set_option maxRecDepth 100000 in
set_option maxHeartbeats 4000000 in
theorem make_4f (a : AcD) (cv rv : Value) (w : World) (h1 : Reads w cv a.codes) (h2 : Reads w rv a.rcd) (hk : a.kind = 4) (ha : a.alt = false) : Calls Tryd.prog 25 #[acV a cv rv] w (MkD (makeF a) w) := by
  have HPL := hid (fun W (hW : Below w.heap.size w W) => plain_any a cv rv W (reads_below h1 hW) (reads_below h2 hW))
  have HNO := hid (fun w' (hb : Below w.heap.size w w') (q : makeF a = (4, sfZ)) => mk_no (er := 4) q hb)
  obtain ⟨k, cd, md, al, rq, cs, rs⟩ := a
  unfold acV at HPL ⊢
  dsimp only at h1 h2 hk HPL ha ⊢
  subst hk
  subst ha
  have HMK := hid (show makeF ⟨4, cd, md, false, rq, cs, rs⟩ = if (actF ⟨3, [0]⟩).1 ≠ 0 ∨ (actF ⟨3, [0]⟩).2 ≠ plainF ⟨4, cd, md, false, rq, cs, rs⟩ then (4, sfZ) else (0, ⟨3, [0]⟩) from rfl)
  generalize plainF ⟨4, cd, md, false, rq, cs, rs⟩ = pa at HPL HMK
  generalize makeF ⟨4, cd, md, false, rq, cs, rs⟩ = mk at HNO HMK ⊢
  obtain ⟨x1, c1, rfl⟩ := reads_sl h1
  obtain ⟨x2, c2, rfl⟩ := reads_sl h2
  clear h1 h2
  generalize cs.length = n1 at *
  generalize rs.length = n2 at *
  go_enter Tryd.func25, Tryd.ntmps25
  go_upto_region 23 with fail
  obtain ⟨W3, hW3⟩ : ∃ W3, (((w.alloc (.cells #[.int .i64 4, .int .i64 cd, .int .i64 md, .bool false, .int .u8 rq, .slice x1 n1 c1, .slice x2 n2 c2] 41)).alloc (.cells #[.int .u8 0, .slice none 0 0] 36)).alloc (.cells #[.int .u8 (3), .slice (some ⟨w.heap.size + 1 + 1 + 1, 0, none⟩) 1 1] 36)).alloc (.cells #[.int .u8 (0)] 5) = W3 := ⟨_, rfl⟩
  have HB3 := hid (show Below w.heap.size w W3 by rw [← hW3]; exact bal (bal (bal (bal (Below.refl _ _) _) _) _) _)
  have HX := hid (show Box7 W3 w.heap.size (.int .i64 4) (.int .i64 cd) (.int .i64 md) (.bool false) (.int .u8 rq) (.slice x1 n1 c1) (.slice x2 n2 c2) from by rw [← hW3]; exact ⟨by simp [go_sem], by simp [go_sem], by simp [go_sem], by simp [go_sem], by simp [go_sem], by simp [go_sem], by simp [go_sem], fun i _ => by simp [go_sem]⟩)
  have HY := hid (show Box2 W3 (w.heap.size + 1) (.int .u8 0) (.slice none 0 0) from by rw [← hW3]; exact ⟨by simp [go_sem], by simp [go_sem], by simp [go_sem], by simp [go_sem]⟩)
  have HT := hid (show Box2 W3 (w.heap.size + 1 + 1) (.int .u8 (3)) (.slice (some ⟨w.heap.size + 1 + 1 + 1, 0, none⟩) 1 1) from by rw [← hW3]; exact ⟨by simp [go_sem], by simp [go_sem], by simp [go_sem], by simp [go_sem]⟩)
  have HD := hid (show OwnB W3 (.slice (some ⟨w.heap.size + 1 + 1 + 1, 0, none⟩) 1 1) [0] from by rw [← hW3]; exact own_lit _ #[.int .u8 (0)] 1 [0] (by decide) rfl rfl (by omega) _ (by simp))
  have HFR := hid (show ∀ k ∈ blkV (.slice (some ⟨w.heap.size + 1 + 1 + 1, 0, none⟩) 1 1), w.heap.size + 1 < k from fun k hk => by simp [blkV, Value.ownBlock] at hk; omega)
  have HOF := hid (rof_any ⟨3, [0]⟩ (.slice (some ⟨w.heap.size + 1 + 1 + 1, 0, none⟩) 1 1) W3 HD.out.reads (by decide))
  rw [hW3]
  clear hW3
  obtain ⟨t0, t1, -, -⟩ := HT.out
  generalize actF ⟨3, [0]⟩ = res at HOF HMK
  obtain ⟨er2, ⟨k2, cd2, md2, al2, rq2, cs2, rs2⟩⟩ := res
  dsimp only at HOF HMK
  go_wp2_with fail
  with_reducible refine HOF.out.mono ?_
  rintro e V1 ⟨cw, rw', rfl, ho1, ho2, hb1, hk1, hk2⟩
  dsimp only at ho1 ho2
  dsimp only [acV]
  obtain ⟨xc, nc, cc, rfl⟩ := own_slice ho1
  obtain ⟨xr, nr, cr, rfl⟩ := own_slice ho2
  have hbA : Below V1.heap.size V1 (V1.alloc (.cells #[.int .i64 k2, .int .i64 cd2, .int .i64 md2, .bool al2, .int .u8 rq2, .slice xc nc cc, .slice xr nr cr] 41)) := bal (Below.refl _ _) _
  have hb2 := below_t hb1 hbA
  have HBV := hid (below_t HB3.out hb2)
  have HU1 := hid (ho1.step hbA)
  have HU2 := hid (ho2.step hbA)
  have HX2 := hid (HX.out.step hb2)
  have HY2 := hid (HY.out.grow (Grow.below hb2 0))
  have HT2 := hid (HT.out.grow (Grow.below hb2 0))
  have HD2 := hid (HD.out.step hb2)
  clear ho1 ho2 hb1 hk1 hk2 hb2 hbA t0 t1
  by_cases he2 : er2 = 0
  · subst he2
    have hdr : Below (V1.alloc (.cells #[.int .i64 k2, .int .i64 cd2, .int .i64 md2, .bool al2, .int .u8 rq2, .slice xc nc cc, .slice xr nr cr] 41)).heap.size (V1.alloc (.cells #[.int .i64 k2, .int .i64 cd2, .int .i64 md2, .bool al2, .int .u8 rq2, .slice xc nc cc, .slice xr nr cr] 41)) (V1.alloc (.cells #[.int .i64 k2, .int .i64 cd2, .int .i64 md2, .bool al2, .int .u8 rq2, .slice xc nc cc, .slice xr nr cr] 41)).drew := (Below.refl _ _).drew
    have HP0 := hid (HPL.out _ (below_t HBV.out hdr))
    have HSG := hid (fun (cp rp : Value) W (hW : Below (V1.alloc (.cells #[.int .i64 k2, .int .i64 cd2, .int .i64 md2, .bool al2, .int .u8 rq2, .slice xc nc cc, .slice xr nr cr] 41)).heap.size (V1.alloc (.cells #[.int .i64 k2, .int .i64 cd2, .int .i64 md2, .bool al2, .int .u8 rq2, .slice xc nc cc, .slice xr nr cr] 41)) W) (q3 : Reads W cp pa.codes) (q4 : Reads W rp pa.rcd) => rsame_gen ⟨k2, cd2, md2, al2, rq2, cs2, rs2⟩ pa (.slice xc nc cc) (.slice xr nr cr) cp rp W (HU1.out.step hW).reads (HU2.out.step hW).reads q3 q4)
    unfold acV at HP0 HSG
    dsimp only at HSG
    have HX1 := hid (b14_step (w0 := V1.alloc (.cells #[.int .i64 k2, .int .i64 cd2, .int .i64 md2, .bool al2, .int .u8 rq2, .slice xc nc cc, .slice xr nr cr] 41)) ⟨HX2.out.c0, HX2.out.c1, HX2.out.c2, HX2.out.c3, HX2.out.c4, HX2.out.c5, HX2.out.c6, (by simp [go_sem] : (V1.alloc (.cells #[.int .i64 k2, .int .i64 cd2, .int .i64 md2, .bool al2, .int .u8 rq2, .slice xc nc cc, .slice xr nr cr] 41)).cell? ⟨V1.heap.size, 0, none⟩ = some (.int .i64 k2)), (by simp [go_sem] : (V1.alloc (.cells #[.int .i64 k2, .int .i64 cd2, .int .i64 md2, .bool al2, .int .u8 rq2, .slice xc nc cc, .slice xr nr cr] 41)).cell? ⟨V1.heap.size, 1, none⟩ = some (.int .i64 cd2)), (by simp [go_sem] : (V1.alloc (.cells #[.int .i64 k2, .int .i64 cd2, .int .i64 md2, .bool al2, .int .u8 rq2, .slice xc nc cc, .slice xr nr cr] 41)).cell? ⟨V1.heap.size, 2, none⟩ = some (.int .i64 md2)), (by simp [go_sem] : (V1.alloc (.cells #[.int .i64 k2, .int .i64 cd2, .int .i64 md2, .bool al2, .int .u8 rq2, .slice xc nc cc, .slice xr nr cr] 41)).cell? ⟨V1.heap.size, 3, none⟩ = some (.bool al2)), (by simp [go_sem] : (V1.alloc (.cells #[.int .i64 k2, .int .i64 cd2, .int .i64 md2, .bool al2, .int .u8 rq2, .slice xc nc cc, .slice xr nr cr] 41)).cell? ⟨V1.heap.size, 4, none⟩ = some (.int .u8 rq2)), (by simp [go_sem] : (V1.alloc (.cells #[.int .i64 k2, .int .i64 cd2, .int .i64 md2, .bool al2, .int .u8 rq2, .slice xc nc cc, .slice xr nr cr] 41)).cell? ⟨V1.heap.size, 5, none⟩ = some (.slice xc nc cc)), (by simp [go_sem] : (V1.alloc (.cells #[.int .i64 k2, .int .i64 cd2, .int .i64 md2, .bool al2, .int .u8 rq2, .slice xc nc cc, .slice xr nr cr] 41)).cell? ⟨V1.heap.size, 6, none⟩ = some (.slice xr nr cr)), Below.refl _ _⟩ hdr)
    go_wp2
    go_region_held3 (fun w' => w'.cell? ⟨w.heap.size, 0, none⟩ = some (.int .i64 4) ∧ w'.cell? ⟨w.heap.size, 1, none⟩ = some (.int .i64 cd) ∧ w'.cell? ⟨w.heap.size, 2, none⟩ = some (.int .i64 md) ∧ w'.cell? ⟨w.heap.size, 3, none⟩ = some (.bool false) ∧ w'.cell? ⟨w.heap.size, 4, none⟩ = some (.int .u8 rq) ∧ w'.cell? ⟨w.heap.size, 5, none⟩ = some (.slice x1 n1 c1) ∧ w'.cell? ⟨w.heap.size, 6, none⟩ = some (.slice x2 n2 c2) ∧ w'.cell? ⟨V1.heap.size, 0, none⟩ = some (.int .i64 k2) ∧ w'.cell? ⟨V1.heap.size, 1, none⟩ = some (.int .i64 cd2) ∧ w'.cell? ⟨V1.heap.size, 2, none⟩ = some (.int .i64 md2) ∧ w'.cell? ⟨V1.heap.size, 3, none⟩ = some (.bool al2) ∧ w'.cell? ⟨V1.heap.size, 4, none⟩ = some (.int .u8 rq2) ∧ w'.cell? ⟨V1.heap.size, 5, none⟩ = some (.slice xc nc cc) ∧ w'.cell? ⟨V1.heap.size, 6, none⟩ = some (.slice xr nr cr) ∧ Below (V1.alloc (.cells #[.int .i64 k2, .int .i64 cd2, .int .i64 md2, .bool al2, .int .u8 rq2, .slice xc nc cc, .slice xr nr cr] 41)).heap.size (V1.alloc (.cells #[.int .i64 k2, .int .i64 cd2, .int .i64 md2, .bool al2, .int .u8 rq2, .slice xc nc cc, .slice xr nr cr] 41)) w') (first | with_reducible exact HX1.out | with_reducible exact b14_step (by assumption) (by assumption)) (first | (go_at_call 29; (with_reducible refine HP0.out.mono ?_); rintro e w5 ⟨cp, rp, rfl, hq1, hq2, hb5⟩; dsimp only [acV]; have HSA := hid (HSG.out cp rp w5 (below_t hdr hb5) hq1 hq2); obtain ⟨x5, c5, rfl⟩ := reads_sl hq1; obtain ⟨x6, c6, rfl⟩ := reads_sl hq2; clear hq1 hq2) | (go_at_call 18; (with_reducible refine HSA.out.mono ?_); rintro e w6 ⟨⟨r, rfl, hr⟩, hb6⟩; have HR := hid hr; clear hr))
    all_goals
      rename_i hH
      obtain ⟨-, -, -, -, -, -, -, -, -, -, -, -, -, -, hBE⟩ := hH
      have HB4 := hid (below_t HBV.out hBE)
      have HY3 := hid (HY2.out.step hBE)
      have HT3 := hid (HT2.out.step hBE)
      have HD3 := hid (HD2.out.step hBE)
      clear hBE HX2 HY2 HT2 HD2 HU1 HU2 HBV HX1 hdr
      cases r
      · have HM4 := hid (HMK.out.trans (if_pos (.inr (fun q => by have := HR.out.2 q; cases this))))
        clear HT3 HD3
        obtain ⟨z0, z1, z2, z3⟩ := HY3.out
        obtain ⟨r0, r1, -, -⟩ := HY3.out.put (.int .u8 0) (.slice none 0 0)
        have HF := hid (HNO.out _ ((HB4.out.setCell (p := ⟨w.heap.size + 1, 0, none⟩) (by exact Nat.le_succ _) (.int .u8 0)).setCell (p := ⟨w.heap.size + 1, 1, none⟩) (by exact Nat.le_succ _) (.slice none 0 0)) HM4.out)
        clear HY3 HB4 HM4
        revert r0 r1 HF
        generalize hW : ((w6.setCell ⟨w.heap.size + 1, 0, none⟩ (.int .u8 0)).setCell ⟨w.heap.size + 1, 1, none⟩ (.slice none 0 0)) = Wf
        intro r0 r1 HF
        go_wp2
        (try rw [hW])
        exact bodyPost_ret (v := .tuple #[.agg #[.int .u8 0, .slice none 0 0], .int .i64 4]) (by simp [results, Tryd.results25, go_sem, r0, r1]) rfl HF.out
      · have HM0 := hid (HMK.out.trans (if_neg (fun q => q.elim (fun q => q rfl) (fun q => q (HR.out.1 rfl)))))
        obtain ⟨z0, z1, z2, z3⟩ := HY3.out
        obtain ⟨t0, t1, -, -⟩ := HT3.out
        obtain ⟨r0, r1, -, -⟩ := HY3.out.put (.int .u8 (3)) (.slice (some ⟨w.heap.size + 1 + 1 + 1, 0, none⟩) 1 1)
        have HF := hid (show MkD mk w (.returned (.tuple #[.agg #[.int .u8 (3), .slice (some ⟨w.heap.size + 1 + 1 + 1, 0, none⟩) 1 1], .int .i64 0])) ((w6.setCell ⟨w.heap.size + 1, 0, none⟩ (.int .u8 (3))).setCell ⟨w.heap.size + 1, 1, none⟩ (.slice (some ⟨w.heap.size + 1 + 1 + 1, 0, none⟩) 1 1)) from by
          rw [HM0.out]
          exact ⟨_, rfl, put2_own _ _ HD3.out HFR.out, (HB4.out.setCell (p := ⟨w.heap.size + 1, 0, none⟩) (by exact Nat.le_succ _) _).setCell (p := ⟨w.heap.size + 1, 1, none⟩) (by exact Nat.le_succ _) _, fun k hk => by have := HFR.out k hk; omega⟩)
        clear HY3 HT3 HD3 HB4 HM0
        revert r0 r1 HF
        generalize hW : ((w6.setCell ⟨w.heap.size + 1, 0, none⟩ (.int .u8 (3))).setCell ⟨w.heap.size + 1, 1, none⟩ (.slice (some ⟨w.heap.size + 1 + 1 + 1, 0, none⟩) 1 1)) = Wf
        intro r0 r1 HF
        go_wp2
        (try rw [hW])
        exact bodyPost_ret (v := .tuple #[.agg #[.int .u8 (3), .slice (some ⟨w.heap.size + 1 + 1 + 1, 0, none⟩) 1 1], .int .i64 0]) (by simp [results, Tryd.results25, go_sem, r0, r1]) rfl HF.out
  · have hne : (er2 == 0) = false := by simpa using he2
    have hne' : (er2 != 0) = true := by simpa using he2
    have HM4 := hid (HMK.out.trans (if_pos (.inl he2)))
    go_wp2
    go_quiet (fail)
    have HB4 := hid (below_drewN HBV.out nq)
    have HY3 := hid (HY2.out.grow (Grow.below (below_drewN (Below.refl _ _) nq) 0))
    clear HX2 HY2 HT2 HD2 HU1 HU2 HBV
    revert HB4 HY3
    generalize ((V1.alloc (.cells #[.int .i64 k2, .int .i64 cd2, .int .i64 md2, .bool al2, .int .u8 rq2, .slice xc nc cc, .slice xr nr cr] 41)).drewN nq) = W4
    intro HB4 HY3
    obtain ⟨z0, z1, z2, z3⟩ := HY3.out
    obtain ⟨r0, r1, -, -⟩ := HY3.out.put (.int .u8 0) (.slice none 0 0)
    have HF := hid (HNO.out _ ((HB4.out.setCell (p := ⟨w.heap.size + 1, 0, none⟩) (by exact Nat.le_succ _) (.int .u8 0)).setCell (p := ⟨w.heap.size + 1, 1, none⟩) (by exact Nat.le_succ _) (.slice none 0 0)) HM4.out)
    clear HY3 HB4 HM4
    revert r0 r1 HF
    generalize hW : ((W4.setCell ⟨w.heap.size + 1, 0, none⟩ (.int .u8 0)).setCell ⟨w.heap.size + 1, 1, none⟩ (.slice none 0 0)) = Wf
    intro r0 r1 HF
    go_wp2
    (try rw [hW])
    exact bodyPost_ret (v := .tuple #[.agg #[.int .u8 0, .slice none 0 0], .int .i64 4]) (by simp [results, Tryd.results25, go_sem, r0, r1]) rfl HF.out
set_option maxRecDepth 100000 in
set_option maxHeartbeats 4000000 in
theorem make_3 (a : AcD) (cv rv : Value) (w : World) (h1 : Reads w cv a.codes) (h2 : Reads w rv a.rcd) (hk : a.kind = 3) (hI : I64 a.cmd) : Calls Tryd.prog 25 #[acV a cv rv] w (MkD (makeF a) w) := by
  have HPL := hid (fun W (hW : Below w.heap.size w W) => plain_any a cv rv W (reads_below h1 hW) (reads_below h2 hW))
  have HNO := hid (fun w' (hb : Below w.heap.size w w') (q : makeF a = (4, sfZ)) => mk_no (er := 4) q hb)
  obtain ⟨k, cd, md, al, rq, cs, rs⟩ := a
  unfold acV at HPL ⊢
  dsimp only at h1 h2 hk HPL hI ⊢
  subst hk
  have HMK := hid (show makeF ⟨3, cd, md, al, rq, cs, rs⟩ = if (actF ⟨1, [0, (ncF cd).2.2]⟩).1 ≠ 0 ∨ (actF ⟨1, [0, (ncF cd).2.2]⟩).2 ≠ plainF ⟨3, cd, md, al, rq, cs, rs⟩ then (4, sfZ) else (0, ⟨1, [0, (ncF cd).2.2]⟩) from rfl)
  generalize plainF ⟨3, cd, md, al, rq, cs, rs⟩ = pa at HPL HMK
  generalize makeF ⟨3, cd, md, al, rq, cs, rs⟩ = mk at HNO HMK ⊢
  obtain ⟨x1, c1, rfl⟩ := reads_sl h1
  obtain ⟨x2, c2, rfl⟩ := reads_sl h2
  clear h1 h2
  generalize cs.length = n1 at *
  generalize rs.length = n2 at *
  go_enter Tryd.func25, Tryd.ntmps25
  go_wp2_with fail
  with_reducible refine (rbyte_any cd hI _).mono ?_
  rintro e w1 ⟨rfl, hw⟩
  obtain rfl := hw
  go_upto_region 23 with fail
  obtain ⟨W3, hW3⟩ : ∃ W3, (((w.alloc (.cells #[.int .i64 3, .int .i64 cd, .int .i64 md, .bool al, .int .u8 rq, .slice x1 n1 c1, .slice x2 n2 c2] 41)).alloc (.cells #[.int .u8 0, .slice none 0 0] 36)).alloc (.cells #[.int .u8 (1), .slice (some ⟨w.heap.size + 1 + 1 + 1, 0, none⟩) 2 2] 36)).alloc (.cells #[.int .u8 (0), .int .u8 ((ncF cd).2.2)] 5) = W3 := ⟨_, rfl⟩
  have HB3 := hid (show Below w.heap.size w W3 by rw [← hW3]; exact bal (bal (bal (bal (Below.refl _ _) _) _) _) _)
  have HX := hid (show Box7 W3 w.heap.size (.int .i64 3) (.int .i64 cd) (.int .i64 md) (.bool al) (.int .u8 rq) (.slice x1 n1 c1) (.slice x2 n2 c2) from by rw [← hW3]; exact ⟨by simp [go_sem], by simp [go_sem], by simp [go_sem], by simp [go_sem], by simp [go_sem], by simp [go_sem], by simp [go_sem], fun i _ => by simp [go_sem]⟩)
  have HY := hid (show Box2 W3 (w.heap.size + 1) (.int .u8 0) (.slice none 0 0) from by rw [← hW3]; exact ⟨by simp [go_sem], by simp [go_sem], by simp [go_sem], by simp [go_sem]⟩)
  have HT := hid (show Box2 W3 (w.heap.size + 1 + 1) (.int .u8 (1)) (.slice (some ⟨w.heap.size + 1 + 1 + 1, 0, none⟩) 2 2) from by rw [← hW3]; exact ⟨by simp [go_sem], by simp [go_sem], by simp [go_sem], by simp [go_sem]⟩)
  have HD := hid (show OwnB W3 (.slice (some ⟨w.heap.size + 1 + 1 + 1, 0, none⟩) 2 2) [0, (ncF cd).2.2] from by rw [← hW3]; exact own_lit _ #[.int .u8 (0), .int .u8 ((ncF cd).2.2)] 2 [0, (ncF cd).2.2] (ncF_byt cd) rfl rfl (by omega) _ (by simp))
  have HFR := hid (show ∀ k ∈ blkV (.slice (some ⟨w.heap.size + 1 + 1 + 1, 0, none⟩) 2 2), w.heap.size + 1 < k from fun k hk => by simp [blkV, Value.ownBlock] at hk; omega)
  have HOF := hid (rof_any ⟨1, [0, (ncF cd).2.2]⟩ (.slice (some ⟨w.heap.size + 1 + 1 + 1, 0, none⟩) 2 2) W3 HD.out.reads (by show 2 ≤ 10000000; omega))
  rw [hW3]
  clear hW3
  obtain ⟨t0, t1, -, -⟩ := HT.out
  generalize actF ⟨1, [0, (ncF cd).2.2]⟩ = res at HOF HMK
  obtain ⟨er2, ⟨k2, cd2, md2, al2, rq2, cs2, rs2⟩⟩ := res
  dsimp only at HOF HMK
  go_wp2_with fail
  with_reducible refine HOF.out.mono ?_
  rintro e V1 ⟨cw, rw', rfl, ho1, ho2, hb1, hk1, hk2⟩
  dsimp only at ho1 ho2
  dsimp only [acV]
  obtain ⟨xc, nc, cc, rfl⟩ := own_slice ho1
  obtain ⟨xr, nr, cr, rfl⟩ := own_slice ho2
  have hbA : Below V1.heap.size V1 (V1.alloc (.cells #[.int .i64 k2, .int .i64 cd2, .int .i64 md2, .bool al2, .int .u8 rq2, .slice xc nc cc, .slice xr nr cr] 41)) := bal (Below.refl _ _) _
  have hb2 := below_t hb1 hbA
  have HBV := hid (below_t HB3.out hb2)
  have HU1 := hid (ho1.step hbA)
  have HU2 := hid (ho2.step hbA)
  have HX2 := hid (HX.out.step hb2)
  have HY2 := hid (HY.out.grow (Grow.below hb2 0))
  have HT2 := hid (HT.out.grow (Grow.below hb2 0))
  have HD2 := hid (HD.out.step hb2)
  clear ho1 ho2 hb1 hk1 hk2 hb2 hbA t0 t1
  by_cases he2 : er2 = 0
  · subst he2
    have hdr : Below (V1.alloc (.cells #[.int .i64 k2, .int .i64 cd2, .int .i64 md2, .bool al2, .int .u8 rq2, .slice xc nc cc, .slice xr nr cr] 41)).heap.size (V1.alloc (.cells #[.int .i64 k2, .int .i64 cd2, .int .i64 md2, .bool al2, .int .u8 rq2, .slice xc nc cc, .slice xr nr cr] 41)) (V1.alloc (.cells #[.int .i64 k2, .int .i64 cd2, .int .i64 md2, .bool al2, .int .u8 rq2, .slice xc nc cc, .slice xr nr cr] 41)).drew := (Below.refl _ _).drew
    have HP0 := hid (HPL.out _ (below_t HBV.out hdr))
    have HSG := hid (fun (cp rp : Value) W (hW : Below (V1.alloc (.cells #[.int .i64 k2, .int .i64 cd2, .int .i64 md2, .bool al2, .int .u8 rq2, .slice xc nc cc, .slice xr nr cr] 41)).heap.size (V1.alloc (.cells #[.int .i64 k2, .int .i64 cd2, .int .i64 md2, .bool al2, .int .u8 rq2, .slice xc nc cc, .slice xr nr cr] 41)) W) (q3 : Reads W cp pa.codes) (q4 : Reads W rp pa.rcd) => rsame_gen ⟨k2, cd2, md2, al2, rq2, cs2, rs2⟩ pa (.slice xc nc cc) (.slice xr nr cr) cp rp W (HU1.out.step hW).reads (HU2.out.step hW).reads q3 q4)
    unfold acV at HP0 HSG
    dsimp only at HSG
    have HX1 := hid (b14_step (w0 := V1.alloc (.cells #[.int .i64 k2, .int .i64 cd2, .int .i64 md2, .bool al2, .int .u8 rq2, .slice xc nc cc, .slice xr nr cr] 41)) ⟨HX2.out.c0, HX2.out.c1, HX2.out.c2, HX2.out.c3, HX2.out.c4, HX2.out.c5, HX2.out.c6, (by simp [go_sem] : (V1.alloc (.cells #[.int .i64 k2, .int .i64 cd2, .int .i64 md2, .bool al2, .int .u8 rq2, .slice xc nc cc, .slice xr nr cr] 41)).cell? ⟨V1.heap.size, 0, none⟩ = some (.int .i64 k2)), (by simp [go_sem] : (V1.alloc (.cells #[.int .i64 k2, .int .i64 cd2, .int .i64 md2, .bool al2, .int .u8 rq2, .slice xc nc cc, .slice xr nr cr] 41)).cell? ⟨V1.heap.size, 1, none⟩ = some (.int .i64 cd2)), (by simp [go_sem] : (V1.alloc (.cells #[.int .i64 k2, .int .i64 cd2, .int .i64 md2, .bool al2, .int .u8 rq2, .slice xc nc cc, .slice xr nr cr] 41)).cell? ⟨V1.heap.size, 2, none⟩ = some (.int .i64 md2)), (by simp [go_sem] : (V1.alloc (.cells #[.int .i64 k2, .int .i64 cd2, .int .i64 md2, .bool al2, .int .u8 rq2, .slice xc nc cc, .slice xr nr cr] 41)).cell? ⟨V1.heap.size, 3, none⟩ = some (.bool al2)), (by simp [go_sem] : (V1.alloc (.cells #[.int .i64 k2, .int .i64 cd2, .int .i64 md2, .bool al2, .int .u8 rq2, .slice xc nc cc, .slice xr nr cr] 41)).cell? ⟨V1.heap.size, 4, none⟩ = some (.int .u8 rq2)), (by simp [go_sem] : (V1.alloc (.cells #[.int .i64 k2, .int .i64 cd2, .int .i64 md2, .bool al2, .int .u8 rq2, .slice xc nc cc, .slice xr nr cr] 41)).cell? ⟨V1.heap.size, 5, none⟩ = some (.slice xc nc cc)), (by simp [go_sem] : (V1.alloc (.cells #[.int .i64 k2, .int .i64 cd2, .int .i64 md2, .bool al2, .int .u8 rq2, .slice xc nc cc, .slice xr nr cr] 41)).cell? ⟨V1.heap.size, 6, none⟩ = some (.slice xr nr cr)), Below.refl _ _⟩ hdr)
    go_wp2
    go_region_held3 (fun w' => w'.cell? ⟨w.heap.size, 0, none⟩ = some (.int .i64 3) ∧ w'.cell? ⟨w.heap.size, 1, none⟩ = some (.int .i64 cd) ∧ w'.cell? ⟨w.heap.size, 2, none⟩ = some (.int .i64 md) ∧ w'.cell? ⟨w.heap.size, 3, none⟩ = some (.bool al) ∧ w'.cell? ⟨w.heap.size, 4, none⟩ = some (.int .u8 rq) ∧ w'.cell? ⟨w.heap.size, 5, none⟩ = some (.slice x1 n1 c1) ∧ w'.cell? ⟨w.heap.size, 6, none⟩ = some (.slice x2 n2 c2) ∧ w'.cell? ⟨V1.heap.size, 0, none⟩ = some (.int .i64 k2) ∧ w'.cell? ⟨V1.heap.size, 1, none⟩ = some (.int .i64 cd2) ∧ w'.cell? ⟨V1.heap.size, 2, none⟩ = some (.int .i64 md2) ∧ w'.cell? ⟨V1.heap.size, 3, none⟩ = some (.bool al2) ∧ w'.cell? ⟨V1.heap.size, 4, none⟩ = some (.int .u8 rq2) ∧ w'.cell? ⟨V1.heap.size, 5, none⟩ = some (.slice xc nc cc) ∧ w'.cell? ⟨V1.heap.size, 6, none⟩ = some (.slice xr nr cr) ∧ Below (V1.alloc (.cells #[.int .i64 k2, .int .i64 cd2, .int .i64 md2, .bool al2, .int .u8 rq2, .slice xc nc cc, .slice xr nr cr] 41)).heap.size (V1.alloc (.cells #[.int .i64 k2, .int .i64 cd2, .int .i64 md2, .bool al2, .int .u8 rq2, .slice xc nc cc, .slice xr nr cr] 41)) w') (first | with_reducible exact HX1.out | with_reducible exact b14_step (by assumption) (by assumption)) (first | (go_at_call 29; (with_reducible refine HP0.out.mono ?_); rintro e w5 ⟨cp, rp, rfl, hq1, hq2, hb5⟩; dsimp only [acV]; have HSA := hid (HSG.out cp rp w5 (below_t hdr hb5) hq1 hq2); obtain ⟨x5, c5, rfl⟩ := reads_sl hq1; obtain ⟨x6, c6, rfl⟩ := reads_sl hq2; clear hq1 hq2) | (go_at_call 18; (with_reducible refine HSA.out.mono ?_); rintro e w6 ⟨⟨r, rfl, hr⟩, hb6⟩; have HR := hid hr; clear hr))
    all_goals
      rename_i hH
      obtain ⟨-, -, -, -, -, -, -, -, -, -, -, -, -, -, hBE⟩ := hH
      have HB4 := hid (below_t HBV.out hBE)
      have HY3 := hid (HY2.out.step hBE)
      have HT3 := hid (HT2.out.step hBE)
      have HD3 := hid (HD2.out.step hBE)
      clear hBE HX2 HY2 HT2 HD2 HU1 HU2 HBV HX1 hdr
      cases r
      · have HM4 := hid (HMK.out.trans (if_pos (.inr (fun q => by have := HR.out.2 q; cases this))))
        clear HT3 HD3
        obtain ⟨z0, z1, z2, z3⟩ := HY3.out
        obtain ⟨r0, r1, -, -⟩ := HY3.out.put (.int .u8 0) (.slice none 0 0)
        have HF := hid (HNO.out _ ((HB4.out.setCell (p := ⟨w.heap.size + 1, 0, none⟩) (by exact Nat.le_succ _) (.int .u8 0)).setCell (p := ⟨w.heap.size + 1, 1, none⟩) (by exact Nat.le_succ _) (.slice none 0 0)) HM4.out)
        clear HY3 HB4 HM4
        revert r0 r1 HF
        generalize hW : ((w6.setCell ⟨w.heap.size + 1, 0, none⟩ (.int .u8 0)).setCell ⟨w.heap.size + 1, 1, none⟩ (.slice none 0 0)) = Wf
        intro r0 r1 HF
        go_wp2
        (try rw [hW])
        exact bodyPost_ret (v := .tuple #[.agg #[.int .u8 0, .slice none 0 0], .int .i64 4]) (by simp [results, Tryd.results25, go_sem, r0, r1]) rfl HF.out
      · have HM0 := hid (HMK.out.trans (if_neg (fun q => q.elim (fun q => q rfl) (fun q => q (HR.out.1 rfl)))))
        obtain ⟨z0, z1, z2, z3⟩ := HY3.out
        obtain ⟨t0, t1, -, -⟩ := HT3.out
        obtain ⟨r0, r1, -, -⟩ := HY3.out.put (.int .u8 (1)) (.slice (some ⟨w.heap.size + 1 + 1 + 1, 0, none⟩) 2 2)
        have HF := hid (show MkD mk w (.returned (.tuple #[.agg #[.int .u8 (1), .slice (some ⟨w.heap.size + 1 + 1 + 1, 0, none⟩) 2 2], .int .i64 0])) ((w6.setCell ⟨w.heap.size + 1, 0, none⟩ (.int .u8 (1))).setCell ⟨w.heap.size + 1, 1, none⟩ (.slice (some ⟨w.heap.size + 1 + 1 + 1, 0, none⟩) 2 2)) from by
          rw [HM0.out]
          exact ⟨_, rfl, put2_own _ _ HD3.out HFR.out, (HB4.out.setCell (p := ⟨w.heap.size + 1, 0, none⟩) (by exact Nat.le_succ _) _).setCell (p := ⟨w.heap.size + 1, 1, none⟩) (by exact Nat.le_succ _) _, fun k hk => by have := HFR.out k hk; omega⟩)
        clear HY3 HT3 HD3 HB4 HM0
        revert r0 r1 HF
        generalize hW : ((w6.setCell ⟨w.heap.size + 1, 0, none⟩ (.int .u8 (1))).setCell ⟨w.heap.size + 1, 1, none⟩ (.slice (some ⟨w.heap.size + 1 + 1 + 1, 0, none⟩) 2 2)) = Wf
        intro r0 r1 HF
        go_wp2
        (try rw [hW])
        exact bodyPost_ret (v := .tuple #[.agg #[.int .u8 (1), .slice (some ⟨w.heap.size + 1 + 1 + 1, 0, none⟩) 2 2], .int .i64 0]) (by simp [results, Tryd.results25, go_sem, r0, r1]) rfl HF.out
  · have hne : (er2 == 0) = false := by simpa using he2
    have hne' : (er2 != 0) = true := by simpa using he2
    have HM4 := hid (HMK.out.trans (if_pos (.inl he2)))
    go_wp2
    go_quiet (fail)
    have HB4 := hid (below_drewN HBV.out nq)
    have HY3 := hid (HY2.out.grow (Grow.below (below_drewN (Below.refl _ _) nq) 0))
    clear HX2 HY2 HT2 HD2 HU1 HU2 HBV
    revert HB4 HY3
    generalize ((V1.alloc (.cells #[.int .i64 k2, .int .i64 cd2, .int .i64 md2, .bool al2, .int .u8 rq2, .slice xc nc cc, .slice xr nr cr] 41)).drewN nq) = W4
    intro HB4 HY3
    obtain ⟨z0, z1, z2, z3⟩ := HY3.out
    obtain ⟨r0, r1, -, -⟩ := HY3.out.put (.int .u8 0) (.slice none 0 0)
    have HF := hid (HNO.out _ ((HB4.out.setCell (p := ⟨w.heap.size + 1, 0, none⟩) (by exact Nat.le_succ _) (.int .u8 0)).setCell (p := ⟨w.heap.size + 1, 1, none⟩) (by exact Nat.le_succ _) (.slice none 0 0)) HM4.out)
    clear HY3 HB4 HM4
    revert r0 r1 HF
    generalize hW : ((W4.setCell ⟨w.heap.size + 1, 0, none⟩ (.int .u8 0)).setCell ⟨w.heap.size + 1, 1, none⟩ (.slice none 0 0)) = Wf
    intro r0 r1 HF
    go_wp2
    (try rw [hW])
    exact bodyPost_ret (v := .tuple #[.agg #[.int .u8 0, .slice none 0 0], .int .i64 4]) (by simp [results, Tryd.results25, go_sem, r0, r1]) rfl HF.out
end Go.Proofs.YtdpgmepblmlaaaaDoor
