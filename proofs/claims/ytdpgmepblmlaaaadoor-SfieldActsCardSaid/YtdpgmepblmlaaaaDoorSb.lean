/-
  SfieldRest: what is behind a field whose length is 0.
-/
import Derived.Test.YtdpgmepblmlaaaaDoorSa
namespace Go.Proofs.YtdpgmepblmlaaaaDoor
open Go.RowKit Go.Lib Go.Deep

/-- Acts that came in. -/
def ActArg (w : World) (v : Value) (es : List AcV) : Prop := (∃ x cap, v = .slice x es.length cap ∧ ∀ i (hi : i < es.length), ∃ g off, x = some ⟨g, off, none⟩ ∧ w.cell? ⟨g, off + i * 7, none⟩ = some (.int .i64 es[i].d.kind) ∧ w.cell? ⟨g, off + i * 7 + 1, none⟩ = some (.int .i64 es[i].d.cmd) ∧ w.cell? ⟨g, off + i * 7 + 2, none⟩ = some (.int .i64 es[i].d.mode) ∧ w.cell? ⟨g, off + i * 7 + 3, none⟩ = some (.bool es[i].d.alt) ∧ w.cell? ⟨g, off + i * 7 + 4, none⟩ = some (.int .u8 es[i].d.req) ∧ w.cell? ⟨g, off + i * 7 + 5, none⟩ = some es[i].cv ∧ w.cell? ⟨g, off + i * 7 + 6, none⟩ = some es[i].rv) ∧ (∀ x ∈ es, (Reads w x.cv x.d.codes ∧ Reads w x.rv x.d.rcd) ∧ (0 ≤ x.d.req ∧ x.d.req < 256) ∧ I64 x.d.cmd) ∧ (es.length : Int) ≤ 9223372036854775807
theorem byteF_er {d : SfD} (h : ¬ (byteF d).1 ≠ 0) : ¬ 8192 < 3 + d.data.length := fun q => h (by rw [byteF_long q]; exact (by decide : (3 : Int) ≠ 0))
theorem own_base {w : World} {B : Nat} {t : TypeId} {sz n : Nat} {v : Value} {cs : List Value} (h : w.ownsRow 0 t sz v n cs) (hk : ∀ k ∈ blkV v, B ≤ k) : w.ownsRow B t sz v n cs :=
  ⟨h.1, h.2.imp id (fun ⟨g, cap, cur, e, _, h1, h2, h3, h4, h5⟩ => ⟨g, cap, cur, e, hk g (by subst e; simp [blkV, Value.ownBlock]), h1, h2, h3, h4, h5⟩)⟩
/-- A record that is told: its fields are read again, whatever is behind them. -/
theorem recL_told : ∀ (ds : List AcD) (acc b : List Int), recL acc ds = (0, b) → ∃ (Z : List Int) (fs : List SfD), fs.length = ds.length ∧ b = acc ++ Z ∧ b.length ≤ 8192 ∧ ∀ r, sfA (Z ++ r) = (fs ++ (sfA r).1, (sfA r).2)
  | [], acc, b, h => by
    have h : (if 8192 < acc.length then ((3 : Int), []) else (0, acc)) = (0, b) := h
    by_cases h8 : 8192 < acc.length
    · rw [if_pos h8] at h
      exact absurd (Prod.mk.inj h).1 (by decide)
    · rw [if_neg h8] at h
      refine ⟨[], [], rfl, by rw [List.append_nil]; exact (Prod.mk.inj h).2.symm, by rw [← (Prod.mk.inj h).2]; omega, fun r => rfl⟩
  | a :: ds, acc, b, h => by
    rw [recL_cons] at h
    by_cases h1 : (makeF a).1 ≠ 0
    · rw [if_pos h1] at h
      exact absurd (Prod.mk.inj h).1 h1
    rw [if_neg h1] at h
    by_cases h2 : (byteF (makeF a).2).1 ≠ 0
    · rw [if_pos h2] at h
      exact absurd (Prod.mk.inj h).1 h2
    rw [if_neg h2] at h
    obtain ⟨Z, fs, e1, e2, e3, e4⟩ := recL_told ds _ _ h
    refine ⟨(byteF (makeF a).2).2 ++ Z, (makeF a).2 :: fs, by rw [List.length_cons, List.length_cons, e1], by rw [e2, List.append_assoc], e3, fun r => ?_⟩
    rw [List.append_assoc, sfA_front (byteF_er h2), e4]
    rfl
theorem sfA_rest (id : Int) (ys : List Int) : sfA ([0, 0, id] ++ ys) = ([⟨id, ys⟩], 0) := by
  have hne : [0, 0, id] ++ ys ≠ [] := fun q => by cases q
  have hl : lenS ([0, 0, id] ++ ys) = (([0, 0, id] ++ ys).length : Int) := by
    have hn : numS ([0, 0, id] ++ ys) = 0 := rfl
    unfold lenS
    rw [if_pos hn]
  have h3 : ¬ ([0, 0, id] ++ ys).length < 3 := by simp only [List.length_append, List.length_cons, List.length_nil]; omega
  have e := sF_ok h3 (by rw [hl]; omega)
  have hL : (lenS ([0, 0, id] ++ ys)).toNat = ([0, 0, id] ++ ys).length := by rw [hl]; rfl
  rw [hL, List.take_length] at e
  rw [sfA_cons hne (by rw [e]), e]
  dsimp only
  rw [List.drop_length, sfA_nil]
  rfl
set_option maxRecDepth 100000 in
set_option maxHeartbeats 4000000 in
theorem sfieldRest_walk (v : Value) (es : List AcV) (id : Nat) (hid' : id < 256) (u : Value) (zs : List Int) (w : World) (h : ActArg w v es) (hu : Reads w u zs) (hC : Cods w) : Calls Tryd.prog 7 #[v, .int .u8 id, u] w fun e w' => e = .returned (.bool true) ∧ Below w.heap.size w w' := by
  obtain ⟨i0, hi, hz0, hz1, hz2⟩ := info_parts infoAr
  have HAW := hid (awake21 w hC)
  have HCU := hid (fun W (hW : Below w.heap.size w W) => (show Calls Tryd.prog 11 #[u, .int .i64 100] W (OwnDone (zs.take 100) W) from rcut_own u 100 (by omega) zs W (reads_below hu hW)))
  have hlp : (zs.take 100).length ≤ 100 := by rw [List.length_take]; omega
  have hbp : BytL (zs.take 100) := (show BytL zs from hu.1).take 100
  obtain ⟨xu, cu, rfl⟩ := reads_sl hu
  generalize zs.take 100 = ps at HCU hlp hbp
  have HLP := hid hlp
  have HBP := hid hbp
  obtain ⟨⟨x, cap, rfl, hat⟩, hrd, hmx⟩ := h
  have HAT := hid hat
  have HSL := hid (fun i (hi : i < es.length) => (show (∃ a n c, es[i].cv = .slice a n c) ∧ ∃ a n c, es[i].rv = .slice a n c from ⟨by obtain ⟨a, c, e⟩ := reads_sl (hrd _ (List.getElem_mem hi)).1.1; exact ⟨a, _, c, e⟩, by obtain ⟨a, c, e⟩ := reads_sl (hrd _ (List.getElem_mem hi)).1.2; exact ⟨a, _, c, e⟩⟩))
  have HFW := hid (fun i (hi : i < es.length) W (hW : Below w.heap.size w W) => few_any es[i].d es[i].cv es[i].rv W (reads_below (hrd _ (List.getElem_mem hi)).1.1 hW) (reads_below (hrd _ (List.getElem_mem hi)).1.2 hW))
  have HOK := hid (fun i (hi : i < es.length) => (show ActOK (fewF es[i].d) from ⟨⟨by show (es[i].d.codes.take 20).length ≤ _; rw [List.length_take]; omega, by show (es[i].d.rcd.take 300).length ≤ _; rw [List.length_take]; omega⟩, (hrd _ (List.getElem_mem hi)).2.1, (hrd _ (List.getElem_mem hi)).2.2⟩))
  obtain ⟨N, hN⟩ : ∃ N, es.length = N := ⟨_, rfl⟩
  have HN := hid hN
  rw [hN] at hmx ⊢
  clear hu hC hat hrd hlp hbp hN
  go_enter Tryd.func7, Tryd.ntmps7
  go_wp2_with fail
  with_reducible refine HAW.out.mono ?_
  rintro e w1 ⟨rfl, hb1⟩
  have HB1 := hid hb1
  clear hb1
  go_wp2_with fail
  go_loopw [7, 21] (fun l i wr => ∃ (k : Nat) (ys : List AcV), k ≤ N ∧ i = .int .i64 k ∧ Hid (RowA 41 w1.heap.size wr l ys) ∧ Hid (ys.length = min k 4 ∧ ∀ y ∈ ys, ActOK y.d) ∧ Hid (Below w1.heap.size w1 wr)) (fun _ i _ => N - (intOf i).toNat)
  case atStart => exact ⟨0, [], Nat.zero_le _, rfl, hid (RowA.nil _ _ _), hid ⟨rfl, fun _ h => (by cases h)⟩, hid (Below.refl _ _)⟩
  case round =>
    obtain ⟨k, ys, hk, rfl, HM, HX, HB⟩ := hrel
    obtain ⟨xl, cl, rfl⟩ := row_any HM.out.row
    by_cases hlt : k < N
    · have hki : (k : Int) < N := by omega
      have hkx : k < es.length := by rw [HN.out]; exact hlt
      have hbw := below_t HB1.out HB.out
      obtain ⟨g, off, rfl, a0, a1, a2, a3, a4, a5, a6⟩ := HAT.out k hkx
      obtain ⟨⟨xc, nc, cc, q1⟩, ⟨xr, nr, cr, q2⟩⟩ := HSL.out k hkx
      have HF := hid (HFW.out k hkx)
      have hok := HOK.out k hkx
      rw [q1, q2] at HF
      rw [q1] at a5
      rw [q2] at a6
      clear q1 q2
      generalize es[k].d = d at a0 a1 a2 a3 a4 HF hok
      obtain ⟨k2, cd, md, al, rq, cs, rs⟩ := d
      dsimp only at a0 a1 a2 a3 a4
      dsimp only [acV] at HF
      have a0 := keepc hbw a0
      have a1 := keepc hbw a1
      have a2 := keepc hbw a2
      have a3 := keepc hbw a3
      have a4 := keepc hbw a4
      have a5 := keepc hbw a5
      have a6 := keepc hbw a6
      have HOKK := hid hok
      have HBX := hid (show Below w1.heap.size w1 (wr.alloc (.cells #[.int .i64 k2, .int .i64 cd, .int .i64 md, .bool al, .int .u8 rq, .slice xc nc cc, .slice xr nr cr] 41)) from bal HB.out _)
      have HF0 := hid (HF.out _ (show Below w.heap.size w (wr.alloc (.cells #[.int .i64 k2, .int .i64 cd, .int .i64 md, .bool al, .int .u8 rq, .slice xc nc cc, .slice xr nr cr] 41)) from bal hbw _))
      have HMX := hid (HM.out.step (bal (Below.refl wr.heap.size wr) (.cells #[.int .i64 k2, .int .i64 cd, .int .i64 md, .bool al, .int .u8 rq, .slice xc nc cc, .slice xr nr cr] 41)))
      clear hbw hok
      by_cases h4 : k < 4
      · have h4i : (k : Int) < 4 := by omega
        go_wp2_with fail
        with_reducible refine HF0.out.mono ?_
        rintro e V1 ⟨cw, rw', rfl, ho1, ho2, hb2, hk1, hk2⟩
        dsimp only [acV, fewF] at ho1 ho2 ⊢
        obtain ⟨yc, mc, dc, rfl⟩ := own_slice ho1
        obtain ⟨yr, mr, dr, rfl⟩ := own_slice ho2
        have HMV := hid (HMX.out.step hb2)
        have HT1 := hid ho1
        have HT2 := hid ho2
        have HTB1 := hid (show ∀ b ∈ blkV (.slice yc mc dc), w1.heap.size ≤ b from fun b hb => Nat.le_trans HBX.out.size (hk1 b hb))
        have HTB2 := hid (show ∀ b ∈ blkV (.slice yr mr dr), w1.heap.size ≤ b from fun b hb => Nat.le_trans HBX.out.size (hk2 b hb))
        have HBV := hid (below_t HBX.out hb2)
        have HNS := hid (news_seven V1 (.int .i64 k2) (.int .i64 cd) (.int .i64 md) (.bool al) (.int .u8 rq) (.slice yc mc dc) (.slice yr mr dr) 41)
        have HYL := hid (show ys.length ≤ 4 by have := HX.out.1; omega)
        clear ho1 ho2 hb2 hk1 hk2 a0 a1 a2 a3 a4 a5 a6
        go_wp2_with (at_builtin; refine wpList_append_blk _ rfl _ _ 48 rfl 41 i0 _ 7 80 Tryd.underlying48 hi hz0 hz1 hz2 rfl (by decide) _ ys.length (cellsA ys) rfl (HMV.out.row.alloc _) ⟨V1.heap.size, 0, none⟩ 1 1 (acC ⟨⟨k2, cd, md, al, rq, cs.take 20, rs.take 300⟩, .slice yc mc dc, .slice yr mr dr⟩) rfl rfl HNS.out (one_acC _ rfl rfl) (by have := HYL.out; unfold maxLen; omega) (by have := HYL.out; omega) ?_; intro v' W1 hown' hgrow _ hb'; have HA9 := hid (bal (Below.refl V1.heap.size V1) (.cells #[.int .i64 k2, .int .i64 cd, .int .i64 md, .bool al, .int .u8 rq, .slice yc mc dc, .slice yr mr dr] 41)); have HM9 := hid (RowA.snoc (x := ⟨⟨k2, cd, md, al, rq, cs.take 20, rs.take 300⟩, .slice yc mc dc, .slice yr mr dr⟩) (by decide) (HMV.out.step HA9.out) (Nat.le_trans HBV.out.size HA9.out.size) (HT1.out.step HA9.out) (HT2.out.step HA9.out) HTB1.out HTB2.out hown' hgrow hb'); have HB9 := hid ((below_t HBV.out HA9.out).grown hgrow (Nat.le_trans HBV.out.size HA9.out.size) (fun q e => HM.out.fr q (mem_blkV.2 e))); obtain ⟨g', cap', rfl⟩ := row_any hown'; clear hown' hgrow hb')
        go_roundw
        case rel => exact ⟨k + 1, _, by omega, by go_num, HM9, hid ⟨by rw [List.length_append, HX.out.1]; show min k 4 + 1 = _; omega, fun y hy => (List.mem_append.1 hy).elim (HX.out.2 y) (fun e => by rw [List.mem_singleton.1 e]; exact HOKK.out)⟩, HB9⟩
        case measure => simp [intOf]; omega
      · have h4i : ¬ (k : Int) < 4 := by omega
        go_wp2
        go_roundw
        case rel => exact ⟨k + 1, ys, by omega, by go_num, HMX, hid ⟨by have := HX.out.1; omega, HX.out.2⟩, HBX⟩
        case measure => simp [intOf]; omega
    · obtain rfl : k = N := by omega
      have HREC := hid (rrecord_any _ ys wr ⟨HM.out.row, HM.out.dat⟩ (by have := HX.out.1; omega) HX.out.2)
      have HBW := hid (below_t HB1.out HB.out)
      have HL4 := hid (show ys.length ≤ 4 by have := HX.out.1; omega)
      clear hk hlt HX HM HB
      generalize hrr : recL [243] (ys.map AcV.d) = rr at HREC
      have HRR := hid hrr
      obtain ⟨er, bs⟩ := rr
      clear hrr
      go_wp2_with fail
      with_reducible refine HREC.out.mono ?_
      rintro e w2 ⟨bv, rfl, hob, hb2, hkb⟩
      dsimp only at hob ⊢
      by_cases he : er = 0
      · subst he
        obtain ⟨Z, fs, e1, e2, e3, e4⟩ := recL_told _ _ _ HRR.out
        have HZL := hid (show Z.length ≤ 8192 by have q := e3; rw [e2, List.length_append] at q; omega)
        have HFS := hid (show fs.length ≤ 4 by rw [e1, List.length_map]; exact HL4.out)
        have HFN := hid (show fs.length = ys.length by rw [e1, List.length_map])
        have HSF := hid e4
        have HOB := hid (show OwnB w2 bv ([243] ++ Z) by rw [← e2]; exact hob)
        have HB02 := hid (below_t HBW.out hb2)
        have hnb : bs.length = 1 + Z.length := by rw [e2, List.length_append]; rfl
        obtain ⟨nb, hnb2⟩ : ∃ nb, bs.length = nb := ⟨_, rfl⟩
        obtain ⟨xb, cb, rfl⟩ := own_len hob nb hnb2
        have hfa := from_all HOB.out.reads 1 (by show 1 ≤ (243 :: Z).length; simp)
        obtain ⟨xs1, cs1, hsl0, hrs⟩ := hfa
        obtain ⟨nz, hnz⟩ : ∃ nz, Z.length = nz := ⟨_, rfl⟩
        have HNZ := hid hnz
        have hz1 : ([243] ++ Z).length - 1 = nz := by rw [← hnz]; simp
        rw [hz1] at hsl0 hrs
        have HSLR := hid (show ∀ V, Reads V (.slice xb nb cb) ([243] ++ Z) → Reads V (.slice xs1 nz cs1) Z from hrs)
        have hsl : ∀ w', (Instr.sliceAt 22 (.slice xb nb cb) (some (.int .i64 1)) none none).run Tryd.prog w' = .ok (.slice xs1 nz cs1) w' := by
          intro w'
          have q := hsl0 w'
          push_cast at q
          exact q
        have HFD := hid (fun T (hT : sfA T = (fs ++ [⟨(id : Int), ps⟩], 0)) (hTl : T.length ≤ 10000000) (v : Value) W (hr : Reads W v T) => (show Calls Tryd.prog 14 #[v, .int .i64 100] W (AllSD 36 (fs ++ [⟨(id : Int), ps⟩]) 0 W) from by
          have hlt : (sfA T).1.length < 100 := by rw [hT, List.length_append]; have := HFS.out; simp only [List.length_cons, List.length_nil]; omega
          have q := callsIn_wide.1 (lfields_in 8 (by omega) v T W hr hTl 100 (by omega) (by omega))
          rw [limE_lt hlt, List.take_of_length_le (Nat.le_of_lt hlt), hT] at q
          exact q))
        have HTa := hid (show sfA (Z ++ [0, 0, (id : Int)] ++ ps) = (fs ++ [⟨(id : Int), ps⟩], 0) by rw [List.append_assoc, HSF.out, sfA_rest])
        have HTb := hid (show sfA (Z ++ [(3 + (ps.length : Int)) / 256, (3 + (ps.length : Int)) % 256, (id : Int)] ++ ps) = (fs ++ [⟨(id : Int), ps⟩], 0) by
          have h8 : ¬ 8192 < 3 + (⟨(id : Int), ps⟩ : SfD).data.length := by show ¬ 8192 < 3 + ps.length; have := HLP.out; omega
          have q := sfA_front h8 []
          rw [List.append_nil, byteF_ok h8] at q
          rw [List.append_assoc, HSF.out, show sfA ([(3 + (ps.length : Int)) / 256, (3 + (ps.length : Int)) % 256, (id : Int)] ++ ps) = _ from q]
          rfl)
        have HBLa := hid (show BytL [0, 0, (id : Int)] from by intro x hx; simp only [List.mem_cons, List.not_mem_nil, or_false] at hx; omega)
        have HBLb := hid (show BytL [(3 + (ps.length : Int)) / 256, (3 + (ps.length : Int)) % 256, (id : Int)] from by have := HLP.out; intro x hx; simp only [List.mem_cons, List.not_mem_nil, or_false] at hx; omega)
        have HTL := hid (show ∀ B0 : List Int, B0.length = 3 → (Z ++ B0 ++ ps).length ≤ 10000000 from fun B0 hB => by rw [List.length_append, List.length_append, hB]; have := HZL.out; have := HLP.out; omega)
        have HC2 := hid (HCU.out w2 HB02.out)
        clear hob hsl0 hrs hz1 hnz hnb hnb2 hb2 hkb e1 e2 e3 e4
        go_wp2_with fail
        with_reducible refine HC2.out.mono ?_
        rintro e w3 ⟨pv, rfl, hop, hb3, hkp⟩
        have HB23 := hid hb3
        have HPU := hid hop
        obtain ⟨np, hnp⟩ : ∃ np, ps.length = np := ⟨_, rfl⟩
        have HNP := hid hnp
        obtain ⟨xp, cp, rfl⟩ := own_len hop np hnp
        have hnp100 : np ≤ 100 := by have := HLP.out; omega
        have s3 : IntKind.i64.wrap (3 + (np : Int)) = 3 + (np : Int) := IntWalk.i64_in _ (by omega)
        rw [hnp] at HTb HBLb
        clear hop hb3 hkp hnp
        have HCPa := hid (rcopy_own _ Z w3 (HSLR.out w3 (HOB.out.step HB23.out).reads) (by have := HZL.out; omega))
        go_wp2_with fail
        with_reducible refine HCPa.out.mono ?_
        rintro e va ⟨zv, rfl, hoz, hbz, hkz⟩
        have HBAa := hid (bal hbz (.cells #[.int .u8 (0), .int .u8 (0), .int .u8 ((id : Int))] 5))
        have HUa := hid (own_lit va #[.int .u8 (0), .int .u8 (0), .int .u8 ((id : Int))] 3 [0, 0, (id : Int)] HBLa.out rfl rfl (by omega) va.heap.size rfl).reads
        have HOa := hid (own_base (hoz.step (bal (Below.refl va.heap.size va) (.cells #[.int .u8 (0), .int .u8 (0), .int .u8 ((id : Int))] 5))).2 hkz)
        have HBYa := hid (show BytL (Z ++ [0, 0, (id : Int)] ++ ps) from ((show BytL Z from hoz.1).append HBLa.out).append HBP.out)
        obtain ⟨xza, cza, rfl⟩ := own_len hoz nz HNZ.out
        rw [HNZ.out] at HOa
        clear hoz hbz hkz
        go_wp2_with (first | (at_builtin; refine wpList_append_bytes rfl (.tmp 49) (.tmp 51) rfl w3.heap.size nz _ _ Z [0, 0, (id : Int)] rfl rfl HOa.out HUa.out (by have := HZL.out; have := HNZ.out; show nz + 3 ≤ 10000000; omega) HBAa.out.size (nz + 3) rfl (Z ++ [0, 0, (id : Int)]) rfl ?_; intro y1 c1 V5 hown hgrow; have HW5 := hid hown; have HB5 := hid (HBAa.out.grown hgrow HBAa.out.size (fun j hj => (HOa.out.lt j hj).1)); have HP5 := hid (HPU.out.step HB5.out).reads; clear hown hgrow) | (at_builtin; refine wpList_append_bytes rfl (.tmp 52) (.tmp 53) rfl w3.heap.size (nz + 3) _ _ (Z ++ [0, 0, (id : Int)]) ps rfl rfl HW5.out HP5.out (by have := HZL.out; have := HNZ.out; have := HLP.out; omega) HB5.out.size (nz + 3 + np) (by rw [HNP.out]) (Z ++ [0, 0, (id : Int)] ++ ps) rfl ?_; intro y2 c2 V6 hown hgrow; have HW6 := hid hown; have HB6 := hid (HB5.out.grown hgrow HB5.out.size (fun j hj => (HW5.out.lt j hj).1)); clear hown hgrow))
        have HRa := hid (show OwnB V6 (.slice y2 (nz + 3 + np) c2) (Z ++ [0, 0, (id : Int)] ++ ps) from ⟨HBYa.out, by
          have q := HW6.out.mono (Nat.zero_le _)
          show World.ownsRow V6 0 5 1 (.slice y2 (nz + 3 + np) c2) (Z ++ [0, 0, (id : Int)] ++ ps).length ((Z ++ [0, 0, (id : Int)] ++ ps).map (Value.int .u8))
          rw [show (Z ++ [0, 0, (id : Int)] ++ ps).length = nz + 3 + np by rw [List.length_append, List.length_append, HNZ.out, HNP.out]; rfl]
          exact q⟩)
        have Ha := hid (HFD.out _ HTa.out (HTL.out _ rfl) _ V6 HRa.out.reads)
        clear HW5 HP5 HB5 HW6
        go_wp2_with fail
        with_reducible refine Ha.out.mono ?_
        rintro e w7 ⟨l13, xs13, rfl, hx13, hM13, hb7, -, -⟩
        have HX13 := hid hx13
        have HM13 := hid hM13
        have HB37 := hid (below_t HB6.out hb7)
        obtain ⟨r13, c13, rfl⟩ := row_any hM13.row
        clear hx13 hM13 hb7 HB6 HRa Ha HUa HOa HBAa HCPa
        have HCPb := hid (rcopy_own _ Z w7 (HSLR.out w7 (HOB.out.step (below_t HB23.out HB37.out)).reads) (by have := HZL.out; omega))
        go_wp2_with fail
        with_reducible refine HCPb.out.mono ?_
        rintro e vb ⟨zv, rfl, hoz, hbz, hkz⟩
        have HBAb := hid (bal hbz (.cells #[.int .u8 ((3 + (np : Int)) / 256), .int .u8 ((3 + (np : Int)) % 256), .int .u8 ((id : Int))] 5))
        have HUb := hid (own_lit vb #[.int .u8 ((3 + (np : Int)) / 256), .int .u8 ((3 + (np : Int)) % 256), .int .u8 ((id : Int))] 3 [(3 + (np : Int)) / 256, (3 + (np : Int)) % 256, (id : Int)] HBLb.out rfl rfl (by omega) vb.heap.size rfl).reads
        have HOb := hid (own_base (hoz.step (bal (Below.refl vb.heap.size vb) (.cells #[.int .u8 ((3 + (np : Int)) / 256), .int .u8 ((3 + (np : Int)) % 256), .int .u8 ((id : Int))] 5))).2 hkz)
        have HBYb := hid (show BytL (Z ++ [(3 + (np : Int)) / 256, (3 + (np : Int)) % 256, (id : Int)] ++ ps) from ((show BytL Z from hoz.1).append HBLb.out).append HBP.out)
        obtain ⟨xzb, czb, rfl⟩ := own_len hoz nz HNZ.out
        rw [HNZ.out] at HOb
        clear hoz hbz hkz
        go_wp2_with (first | (at_builtin; refine wpList_append_bytes rfl (.tmp 61) (.tmp 69) rfl w7.heap.size nz _ _ Z [(3 + (np : Int)) / 256, (3 + (np : Int)) % 256, (id : Int)] rfl rfl HOb.out HUb.out (by have := HZL.out; have := HNZ.out; show nz + 3 ≤ 10000000; omega) HBAb.out.size (nz + 3) rfl (Z ++ [(3 + (np : Int)) / 256, (3 + (np : Int)) % 256, (id : Int)]) rfl ?_; intro y1 c1 V5 hown hgrow; have HW5 := hid hown; have HB5 := hid (HBAb.out.grown hgrow HBAb.out.size (fun j hj => (HOb.out.lt j hj).1)); have HP5 := hid (HPU.out.step (below_t HB37.out HB5.out)).reads; clear hown hgrow) | (at_builtin; refine wpList_append_bytes rfl (.tmp 70) (.tmp 71) rfl w7.heap.size (nz + 3) _ _ (Z ++ [(3 + (np : Int)) / 256, (3 + (np : Int)) % 256, (id : Int)]) ps rfl rfl HW5.out HP5.out (by have := HZL.out; have := HNZ.out; have := HLP.out; omega) HB5.out.size (nz + 3 + np) (by rw [HNP.out]) (Z ++ [(3 + (np : Int)) / 256, (3 + (np : Int)) % 256, (id : Int)] ++ ps) rfl ?_; intro y2 c2 V6 hown hgrow; have HW6 := hid hown; have HB6 := hid (HB5.out.grown hgrow HB5.out.size (fun j hj => (HW5.out.lt j hj).1)); clear hown hgrow))
        have HRb := hid (show OwnB V6 (.slice y2 (nz + 3 + np) c2) (Z ++ [(3 + (np : Int)) / 256, (3 + (np : Int)) % 256, (id : Int)] ++ ps) from ⟨HBYb.out, by
          have q := HW6.out.mono (Nat.zero_le _)
          show World.ownsRow V6 0 5 1 (.slice y2 (nz + 3 + np) c2) (Z ++ [(3 + (np : Int)) / 256, (3 + (np : Int)) % 256, (id : Int)] ++ ps).length ((Z ++ [(3 + (np : Int)) / 256, (3 + (np : Int)) % 256, (id : Int)] ++ ps).map (Value.int .u8))
          rw [show (Z ++ [(3 + (np : Int)) / 256, (3 + (np : Int)) % 256, (id : Int)] ++ ps).length = nz + 3 + np by rw [List.length_append, List.length_append, HNZ.out, HNP.out]; rfl]
          exact q⟩)
        have Hb := hid (HFD.out _ HTb.out (HTL.out _ rfl) _ V6 HRb.out.reads)
        clear HW5 HP5 HB5 HW6
        go_wp2_with fail
        with_reducible refine Hb.out.mono ?_
        rintro e w8 ⟨l15, xs15, rfl, hx15, hM15, hb8, -, -⟩
        have HB78 := hid (below_t HB6.out hb8)
        have hl13 : xs13.length = ys.length + 1 := by have q := congrArg List.length HX13.out; rw [List.length_map, List.length_append, HFN.out] at q; exact q
        have HSM := hid (same21 _ _ xs13 xs15 w8 (HM13.out.step HB78.out) hM15 (HX13.out.trans hx15.symm) (by rw [hl13]; have := HL4.out; omega))
        have HBF := hid (below_t HB02.out (below_t HB23.out (below_t HB37.out HB78.out)))
        have hl4 := HL4.out
        obtain ⟨r15, c15, rfl⟩ := row_any hM15.row
        rw [hl13] at HSM
        rw [hl13]
        clear hx15 hM15 hb8 HB6 HRb Hb HUb HOb HBAb HCPb hl13
        go_wp2_with fail
        with_reducible refine HSM.out.mono ?_
        rintro e w9 ⟨rfl, hb9⟩
        have HFIN := hid (below_t HBF.out hb9)
        go_wp2
        go_ret
        exact ⟨rfl, HFIN.out⟩
      · have hne : (er == 0) = false := by simpa using he
        have HF := hid (below_t HBW.out hb2)
        go_wp2
        go_ret
        exact ⟨rfl, HF.out⟩
end Go.Proofs.YtdpgmepblmlaaaaDoor
