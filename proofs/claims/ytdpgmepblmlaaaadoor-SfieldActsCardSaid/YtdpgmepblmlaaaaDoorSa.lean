/-
  The reference's Record: the record of acts.
-/
import Derived.Test.YtdpgmepblmlaaaaDoorRz
namespace Go.Proofs.YtdpgmepblmlaaaaDoor
open Go.RowKit Go.Lib Go.Deep

/-- The bytes so far, and of what is left. -/
def recL : List Int → List AcD → Int × List Int
  | acc, [] => if 8192 < acc.length then (3, []) else (0, acc)
  | acc, a :: r => if (makeF a).1 ≠ 0 then ((makeF a).1, []) else if (byteF (makeF a).2).1 ≠ 0 then ((byteF (makeF a).2).1, []) else recL (acc ++ (byteF (makeF a).2).2) r
/-- Acts that can be told. -/
def ActOK (a : AcD) : Prop := (a.codes.length ≤ 1000000 ∧ a.rcd.length ≤ 1000000) ∧ (0 ≤ a.req ∧ a.req < 256) ∧ I64 a.cmd
theorem recL_cons (acc : List Int) (a : AcD) (r : List AcD) : recL acc (a :: r) = if (makeF a).1 ≠ 0 then ((makeF a).1, []) else if (byteF (makeF a).2).1 ≠ 0 then ((byteF (makeF a).2).1, []) else recL (acc ++ (byteF (makeF a).2).2) r := rfl
theorem byteF_len (d : SfD) : (byteF d).2.length ≤ 8192 := by
  unfold byteF
  split
  · exact Nat.zero_le _
  · simp only [List.length_append, List.length_cons, List.length_nil]
    omega
theorem drop_cons' {xs : List AcV} {k : Nat} (h : k < xs.length) : (xs.map AcV.d).drop k = xs[k].d :: (xs.map AcV.d).drop (k + 1) := by
  rw [← List.getElem_cons_drop (by rw [List.length_map]; exact h), List.getElem_map]
set_option maxRecDepth 100000 in
set_option maxHeartbeats 4000000 in
theorem rrecord_any (v : Value) (xs : List AcV) (w : World) (h : AcM 41 w v xs) (hl : xs.length ≤ 1000) (hok : ∀ x ∈ xs, ActOK x.d) : Calls Tryd.prog 31 #[v] w (BysD (recL [243] (xs.map AcV.d)) w) := by
  obtain ⟨x, cap, rfl, hc1, hc2, hat⟩ := h.at
  have HAT := hid hat
  have HSL := hid (fun i (hi : i < xs.length) => (show (∃ a n c, xs[i].cv = .slice a n c) ∧ ∃ a n c, xs[i].rv = .slice a n c from ⟨own_slice (h.txt _ (List.getElem_mem hi)).1, own_slice (h.txt _ (List.getElem_mem hi)).2⟩))
  have HMK := hid (fun i (hi : i < xs.length) W (hW : Below w.heap.size w W) => make_any xs[i].d xs[i].cv xs[i].rv W ((h.txt _ (List.getElem_mem hi)).1.step hW).reads ((h.txt _ (List.getElem_mem hi)).2.step hW).reads (hok _ (List.getElem_mem hi)).1.1 (hok _ (List.getElem_mem hi)).1.2 (hok _ (List.getElem_mem hi)).2.1 (hok _ (List.getElem_mem hi)).2.2)
  have HFO := hid (fun i (hi : i < xs.length) => makeF_ok (hok _ (List.getElem_mem hi)).1.1 (hok _ (List.getElem_mem hi)).1.2)
  have HRC := hid (fun acc i (hi : i < xs.length) => (show recL acc ((xs.map AcV.d).drop i) = _ from (congrArg (recL acc) (drop_cons' hi)).trans (recL_cons acc _ _)))
  have HR0 := hid (show recL [243] (xs.map AcV.d) = recL [243] ((xs.map AcV.d).drop 0) from rfl)
  have HRN := hid (fun acc => (show recL acc ((xs.map AcV.d).drop xs.length) = if 8192 < acc.length then (3, []) else (0, acc) from by rw [List.drop_of_length_le (by rw [List.length_map]; exact Nat.le_refl _)]; rfl))
  have HNO := hid (fun er w' (hb : Below w.heap.size w w') => (show BysD (er, []) w (.returned (.tuple #[.slice none 0 0, .int .i64 er])) w' from ⟨_, rfl, OwnB.nil _, hb, fun _ q => (by cases q)⟩))
  obtain ⟨N, hN⟩ : ∃ N, xs.length = N := ⟨_, rfl⟩
  have HN := hid hN
  have hal : Below w.heap.size w (w.alloc (.cells #[.int .u8 243] 5)) := bal (Below.refl _ _) _
  have HO0 := hid (show (w.alloc (.cells #[.int .u8 243] 5)).ownsRow w.heap.size 5 1 (.slice (some ⟨w.heap.size, 0, none⟩) 1 1) [(243 : Int)].length ([(243 : Int)].map (Value.int .u8)) from World.ownsRow_lit (e := 5) (size := 1) (base := w.heap.size) w #[.int .u8 243] 1 (Nat.le_refl _) (by unfold maxLen; omega) rfl)
  have HAL := hid hal
  rw [hN] at hl ⊢
  generalize recL [243] (xs.map AcV.d) = R at HR0 ⊢
  clear h hok hat hc1 hc2 hN hal
  go_enter Tryd.func31, Tryd.ntmps31
  go_wp2_with fail
  go_loopw [4, 13] (fun b i wr => ∃ (k : Nat) (acc : List Int), k ≤ N ∧ i = .int .i64 k ∧ Hid (R = recL acc ((xs.map AcV.d).drop k)) ∧ Hid (wr.ownsRow w.heap.size 5 1 b acc.length (acc.map (Value.int .u8)) ∧ BytL acc ∧ acc.length ≤ 1 + 8192 * k) ∧ Hid (Below w.heap.size w wr)) (fun _ i _ => N - (intOf i).toNat)
  case atStart => exact ⟨0, [243], Nat.zero_le _, rfl, HR0, hid ⟨HO0.out, by intro x hx; rw [List.mem_singleton.1 hx]; omega, Nat.le_refl _⟩, hid HAL.out⟩
  case round =>
    obtain ⟨k, acc, hk, rfl, HR, HO, HB⟩ := hrel
    obtain ⟨xb, cb, rfl⟩ := row_anyK HO.out.1
    by_cases hlt : k < N
    · have hki : (k : Int) < N := by omega
      have hkx : k < xs.length := by rw [HN.out]; exact hlt
      obtain ⟨g, rfl, hg, a0, a1, a2, a3, a4, a5, a6⟩ := HAT.out k hkx
      obtain ⟨⟨xc, nc, cc, q1⟩, ⟨xr, nr, cr, q2⟩⟩ := HSL.out k hkx
      have HM := hid (HMK.out k hkx)
      have hfo := HFO.out k hkx
      have hrc := HR.out.trans (HRC.out acc k hkx)
      rw [q1, q2] at HM
      rw [q1] at a5
      rw [q2] at a6
      clear q1 q2
      generalize xs[k].d = d at a0 a1 a2 a3 a4 HM hfo hrc
      obtain ⟨k2, cd, md, al, rq, cs, rs⟩ := d
      dsimp only at a0 a1 a2 a3 a4
      dsimp only [acV] at HM
      have a0 := (HB.out.cell (p := ⟨g, k * 7, none⟩) hg).trans a0
      have a1 := (HB.out.cell (p := ⟨g, k * 7 + 1, none⟩) hg).trans a1
      have a2 := (HB.out.cell (p := ⟨g, k * 7 + 2, none⟩) hg).trans a2
      have a3 := (HB.out.cell (p := ⟨g, k * 7 + 3, none⟩) hg).trans a3
      have a4 := (HB.out.cell (p := ⟨g, k * 7 + 4, none⟩) hg).trans a4
      have a5 := (HB.out.cell (p := ⟨g, k * 7 + 5, none⟩) hg).trans a5
      have a6 := (HB.out.cell (p := ⟨g, k * 7 + 6, none⟩) hg).trans a6
      have hbx : Below w.heap.size w (wr.alloc (.cells #[.int .i64 k2, .int .i64 cd, .int .i64 md, .bool al, .int .u8 rq, .slice xc nc cc, .slice xr nr cr] 41)) := bal HB.out _
      have HBX := hid hbx
      have HM0 := hid (HM.out _ hbx)
      generalize makeF ⟨k2, cd, md, al, rq, cs, rs⟩ = m at HM0 hfo hrc
      obtain ⟨er, ⟨fid, fds⟩⟩ := m
      dsimp only at hfo hrc
      have HFOK := hid hfo
      have HRCK := hid hrc
      have HOX := hid (own_moved HO.out.1 (Moved.below (bal (Below.refl wr.heap.size wr) (.cells #[.int .i64 k2, .int .i64 cd, .int .i64 md, .bool al, .int .u8 rq, .slice xc nc cc, .slice xr nr cr] 41)) []) (fun _ _ q => by cases q))
      clear hbx hfo hrc
      go_wp2_with fail
      with_reducible refine HM0.out.mono ?_
      rintro e V1 ⟨dv, rfl, ho, hb1, hk1⟩
      dsimp only at ho ⊢
      have HD := hid ho
      obtain ⟨xd, nd, dd, rfl⟩ := own_slice ho
      have HBV := hid (below_t HBX.out hb1)
      have HOV := hid (own_moved HOX.out (Moved.below hb1 []) (fun _ _ q => by cases q))
      clear ho hb1 hk1 a0 a1 a2 a3 a4 a5 a6
      by_cases he : er = 0
      · subst he
        have hrc2 := HRCK.out.trans (if_neg (fun q => q rfl))
        have hbA : Below V1.heap.size V1 (V1.alloc (.cells #[.int .u8 fid, .slice xd nd dd] 36)) := bal (Below.refl _ _) _
        have HBY := hid (rbytes_any ⟨fid, fds⟩ (.slice xd nd dd) (V1.alloc (.cells #[.int .u8 fid, .slice xd nd dd] 36)) (HD.out.step hbA).reads HFOK.out.1 HFOK.out.2)
        have HBW := hid (below_t HBV.out hbA)
        have HOW := hid (own_moved HOV.out (Moved.below hbA []) (fun _ _ q => by cases q))
        have hbl := byteF_len ⟨fid, fds⟩
        generalize byteF ⟨fid, fds⟩ = bf at HBY hrc2 hbl
        obtain ⟨er3, bs⟩ := bf
        dsimp only at HBY hrc2 hbl
        have HRC2 := hid hrc2
        have HBL := hid hbl
        clear hrc2 hbA hbl
        go_wp2_with fail
        with_reducible refine HBY.out.mono ?_
        rintro e V2 ⟨bv, rfl, hob, hb2, hkb⟩
        dsimp only at hob ⊢
        obtain ⟨nb, hnb⟩ : ∃ nb, bs.length = nb := ⟨_, rfl⟩
        have HNB := hid hnb
        obtain ⟨xv, cv, rfl⟩ := own_len hob nb hnb
        have HU := hid hob.reads
        have HBZ := hid (below_t HBW.out hb2)
        have HOZ := hid (own_moved HOW.out (Moved.below hb2 []) (fun _ _ q => by cases q))
        clear hnb hob hb2 hkb
        by_cases he3 : er3 = 0
        · subst he3
          have HRE := hid (HRC2.out.trans (if_neg (fun q => q rfl)))
          have HLE := hid (show acc.length + bs.length ≤ 10000000 by have h1 := HO.out.2.2; have h2 := HBL.out; have h3 := Nat.mul_le_mul_left 8192 hk; omega)
          go_wp2_with (at_builtin; refine wpList_append_bytes rfl (.tmp 33) (.tmp 34) rfl w.heap.size acc.length _ _ acc bs rfl rfl HOZ.out HU.out HLE.out HBZ.out.size (acc ++ bs).length (List.length_append).symm (acc ++ bs) rfl ?_; intro y cap w' hown hgrow; have HW := hid hown; have HBG := hid (HBZ.out.grown hgrow HBZ.out.size (fun q hq => (HOZ.out.lt q hq).1)); clear hown hgrow)
          go_roundw
          case rel => exact ⟨k + 1, acc ++ bs, by omega, by go_num, HRE, hid ⟨by have q := HW.out; simp only [List.length_append] at q ⊢; exact q, HO.out.2.1.append HU.out.1, by have h1 := HO.out.2.2; have h2 := HBL.out; rw [List.length_append]; omega⟩, HBG⟩
          case measure => simp [intOf]; omega
        · have HE := HRC2.out.trans (if_pos he3)
          have HF := hid (show BysD R w (.returned (.tuple #[.slice none 0 0, .int .i64 er3])) V2 by rw [HE]; exact HNO.out er3 _ HBZ.out)
          have hne : (er3 == 0) = false := by simpa using he3
          clear HE
          go_wp2
          go_ret2
          exact HF.out
      · have HE := HRCK.out.trans (if_pos he)
        have HF := hid (show BysD R w (.returned (.tuple #[.slice none 0 0, .int .i64 er])) (V1.alloc (.cells #[.int .u8 fid, .slice xd nd dd] 36)) by rw [HE]; exact HNO.out er _ (bal HBV.out _))
        have hne : (er == 0) = false := by simpa using he
        clear HE
        go_wp2
        go_ret2
        exact HF.out
    · obtain rfl : k = N := by omega
      have hre : R = if 8192 < acc.length then (3, []) else (0, acc) := by
        have q := HR.out
        rw [← HN.out] at q
        exact q.trans (HRN.out acc)
      by_cases h8 : 8192 < acc.length
      · have HE := hre.trans (if_pos h8)
        have HF := hid (show BysD R w (.returned (.tuple #[.slice none 0 0, .int .i64 3])) wr by rw [HE]; exact HNO.out 3 _ HB.out)
        have h8i : (8192 : Int) < acc.length := by omega
        clear hre HE
        go_wp2
        go_ret2
        exact HF.out
      · have HE := hre.trans (if_neg h8)
        have HF := hid (show BysD R w (.returned (.tuple #[.slice xb acc.length cb, .int .i64 0])) wr by rw [HE]; exact ⟨_, rfl, ⟨HO.out.2.1, HO.out.1.mono (Nat.zero_le _)⟩, HB.out, fun q hq => (HO.out.1.lt q (mem_blkV.1 hq)).1⟩)
        have h8i : ¬ (8192 : Int) < acc.length := by omega
        clear hre HE
        go_wp2
        go_ret2
        exact HF.out
end Go.Proofs.YtdpgmepblmlaaaaDoor
