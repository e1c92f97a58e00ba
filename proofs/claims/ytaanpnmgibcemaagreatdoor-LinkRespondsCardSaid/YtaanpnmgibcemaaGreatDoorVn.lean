/-
  read: as many bytes as one event can be made of.
-/
import Derived.Test.YtaanpnmgibcemaaGreatDoorVm
namespace Go.Proofs.YtaanpnmgibcemaaGreatDoor
open Go.RowKit Go.Lib

section
variable {L : Nat} {c : Cf} {y : Ly} {k : Lk} {w : World}
/-- A part of the bytes was read: at least one. -/
def ReadD (L : Nat) (c : Cf) (y : Ly) (k : Lk) (p : Value) (ps : List Int) (w : World) (e : Ending) (w' : World) : Prop :=
  ∃ (m : Nat) (vx : Option Addr) (vc : Nat) (xs : List (Tn.Ev × Value)) (rx : Option Addr) (rc' : Nat) (d' : Value), 1 ≤ m ∧ m ≤ ps.length ∧ e = .returned (.tuple #[.slice vx xs.length vc, .slice rx (ps.length - m) rc']) ∧ Tn.OwnL w' (.slice vx xs.length vc) xs ∧ xs.map (·.1) = Tn.mergeL (Tn.emit k.st (ps.take m)) ∧ LkM w' L c { y with d := d' } { k with st := Tn.runS k.st (ps.take m) } ∧ Moved w w' (y.foot L) (Ly.foot { y with d := d' } L) ∧ (∀ b ∈ Tn.blks (.slice vx xs.length vc) xs, b ∉ Ly.foot { y with d := d' } L) ∧ (∀ b ∈ Tn.blks (.slice vx xs.length vc) xs, b ∈ y.foot L ∨ w.heap.size ≤ b) ∧ Ng.RdG w' (.slice rx (ps.length - m) rc') (ps.drop m) ∧ ∀ b ∈ blkV (.slice rx (ps.length - m) rc'), b ∈ blkV p
theorem last_kind {w : World} {vx : Option Addr} {vc m : Nat} {xs : List (Tn.Ev × Value)} (h : Tn.OwnL w (.slice vx xs.length vc) xs) (hm : xs.length = m + 1) : ∃ g z, vx = some ⟨g, 0, none⟩ ∧ w.cell? ⟨g, m * 6, none⟩ = some (.int .i64 z) := by
  rcases h.row.2 with ⟨e, e2⟩ | ⟨g, cap, cur, e, hg, hh, h1, h2, h3, h4⟩
  · omega
  · simp only [Value.slice.injEq] at e
    refine ⟨g, xs[m].1.kind, e.1, ?_⟩
    have hrow := h.row
    rw [e.1] at hrow
    have := World.ownsRow.cellAt hrow (m * 6) (by omega)
    rw [this]
    have q := Tn.cellsE_at xs m (by omega) 0 (by omega)
    rw [Nat.add_zero] at q
    rw [q]
    rfl
theorem fromA_some (g off cc k : Nat) : Ng.fromA (some ⟨g, off, none⟩) cc k = if cc = k then some ⟨g, off, none⟩ else some ⟨g, off + k, none⟩ := by
  unfold Ng.fromA
  split
  · rfl
  · simp [addr_add]
theorem evs_le (st : Tn.St) (ps : List Int) (hs : st.wt ≤ 256) : Tn.wt (Tn.mergeL (Tn.emit st ps)) ≤ 256 + 3 * ps.length := by
  have a := Tn.wt_merge (Tn.emit st ps)
  have b := Tn.wt_emit st ps
  omega
theorem xs_le {xs : List (Tn.Ev × Value)} {st : Tn.St} {ps : List Int} (hs : st.wt ≤ 256) (h : xs.map (·.1) = Tn.mergeL (Tn.emit st ps)) : xs.length ≤ 256 + 3 * ps.length := by
  have a := Tn.wt_length (xs.map (·.1))
  have b := evs_le st ps hs
  rw [h, ← h, List.length_map] at a
  rw [← h] at b
  omega
theorem RdG_at {w : World} {x : Option Addr} {n cc : Nat} {ps : List Int} (h : Ng.RdG w (.slice x n cc) ps) (hn0 : ps ≠ []) : ∃ g off, x = some ⟨g, off, none⟩ ∧ n = ps.length ∧ n ≤ cc := by
  obtain ⟨g, off, cap, e, h1, h2, h3⟩ := h.row hn0
  simp only [Value.slice.injEq] at e
  exact ⟨g, off, e.1, e.2.1, by omega⟩
theorem LkOK.stt (hk : LkOK c k) {s : Tn.St} (hs : StOK s) : LkOK c { k with st := s } := ⟨hk.T, hk.D, hk.fs, hk.es, hk.ag, hk.rc, hk.sq, hs⟩
theorem run_appendE_none (w : World) {B n : Nat} {v : Value} {xs : List Value} (h : w.ownsRow B 123 6 v n xs) (ty : TypeId) : (Builtin.append_ #[129, 129] ty #[v, .slice none 0 0]).run Tryz.prog w = .ok v w := by
  obtain ⟨i0, hi, hz0, hz1, hz2⟩ := info_parts Tn.info37
  rcases h.2 with ⟨rfl, _⟩ | ⟨g, cap, cur, rfl, _, _, hnc, _⟩
  · simp [Builtin.append_, run_underlying Tryz.underlying129, sizeOf, typeInfo, hi, Builtin.lenOf, Builtin.firstCells]
  · simp [Builtin.append_, run_underlying Tryz.underlying129, sizeOf, typeInfo, hi, Builtin.lenOf, Builtin.firstCells, hnc, storeCells]
/-- Events behind events: what comes is read as both. -/
theorem run_append_evs {w : World} {v u : Value} {xs ys : List (Tn.Ev × Value)} (h1 : Tn.OwnL w v xs) (h2 : Tn.OwnL w u ys) (hap : ∀ b ∈ blkV v, ∀ x ∈ xs ++ ys, b ∉ blkV x.2) (hl : xs.length + ys.length ≤ 100000) (ty : TypeId) :
    ∃ x' n' c' w', (Builtin.append_ #[129, 129] ty #[v, u]).run Tryz.prog w = .ok (.slice x' n' c') w' ∧ Tn.EvsX w' (.slice x' n' c') (xs ++ ys) ∧ Moved w w' (blkV v) (blkV (.slice x' n' c')) := by
  obtain ⟨i0, hi, hz0, hz1, hz2⟩ := info_parts Tn.info37
  rcases h2.row.2 with ⟨rfl, e⟩ | ⟨g, cap, cur, rfl, hg, hh, hnc, hcm, hcs, htake⟩
  · have hy : ys = [] := List.length_eq_zero_iff.1 e
    subst hy
    obtain ⟨x', c', rfl⟩ := Tn.row_anyK h1.row
    refine ⟨x', xs.length, c', w, run_appendE_none w h1.row ty, ?_, Moved.refl _ _⟩
    rw [List.append_nil]
    exact h1.evsX
  · have hone : ∀ z ∈ Tn.cellsE ys, z.oneCell' = true := fun z hz => by
      obtain ⟨x, hx, hz⟩ := List.mem_flatMap.1 hz
      exact Tn.one_evC x.1 x.2 (Tn.own_one (h2.data x hx)) z hz
    obtain ⟨v', w', hrun, hown, hgr, _, hk⟩ := run_append_blk (P := Tryz.prog) w 129 ty 123 i0 _ 6 48 Tryz.underlying129 hi hz0 hz1 hz2 rfl (by decide) v xs.length _ h1.row ⟨g, 0, none⟩ ys.length cap (Tn.cellsE ys) (Tn.cellsE_length ys) (h2.row.cells rfl) hone (by unfold maxLen; omega) (by omega)
    have hm : Moved w w' (blkV v) (blkV v') := Moved.grown hgr (fun k e => mem_blkV.2 e) hk
    rw [← Tn.cellsE_append, ← List.length_append] at hown
    obtain ⟨x', c', rfl⟩ := Tn.row_anyK hown
    refine ⟨x', _, c', w', hrun, Tn.row_evs hown (fun x hx => ?_), hm⟩
    have hd : OwnB w x.2 x.1.data := by
      rcases List.mem_append.1 hx with q | q
      · exact h1.data x q
      · exact h2.data x q
    exact (hd.moved hm (fun b q e => hap b e x hx q)).reads
set_option maxRecDepth 100000 in
set_option maxHeartbeats 4000000 in
theorem read_any (x : Option Addr) (n cc : Nat) (ps : List Int) (h : LkM w L c y k) (hk : LkOK c k) (hr : Ng.RdG w (.slice x n cc) ps) (hn0 : ps ≠ []) (hpf : ∀ b ∈ blkV (.slice x n cc), b ∉ y.foot L) (hpl : ∀ b ∈ blkV (.slice x n cc), b < w.heap.size) (hl : ps.length ≤ 7000) : Calls Tryz.prog 65 #[.pointer (some ⟨L, 0, none⟩), .slice x n cc] w (ReadD L c y k (.slice x n cc) ps w) := by
  obtain ⟨g, off, rfl, hn, hc⟩ := RdG_at hr hn0
  have hn1 : 1 ≤ n := by
    rcases ps with _ | ⟨a, b⟩
    · exact absurd rfl hn0
    · rw [hn]; simp
  have hr1 : Reads w (.slice (some ⟨g, off, none⟩) 1 cc) (ps.take 1) := (hr.take hn 1 hn1).reads
  obtain ⟨x2, hx2⟩ : ∃ x2 : Option Addr, x2 = if cc = 1 then some ⟨g, off, none⟩ else some ⟨g, off + 1, none⟩ := ⟨_, rfl⟩
  have hfa : Ng.fromA (some ⟨g, off, none⟩) cc 1 = x2 := (fromA_some g off cc 1).trans hx2.symm
  have hr2 := hr.from' hn 1 hn1
  rw [hfa] at hr2
  have hpb : ∀ b ∈ blkV (.slice x2 (n - 1) (cc - 1)), b ∈ blkV (.slice (some ⟨g, off, none⟩) n cc) := by rw [← hfa]; exact Ng.blk_from
  have hf2 : ∀ b ∈ blkV (.slice x2 (n - 1) (cc - 1)), b ∉ y.foot L := fun b q => hpf b (hpb b q)
  have HFD := hid (feedL_any _ (ps.take 1) (h.step (Below.refl _ _).drew) hk (reads_below hr1 (Below.refl _ _).drew) (fun b q => hpf b q) (by rw [List.length_take]; omega))
  have c0 := h.b.c0
  have HST := hid (RIn_wt h.rdr)
  have hL := h.b.lt
  have HR2 := hid hr2
  have HF2 := hid hf2
  have HPB := hid hpb
  have HLN := hid (show y.R ∈ y.foot L from mem_foot.2 (by simp))
  have hci : (1 : Int) ≤ cc := by omega
  have hni : (1 : Int) ≤ n := by omega
  have hn2 : n - 1 = (ps.drop 1).length := by rw [List.length_drop, hn]
  have HPL := hid hpl
  have HBY := hid (show ∀ b ∈ ps.take 1, 0 ≤ b ∧ b < 256 from fun b q => hr.1 b (List.mem_of_mem_take q))
  have HBD := hid (show ∀ b ∈ ps.drop 1, 0 ≤ b ∧ b < 256 from fun b q => hr.1 b (List.mem_of_mem_drop q))
  have HPF := hid hpf
  have HN := hid hn
  have HX2 := hid hx2
  clear h hr hr1 hr2 hpb hf2 hpf hn hx2 hfa hn2 hpl
  go_enter Tryz.func65, Tryz.ntmps65
  go_wp2_with fail
  refine wp_region_held_drew (S := (fun w' => w'.cell? ⟨L, 0, none⟩ = some (.pointer (some ⟨y.R, 0, none⟩)))) (by kernel_rfl) ?_ (fun hHeld => ?_)
  · exact c0
  refine takeD (i := 0) (v := ?_) 10 rfl rfl (by kernel_rfl) (by kernel_rfl) (by kernel_rfl) (fun _ _ _ h => h) (by assumption) (Or.inl ⟨by rfl, ?_⟩) ?_
  rotate_left
  · intro w hSw
    (try dsimp only at hSw)
    go_simp
    try with_reducible rfl
  simp only [List.setIfInBounds_toArray, List.set_cons_zero, List.set_cons_succ]
  refine takeD (i := 1) (v := ?_) 11 rfl rfl (by kernel_rfl) (by kernel_rfl) (by kernel_rfl) (fun _ _ _ h => h) (by assumption) (Or.inl ⟨by rfl, ?_⟩) ?_
  rotate_left
  · intro w hSw
    (try dsimp only at hSw)
    go_simp
    try with_reducible rfl
  simp only [List.setIfInBounds_toArray, List.set_cons_zero, List.set_cons_succ]
  refine takeD (i := 2) (v := ?_) 12 rfl rfl (by kernel_rfl) (by kernel_rfl) (by kernel_rfl) (fun _ _ _ h => h) (by assumption) (Or.inl ⟨by rfl, ?_⟩) ?_
  rotate_left
  · intro w hSw
    (try dsimp only at hSw)
    go_simp
    try with_reducible rfl
  simp only [List.setIfInBounds_toArray, List.set_cons_zero, List.set_cons_succ]
  refine takeD (i := 3) (v := ?_) 13 rfl rfl (by kernel_rfl) (by kernel_rfl) (by kernel_rfl) (fun _ _ _ h => h) (by assumption) (Or.inl ⟨by rfl, ?_⟩) ?_
  rotate_left
  · intro w hSw
    (try dsimp only at hSw)
    go_simp
    try with_reducible rfl
  simp only [List.setIfInBounds_toArray, List.set_cons_zero, List.set_cons_succ]
  refine takeD (i := 4) (v := ?_) 14 rfl rfl (by kernel_rfl) (by kernel_rfl) (by kernel_rfl) (fun _ _ _ h => h) (by assumption) (Or.inl ⟨by rfl, ?_⟩) ?_
  rotate_left
  · intro w hSw
    (try dsimp only at hSw)
    go_simp
    try with_reducible rfl
  simp only [List.setIfInBounds_toArray, List.set_cons_zero, List.set_cons_succ]
  refine takeD (i := 5) (v := ?_) 15 rfl rfl (by kernel_rfl) (by kernel_rfl) (by kernel_rfl) (fun _ _ _ h => h) (by assumption) (Or.inl ⟨by rfl, ?_⟩) ?_
  rotate_left
  · intro w hSw
    (try dsimp only at hSw)
    go_simp
    try with_reducible rfl
  simp only [List.setIfInBounds_toArray, List.set_cons_zero, List.set_cons_succ]
  refine takeD (i := 7) (v := ?_) 17 rfl rfl (by kernel_rfl) (by kernel_rfl) (by kernel_rfl) (fun _ _ _ h => h) (by assumption) (Or.inl ⟨by rfl, ?_⟩) ?_
  rotate_left
  · intro w hSw
    (try dsimp only at hSw)
    go_simp
    try with_reducible rfl
  simp only [List.setIfInBounds_toArray, List.set_cons_zero, List.set_cons_succ]
  refine takeD (i := 8) (v := ?_) 18 rfl rfl (by kernel_rfl) (by kernel_rfl) (by kernel_rfl) (fun _ _ _ h => h) (by assumption) (Or.inl ⟨by rfl, ?_⟩) ?_
  rotate_left
  · intro w hSw
    (try dsimp only at hSw)
    go_simp
    try with_reducible rfl
  simp only [List.setIfInBounds_toArray, List.set_cons_zero, List.set_cons_succ]
  refine wpAnyH_ready (rs := [6]) (by kernel_rfl) (by simp) ?_
  refine AllReadyH.cons (by simp only [List.getElem?_toArray, List.getElem?_cons_succ, List.getElem?_cons_zero]; rfl) (fun K hK => ?_) AllReadyH.nil
  go_simp
  with_reducible refine HFD.out.mono ?_
  rintro e w1 ⟨vx, vc, xs, d1, rfl, ho, hx, h1, m1, hap, hfr⟩
  refine hK.out _ _ ?_ (fun hHeldN => ?_)
  · exact h1.b.c0
  clear hK K hHeld
  have hHeld := hHeldN
  clear hHeldN
  (try simp only [Act.put, List.setIfInBounds_toArray, List.set_cons_zero, List.set_cons_succ])
  refine takeD (i := 9) (v := ?_) 6 rfl rfl (by kernel_rfl) (by kernel_rfl) (by kernel_rfl) (fun _ _ _ h => h) (by assumption) (Or.inl ⟨by rfl, ?_⟩) ?_
  rotate_left
  · intro w hSw
    (try dsimp only at hSw)
    go_simp
    try with_reducible rfl
  simp only [List.setIfInBounds_toArray, List.set_cons_zero, List.set_cons_succ]
  refine takeD (i := 10) (v := ?_) 7 rfl rfl (by kernel_rfl) (by kernel_rfl) (by kernel_rfl) (fun _ _ _ h => h) (by assumption) (Or.inl ⟨by rfl, ?_⟩) ?_
  rotate_left
  · intro w hSw
    (try dsimp only at hSw)
    go_simp
    try with_reducible rfl
  simp only [List.setIfInBounds_toArray, List.set_cons_zero, List.set_cons_succ]
  refine wpAnyH_done (by kernel_rfl) ?_ _
  clear hHeld
  rw [← HX2.out]
  replace m1 := (Moved.below (Below.refl w.heap.size w).drew (y.foot L)).trans m1
  by_cases hx0 : xs.length = 0
  · rw [hx0]
    have HX := hid (show ReadD L c y k (.slice (some ⟨g, off, none⟩) n cc) ps w (.returned (.tuple #[.slice vx xs.length vc, .slice x2 (n - 1) (cc - 1)])) w1 from
      ⟨1, vx, vc, xs, _, _, d1, Nat.le_refl _, by have := HN.out; omega, by rw [← HN.out], ho, hx, h1, m1, hap, hfr, by rw [← HN.out]; exact HR2.out.moved m1 HF2.out, by rw [← HN.out]; exact HPB.out⟩)
    rw [hx0] at HX
    clear ho hx h1 m1 hap hfr
    go_wp2
    go_ret2
    exact HX.out
  · obtain ⟨m, hm⟩ : ∃ m, xs.length = m + 1 := ⟨xs.length - 1, by omega⟩
    have hml : m ≤ 1000 := by
      have := xs_le HST.out hx
      rw [List.length_take] at this
      omega
    obtain ⟨g1, z, rfl, hz⟩ := last_kind ho hm
    by_cases hz0 : z = 0
    · subst hz0
      generalize hn2 : n - 1 = n2 at HR2 HF2 HPB ⊢
      generalize cc - 1 = cc2 at HR2 HF2 HPB ⊢
      obtain ⟨off2, hx2o⟩ : ∃ off2, x2 = some ⟨g, off2, none⟩ := by
        rw [HX2.out]
        split
        · exact ⟨_, rfl⟩
        · exact ⟨_, rfl⟩
      subst hx2o
      have hr1w := HR2.out.moved m1 HF2.out
      have hn2l : n2 = (ps.drop 1).length := by rw [List.length_drop, ← HN.out, hn2]
      have hn2c : n2 ≤ cc2 := (Ng.RdG.cap hr1w).1
      have HDL := hid (dataLength_any _ n2 cc2 (ps.drop 1) w1 hr1w.reads (by have := HN.out; omega))
      have HF1 := hid (show ∀ b ∈ blkV (.slice (some ⟨g, off2, none⟩) n2 cc2), b ∉ Ly.foot { y with d := d1 } L from fun b q e => by
        rcases m1.from' b e with f | f
        · exact HF2.out b q f
        · have := HPL.out b (HPB.out b q); omega)
      have HN2L := hid hn2l
      have HN2 := hid hn2
      have HXS := hid hx
      have HO1 := hid ho
      have HA1 := hid hap
      have HFR1 := hid hfr
      have HH1 := hid h1
      have HM1 := hid m1
      have HRW := hid hr1w
      rw [hm]
      have c01 := h1.b.c0
      have hL1 := h1.b.lt
      clear ho hx h1 m1 hap hfr hr1w HFD c0 hn2l hn2
      go_wp2_with fail
      with_reducible refine HDL.out.mono ?_
      rintro e w1' ⟨md, rfl, hmd, rfl⟩
      have HBZ := hid (show ∀ b ∈ (ps.drop 1).take md, 0 ≤ b ∧ b < 256 from fun b q => HBD.out b (List.mem_of_mem_take q))
      have hmc : (md : Int) ≤ cc2 := by omega
      have hmn : (md : Int) ≤ n2 := by omega
      have HRT := hid (HRW.out.take HN2L.out md hmd).reads
      have HFD2 := hid (feedL_any (.slice (some ⟨g, off2, none⟩) md cc2) ((ps.drop 1).take md) (HH1.out.step (Below.refl _ _).drew) (hk.stt (runS_ok hk.st _ HBY.out)) (reads_below HRT.out (Below.refl _ _).drew) (fun b q => HF1.out b q) (by rw [List.length_take, List.length_drop]; have := HN.out; omega))
      go_wp2_with fail
      refine wp_region_held_drew (S := (fun w' => w'.cell? ⟨L, 0, none⟩ = some (.pointer (some ⟨y.R, 0, none⟩)))) (by kernel_rfl) ?_ (fun hHeld => ?_)
      · exact c01
      refine takeD (i := 0) (v := ?_) 36 rfl rfl (by kernel_rfl) (by kernel_rfl) (by kernel_rfl) (fun _ _ _ h => h) (by assumption) (Or.inl ⟨by rfl, ?_⟩) ?_
      rotate_left
      · intro w hSw
        (try dsimp only at hSw)
        go_simp
        try with_reducible rfl
      simp only [List.setIfInBounds_toArray, List.set_cons_zero, List.set_cons_succ]
      refine takeD (i := 1) (v := ?_) 37 rfl rfl (by kernel_rfl) (by kernel_rfl) (by kernel_rfl) (fun _ _ _ h => h) (by assumption) (Or.inl ⟨by rfl, ?_⟩) ?_
      rotate_left
      · intro w hSw
        (try dsimp only at hSw)
        go_simp
        try with_reducible rfl
      simp only [List.setIfInBounds_toArray, List.set_cons_zero, List.set_cons_succ]
      refine takeD (i := 2) (v := ?_) 38 rfl rfl (by kernel_rfl) (by kernel_rfl) (by kernel_rfl) (fun _ _ _ h => h) (by assumption) (Or.inl ⟨by rfl, ?_⟩) ?_
      rotate_left
      · intro w hSw
        (try dsimp only at hSw)
        go_simp
        try with_reducible rfl
      simp only [List.setIfInBounds_toArray, List.set_cons_zero, List.set_cons_succ]
      refine takeD (i := 3) (v := ?_) 39 rfl rfl (by kernel_rfl) (by kernel_rfl) (by kernel_rfl) (fun _ _ _ h => h) (by assumption) (Or.inl ⟨by rfl, ?_⟩) ?_
      rotate_left
      · intro w hSw
        (try dsimp only at hSw)
        go_simp
        try with_reducible rfl
      simp only [List.setIfInBounds_toArray, List.set_cons_zero, List.set_cons_succ]
      refine takeD (i := 4) (v := ?_) 40 rfl rfl (by kernel_rfl) (by kernel_rfl) (by kernel_rfl) (fun _ _ _ h => h) (by assumption) (Or.inl ⟨by rfl, ?_⟩) ?_
      rotate_left
      · intro w hSw
        (try dsimp only at hSw)
        go_simp
        try with_reducible rfl
      simp only [List.setIfInBounds_toArray, List.set_cons_zero, List.set_cons_succ]
      refine takeD (i := 5) (v := ?_) 41 rfl rfl (by kernel_rfl) (by kernel_rfl) (by kernel_rfl) (fun _ _ _ h => h) (by assumption) (Or.inl ⟨by rfl, ?_⟩) ?_
      rotate_left
      · intro w hSw
        (try dsimp only at hSw)
        go_simp
        try with_reducible rfl
      simp only [List.setIfInBounds_toArray, List.set_cons_zero, List.set_cons_succ]
      refine takeD (i := 6) (v := ?_) 42 rfl rfl (by kernel_rfl) (by kernel_rfl) (by kernel_rfl) (fun _ _ _ h => h) (by assumption) (Or.inl ⟨by rfl, ?_⟩) ?_
      rotate_left
      · intro w hSw
        (try dsimp only at hSw)
        go_simp
        try with_reducible rfl
      simp only [List.setIfInBounds_toArray, List.set_cons_zero, List.set_cons_succ]
      refine takeD (i := 7) (v := ?_) 43 rfl rfl (by kernel_rfl) (by kernel_rfl) (by kernel_rfl) (fun _ _ _ h => h) (by assumption) (Or.inl ⟨by rfl, ?_⟩) ?_
      rotate_left
      · intro w hSw
        (try dsimp only at hSw)
        go_simp
        try with_reducible rfl
      simp only [List.setIfInBounds_toArray, List.set_cons_zero, List.set_cons_succ]
      refine wpAnyH_ready (rs := [8]) (by kernel_rfl) (by simp) ?_
      refine AllReadyH.cons (by simp only [List.getElem?_toArray, List.getElem?_cons_succ, List.getElem?_cons_zero]; rfl) (fun K hK => ?_) AllReadyH.nil
      go_simp
      with_reducible refine HFD2.out.mono ?_
      rintro e w2 ⟨v2x, v2c, xs2, d2, rfl, ho2, hx2, h2, m2, hap2, hfr2⟩
      have H2 := hid h2
      refine hK.out _ _ ?_ (fun hHeldN => ?_)
      · exact H2.out.b.c0
      clear hK K hHeld
      have hHeld := hHeldN
      clear hHeldN
      (try simp only [Act.put, List.setIfInBounds_toArray, List.set_cons_zero, List.set_cons_succ])
      have HM2 := hid m2
      have hv1n : ∀ b ∈ blkV (.slice (some ⟨g1, 0, none⟩) xs.length vc), b ∉ Ly.foot { y with d := d1 } L ∧ b < w1.heap.size := fun b q => ⟨HA1.out b (Tn.mem_blks.2 (.inl q)), HO1.out.lt b (Tn.mem_blks.2 (.inl q))⟩
      have ho1' : Tn.OwnL w2 (.slice (some ⟨g1, 0, none⟩) xs.length vc) xs := HO1.out.moved ((Moved.below (Below.refl w1.heap.size w1).drew (Ly.foot { y with d := d1 } L)).trans m2) (fun b q => HA1.out b q)
      obtain ⟨v3x, n3, v3c, w3, hrun, hev3, hm3⟩ := run_append_evs ho1' ho2 (fun b q x hx e => by
        rcases List.mem_append.1 hx with f | f
        · exact (Tn.blks_nodup.1 HO1.out.apart).2 b q x f e
        · have h1 := hv1n b q
          rcases hfr2 b (Tn.mem_blks.2 (.inr ⟨x, f, e⟩)) with r | r
          · exact h1.1 r
          · have h2 : w1.heap.size ≤ b := r
            omega) (by
        have h1 := xs_le HST.out HXS.out
        have h2 := xs_le (RIn_wt HH1.out.rdr) hx2
        simp only [List.length_take, List.length_drop] at h1 h2
        omega) 129
      have hv1f : ∀ b ∈ blkV (.slice (some ⟨g1, 0, none⟩) xs.length vc), b ∉ Ly.foot { y with d := d2 } L := fun b q => foot_new HM2.out (hv1n b q).2 (hv1n b q).1
      have h3 := H2.out.moved hm3 (fun b q e => hv1f b e q)
      have H3 := hid h3
      rw [hm] at hrun
      refine wpAnyH_ready (rs := [9]) (by kernel_rfl) (by simp) ?_
      refine AllReadyH.cons (by simp only [List.getElem?_toArray, List.getElem?_cons_succ, List.getElem?_cons_zero]; rfl) (fun K hK => ?_) AllReadyH.nil
      refine step_append_run (by rfl) _ _ _ (by rfl) _ _ _ _ (by rfl) (by rfl) hrun ?_
      refine hK.out _ _ ?_ (fun hHeldN => ?_)
      · exact H3.out.b.c0
      clear hK K hHeld
      have hHeld := hHeldN
      clear hHeldN
      (try simp only [Act.put, List.setIfInBounds_toArray, List.set_cons_zero, List.set_cons_succ])
      refine takeD (i := 10) (v := ?_) 6 rfl rfl (by kernel_rfl) (by kernel_rfl) (by kernel_rfl) (fun _ _ _ h => h) (by assumption) (Or.inl ⟨by rfl, ?_⟩) ?_
      rotate_left
      · intro w hSw
        (try dsimp only at hSw)
        go_simp
        try with_reducible rfl
      simp only [List.setIfInBounds_toArray, List.set_cons_zero, List.set_cons_succ]
      refine wpAnyH_done (by kernel_rfl) ?_ _
      clear hHeld
      have HM3 := hid (show Moved w1 w3 (Ly.foot { y with d := d1 } L ++ blkV (.slice (some ⟨g1, 0, none⟩) xs.length vc)) (Ly.foot { y with d := d2 } L) from by
        have q1 := (Moved.below (Below.refl w1.heap.size w1).drew (Ly.foot { y with d := d1 } L)).trans HM2.out
        have q2 := q1.sub (T := Ly.foot { y with d := d1 } L ++ blkV (.slice (some ⟨g1, 0, none⟩) xs.length vc)) (T' := Ly.foot { y with d := d2 } L ++ blkV (.slice (some ⟨g1, 0, none⟩) xs.length vc)) (fun b q => List.mem_append.2 (.inl q)) (fun b q => by
          rcases List.mem_append.1 q with f | f
          · exact .inl f
          · exact .inr (List.mem_append.2 (.inr f)))
        exact q2.trans (hm3.sub (fun b q => List.mem_append.2 (.inr q)) (fun b q => .inr (List.mem_append.2 (.inl q)))))
      have HVF := hid (show ∀ b ∈ blkV (.slice (some ⟨g1, 0, none⟩) xs.length vc), b ∈ y.foot L ∨ w.heap.size ≤ b from fun b q => HFR1.out b (Tn.mem_blks.2 (.inl q)))
      have HX2S := hid hx2
      have HWT := hid (show Tn.wt ((xs ++ xs2).map (·.1)) ≤ 100000 from by
        rw [List.map_append, Tn.wt_append, HXS.out, hx2]
        have h1 := evs_le k.st (ps.take 1) HST.out
        have h2 := evs_le (Tn.runS k.st (ps.take 1)) ((ps.drop 1).take md) (RIn_wt HH1.out.rdr)
        simp only [List.length_take, List.length_drop] at h1 h2
        refine Nat.le_trans (Nat.add_le_add h1 h2) ?_
        omega)
      have HMG := hid (Tn.merge_any (.slice v3x n3 v3c) (xs ++ xs2) w3.drew (Tn.evsX_below hev3 (Below.refl _ _).drew) HWT.out)
      clear hrun hev3 hm3 hv1f hv1n ho1' h3 ho2 hx2 h2 m2 hap2 hfr2
      go_wp2_with fail
      refine wp_region_held_drew (S := (fun _ => True)) (by kernel_rfl) ?_ (fun hHeld => ?_)
      · trivial
      refine takeD (i := 0) (v := ?_) 46 rfl rfl (by kernel_rfl) (by kernel_rfl) (by kernel_rfl) (fun _ _ _ h => h) (by assumption) (Or.inl ⟨by rfl, ?_⟩) ?_
      rotate_left
      · intro w hSw
        (try dsimp only at hSw)
        go_simp
        try with_reducible rfl
      simp only [List.setIfInBounds_toArray, List.set_cons_zero, List.set_cons_succ]
      refine takeD (i := 2) (v := ?_) 48 rfl rfl (by kernel_rfl) (by kernel_rfl) (by kernel_rfl) (fun _ _ _ h => h) (by assumption) (Or.inl ⟨by rfl, ?_⟩) ?_
      rotate_left
      · intro w hSw
        (try dsimp only at hSw)
        go_simp
        try with_reducible rfl
      simp only [List.setIfInBounds_toArray, List.set_cons_zero, List.set_cons_succ]
      refine takeD (i := 3) (v := ?_) 49 rfl rfl (by kernel_rfl) (by kernel_rfl) (by kernel_rfl) (fun _ _ _ h => h) (by assumption) (Or.inl ⟨by rfl, ?_⟩) ?_
      rotate_left
      · intro w hSw
        (try dsimp only at hSw)
        go_simp
        try with_reducible rfl
      simp only [List.setIfInBounds_toArray, List.set_cons_zero, List.set_cons_succ]
      refine takeD (i := 4) (v := ?_) 50 rfl rfl (by kernel_rfl) (by kernel_rfl) (by kernel_rfl) (fun _ _ _ h => h) (by assumption) (Or.inl ⟨by rfl, ?_⟩) ?_
      rotate_left
      · intro w hSw
        (try dsimp only at hSw)
        go_simp
        try with_reducible rfl
      simp only [List.setIfInBounds_toArray, List.set_cons_zero, List.set_cons_succ]
      refine wpAnyH_ready (rs := [1]) (by kernel_rfl) (by simp) ?_
      refine AllReadyH.cons (by simp only [List.getElem?_toArray, List.getElem?_cons_succ, List.getElem?_cons_zero]; rfl) (fun K hK => ?_) AllReadyH.nil
      go_simp
      with_reducible refine HMG.out.mono ?_
      rintro e w5 ⟨v5, xs5, rfl, ho5, hx5, hb5, hf5⟩
      obtain ⟨v5x, v5c, rfl⟩ := Tn.row_anyK ho5.row
      refine hK.out _ _ ?_ (fun hHeldN => ?_)
      · trivial
      clear hK K hHeld
      have hHeld := hHeldN
      clear hHeldN
      (try simp only [Act.put, List.setIfInBounds_toArray, List.set_cons_zero, List.set_cons_succ])
      refine takeD (i := 5) (v := ?_) 4 rfl rfl (by kernel_rfl) (by kernel_rfl) (by kernel_rfl) (fun _ _ _ h => h) (by assumption) (Or.inl ⟨by rfl, ?_⟩) ?_
      rotate_left
      · intro w hSw
        (try dsimp only at hSw)
        go_simp
        try with_reducible rfl
      simp only [List.setIfInBounds_toArray, List.set_cons_zero, List.set_cons_succ]
      refine takeD (i := 6) (v := ?_) 5 rfl rfl (by kernel_rfl) (by kernel_rfl) (by kernel_rfl) (fun _ _ _ h => h) (by assumption) (Or.inl ⟨by rfl, ?_⟩) ?_
      rotate_left
      · intro w hSw
        (try dsimp only at hSw)
        go_simp
        try with_reducible rfl
      simp only [List.setIfInBounds_toArray, List.set_cons_zero, List.set_cons_succ]
      refine wpAnyH_done (by kernel_rfl) ?_ _
      clear hHeld
      have hb35 : Below w3.heap.size w3 w5 := below_t (Below.refl w3.heap.size w3).drew hb5
      have h5 := H3.out.step hb35
      have m5 : Moved w1 w5 (Ly.foot { y with d := d1 } L ++ blkV (.slice (some ⟨g1, 0, none⟩) xs.length vc)) (Ly.foot { y with d := d2 } L) := HM3.out.trans (Moved.below hb35 _)
      have hgt := H3.out.lt ((hk.stt (runS_ok hk.st _ HBY.out)).stt (runS_ok (runS_ok hk.st _ HBY.out) _ HBZ.out))
      have hfa2 := fromA_some g off2 cc2 md
      have hrest := (HRW.out.from' HN2L.out md hmd)
      rw [hfa2, List.drop_drop] at hrest
      have hps : n2 - md = ps.length - (1 + md) := by have := HN.out; have := HN2.out; omega
      have hbk : ∀ b ∈ blkV (.slice (if cc2 = md then some ⟨g, off2, none⟩ else some ⟨g, off2 + md, none⟩) (n2 - md) (cc2 - md)), b ∈ blkV (.slice (some ⟨g, off2, none⟩) n2 cc2) := by
        rw [← hfa2]
        exact Ng.blk_from
      have HX := hid (show ReadD L c y k (.slice (some ⟨g, off, none⟩) n cc) ps w (.returned (.tuple #[.slice v5x xs5.length v5c, .slice (if cc2 = md then some ⟨g, off2, none⟩ else some ⟨g, off2 + md, none⟩) (n2 - md) (cc2 - md)])) w5 from by
        refine ⟨1 + md, v5x, v5c, xs5, _, cc2 - md, d2, by omega, by have := HN.out; have := HN2.out; omega, by rw [hps], ho5, ?_, ?_, ?_, ?_, ?_, ?_, ?_⟩
        · rw [hx5, List.map_append, HXS.out, HX2S.out, merge_two, ← Tn.emit_append, take_more]
        · have e : Tn.runS (Tn.runS k.st (ps.take 1)) ((ps.drop 1).take md) = Tn.runS k.st (ps.take (1 + md)) := by rw [← Tn.runS_append, take_more]
          rw [← e]
          exact h5
        · refine ⟨m5.os.trans HM1.out.os, m5.tape.trans HM1.out.tape, m5.output.trans HM1.out.output, Nat.le_trans HM1.out.size m5.size, fun b q1 q2 => ?_, fun b q => ?_⟩
          · have hn1 : b ∉ Ly.foot { y with d := d1 } L := fun f => by
              rcases HM1.out.from' b f with r | r
              · exact q2 r
              · omega
            refine (m5.block b (Nat.lt_of_lt_of_le q1 HM1.out.size) (fun e => ?_)).trans (HM1.out.block b q1 q2)
            rcases List.mem_append.1 e with f | f
            · exact hn1 f
            · rcases HVF.out b f with r | r
              · exact q2 r
              · omega
          · rcases m5.from' b q with f | f
            · rcases List.mem_append.1 f with f | f
              · exact HM1.out.from' b f
              · exact HVF.out b f
            · exact .inr (Nat.le_trans HM1.out.size f)
        · intro b q e
          have := hgt b e
          have h2 : w3.heap.size ≤ b := hf5 b q
          omega
        · intro b q
          have h2 : w3.heap.size ≤ b := hf5 b q
          have h3 := HM1.out.size
          have h4 := HM3.out.size
          exact .inr (by omega)
        · rw [← hps]
          refine hrest.moved m5 (fun b q e => ?_)
          rcases List.mem_append.1 e with f | f
          · exact HF1.out b (hbk b q) f
          · have h1 := HPB.out b (hbk b q)
            rcases HVF.out b f with r | r
            · exact HPF.out b h1 r
            · have := HPL.out b h1; omega
        · rw [← hps]
          exact fun b q => HPB.out b (hbk b q))
      clear hb35 h5 m5 hgt hrest hps hbk ho5 hx5 hb5 hf5 hfa2
      generalize (if cc2 = md then some (⟨g, off2, none⟩ : Addr) else some ⟨g, off2 + md, none⟩) = xr at HX ⊢
      go_wp2
      go_ret2
      exact HX.out
    · have hzb : (z != 0) = true := by simpa using hz0
      have HX := hid (show ReadD L c y k (.slice (some ⟨g, off, none⟩) n cc) ps w (.returned (.tuple #[.slice (some ⟨g1, 0, none⟩) xs.length vc, .slice x2 (n - 1) (cc - 1)])) w1 from
        ⟨1, _, vc, xs, _, _, d1, Nat.le_refl _, by have := HN.out; omega, by rw [← HN.out], ho, hx, h1, m1, hap, hfr, by rw [← HN.out]; exact HR2.out.moved m1 HF2.out, by rw [← HN.out]; exact HPB.out⟩)
      rw [hm] at HX ⊢
      clear ho hx h1 m1 hap hfr
      go_wp2
      go_ret2
      exact HX.out
end
end Go.Proofs.YtaanpnmgibcemaaGreatDoor
