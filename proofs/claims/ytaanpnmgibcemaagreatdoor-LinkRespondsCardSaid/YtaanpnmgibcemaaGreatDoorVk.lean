/-
  What comes of a subnegotiation.
-/
import Derived.Test.YtaanpnmgibcemaaGreatDoorVj
import Derived.BigQuiet
namespace Go.Proofs.YtaanpnmgibcemaaGreatDoor
open Go.RowKit Go.Lib

theorem below_dn {B : Nat} {a w : World} (h : Below B a w) (n : Nat) : Below B a (w.drewN n) := h.trans ⟨rfl, rfl, rfl, Nat.le_refl _, fun _ _ => rfl⟩
theorem sortL_le (xs : List Int) : (Ng.sortL xs).length ≤ 5 := List.length_filter_le _ _
theorem stK_rg (fs : List Int) (k : Int) (r : List Int) : 0 ≤ Ng.stK fs k r ∧ Ng.stK fs k r ≤ 4 := by
  unfold Ng.stK
  repeat' split
  all_goals omega
theorem agK_le (fs ag : List Int) (k : Int) (r : List Int) (h : ag.length ≤ 1000) : (Ng.agK fs ag k r).length ≤ 1000 := by
  have := sortL_le r
  unfold Ng.agK
  repeat' split
  all_goals first | exact h | exact Nat.zero_le _ | omega
section
variable {L : Nat} {c : Cf} {y : Ly} {k : Lk} {w : World}
theorem LkOK.hear (hk : LkOK c k) (o : Int) (xs : List Int) : LkOK c (k.hear c o xs) := by
  refine ⟨hk.T, hk.D, hk.fs, ?_, ?_, hk.rc, hk.sq, hk.st⟩
  · show 0 ≤ Ng.stH c.fs k.es o xs ∧ Ng.stH c.fs k.es o xs ≤ 4
    unfold Ng.stH
    split
    · exact stK_rg _ _ _
    · exact hk.es
  · show (Ng.agH c.fs k.ag k.es o xs).length ≤ 1000
    unfold Ng.agH
    split
    · exact agK_le _ _ _ _ hk.ag
    · exact hk.ag
theorem ans_le (hk : LkOK c k) (o : Int) (xs : List Int) (hx : xs.length ≤ 256) : (Ng.ansH c.T c.D c.fs k.es o xs).length ≤ 2100 := by
  have hT := hk.T
  have hD := hk.D
  have hf := hk.fs.1
  have hs := Ng.strL_length c.T
  have hd := Ng.strL_length c.D
  have hk2 := Ng.keep_le c.fs (xs.drop 2)
  have hl : (xs.drop 2).length ≤ 256 := by rw [List.length_drop]; omega
  unfold Ng.ansH
  split
  · split
    · simp; omega
    · simp
  · split
    · unfold Ng.ansK Ng.devT
      repeat' split
      all_goals simp
      all_goals omega
    · simp
theorem ask40_yes (h : LkM w L c y k) (ha : (Op.askN (k.ms 40) false).2.2 = true) : Calls Tryz.prog 102 #[.pointer (some ⟨y.M, 0, none⟩), .int .i64 0, .int .u8 40, .bool false] w (Op.TookE y.M c.A k.ms 0 40 (Op.askN (k.ms 40) false).1 (Op.askN (k.ms 40) false).2.1 0 w) := by
  have := Op.ask_any y.M c.A k.ms 0 (.inl rfl) 40 (by decide) false w h.mac (by rw [Op.idx_0]; exact ha)
  rw [Op.idx_0] at this
  exact this
theorem ask40_no (h : LkM w L c y k) (ha : (Op.askN (k.ms 40) false).2.2 = false) : Calls Tryz.prog 102 #[.pointer (some ⟨y.M, 0, none⟩), .int .i64 0, .int .u8 40, .bool false] w fun e w' => e = .returned (.tuple #[.slice none 0 0, .int .i64 6]) ∧ Below w.heap.size w w' :=
  Op.ask_no y.M c.A k.ms 0 (.inl rfl) 40 (by decide) false w h.mac (by rw [Op.idx_0]; exact ha)
theorem on_byte (h : LkM w L c y k) (o : Int) (ho : 0 ≤ o ∧ o < 256) : Calls Tryz.prog 36 #[.pointer (some ⟨y.M, 0, none⟩), .int .i64 0, .int .u8 o] w fun e w' => e = .returned (.bool (k.ms o.toNat == 1)) ∧ w' = w := by
  obtain ⟨n, rfl⟩ := Int.eq_ofNat_of_zero_le ho.1
  have := Op.on_any y.M c.A k.ms 0 (.inl rfl) n (by omega) w h.mac
  rw [Op.idx_0] at this
  exact this.mono fun _ _ q => ⟨q.1, q.2.symm⟩
set_option maxRecDepth 100000 in
set_option maxHeartbeats 4000000 in
theorem takeSub_long (dx : Option Addr) (dn dc : Nat) (ek vb o : Int) (h : LkM w L c y k) (br : Bool) : Calls Tryz.prog 85 #[.pointer (some ⟨L, 0, none⟩), .agg #[.int .i64 ek, .int .u8 vb, .int .u8 o, .slice dx dn dc, .bool true, .bool br]] w (MovD L c y (k) w) := by
  have hb0 := bal (Below.refl w.heap.size w) (.cells #[.int .i64 ek, .int .u8 vb, .int .u8 o, .slice dx dn dc, .bool true, .bool br] 123)
  have hL := h.b.lt
  have HX := hid (fun n => show MovD L c y k w (.returned (.tuple #[])) _ from ⟨rfl, y, h.step (below_dn hb0 n), Moved.below (below_dn hb0 n) _⟩)
  clear h hb0
  go_enter Tryz.func85, Tryz.ntmps85
  go_wp2_with fail
  go_quiet (fail)
  go_wp2
  refine bodyPost_ret (results_none rfl _ _ _) rfl ?_
  exact HX.out _
set_option maxRecDepth 100000 in
set_option maxHeartbeats 4000000 in
theorem takeSub_broken (dx : Option Addr) (dn dc : Nat) (ek vb o : Int) (h : LkM w L c y k) : Calls Tryz.prog 85 #[.pointer (some ⟨L, 0, none⟩), .agg #[.int .i64 ek, .int .u8 vb, .int .u8 o, .slice dx dn dc, .bool false, .bool true]] w (MovD L c y (k) w) := by
  have hb0 := bal (Below.refl w.heap.size w) (.cells #[.int .i64 ek, .int .u8 vb, .int .u8 o, .slice dx dn dc, .bool false, .bool true] 123)
  have hL := h.b.lt
  have HX := hid (fun n => show MovD L c y k w (.returned (.tuple #[])) _ from ⟨rfl, y, h.step (below_dn hb0 n), Moved.below (below_dn hb0 n) _⟩)
  clear h hb0
  go_enter Tryz.func85, Tryz.ntmps85
  go_wp2_with fail
  go_quiet (fail)
  go_wp2
  refine bodyPost_ret (results_none rfl _ _ _) rfl ?_
  exact HX.out _
set_option maxRecDepth 100000 in
set_option maxHeartbeats 4000000 in
theorem takeSub_off (dx : Option Addr) (dn dc : Nat) (ek vb o : Int) (h : LkM w L c y k) (ho : 0 ≤ o ∧ o < 256) (hof : (k.ms o.toNat == 1) = false) : Calls Tryz.prog 85 #[.pointer (some ⟨L, 0, none⟩), .agg #[.int .i64 ek, .int .u8 vb, .int .u8 o, .slice dx dn dc, .bool false, .bool false]] w (MovD L c y (k) w) := by
  have hb0 := bal (Below.refl w.heap.size w) (.cells #[.int .i64 ek, .int .u8 vb, .int .u8 o, .slice dx dn dc, .bool false, .bool false] 123)
  have hL := h.b.lt
  have HX := hid (fun n => show MovD L c y k w (.returned (.tuple #[])) _ from ⟨rfl, y, h.step (below_dn hb0 n), Moved.below (below_dn hb0 n) _⟩)
  have HON := hid (fun n => on_byte (h.step (below_dn hb0 n)) o ho)
  simp only [hof] at HON
  have c1 := h.b.c1
  clear h hb0 hof ho
  go_enter Tryz.func85, Tryz.ntmps85
  go_wp2_with fail
  go_quiet ((go_at_call 36; exact Calls.quiet_of_same (HON.out _)))
  go_wp2
  refine bodyPost_ret (results_none rfl _ _ _) rfl ?_
  exact HX.out _
theorem Tn_len {w : World} {x : Option Addr} {n c : Nat} {xs : List Int} (h : Ng.RdG w (.slice x n c) xs) : n = xs.length := reads_len h.reads
set_option maxRecDepth 100000 in
set_option maxHeartbeats 4000000 in
theorem takeSub_on (dx : Option Addr) (dn dc : Nat) (ek vb o : Int) (h : LkM w L c y k) (ds : List Int) (hk : LkOK c k) (ho : 0 ≤ o ∧ o < 256) (hon : (k.ms o.toNat == 1) = true) (hd : Ng.RdG w (.slice dx dn dc) ds) (hdf : ∀ b ∈ blkV (.slice dx dn dc), b ∉ y.foot L) (hdl : ds.length ≤ 256) (hol : k.out.length ≤ 80000000) : Calls Tryz.prog 85 #[.pointer (some ⟨L, 0, none⟩), .agg #[.int .i64 ek, .int .u8 vb, .int .u8 o, .slice dx dn dc, .bool false, .bool false]] w (MovD L c y ((k.hear c o ds).refuse) w) := by
  have hb0 := bal (Below.refl w.heap.size w) (.cells #[.int .i64 ek, .int .u8 vb, .int .u8 o, .slice dx dn dc, .bool false, .bool false] 123)
  have hL := h.b.lt
  have HON := hid (fun n => on_byte (h.step (below_dn hb0 n)) o ho)
  simp only [hon] at HON
  have c1 := h.b.c1
  have HALL := hid (fun n => show LkM ((w.alloc (.cells #[.int .i64 ek, .int .u8 vb, .int .u8 o, .slice dx dn dc, .bool false, .bool false] 123)).drewN n) L c y k ∧ Below w.heap.size w ((w.alloc (.cells #[.int .i64 ek, .int .u8 vb, .int .u8 o, .slice dx dn dc, .bool false, .bool false] 123)).drewN n) ∧ ((w.alloc (.cells #[.int .i64 ek, .int .u8 vb, .int .u8 o, .slice dx dn dc, .bool false, .bool false] 123)).drewN n).cell? ⟨w.heap.size, 2, none⟩ = some (.int .u8 o) ∧ ((w.alloc (.cells #[.int .i64 ek, .int .u8 vb, .int .u8 o, .slice dx dn dc, .bool false, .bool false] 123)).drewN n).cell? ⟨w.heap.size, 3, none⟩ = some (.slice dx dn dc) from ⟨h.step (below_dn hb0 n), below_dn hb0 n, by simp [go_sem], by simp [go_sem]⟩)
  have HK1 := hid (hk.hear o ds)
  have HAL := hid (ans_le hk o ds hdl)
  have HD := hid hd
  have HEW := hid (show w.heap.size ∉ [y.E] from fun q => by have := h.en.lt; have := List.mem_singleton.1 q; omega)
  have HLW := hid (show L ∉ [y.E] from fun q => by
    obtain ⟨lab, hs⟩ := h.sep
    have h1 := hs.l
    rw [List.mem_singleton.1 q, hs.e] at h1
    cases h1)
  clear h hb0 hon
  go_enter Tryz.func85, Tryz.ntmps85
  go_wp2_with fail
  go_quiet ((go_at_call 36; exact Calls.quiet_of_same (HON.out _)))
  go_wp2_with fail
  have hall := HALL.out nq
  revert hall
  generalize (w.alloc (.cells #[.int .i64 ek, .int .u8 vb, .int .u8 o, .slice dx dn dc, .bool false, .bool false] 123)).drewN nq = W1
  rintro ⟨h1, hb1, cb2, cb3⟩
  have c21 := h1.b.c2
  have hbd : Below w.heap.size w W1.drew := hb1.drew
  have h1d : LkM W1.drew L c y k := h1.step (Below.refl _ _).drew
  have HH1 := hid h1d
  have HB1 := hid hbd
  have HHE := hid (Ng.hear_any y.E y.sv y.av c.T c.D c.fs k.es k.dev k.ag W1.drew h1d.en hk.T hk.D hk.fs.1 hk.fs.2 hk.es dx dn dc ds (HD.out.step hbd) (Tn_len HD.out) (by have := Tn_len HD.out; omega) (fun q => hdf _ q (mem_foot.2 (by simp))) o)
  have HCS := hid (show W1.drew.cell? ⟨L, 2, none⟩ = some (.pointer (some ⟨y.E, 0, none⟩)) ∧ W1.drew.cell? ⟨w.heap.size, 2, none⟩ = some (.int .u8 o) ∧ W1.drew.cell? ⟨w.heap.size, 3, none⟩ = some (.slice dx dn dc) from ⟨c21, cb2, cb3⟩)
  clear h1 hb1 hbd h1d c21 cb2 cb3 HALL HON c1
  refine wp_region_held_drew (S := (fun w' => w'.cell? ⟨L, 2, none⟩ = some (.pointer (some ⟨y.E, 0, none⟩)) ∧ w'.cell? ⟨w.heap.size, 2, none⟩ = some (.int .u8 o) ∧ w'.cell? ⟨w.heap.size, 3, none⟩ = some (.slice dx dn dc))) (by kernel_rfl) ?_ (fun hHeld => ?_)
  · exact HCS.out
  refine takeD (i := 0) (v := ?_) 25 rfl rfl (by kernel_rfl) (by kernel_rfl) (by kernel_rfl) (fun _ _ _ h => h) (by assumption) (Or.inl ⟨by rfl, ?_⟩) ?_
  rotate_left
  · intro w hSw
    (try dsimp only at hSw)
    go_simp
    try with_reducible rfl
  simp only [List.setIfInBounds_toArray, List.set_cons_zero, List.set_cons_succ]
  refine takeD (i := 1) (v := ?_) 26 rfl rfl (by kernel_rfl) (by kernel_rfl) (by kernel_rfl) (fun _ _ _ h => h) (by assumption) (Or.inl ⟨by rfl, ?_⟩) ?_
  rotate_left
  · intro w hSw
    (try dsimp only at hSw)
    go_simp
    try with_reducible rfl
  simp only [List.setIfInBounds_toArray, List.set_cons_zero, List.set_cons_succ]
  refine takeD (i := 2) (v := ?_) 27 rfl rfl (by kernel_rfl) (by kernel_rfl) (by kernel_rfl) (fun _ _ _ h => h) (by assumption) (Or.inl ⟨by rfl, ?_⟩) ?_
  rotate_left
  · intro w hSw
    (try dsimp only at hSw)
    go_simp
    try with_reducible rfl
  simp only [List.setIfInBounds_toArray, List.set_cons_zero, List.set_cons_succ]
  refine takeD (i := 3) (v := ?_) 28 rfl rfl (by kernel_rfl) (by kernel_rfl) (by kernel_rfl) (fun _ _ _ h => h) (by assumption) (Or.inl ⟨by rfl, ?_⟩) ?_
  rotate_left
  · intro w hSw
    (try dsimp only at hSw)
    go_simp
    try with_reducible rfl
  simp only [List.setIfInBounds_toArray, List.set_cons_zero, List.set_cons_succ]
  refine takeD (i := 4) (v := ?_) 29 rfl rfl (by kernel_rfl) (by kernel_rfl) (by kernel_rfl) (fun _ _ _ h => h) (by assumption) (Or.inl ⟨by rfl, ?_⟩) ?_
  rotate_left
  · intro w hSw
    (try dsimp only at hSw)
    go_simp
    try with_reducible rfl
  simp only [List.setIfInBounds_toArray, List.set_cons_zero, List.set_cons_succ]
  refine takeD (i := 5) (v := ?_) 30 rfl rfl (by kernel_rfl) (by kernel_rfl) (by kernel_rfl) (fun _ _ _ h => h) (by assumption) (Or.inl ⟨by rfl, ?_⟩) ?_
  rotate_left
  · intro w hSw
    (try dsimp only at hSw)
    go_simp
    try with_reducible rfl
  simp only [List.setIfInBounds_toArray, List.set_cons_zero, List.set_cons_succ]
  refine takeD (i := 6) (v := ?_) 31 rfl rfl (by kernel_rfl) (by kernel_rfl) (by kernel_rfl) (fun _ _ _ h => h) (by assumption) (Or.inl ⟨by rfl, ?_⟩) ?_
  rotate_left
  · intro w hSw
    (try dsimp only at hSw)
    go_simp
    try with_reducible rfl
  simp only [List.setIfInBounds_toArray, List.set_cons_zero, List.set_cons_succ]
  refine takeD (i := 7) (v := ?_) 32 rfl rfl (by kernel_rfl) (by kernel_rfl) (by kernel_rfl) (fun _ _ _ h => h) (by assumption) (Or.inl ⟨by rfl, ?_⟩) ?_
  rotate_left
  · intro w hSw
    (try dsimp only at hSw)
    go_simp
    try with_reducible rfl
  simp only [List.setIfInBounds_toArray, List.set_cons_zero, List.set_cons_succ]
  refine wpAnyH_ready (rs := [8]) (by kernel_rfl) (by simp) ?_
  refine AllReadyH.cons (by simp only [List.getElem?_toArray, List.getElem?_cons_succ, List.getElem?_cons_zero]; rfl) (fun K hK => ?_) AllReadyH.nil
  go_simp
  with_reducible refine HHE.out.mono ?_
  rintro e w2 ⟨v, av', rfl, hov, hen, hmv, hfr, hold⟩
  have HMV := hid hmv
  refine hK.out _ _ ?_ (fun hHeldN => ?_)
  · exact ⟨cell_moved HMV.out HCS.out.1 HLW.out, cell_moved HMV.out HCS.out.2.1 HEW.out, cell_moved HMV.out HCS.out.2.2 HEW.out⟩
  clear hK K hHeld
  have hHeld := hHeldN
  clear hHeldN
  (try simp only [Act.put, List.setIfInBounds_toArray, List.set_cons_zero, List.set_cons_succ])
  refine takeD (i := 9) (v := ?_) 24 rfl rfl (by kernel_rfl) (by kernel_rfl) (by kernel_rfl) (fun _ _ _ h => h) (by assumption) (Or.inl ⟨by rfl, ?_⟩) ?_
  rotate_left
  · intro w hSw
    (try dsimp only at hSw)
    go_simp
    try with_reducible rfl
  simp only [List.setIfInBounds_toArray, List.set_cons_zero, List.set_cons_succ]
  refine takeD (i := 10) (v := ?_) 34 rfl rfl (by kernel_rfl) (by kernel_rfl) (by kernel_rfl) (fun _ _ _ h => h) (by assumption) (Or.inl ⟨by rfl, ?_⟩) ?_
  rotate_left
  · intro w hSw
    (try dsimp only at hSw)
    go_simp
    try with_reducible rfl
  simp only [List.setIfInBounds_toArray, List.set_cons_zero, List.set_cons_succ]
  refine takeD (i := 11) (v := ?_) 35 rfl rfl (by kernel_rfl) (by kernel_rfl) (by kernel_rfl) (fun _ _ _ h => h) (by assumption) (Or.inl ⟨by rfl, ?_⟩) ?_
  rotate_left
  · intro w hSw
    (try dsimp only at hSw)
    go_simp
    try with_reducible rfl
  simp only [List.setIfInBounds_toArray, List.set_cons_zero, List.set_cons_succ]
  refine takeD (i := 12) (v := ?_) 4 rfl rfl (by kernel_rfl) (by kernel_rfl) (by kernel_rfl) (fun _ _ _ h => h) (by assumption) (Or.inl ⟨by rfl, ?_⟩) ?_
  rotate_left
  · intro w hSw
    (try dsimp only at hSw)
    go_simp
    try with_reducible rfl
  simp only [List.setIfInBounds_toArray, List.set_cons_zero, List.set_cons_succ]
  refine takeD (i := 13) (v := ?_) 5 rfl rfl (by kernel_rfl) (by kernel_rfl) (by kernel_rfl) (fun _ _ _ h => h) (by assumption) (Or.inl ⟨by rfl, ?_⟩) ?_
  rotate_left
  · intro w hSw
    (try dsimp only at hSw)
    go_simp
    try with_reducible rfl
  simp only [List.setIfInBounds_toArray, List.set_cons_zero, List.set_cons_succ]
  refine wpAnyH_done (by kernel_rfl) ?_ _
  have co2 := hHeld.2.1
  obtain ⟨h2, mv2⟩ := HH1.out.ending hk hmv hen hold
  have hm2 := (Moved.below HB1.out (y.foot L)).trans mv2
  have HM2 := hid hm2
  have HOV := hid hov
  obtain ⟨vx, vc, rfl⟩ := own_len hov _ rfl
  clear hHeld hov hen hmv hfr hold mv2 hm2 HHE HCS HMV
  by_cases hans : Ng.ansH c.T c.D c.fs k.es o ds = []
  · have h2' : LkM w2 L c { y with av := av' } (k.hear c o ds) := by
      have e : k.hear c o ds = { k with es := Ng.stH c.fs k.es o ds, dev := Ng.devH k.dev k.es o ds, ag := Ng.agH c.fs k.ag k.es o ds } := by
        unfold Lk.hear
        rw [if_pos hans, List.append_nil]
      rw [e]
      exact h2
    have HH2 := hid h2'
    have HOL := hid (show (k.hear c o ds).out.length ≤ 90000000 from by
      have e : (k.hear c o ds).out = k.out := by unfold Lk.hear; rw [if_pos hans, List.append_nil]
      rw [e]; omega)
    rw [show (Ng.ansH c.T c.D c.fs k.es o ds).length = 0 by rw [hans]; rfl]
    clear h2 h2' hans HOV HAL
    have HST := hid (Ng.state_any _ _ _ _ _ _ _ _ _ w2 HH2.out.en)
    have c2t := HH2.out.b.c2
    have c1t := HH2.out.b.c1
    have hLt := HH2.out.b.lt
    by_cases h4 : (k.hear c o ds).es = 4
    · by_cases ha : (Op.askN ((k.hear c o ds).ms 40) false).2.2 = true
      · have HAS := hid (ask40_yes HH2.out ha)
        have HRE := hid (show (k.hear c o ds).refuse = (k.hear c o ds).step 0 40 (Op.askN ((k.hear c o ds).ms 40) false).1 (Op.askN ((k.hear c o ds).ms 40) false).2.1 by unfold Lk.refuse; rw [if_neg (fun q => q h4), if_pos ha])
        rw [h4] at HST
        generalize (Op.askN ((k.hear c o ds).ms 40) false).1 = N at HAS HRE
        generalize (Op.askN ((k.hear c o ds).ms 40) false).2.1 = Y at HAS HRE
        clear h4 ha
        go_wp2_with fail
        with_reducible refine HST.out.mono ?_
        rintro e wa ⟨rfl, rfl⟩
        go_wp2_with fail
        with_reducible refine HAS.out.mono ?_
        rintro e wb ⟨m, rfl, m', he, hmsg, hmac, hmv, hfr⟩
        obtain rfl : m = m' := by cases he; rfl
        obtain ⟨h5, mv5⟩ := HH2.out.machine hmv hmac
        have HS := hid (sendMessages_any m 0 Y 40 h5 (HK1.out.ms _) hmsg (by omega) (by show (k.hear c o ds).out.length ≤ _; have := HOL.out; omega))
        have HV5 := hid (HM2.out.trans mv5)
        obtain ⟨mx, mn, mc, rfl⟩ : ∃ x n cc, m = .slice x n cc := by
          rcases hmsg with ⟨_, rfl⟩ | ⟨_, b, rfl, _⟩
          · exact ⟨_, _, _, rfl⟩
          · exact ⟨_, _, _, rfl⟩
        clear he hmsg hmac hmv hfr h5 mv5
        go_wp2_with fail
        with_reducible refine HS.out.mono ?_
        rintro e wc ⟨rfl, ov', h6, mv6⟩
        have HX := hid (show MovD L c y ((k.hear c o ds).refuse) w (.returned (.tuple #[])) wc from ⟨rfl, _, by rw [HRE.out]; exact h6, HV5.out.trans mv6⟩)
        clear h6 mv6
        go_wp2
        go_end0
        exact HX.out
      · have hf : (Op.askN ((k.hear c o ds).ms 40) false).2.2 = false := by simpa using ha
        have HAS := hid (ask40_no HH2.out hf)
        have HRE := hid (show (k.hear c o ds).refuse = k.hear c o ds by unfold Lk.refuse; rw [if_neg (fun q => q h4), if_neg ha])
        rw [h4] at HST
        clear h4 ha hf
        go_wp2_with fail
        with_reducible refine HST.out.mono ?_
        rintro e wa ⟨rfl, rfl⟩
        go_wp2_with fail
        with_reducible refine HAS.out.mono ?_
        rintro e wb ⟨rfl, hbb⟩
        have HS := hid (sendMessages_any (.slice none 0 0) 0 0 40 (HH2.out.step hbb) HK1.out (.inl ⟨rfl, rfl⟩) (by omega) (by have := HOL.out; omega))
        have HBB := hid hbb
        clear hbb
        go_wp2_with fail
        with_reducible refine HS.out.mono ?_
        rintro e wc ⟨rfl, ov', h6, mv6⟩
        have HX := hid (show MovD L c y ((k.hear c o ds).refuse) w (.returned (.tuple #[])) wc from ⟨rfl, _, by rw [HRE.out]; simpa [sayB] using h6, (HM2.out.trans (Moved.below HBB.out _)).trans mv6⟩)
        clear h6 mv6
        go_wp2
        go_end0
        exact HX.out
    · have HX := hid (show MovD L c y ((k.hear c o ds).refuse) w (.returned (.tuple #[])) w2 from ⟨rfl, _, by unfold Lk.refuse; rw [if_pos h4]; exact HH2.out, HM2.out⟩)
      have h4b : ((k.hear c o ds).es != 4) = true := by simpa using h4
      generalize (k.hear c o ds).es = ES at HST h4b
      clear h4
      go_wp2_with fail
      with_reducible refine HST.out.mono ?_
      rintro e wa ⟨rfl, rfl⟩
      go_wp2
      refine bodyPost_ret (results_none rfl _ _ _) rfl ?_
      exact HX.out
  · have hp : 0 < (Ng.ansH c.T c.D c.fs k.es o ds).length := List.length_pos_iff.2 hans
    have hpi : (0 : Int) < (Ng.ansH c.T c.D c.fs k.es o ds).length := by omega
    obtain ⟨g, cap, hsl, -⟩ := HOV.out.slice hans
    simp only [Value.slice.injEq] at hsl
    obtain ⟨rfl, -, -⟩ := hsl
    have hal := HAL.out
    have HSB := hid (Tn.subBytes_any o ho ⟨g, 0, none⟩ _ vc _ w2 HOV.out.reads (by omega))
    have hsl2 := Tn.subL_length o (Ng.ansH c.T c.D c.fs k.es o ds)
    have hcn : (Ng.ansH c.T c.D c.fs k.es o ds).count 255 ≤ (Ng.ansH c.T c.D c.fs k.es o ds).length := List.count_le_length
    have e : k.hear c o ds = { k with es := Ng.stH c.fs k.es o ds, dev := Ng.devH k.dev k.es o ds, ag := Ng.agH c.fs k.ag k.es o ds, out := k.out ++ Tn.subL o (Ng.ansH c.T c.D c.fs k.es o ds) } := by
      unfold Lk.hear
      rw [if_neg hans]
    have HE := hid e
    have HOL := hid (show (k.hear c o ds).out.length ≤ 90000000 by rw [e]; show (k.out ++ _).length ≤ _; rw [List.length_append]; omega)
    have hka : LkOK c { k with es := Ng.stH c.fs k.es o ds, dev := Ng.devH k.dev k.es o ds, ag := Ng.agH c.fs k.ag k.es o ds } := ⟨HK1.out.T, HK1.out.D, HK1.out.fs, HK1.out.es, HK1.out.ag, HK1.out.rc, HK1.out.sq, HK1.out.st⟩
    have HSN := hid (fun W (p : Value) (hW : Below w2.heap.size w2 W) (hp : Reads W p (Tn.subL o (Ng.ansH c.T c.D c.fs k.es o ds))) => send_any p _ (h2.step hW) hka hp (by show k.out.length + _ ≤ _; omega))
    generalize (Ng.ansH c.T c.D c.fs k.es o ds).length = AL at *
    clear h2 hans hp e hka hsl2 hcn hal HOV HAL
    go_wp2_with fail
    with_reducible refine HSB.out.mono ?_
    rintro e w3 ⟨u, rfl, hru, hb3⟩
    have HS3 := hid (HSN.out w3 u hb3 hru)
    have HB3 := hid hb3
    obtain ⟨ux, un, uc, rfl⟩ := Tn.reads_any_slice hru
    clear hru hb3 HSN HSB
    go_wp2_with fail
    with_reducible refine HS3.out.mono ?_
    rintro e w4 ⟨rfl, ov', h4', mv4⟩
    have HH4 := hid (show LkM w4 L c { y with av := av', ov := ov' } (k.hear c o ds) by rw [HE.out]; exact h4')
    have HM4 := hid ((HM2.out.trans (Moved.below HB3.out _)).trans mv4)
    clear h4' mv4 HS3
    have HST := hid (Ng.state_any _ _ _ _ _ _ _ _ _ w4 HH4.out.en)
    have c2t := HH4.out.b.c2
    have c1t := HH4.out.b.c1
    have hLt := HH4.out.b.lt
    by_cases h4 : (k.hear c o ds).es = 4
    · by_cases ha : (Op.askN ((k.hear c o ds).ms 40) false).2.2 = true
      · have HAS := hid (ask40_yes HH4.out ha)
        have HRE := hid (show (k.hear c o ds).refuse = (k.hear c o ds).step 0 40 (Op.askN ((k.hear c o ds).ms 40) false).1 (Op.askN ((k.hear c o ds).ms 40) false).2.1 by unfold Lk.refuse; rw [if_neg (fun q => q h4), if_pos ha])
        rw [h4] at HST
        generalize (Op.askN ((k.hear c o ds).ms 40) false).1 = N at HAS HRE
        generalize (Op.askN ((k.hear c o ds).ms 40) false).2.1 = Y at HAS HRE
        clear h4 ha
        go_wp2_with fail
        with_reducible refine HST.out.mono ?_
        rintro e wa ⟨rfl, rfl⟩
        go_wp2_with fail
        with_reducible refine HAS.out.mono ?_
        rintro e wb ⟨m, rfl, m', he, hmsg, hmac, hmv, hfr⟩
        obtain rfl : m = m' := by cases he; rfl
        obtain ⟨h5, mv5⟩ := HH4.out.machine hmv hmac
        have HS := hid (sendMessages_any m 0 Y 40 h5 (HK1.out.ms _) hmsg (by omega) (by show (k.hear c o ds).out.length ≤ _; have := HOL.out; omega))
        have HV5 := hid (HM4.out.trans mv5)
        obtain ⟨mx, mn, mc, rfl⟩ : ∃ x n cc, m = .slice x n cc := by
          rcases hmsg with ⟨_, rfl⟩ | ⟨_, b, rfl, _⟩
          · exact ⟨_, _, _, rfl⟩
          · exact ⟨_, _, _, rfl⟩
        clear he hmsg hmac hmv hfr h5 mv5
        go_wp2_with fail
        with_reducible refine HS.out.mono ?_
        rintro e wc ⟨rfl, ov', h6, mv6⟩
        have HX := hid (show MovD L c y ((k.hear c o ds).refuse) w (.returned (.tuple #[])) wc from ⟨rfl, _, by rw [HRE.out]; exact h6, HV5.out.trans mv6⟩)
        clear h6 mv6
        go_wp2
        go_end0
        exact HX.out
      · have hf : (Op.askN ((k.hear c o ds).ms 40) false).2.2 = false := by simpa using ha
        have HAS := hid (ask40_no HH4.out hf)
        have HRE := hid (show (k.hear c o ds).refuse = k.hear c o ds by unfold Lk.refuse; rw [if_neg (fun q => q h4), if_neg ha])
        rw [h4] at HST
        clear h4 ha hf
        go_wp2_with fail
        with_reducible refine HST.out.mono ?_
        rintro e wa ⟨rfl, rfl⟩
        go_wp2_with fail
        with_reducible refine HAS.out.mono ?_
        rintro e wb ⟨rfl, hbb⟩
        have HS := hid (sendMessages_any (.slice none 0 0) 0 0 40 (HH4.out.step hbb) HK1.out (.inl ⟨rfl, rfl⟩) (by omega) (by have := HOL.out; omega))
        have HBB := hid hbb
        clear hbb
        go_wp2_with fail
        with_reducible refine HS.out.mono ?_
        rintro e wc ⟨rfl, ov', h6, mv6⟩
        have HX := hid (show MovD L c y ((k.hear c o ds).refuse) w (.returned (.tuple #[])) wc from ⟨rfl, _, by rw [HRE.out]; simpa [sayB] using h6, (HM4.out.trans (Moved.below HBB.out _)).trans mv6⟩)
        clear h6 mv6
        go_wp2
        go_end0
        exact HX.out
    · have HX := hid (show MovD L c y ((k.hear c o ds).refuse) w (.returned (.tuple #[])) w4 from ⟨rfl, _, by unfold Lk.refuse; rw [if_pos h4]; exact HH4.out, HM4.out⟩)
      have h4b : ((k.hear c o ds).es != 4) = true := by simpa using h4
      generalize (k.hear c o ds).es = ES at HST h4b
      clear h4
      go_wp2_with fail
      with_reducible refine HST.out.mono ?_
      rintro e wa ⟨rfl, rfl⟩
      go_wp2
      refine bodyPost_ret (results_none rfl _ _ _) rfl ?_
      exact HX.out
end
end Go.Proofs.YtaanpnmgibcemaaGreatDoor
