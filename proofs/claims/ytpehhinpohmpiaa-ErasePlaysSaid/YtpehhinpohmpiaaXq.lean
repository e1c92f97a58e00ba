/-
  ErasePlays: an act of the law, and of the reference.
-/
import Derived.Test.YtpehhinpohmpiaaXn
namespace Go.Proofs.Ytpehhinpohmpiaa
open Go.RowKit Go.Lib Go.Deep

/-- What an act leaves, and what it answers. -/
def plS (k : Nat) (s : Spc) (p q : Int) (c : Cel) : Spc :=
  if k % 6 = 0 then unpS s else if k % 6 = 1 then rngS s p q else if k % 6 = 2 then repS s p q c else if k % 6 = 3 then (if openB s p then endS s p else s) else if k % 6 = 4 then (if openB s p then delS s p else s) else (if insB s p then insS s p c.ch else s)
def plA (k : Nat) (s : Spc) (p q : Int) : Int :=
  if k % 6 = 0 then 0 else if k % 6 = 1 then 0 else if k % 6 = 2 then lenZ s.r s.c p q else if k % 6 = 3 then (if openB s p then 1 else 0) else if k % 6 = 4 then (if openB s p then 1 else 0) else (if insB s p then 1 else 0)
theorem putC_wr {t : Spc} (hok : t.OK) (n x : Int) : t.putC n x = t.putC (t.wr n : Nat) x := by
  unfold Spc.putC Spc.setC Spc.atC
  rw [wr_nat (hok.wr_lt n)]
theorem FitC.putZ {t : Spc} (hf : FitC t) (hok : t.OK) (n x : Int) : FitC (t.putC n x) := by
  rw [putC_wr hok n x]
  exact hf.put (hok.wr_lt n) x
theorem FitC.setZ {t : Spc} (hf : FitC t) {c : Cel} (hc : c.OK) (n : Int) : FitC (t.setC n c) := fun i hi => by
  unfold Spc.setC at hi ⊢
  rw [Spc.put1_cel]
  split
  · exact fit_fit hc
  · exact hf i (by simpa [Spc.put1] using hi)
theorem FitC.modZ {t : Spc} (hf : FitC t) (hok : t.OK) (n : Int) : FitC (modS t n) := by
  unfold modS
  rcases stF_bd t.P (hok.wr_lt n) with e | ⟨a, ha, hp, e⟩
  · rw [e, if_pos (by decide)]
    exact hf
  · rw [e, if_neg (by omega)]
    exact hf.mark (by simpa using ha) (hok.cel _) (by simpa using hp) true
theorem repR_fit {s : Spc} (hf : FitC s) (l : List Nat) {c : Cel} (hc : c.OK) : ∀ k, FitC (repR s l c k)
  | 0 => hf
  | k + 1 => (repR_fit hf l hc k).setZ hc _
theorem delR_fit {s : Spc} (hok : s.OK) (hf : FitC s) (n : Int) (pl : List Nat) : ∀ k, FitC (delR s n pl k)
  | 0 => hf
  | k + 1 => (delR_fit hok hf n pl k).putZ (delR_ok hok n pl k) _ _
theorem insR_fit {s : Spc} (hok : s.OK) (hf : FitC s) (l : List Nat) {c : Int} (hc : U8 c) : ∀ k, FitC (insR s l c k).1
  | 0 => hf
  | k + 1 => (insR_fit hok hf l hc k).putZ (insR_ok hok l hc k).1 _ _
theorem clrR_okF {s : Spc} (hok : s.OK) (hf : FitC s) (l : List Nat) : ∀ k, (clrR s l k).OK ∧ FitC (clrR s l k)
  | 0 => ⟨hok, hf⟩
  | k + 1 => ⟨(clrR_okF hok hf l k).1.putC _ u8_zero, (clrR_okF hok hf l k).2.putZ (clrR_okF hok hf l k).1 _ _⟩
theorem unp_fit {s : Spc} (hok : s.OK) (hf : FitC s) : FitC (unpS s) := by
  have htok := rng_ok hok 0 0
  have htf := rng_fit hok hf 0 0
  have hud := unm_hd (rngS s 0 0)
  have huc := fun i => unm_cel htok i
  have hvf : FitC (unmS (rngS s 0 0)) := fun i hi => by
    rw [hud.al.len] at hi
    by_cases hp : (rngS s 0 0).P i = true
    · rw [(huc i).1 ⟨hi, hp⟩]
      exact mkF_fit (htok.cel i) hp _
    · rw [(huc i).2 (fun q => hp q.2)]
      exact htf i hi
  unfold unpS
  generalize unmS (rngS s 0 0) = u at hvf ⊢
  generalize max (nxZ u) 0 = z
  exact fun i hi => hvf i hi
theorem pl_fit {s : Spc} (hok : s.OK) (hf : FitC s) (k : Nat) (p q : Int) {c : Cel} (hc : c.OK) : FitC (plS k s p q c) := by
  unfold plS
  split
  · exact unp_fit hok hf
  split
  · exact rng_fit hok hf p q
  split
  · exact repR_fit hf _ hc _
  split
  · split
    · exact (clrR_okF hok hf _ _).2.modZ (clrR_okF hok hf _ _).1 p
    · exact hf
  split
  · split
    · exact ((delR_fit hok hf p _ _).putZ (delR_ok hok p _ _) _ _).modZ ((delR_ok hok p _ _).putC _ u8_zero) p
    · exact hf
  · split
    · exact (insR_fit hok hf _ hc.ch _).modZ (insR_ok hok _ hc.ch _).1 p
    · exact hf
section
variable {b g : Nat} {s : Spc}
set_option maxRecDepth 100000 in
set_option maxHeartbeats 8000000 in
theorem dopl_any (k : Nat) (hk : k < 256) (p q : Int) (hp : I64 p) (hq : I64 q) (c : Cel) (hc : c.OK) (w : World) (h : SpM w b g s) : Calls Try.prog 15 #[.pointer (some ⟨b, 0, none⟩), .agg #[.int .u8 k, .int .i64 p, .int .i64 q, .int .u8 c.ch, .bool c.at_, .int .u8 c.fa, .int .u8 c.hi, .int .u8 c.co, .int .u8 c.se]] w fun e w' => e = .returned (.int .i64 (plA k s p q)) ∧ SpM w' b g (plS k s p q c) ∧ Moved w w' [b, g] [b, g] := by
  have HH := hid h
  have HUP := hid (fun W h => unprotected_any (b := b) (g := g) (s := s) W h)
  have HRG := hid (fun W h => callsIn_wide.1 (range_in (b := b) (g := g) (s := s) 10 (by omega) p q hp hq W h))
  have HRE := hid (fun W h => callsIn_wide.1 (repeat_in (b := b) (g := g) (s := s) 10 (by omega) p q hp hq c hc W h))
  have HEN := hid (fun W h => callsIn_wide.1 (end_in (b := b) (g := g) (s := s) 10 (by omega) p hp W h))
  have HDE := hid (fun W h => callsIn_wide.1 (delete_in (b := b) (g := g) (s := s) 8 (by omega) p hp W h))
  have HIN := hid (fun W h => insert_any (b := b) (g := g) (s := s) p hp c.ch hc.ch W h)
  obtain ⟨x0, x1, x2, x3, x4, x5⟩ := c
  dsimp only at HRE HIN ⊢
  obtain ⟨W0, hW0⟩ : ∃ W0, w.alloc (.cells #[.int .u8 k, .int .i64 p, .int .i64 q, .int .u8 x0, .bool x1, .int .u8 x2, .int .u8 x3, .int .u8 x4, .int .u8 x5] 32) = W0 := ⟨_, rfl⟩
  have HZ := hid (show ActB W0 w.heap.size k p q ⟨x0, x1, x2, x3, x4, x5⟩ from by rw [← hW0]; exact ⟨by simp [go_sem], by simp [go_sem], by simp [go_sem], by simp [go_sem], by simp [go_sem], by simp [go_sem], by simp [go_sem], by simp [go_sem], by simp [go_sem]⟩)
  have hb0 : Below w.heap.size w W0 := by rw [← hW0]; exact bal (Below.refl _ _) _
  have HB0 := hid hb0
  have HHW := hid (h.below hb0)
  have HW := hid hW0
  obtain ⟨m, hm6, hm⟩ := mod6 k
  have hkm : ((k : Int) % 6) = m := by omega
  have hkm' : (k : Int).tmod 6 = m := by rw [Int.tmod_eq_emod_of_nonneg (by omega)]; exact hkm
  have hk0 : 0 ≤ (k : Int) := by omega
  have hk1 : (k : Int) < 256 := by omega
  obtain ⟨z0, z1, z2, z3, z4, z5, z6, z7, z8⟩ := HZ.out
  dsimp only at z3 z4 z5 z6 z7 z8
  have lz := World.block_lt_of_cell? W0 _ z0
  obtain ⟨ut, hut⟩ : ∃ ut, plS k s p q ⟨x0, x1, x2, x3, x4, x5⟩ = ut := ⟨_, rfl⟩
  obtain ⟨pa, hpa⟩ : ∃ pa, plA k s p q = pa := ⟨_, rfl⟩
  rw [hut, hpa]
  unfold plS at hut
  unfold plA at hpa
  rw [hm] at hut hpa
  clear h hm hkm hW0 hp hq hb0 hc hk
  have : m = 0 ∨ m = 1 ∨ m = 2 ∨ m = 3 ∨ m = 4 ∨ m = 5 := by omega
  rcases this with rfl | rfl | rfl | rfl | rfl | rfl
  all_goals simp only [Nat.reduceEqDiff, if_true, if_false] at hut hpa
  · have HUT := hid hut
    have HPA := hid hpa
    clear hut hpa
    go_enter Try.func15, Try.ntmps15
    go_wp2_with fail
    try simp only [HW.out]
    with_reducible refine (HUP.out _ HHW.out).mono ?_
    rintro e w1 ⟨⟨v1, rfl⟩, hs, hm⟩
    have HS1 := hid hs
    have HM1 := hid ((Moved.below HB0.out [b, g]).trans hm)
    clear hs hm
    go_wp2
    go_ret
    exact ⟨by rw [← HPA.out]; rfl, by rw [← HUT.out]; exact HS1.out, HM1.out⟩
  · have HUT := hid hut
    have HPA := hid hpa
    clear hut hpa
    go_enter Try.func15, Try.ntmps15
    go_wp2_with fail
    try simp only [HW.out]
    with_reducible refine (HRG.out _ HHW.out).mono ?_
    rintro e w1 ⟨⟨v1, rfl⟩, hs, hm⟩
    have HS1 := hid hs
    have HM1 := hid ((Moved.below HB0.out [b, g]).trans hm)
    clear hs hm
    go_wp2
    go_ret
    exact ⟨by rw [← HPA.out]; rfl, by rw [← HUT.out]; exact HS1.out, HM1.out⟩
  · have HUT := hid hut
    have HPA := hid hpa
    clear hut hpa
    go_enter Try.func15, Try.ntmps15
    go_wp2_with fail
    try simp only [HW.out]
    with_reducible refine (HRE.out _ HHW.out).mono ?_
    rintro e w1 ⟨rfl, hs, hm⟩
    have HS1 := hid hs
    have HM1 := hid ((Moved.below HB0.out [b, g]).trans hm)
    clear hs hm
    go_wp2
    go_ret
    exact ⟨by rw [← HPA.out]; rfl, by rw [← HUT.out]; exact HS1.out, HM1.out⟩
  · cases ho : openB s p
    · rw [ho] at HEN hut hpa
      simp only [Bool.false_eq_true, if_true, if_false] at HEN hut hpa
      have HUT := hid hut
      have HPA := hid hpa
      clear hut hpa ho
      go_enter Try.func15, Try.ntmps15
      go_wp2_with fail
      try simp only [HW.out]
      with_reducible refine (HEN.out _ HHW.out).mono ?_
      rintro e w1 ⟨rfl, hs, hm⟩
      have HS1 := hid hs
      have HM1 := hid ((Moved.below HB0.out [b, g]).trans hm)
      clear hs hm
      go_wp2
      go_ret
      exact ⟨by rw [← HPA.out]; rfl, by rw [← HUT.out]; exact HS1.out, HM1.out⟩
    · rw [ho] at HEN hut hpa
      simp only [Bool.false_eq_true, if_true, if_false] at HEN hut hpa
      have HUT := hid hut
      have HPA := hid hpa
      clear hut hpa ho
      go_enter Try.func15, Try.ntmps15
      go_wp2_with fail
      try simp only [HW.out]
      with_reducible refine (HEN.out _ HHW.out).mono ?_
      rintro e w1 ⟨rfl, hs, hm⟩
      have HS1 := hid hs
      have HM1 := hid ((Moved.below HB0.out [b, g]).trans hm)
      clear hs hm
      go_wp2
      go_ret
      exact ⟨by rw [← HPA.out]; rfl, by rw [← HUT.out]; exact HS1.out, HM1.out⟩
  · cases ho : openB s p
    · rw [ho] at HDE hut hpa
      simp only [Bool.false_eq_true, if_true, if_false] at HDE hut hpa
      have HUT := hid hut
      have HPA := hid hpa
      clear hut hpa ho
      go_enter Try.func15, Try.ntmps15
      go_wp2_with fail
      try simp only [HW.out]
      with_reducible refine (HDE.out _ HHW.out).mono ?_
      rintro e w1 ⟨rfl, hs, hm⟩
      have HS1 := hid hs
      have HM1 := hid ((Moved.below HB0.out [b, g]).trans hm)
      clear hs hm
      go_wp2
      go_ret
      exact ⟨by rw [← HPA.out]; rfl, by rw [← HUT.out]; exact HS1.out, HM1.out⟩
    · rw [ho] at HDE hut hpa
      simp only [Bool.false_eq_true, if_true, if_false] at HDE hut hpa
      have HUT := hid hut
      have HPA := hid hpa
      clear hut hpa ho
      go_enter Try.func15, Try.ntmps15
      go_wp2_with fail
      try simp only [HW.out]
      with_reducible refine (HDE.out _ HHW.out).mono ?_
      rintro e w1 ⟨rfl, hs, hm⟩
      have HS1 := hid hs
      have HM1 := hid ((Moved.below HB0.out [b, g]).trans hm)
      clear hs hm
      go_wp2
      go_ret
      exact ⟨by rw [← HPA.out]; rfl, by rw [← HUT.out]; exact HS1.out, HM1.out⟩
  · cases ho : insB s p
    · rw [ho] at HIN hut hpa
      simp only [Bool.false_eq_true, if_true, if_false] at HIN hut hpa
      have HUT := hid hut
      have HPA := hid hpa
      clear hut hpa ho
      go_enter Try.func15, Try.ntmps15
      go_wp2_with fail
      try simp only [HW.out]
      with_reducible refine (HIN.out _ HHW.out).mono ?_
      rintro e w1 ⟨rfl, hs, hm⟩
      have HS1 := hid hs
      have HM1 := hid ((Moved.below HB0.out [b, g]).trans hm)
      clear hs hm
      go_wp2
      go_ret
      exact ⟨by rw [← HPA.out]; rfl, by rw [← HUT.out]; exact HS1.out, HM1.out⟩
    · rw [ho] at HIN hut hpa
      simp only [Bool.false_eq_true, if_true, if_false] at HIN hut hpa
      have HUT := hid hut
      have HPA := hid hpa
      clear hut hpa ho
      go_enter Try.func15, Try.ntmps15
      go_wp2_with fail
      try simp only [HW.out]
      with_reducible refine (HIN.out _ HHW.out).mono ?_
      rintro e w1 ⟨rfl, hs, hm⟩
      have HS1 := hid hs
      have HM1 := hid ((Moved.below HB0.out [b, g]).trans hm)
      clear hs hm
      go_wp2
      go_ret
      exact ⟨by rw [← HPA.out]; rfl, by rw [← HUT.out]; exact HS1.out, HM1.out⟩
set_option maxRecDepth 100000 in
set_option maxHeartbeats 8000000 in
theorem rdopl_any (k : Nat) (hk : k < 256) (p q : Int) (hp : I64 p) (hq : I64 q) (c : Cel) (hc : c.OK) (hf : FitC s) (w : World) (h : RfM w b g s) : Calls Try.prog 16 #[.pointer (some ⟨b, 0, none⟩), .agg #[.int .u8 k, .int .i64 p, .int .i64 q, .int .u8 c.ch, .bool c.at_, .int .u8 c.fa, .int .u8 c.hi, .int .u8 c.co, .int .u8 c.se]] w fun e w' => e = .returned (.int .i64 (plA k s p q)) ∧ RfM w' b g (plS k s p q c) ∧ Moved w w' [b, g] [b, g] := by
  have HH := hid h
  have HUP := hid (fun W h => runp_any (b := b) (g := g) (s := s) W h hf)
  have HRG := hid (fun W h => rrange_any (b := b) (g := g) (s := s) p q hp hq W h)
  have HRE := hid (fun W h => rrepeat_any (b := b) (g := g) (s := s) p q hp hq c hc W h)
  have HEN := hid (fun W h => rend_any (b := b) (g := g) (s := s) p hp W h)
  have HDE := hid (fun W h => rdelete_any (b := b) (g := g) (s := s) p hp W h hf)
  have HIN := hid (fun W h => rinsert_any (b := b) (g := g) (s := s) p hp c.ch hc.ch W h)
  unfold EdD at HEN HDE HIN
  obtain ⟨x0, x1, x2, x3, x4, x5⟩ := c
  dsimp only at HRE HIN ⊢
  obtain ⟨W0, hW0⟩ : ∃ W0, w.alloc (.cells #[.int .u8 k, .int .i64 p, .int .i64 q, .int .u8 x0, .bool x1, .int .u8 x2, .int .u8 x3, .int .u8 x4, .int .u8 x5] 32) = W0 := ⟨_, rfl⟩
  have HZ := hid (show ActB W0 w.heap.size k p q ⟨x0, x1, x2, x3, x4, x5⟩ from by rw [← hW0]; exact ⟨by simp [go_sem], by simp [go_sem], by simp [go_sem], by simp [go_sem], by simp [go_sem], by simp [go_sem], by simp [go_sem], by simp [go_sem], by simp [go_sem]⟩)
  have hb0 : Below w.heap.size w W0 := by rw [← hW0]; exact bal (Below.refl _ _) _
  have HB0 := hid hb0
  have HHW := hid (h.below hb0)
  have HW := hid hW0
  obtain ⟨m, hm6, hm⟩ := mod6 k
  have hkm : ((k : Int) % 6) = m := by omega
  have hkm' : (k : Int).tmod 6 = m := by rw [Int.tmod_eq_emod_of_nonneg (by omega)]; exact hkm
  have hk0 : 0 ≤ (k : Int) := by omega
  have hk1 : (k : Int) < 256 := by omega
  obtain ⟨z0, z1, z2, z3, z4, z5, z6, z7, z8⟩ := HZ.out
  dsimp only at z3 z4 z5 z6 z7 z8
  have lz := World.block_lt_of_cell? W0 _ z0
  obtain ⟨ut, hut⟩ : ∃ ut, plS k s p q ⟨x0, x1, x2, x3, x4, x5⟩ = ut := ⟨_, rfl⟩
  obtain ⟨pa, hpa⟩ : ∃ pa, plA k s p q = pa := ⟨_, rfl⟩
  rw [hut, hpa]
  unfold plS at hut
  unfold plA at hpa
  rw [hm] at hut hpa
  clear h hm hkm hW0 hp hq hb0 hc hk hf
  have : m = 0 ∨ m = 1 ∨ m = 2 ∨ m = 3 ∨ m = 4 ∨ m = 5 := by omega
  rcases this with rfl | rfl | rfl | rfl | rfl | rfl
  all_goals simp only [Nat.reduceEqDiff, if_true, if_false] at hut hpa
  · have HUT := hid hut
    have HPA := hid hpa
    clear hut hpa
    go_enter Try.func16, Try.ntmps16
    go_wp2_with fail
    try simp only [HW.out]
    with_reducible refine (HUP.out _ HHW.out).mono ?_
    rintro e w1 ⟨⟨v1, rfl⟩, hs, hm⟩
    have HS1 := hid hs
    have HM1 := hid ((Moved.below HB0.out [b, g]).trans hm)
    clear hs hm
    go_wp2
    go_ret
    exact ⟨by rw [← HPA.out]; rfl, by rw [← HUT.out]; exact HS1.out, HM1.out⟩
  · have HUT := hid hut
    have HPA := hid hpa
    clear hut hpa
    go_enter Try.func16, Try.ntmps16
    go_wp2_with fail
    try simp only [HW.out]
    with_reducible refine (HRG.out _ HHW.out).mono ?_
    rintro e w1 ⟨⟨v1, rfl⟩, hs, hm⟩
    have HS1 := hid hs
    have HM1 := hid ((Moved.below HB0.out [b, g]).trans hm)
    clear hs hm
    go_wp2
    go_ret
    exact ⟨by rw [← HPA.out]; rfl, by rw [← HUT.out]; exact HS1.out, HM1.out⟩
  · have HUT := hid hut
    have HPA := hid hpa
    clear hut hpa
    go_enter Try.func16, Try.ntmps16
    go_wp2_with fail
    try simp only [HW.out]
    with_reducible refine (HRE.out _ HHW.out).mono ?_
    rintro e w1 ⟨rfl, hs, hm⟩
    have HS1 := hid hs
    have HM1 := hid ((Moved.below HB0.out [b, g]).trans hm)
    clear hs hm
    go_wp2
    go_ret
    exact ⟨by rw [← HPA.out]; rfl, by rw [← HUT.out]; exact HS1.out, HM1.out⟩
  · cases ho : openB s p
    · rw [ho] at HEN hut hpa
      simp only [Bool.false_eq_true, if_true, if_false] at HEN hut hpa
      have HUT := hid hut
      have HPA := hid hpa
      clear hut hpa ho
      go_enter Try.func16, Try.ntmps16
      go_wp2_with fail
      try simp only [HW.out]
      with_reducible refine (HEN.out _ HHW.out).mono ?_
      rintro e w1 ⟨rfl, hs, hm⟩
      have HS1 := hid hs
      have HM1 := hid ((Moved.below HB0.out [b, g]).trans hm)
      clear hs hm
      go_wp2
      go_ret
      exact ⟨by rw [← HPA.out]; rfl, by rw [← HUT.out]; exact HS1.out, HM1.out⟩
    · rw [ho] at HEN hut hpa
      simp only [Bool.false_eq_true, if_true, if_false] at HEN hut hpa
      have HUT := hid hut
      have HPA := hid hpa
      clear hut hpa ho
      go_enter Try.func16, Try.ntmps16
      go_wp2_with fail
      try simp only [HW.out]
      with_reducible refine (HEN.out _ HHW.out).mono ?_
      rintro e w1 ⟨rfl, hs, hm⟩
      have HS1 := hid hs
      have HM1 := hid ((Moved.below HB0.out [b, g]).trans hm)
      clear hs hm
      go_wp2
      go_ret
      exact ⟨by rw [← HPA.out]; rfl, by rw [← HUT.out]; exact HS1.out, HM1.out⟩
  · cases ho : openB s p
    · rw [ho] at HDE hut hpa
      simp only [Bool.false_eq_true, if_true, if_false] at HDE hut hpa
      have HUT := hid hut
      have HPA := hid hpa
      clear hut hpa ho
      go_enter Try.func16, Try.ntmps16
      go_wp2_with fail
      try simp only [HW.out]
      with_reducible refine (HDE.out _ HHW.out).mono ?_
      rintro e w1 ⟨rfl, hs, hm⟩
      have HS1 := hid hs
      have HM1 := hid ((Moved.below HB0.out [b, g]).trans hm)
      clear hs hm
      go_wp2
      go_ret
      exact ⟨by rw [← HPA.out]; rfl, by rw [← HUT.out]; exact HS1.out, HM1.out⟩
    · rw [ho] at HDE hut hpa
      simp only [Bool.false_eq_true, if_true, if_false] at HDE hut hpa
      have HUT := hid hut
      have HPA := hid hpa
      clear hut hpa ho
      go_enter Try.func16, Try.ntmps16
      go_wp2_with fail
      try simp only [HW.out]
      with_reducible refine (HDE.out _ HHW.out).mono ?_
      rintro e w1 ⟨rfl, hs, hm⟩
      have HS1 := hid hs
      have HM1 := hid ((Moved.below HB0.out [b, g]).trans hm)
      clear hs hm
      go_wp2
      go_ret
      exact ⟨by rw [← HPA.out]; rfl, by rw [← HUT.out]; exact HS1.out, HM1.out⟩
  · cases ho : insB s p
    · rw [ho] at HIN hut hpa
      simp only [Bool.false_eq_true, if_true, if_false] at HIN hut hpa
      have HUT := hid hut
      have HPA := hid hpa
      clear hut hpa ho
      go_enter Try.func16, Try.ntmps16
      go_wp2_with fail
      try simp only [HW.out]
      with_reducible refine (HIN.out _ HHW.out).mono ?_
      rintro e w1 ⟨rfl, hs, hm⟩
      have HS1 := hid hs
      have HM1 := hid ((Moved.below HB0.out [b, g]).trans hm)
      clear hs hm
      go_wp2
      go_ret
      exact ⟨by rw [← HPA.out]; rfl, by rw [← HUT.out]; exact HS1.out, HM1.out⟩
    · rw [ho] at HIN hut hpa
      simp only [Bool.false_eq_true, if_true, if_false] at HIN hut hpa
      have HUT := hid hut
      have HPA := hid hpa
      clear hut hpa ho
      go_enter Try.func16, Try.ntmps16
      go_wp2_with fail
      try simp only [HW.out]
      with_reducible refine (HIN.out _ HHW.out).mono ?_
      rintro e w1 ⟨rfl, hs, hm⟩
      have HS1 := hid hs
      have HM1 := hid ((Moved.below HB0.out [b, g]).trans hm)
      clear hs hm
      go_wp2
      go_ret
      exact ⟨by rw [← HPA.out]; rfl, by rw [← HUT.out]; exact HS1.out, HM1.out⟩
end
end Go.Proofs.Ytpehhinpohmpiaa
