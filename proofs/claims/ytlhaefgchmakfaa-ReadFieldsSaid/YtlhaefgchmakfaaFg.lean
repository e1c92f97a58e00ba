/-
  lay: a space and the document's, of acts.
  The field of a place: where it starts, whether one may write there, the next one's first place.
  A place's field; whether one may write there; the first place of the next one.
-/
import Derived.Test.YtlhaefgchmakfaaFf
namespace Go.Proofs.Ytlhaefgchmakfaa
open Go.RowKit Go.Lib Go.Deep

theorem sixB_again : ∀ m : Nat, m < 256 → sixB (sixB m) = sixB m := by decide +kernel
theorem fit_fit {c : Cel} (h : c.OK) : fit (fit c) = fit c := by
  obtain ⟨c0, c1, c2, c3, c4, c5⟩ := c
  cases c1
  · rfl
  · obtain ⟨k, hk, e⟩ := u8_nat h.fa
    dsimp only at e
    unfold fit
    simp only [if_true]
    rw [e, sixB_again k hk]
/-- Each cell is one that may stand; the cells' row has no more room. -/
structure FitS (s : Spc) : Prop where
  ok : s.OK
  fit : ∀ i, i < s.L.length → fit (s.cel i) = s.cel i
  ex : s.ex = 0
theorem FitS.clear {m : Int} (h1 : 2 ≤ m) (h2 : m ≤ 5) (alt : Bool) : FitS (clearS m alt) := ⟨clearS_ok h1 h2 alt, fun i _ => by
  have : (clearS m alt).cel i = cel0 := by
    unfold Spc.cel clearS
    simp only [List.getD]
    rw [List.getElem?_replicate]
    split <;> rfl
  rw [this]
  rfl, rfl⟩
theorem FitS.put1 {s : Spc} (h : FitS s) (i : Nat) {c : Cel} (hc : c.OK) (hf : Go.Proofs.Ytlhaefgchmakfaa.fit c = c) : FitS (s.put1 i c) := ⟨h.ok.put1 i hc, fun k hk => by
  rw [Spc.put1_len] at hk
  rw [Spc.put1_cel]
  split
  · exact hf
  · exact h.fit k hk, h.ex⟩
theorem FitS.setC {s : Spc} (h : FitS s) (n : Int) {c : Cel} (hc : c.OK) : FitS (s.setC n c) := h.put1 _ (fit_ok hc) (fit_fit hc)
theorem FitS.putC {s : Spc} (h : FitS s) (n : Int) {x : Int} (hx : U8 x) : FitS (s.putC n x) := by
  unfold Spc.putC
  split
  · exact h
  · have hc := h.ok.cel (s.wr n)
    exact h.setC n ⟨hx, hc.fa, hc.hi, hc.co, hc.se⟩
theorem FitS.place {s : Spc} (h : FitS s) (n : Int) : FitS (s.place n) := ⟨h.ok.place n, h.fit, h.ex⟩
theorem FitS.tx {s : Spc} (h : FitS s) (n : Int) {xs : List Int} (hx : ∀ x ∈ xs, U8 x) (k : Nat) : FitS (txS s n xs k) := by
  induction k with
  | zero => exact h
  | succ k ih => unfold txS; split; exact ih.putC _ (getD_u8 hx k); exact ih
theorem FitS.act {B : Nat} {w : World} {s : Spc} (h : FitS s) {a : ActD} (ha : a.Fit B w) : FitS (doS s a) := by
  unfold doS
  split
  · exact FitS.clear h.ok.m1 h.ok.m2 _
  split
  · exact h.place _
  split
  · exact h.putC _ ha.code
  split
  · exact h.setC _ (attr_ok ha.code)
  split
  · exact h.setC _ ha.c
  · exact h.tx _ ha.tx.u8 _
/-- The document's space, of the first acts. -/
def runS (s0 : Spc) (ac : List ActD) : Nat → Spc
  | 0 => s0
  | k + 1 => if k < 30 then doS (runS s0 ac k) (ac.getD k act0) else runS s0 ac k
theorem tx_mo (s : Spc) (n : Int) (xs : List Int) (k : Nat) : (txS s n xs k).mo = s.mo := by
  induction k with
  | zero => rfl
  | succ k ih =>
    unfold txS
    split
    · unfold Spc.putC
      split <;> exact ih
    · exact ih
theorem doS_mo (s : Spc) (a : ActD) : (doS s a).mo = s.mo := by
  unfold doS
  split
  · rfl
  split
  · rfl
  split
  · unfold Spc.putC
    split <;> rfl
  split
  · rfl
  split
  · rfl
  · exact tx_mo _ _ _ _
theorem runS_mo (s0 : Spc) (ac : List ActD) (k : Nat) : (runS s0 ac k).mo = s0.mo := by
  induction k with
  | zero => rfl
  | succ k ih => unfold runS; split; rw [doS_mo, ih]; exact ih
/-- Two spaces, made here, apart; each as it says. -/
structure Duo (w W : World) (b1 b2 g1 g2 : Nat) (s t : Spc) : Prop where
  sp : SpM W b1 g1 s
  rf : RfM W b2 g2 t
  ap : ∀ k ∈ [b1, g1], k ∉ [b2, g2]
  bel : Below w.heap.size w W
  lb : ∀ k ∈ [b1, g1, b2, g2], w.heap.size ≤ k
theorem Duo.below {w A C : World} {b1 b2 g1 g2 : Nat} {s t : Spc} (h : Duo w A b1 b2 g1 g2 s t) (hb : Below A.heap.size A C) : Duo w C b1 b2 g1 g2 s t := ⟨h.sp.below hb, h.rf.below hb, h.ap, below_t h.bel hb, h.lb⟩
theorem Duo.lt {w W : World} {b1 b2 g1 g2 : Nat} {s t : Spc} (h : Duo w W b1 b2 g1 g2 s t) : ∀ k ∈ [b1, g1, b2, g2], k < W.heap.size := fun k hk => by
  have h1 := h.sp.lt
  have h2 := h.rf.lt
  simp at hk
  omega
theorem Duo.ref {w A C : World} {b1 b2 g1 g2 g2' : Nat} {s t t' : Spc} (h : Duo w A b1 b2 g1 g2 s t) (hr : RfM C b2 g2' t') (m : Moved A C [b2, g2] [b2, g2']) : Duo w C b1 b2 g1 g2' s t' := by
  have hl := h.sp.lt
  have n1 : ∀ k ∈ [b1, g1], k ∉ [b2, g2'] := fun k hk q => by
    rcases m.from' k q with p | p
    · exact h.ap k hk p
    · simp at hk
      omega
  exact ⟨h.sp.moved m (h.ap b1 (by simp)) (h.ap g1 (by simp)), hr, n1, h.bel.trans (m.toBelow h.bel.size (fun k hk => h.lb k (by simp at hk ⊢; omega))), fun k hk => by
    have q : k = g2' ∨ k ∈ [b1, g1, b2, g2] := by simp at hk ⊢; omega
    rcases q with rfl | q
    · rcases m.from' k (by simp) with p | p
      · exact h.lb k (by simp at p ⊢; omega)
      · exact Nat.le_trans h.bel.size p
    · exact h.lb k q⟩
theorem Duo.prog {w A C : World} {b1 b2 g1 g2 g1' : Nat} {s t s' : Spc} (h : Duo w A b1 b2 g1 g2 s t) (hs : SpM C b1 g1' s') (m : Moved A C [b1, g1] [b1, g1']) : Duo w C b1 b2 g1' g2 s' t := by
  have hl := h.rf.lt
  have n1 : ∀ k ∈ [b1, g1'], k ∉ [b2, g2] := fun k hk q => by
    rcases m.from' k hk with p | p
    · exact h.ap k p q
    · simp at q
      omega
  exact ⟨hs, h.rf.moved m (fun q => h.ap b2 q (by simp)) (fun q => h.ap g2 q (by simp)), n1, h.bel.trans (m.toBelow h.bel.size (fun k hk => h.lb k (by simp at hk ⊢; omega))), fun k hk => by
    have q : k = g1' ∨ k ∈ [b1, g1, b2, g2] := by simp at hk ⊢; omega
    rcases q with rfl | q
    · rcases m.from' k (by simp) with p | p
      · exact h.lb k (by simp at p ⊢; omega)
      · exact Nat.le_trans h.bel.size p
    · exact h.lb k q⟩
/-- What was laid, of the first q cells. -/
structure LayI (t : Spc) (q : Nat) (s : Spc) : Prop where
  mo : s.mo = t.mo
  alt : s.alt = t.alt
  cu : s.cu = 0
  ex : s.ex = 0
  len : s.L.length = t.L.length
  cel : ∀ i, i < t.L.length → s.cel i = if i < q then t.cel i else cel0
theorem clear_cel (m : Int) (al : Bool) (i : Nat) : (clearS m al).cel i = cel0 := by
  unfold Spc.cel clearS
  simp only [List.getD]
  rw [List.getElem?_replicate]
  split <;> rfl
theorem LayI.start {t : Spc} (h : t.OK) {m : Int} (hm : m = t.mo) : LayI t 0 (clearS m t.alt) := ⟨hm, rfl, rfl, rfl, by
  have h1 := (clearS_ok (m := m) (by rw [hm]; exact h.m1) (by rw [hm]; exact h.m2) t.alt).len
  have h2 := h.len
  rw [hm] at h1 ⊢
  have : (clearS t.mo t.alt).r * (clearS t.mo t.alt).c = t.r * t.c := rfl
  omega, fun i _ => by rw [clear_cel, if_neg (Nat.not_lt_zero _)]⟩
theorem LayI.skip {t s : Spc} {q : Nat} (h : LayI t q s) (hz : t.cel q = cel0) : LayI t (q + 1) s := ⟨h.mo, h.alt, h.cu, h.ex, h.len, fun i hi => by
  rw [h.cel i hi]
  by_cases e : i = q
  · subst e
    rw [if_neg (Nat.lt_irrefl _), if_pos (Nat.lt_succ_self _), hz]
  · by_cases l : i < q
    · rw [if_pos l, if_pos (by omega)]
    · rw [if_neg l, if_neg (by omega)]⟩
theorem wr_nat {s : Spc} {q : Nat} (hq : q < s.L.length) : s.wr (q : Int) = q := by
  unfold Spc.wr
  rw [Int.emod_eq_of_lt (by omega) (by omega)]
  omega
theorem LayI.set {t s : Spc} {q : Nat} (h : LayI t q s) (hq : q < t.L.length) (hf : fit (t.cel q) = t.cel q) : LayI t (q + 1) (s.setC (q : Int) (t.cel q)) := by
  have e : s.setC (q : Int) (t.cel q) = s.put1 q (t.cel q) := by
    unfold Spc.setC
    rw [wr_nat (by rw [h.len]; exact hq), hf]
  rw [e]
  refine ⟨h.mo, h.alt, h.cu, h.ex, by rw [Spc.put1_len]; exact h.len, fun i hi => ?_⟩
  rw [Spc.put1_cel]
  by_cases e : i = q
  · subst e
    rw [if_pos ⟨rfl, by rw [h.len]; exact hi⟩, if_pos (Nat.lt_succ_self _)]
  · rw [if_neg (fun p => e p.1), h.cel i hi]
    by_cases l : i < q
    · rw [if_pos l, if_pos (by omega)]
    · rw [if_neg l, if_neg (by omega)]
theorem LayI.done {t s : Spc} (h : LayI t t.L.length s) (ht : t.OK) (he : t.ex = 0) : s.place t.cu = t := by
  have hL : s.L = t.L := by
    apply List.ext_getElem h.len
    intro i h1 h2
    have := h.cel i h2
    rw [if_pos h2] at this
    unfold Spc.cel at this
    rwa [List.getD_eq_getElem?_getD, List.getD_eq_getElem?_getD, List.getElem?_eq_getElem h1, List.getElem?_eq_getElem h2] at this
  have hc : (s.wr t.cu : Int) = t.cu := by
    unfold Spc.wr
    have h1 := ht.cu1
    have h2 := ht.cu2
    rw [Int.emod_eq_of_lt h1 (by rw [h.len]; exact h2)]
    omega
  obtain ⟨m1, a1, L1, c1, x1⟩ := t
  obtain ⟨m2, a2, L2, c2, x2⟩ := s
  have q1 := h.mo
  have q2 := h.alt
  have q3 := h.ex
  dsimp only at q1 q2 q3 hL hc he
  subst q1 q2 hL q3 he
  unfold Spc.place
  dsimp only at hc ⊢
  rw [hc]
theorem neq_cell (x0 : Int) (x1 : Bool) (x2 x3 x4 x5 : Int) (h : x0 = 0 → x1 = false → x2 = 0 → x3 = 0 → x4 = 0 → ¬ x5 = 0) (w : World) : Sem.run Try.prog (binOp .neq 48 (.agg #[.int .u8 x0, .bool x1, .int .u8 x2, .int .u8 x3, .int .u8 x4, .int .u8 x5]) (.agg #[.int .u8 0, .bool false, .int .u8 0, .int .u8 0, .int .u8 0, .int .u8 0])) w = .ok (.bool true) w := by
  by_cases h0 : x0 = 0
  · subst h0
    cases x1
    · by_cases h2 : x2 = 0
      · subst h2
        by_cases h3 : x3 = 0
        · subst h3
          by_cases h4 : x4 = 0
          · subst h4
            have h5 := h rfl rfl rfl rfl rfl
            clear h
            go_simp
          · clear h
            go_simp
        · clear h
          go_simp
      · clear h
        go_simp
    · clear h
      go_simp
  · clear h
    go_simp
set_option maxRecDepth 100000 in
set_option maxHeartbeats 8000000 in
theorem lay_any (m : Nat) (hm : m < 256) (v : Value) (ac : List ActD) (B : Nat) (w : World) (hB : B ≤ w.heap.size) (hx : ActsIn B w v ac) : Calls Try.prog 9 #[.int .u8 m, v] w fun e w' => ∃ b1 g1 b2 g2, e = .returned (.tuple #[.pointer (some ⟨b1, 0, none⟩), .pointer (some ⟨b2, 0, none⟩)]) ∧ Duo w w' b1 b2 g1 g2 (runS (clearS (2 + ((m % 4 : Nat) : Int)) false) ac ac.length) (runS (clearS (2 + ((m % 4 : Nat) : Int)) false) ac ac.length) ∧ FitS (runS (clearS (2 + ((m % 4 : Nat) : Int)) false) ac ac.length) := by
  obtain ⟨m4, hm4⟩ : ∃ m4 : Nat, m % 4 = m4 := ⟨_, rfl⟩
  have hm0 : (0 : Int) ≤ (m : Int) := by omega
  have hmt : (m : Int).tmod 4 = m4 := by rw [Int.tmod_eq_emod_of_nonneg (by omega)]; omega
  have hm5 : m4 < 4 := by omega
  rw [hm4]
  obtain ⟨s0, hs0⟩ : ∃ s0, clearS (2 + (m4 : Int)) false = s0 := ⟨_, rfl⟩
  have HNW := hid (fun W => new_yes (2 + (m4 : Int)) (by omega) (by omega) W)
  have HRN := hid (fun W => rnew_yes (2 + (m4 : Int)) (by omega) (by omega) W)
  have HS0 := hid hs0
  have HF0 := hid (show FitS s0 by rw [← hs0]; exact FitS.clear (by omega) (by omega) false)
  have HMO := hid (show s0.mo = 2 + (m4 : Int) by rw [← hs0]; rfl)
  rw [hs0]
  obtain ⟨x, cp, rfl⟩ := hx.sl
  have HX := hid hx
  have HLE := hid hB
  obtain ⟨M, hM⟩ : ∃ M, M = ac.length := ⟨_, rfl⟩
  have HM := hid hM
  have hML : M ≤ 9223372036854775807 := by rw [hM]; exact hx.len
  have HRD := hid (fun (a : ActD) (b g : Nat) (s : Spc) (W : World) (ha : a.Fit B W) (h : RfM W b g s) hb hg => rdo_any (B := B) (b := b) (g := g) (s := s) a W ha h hb hg)
  rw [← hM]
  clear hx hM hs0 hm4 hB
  go_enter Try.func9, Try.ntmps9
  go_wp2_with fail
  with_reducible refine (HNW.out _).mono ?_
  rintro e w2 ⟨b1, g1, rfl, hb, hg, hs, h2⟩
  rw [HS0.out] at hs
  have HS2 := hid hs
  have HB2 := hid h2
  have HLB := hid (show w.heap.size ≤ b1 ∧ w.heap.size ≤ g1 from ⟨hb, hg⟩)
  clear hs h2 hb hg
  go_wp2_with fail
  with_reducible refine (HRN.out _).mono ?_
  rintro e w3 ⟨b2, g2, rfl, hb, hg, hs, h3⟩
  rw [HS0.out] at hs
  have HP := hid (show Duo w w3 b1 b2 g1 g2 s0 s0 from ⟨HS2.out.below h3, hs, fun k hk q => by
      have := HS2.out.lt
      simp at hk q
      omega, below_t HB2.out h3, fun k hk => by
      have := HLB.out
      have := HB2.out.size
      simp at hk
      omega⟩)
  clear hs h3 hb hg HLB HS2 HB2
  go_wp2_with fail
  go_loopw [27] (fun i W => ∃ q : Nat, q ≤ M ∧ i = .int .i64 q ∧ ∃ g2 : Nat, Hid (Duo w W b1 b2 g1 g2 s0 (runS s0 ac q)) ∧ Hid (FitS (runS s0 ac q))) (fun i _ => M - (intOf i).toNat)
  case atStart => exact ⟨0, by omega, rfl, g2, HP.out, HF0.out⟩
  case round =>
    clear HP
    obtain ⟨q, hq, rfl, g2, HP, HFS⟩ := hrel
    by_cases hqM : q < M
    · have hqi : (q : Int) < M := by omega
      have hrun : runS s0 ac (q + 1) = if q < 30 then doS (runS s0 ac q) (ac.getD q act0) else runS s0 ac q := rfl
      generalize runS s0 ac q = t at HP HFS hrun
      have HBR := hid (HP.out.bel.mono HLE.out)
      obtain ⟨a0, ha0⟩ : ∃ a0, ac.getD q act0 = a0 := ⟨_, rfl⟩
      rw [ha0] at hrun
      obtain ⟨g3, o3, rfl, hg3, hcell⟩ := (HX.out.below HBR.out).at_ x cp rfl q (by rw [← HM.out]; exact hqM)
      have hfit := (HX.out.below HBR.out).fit q (by rw [← HM.out]; exact hqM)
      rw [ha0] at hcell hfit
      clear ha0
      obtain ⟨k, nn, on, code, c, tx, xs⟩ := a0
      have htx := hfit.tx.sl
      dsimp only at htx
      obtain ⟨tp, tc, rfl⟩ := htx
      obtain ⟨x0, x1, x2, x3, x4, x5⟩ := c
      have HF := hid hfit
      have HRUN := hid hrun
      clear hrun
      have HXL := hid (show (ActD.mk k nn on code ⟨x0, x1, x2, x3, x4, x5⟩ (.slice tp xs.length tc) xs).Fit B wr from hfit)
      (try dsimp only at hcell)
      have u0 : wr.cell? ⟨g3, o3 + q * 11, none⟩ = some (.int .u8 k) := hcell 0 (by omega)
      have u1 : wr.cell? ⟨g3, o3 + q * 11 + 1, none⟩ = some (.int .i64 nn) := hcell 1 (by omega)
      have u2 : wr.cell? ⟨g3, o3 + q * 11 + 2, none⟩ = some (.bool on) := hcell 2 (by omega)
      have u3 : wr.cell? ⟨g3, o3 + q * 11 + 3, none⟩ = some (.int .u8 code) := hcell 3 (by omega)
      have u4 : wr.cell? ⟨g3, o3 + q * 11 + 4, none⟩ = some (.int .u8 x0) := hcell 4 (by omega)
      have u5 : wr.cell? ⟨g3, o3 + q * 11 + 5, none⟩ = some (.bool x1) := hcell 5 (by omega)
      have u6 : wr.cell? ⟨g3, o3 + q * 11 + 6, none⟩ = some (.int .u8 x2) := hcell 6 (by omega)
      have u7 : wr.cell? ⟨g3, o3 + q * 11 + 7, none⟩ = some (.int .u8 x3) := hcell 7 (by omega)
      have u8 : wr.cell? ⟨g3, o3 + q * 11 + 8, none⟩ = some (.int .u8 x4) := hcell 8 (by omega)
      have u9 : wr.cell? ⟨g3, o3 + q * 11 + 9, none⟩ = some (.int .u8 x5) := hcell 9 (by omega)
      have u10 : wr.cell? ⟨g3, o3 + q * 11 + 10, none⟩ = some (.slice tp xs.length tc) := hcell 10 (by omega)
      have hgl3 := World.block_lt_of_cell? wr _ u0
      clear hcell hfit
      obtain ⟨W0, hW0⟩ : ∃ W0, wr.alloc (.cells #[.int .u8 k, .int .i64 nn, .bool on, .int .u8 code, .int .u8 x0, .bool x1, .int .u8 x2, .int .u8 x3, .int .u8 x4, .int .u8 x5, .slice tp xs.length tc] 79) = W0 := ⟨_, rfl⟩
      have hb0 : Below wr.heap.size wr W0 := by rw [← hW0]; exact bal (Below.refl _ _) _
      have HPW := hid (HP.out.below hb0)
      have HFW := hid (HXL.out.below (hb0.mono (Nat.le_trans HLE.out HP.out.bel.size)))
      have HW0 := hid hW0
      clear hb0 hW0
      by_cases h30 : q < 30
      · have h2i : (q : Int) < 30 := by omega
        have HDO := hid (show ∀ W, (ActD.mk k nn on code ⟨x0, x1, x2, x3, x4, x5⟩ (.slice tp xs.length tc) xs).Fit B W → RfM W b2 g2 t → Calls Try.prog 35 #[.pointer (some ⟨b2, 0, none⟩), .agg #[.int .u8 k, .int .i64 nn, .bool on, .int .u8 code, .int .u8 x0, .bool x1, .int .u8 x2, .int .u8 x3, .int .u8 x4, .int .u8 x5, .slice tp xs.length tc]] W (RDoD b2 g2 (doS t (ActD.mk k nn on code ⟨x0, x1, x2, x3, x4, x5⟩ (.slice tp xs.length tc) xs)) W) from fun W ha h => HRD.out _ b2 g2 t W ha h (Nat.le_trans HLE.out (HP.out.lb b2 (by simp))) (Nat.le_trans HLE.out (HP.out.lb g2 (by simp))))
        have HFN := hid (show FitS (doS t (ActD.mk k nn on code ⟨x0, x1, x2, x3, x4, x5⟩ (.slice tp xs.length tc) xs)) from HFS.out.act HXL.out)
        have hrun := HRUN.out
        rw [if_pos h30] at hrun
        have HR2 := hid hrun
        clear hrun HRUN
        generalize doS t (ActD.mk k nn on code ⟨x0, x1, x2, x3, x4, x5⟩ (.slice tp xs.length tc) xs) = t2 at HDO HFN HR2
        go_wp2_with fail
        rw [HW0.out]
        with_reducible refine (HDO.out _ HFW.out HPW.out.rf).mono ?_
        rintro e w5 ⟨⟨v5, rfl⟩, g2', ht, hm⟩
        have HP2 := hid (HPW.out.ref ht hm)
        clear ht hm HPW HP HDO
        go_wp2
        go_roundw
        case rel => exact ⟨q + 1, by omega, by go_num, g2', by rw [HR2.out]; exact HP2.out, by rw [HR2.out]; exact HFN.out⟩
        case measure => simp [intOf]; omega
      · have h2i : ¬ (q : Int) < 30 := by omega
        have hrun := HRUN.out
        rw [if_neg h30] at hrun
        have HR2 := hid hrun
        clear hrun HRUN
        go_wp2_with fail
        rw [HW0.out]
        clear HP
        go_wp2
        go_roundw
        case rel => exact ⟨q + 1, by omega, by go_num, g2, by rw [HR2.out]; exact HPW.out, by rw [HR2.out]; exact HFS.out⟩
        case measure => simp [intOf]; omega
    · obtain rfl : q = M := by omega
      have HMO2 := hid (runS_mo s0 ac q)
      obtain ⟨t, ht⟩ : ∃ t, runS s0 ac q = t := ⟨_, rfl⟩
      rw [ht] at HP HFS HMO2
      have HT := hid ht
      clear ht
      have HMX := hid (show t.mo = 2 + (m4 : Int) by rw [HMO2.out, HMO.out])
      have hlb2 := HP.out.lt b2 (by simp)
      have c1 := HP.out.rf.hd.h1
      obtain ⟨al, hal⟩ : ∃ al, t.alt = al := ⟨_, rfl⟩
      rw [hal] at c1
      have HAL := hid hal
      clear hal
      cases al
      · have HS1 := hid (show LayI t 0 s0 ∧ True from ⟨by
          have := LayI.start HFS.out.ok (m := 2 + (m4 : Int)) HMX.out.symm
          rw [HAL.out, HS0.out] at this
          exact this, trivial⟩)
        have HFL := hid (HFS.out)
        have c4 := HP.out.rf.hd.h4
        obtain ⟨N, hN⟩ : ∃ N, t.L.length = N := ⟨_, rfl⟩
        have hNp : 0 < N ∧ N ≤ 3564 := by rw [← hN]; exact HFS.out.ok.pos
        rw [hN] at c4
        have HNN := hid hN
        have hlg2 := HP.out.lt g2 (by simp)
        have hlb2' := HP.out.lt b2 (by simp)
        clear hN
        go_wp2_with fail
        go_loopw [49] (fun i W => ∃ q : Nat, q ≤ N ∧ i = .int .i64 q ∧ ∃ (g1 : Nat) (s1 : Spc), Hid (Duo w W b1 b2 g1 g2 s1 t) ∧ Hid (LayI t q s1)) (fun i _ => N - (intOf i).toNat)
        case atStart => exact ⟨0, by omega, rfl, g1, s0, HP.out, HS1.out.1⟩
        case round =>
          clear HP HS1 hlb2' hlg2 c4
          obtain ⟨q, hq, rfl, g1, s1, HP, HLY⟩ := hrel
          have hlg2 := HP.out.lt g2 (by simp)
          by_cases hqN : q < N
          · have hqi : (q : Int) < N := by omega
            obtain ⟨c, hc⟩ : ∃ c, t.cel q = c := ⟨_, rfl⟩
            obtain ⟨a0, a1, a2, a3, a4, a5⟩ := HP.out.rf.row.six q (by rw [HNN.out]; exact hqN) c hc
            have HOKC := hid (show c.OK by rw [← hc]; exact HFL.out.ok.cel q)
            have HCE := hid hc
            obtain ⟨W0, hW0⟩ : ∃ W0, wr.alloc (.cells #[.int .u8 c.ch, .bool c.at_, .int .u8 c.fa, .int .u8 c.hi, .int .u8 c.co, .int .u8 c.se] 48) = W0 := ⟨_, rfl⟩
            have hb0 : Below wr.heap.size wr W0 := by rw [← hW0]; exact bal (Below.refl _ _) _
            have HPW := hid (HP.out.below hb0)
            have HW0 := hid hW0
            clear hb0 hW0 hc
            by_cases hz : c = cel0
            · have HZ := hid hz
              subst hz
              simp only [cel0] at a0 a1 a2 a3 a4 a5 HW0
              clear HOKC
              go_wp2_with fail
              rw [HW0.out]
              have HL2 := hid (HLY.out.skip HCE.out)
              clear HP HLY
              go_wp2
              go_roundw
              case rel => exact ⟨q + 1, by omega, by go_num, g1, s1, HPW.out, HL2.out⟩
              case measure => simp [intOf]; omega
            · have hne : c.ch = 0 → c.at_ = false → c.fa = 0 → c.hi = 0 → c.co = 0 → ¬ c.se = 0 := fun h0 h1 h2 h3 h4 h5 => hz (by
                obtain ⟨x0, x1, x2, x3, x4, x5⟩ := c
                dsimp only at h0 h1 h2 h3 h4 h5
                subst h0 h1 h2 h3 h4 h5
                rfl)
              have HSE := hid (fun W (h : SpM W b1 g1 s1) => set_any (b := b1) (g := g1) (s := s1) (q : Int) (i64_small (by omega) (by omega)) c HOKC.out W h)
              have HL2 := hid (HLY.out.set (by rw [HNN.out]; exact hqN) (HFL.out.fit q (by rw [HNN.out]; exact hqN)))
              rw [HCE.out] at HL2
              clear hz HLY
              obtain ⟨x0, x1, x2, x3, x4, x5⟩ := c
              dsimp only at hne a0 a1 a2 a3 a4 a5 HW0
              have hnq := fun W => neq_cell x0 x1 x2 x3 x4 x5 hne W
              clear hne
              go_wp2_with fail
              rw [HW0.out]
              with_reducible refine (HSE.out _ HPW.out.sp).mono ?_
              rintro e w7 ⟨⟨v7, rfl⟩, hs, hm⟩
              have HP2 := hid (HPW.out.prog hs hm)
              clear hs hm HPW HP HSE
              go_wp2
              go_roundw
              case rel => exact ⟨q + 1, by omega, by go_num, g1, _, HP2.out, HL2.out⟩
              case measure => simp [intOf]; omega
          · obtain rfl : q = N := by omega
            have c5 := HP.out.rf.hd.h5
            have HCU := hid (show I64 t.cu from by have h1 := HFL.out.ok.cu1; have h2 := HFL.out.ok.cu2; have h3 := HFL.out.ok.pos; exact i64_small (by omega) (by omega))
            have HPL := hid (fun W (h : SpM W b1 g1 s1) => place_any (b := b1) (g := g1) (s := s1) t.cu HCU.out W h)
            have HDN := hid (show s1.place t.cu = t by
              have h := HLY.out
              rw [← HNN.out] at h
              exact h.done HFL.out.ok HFL.out.ex)
            rw [HDN.out] at HPL
            clear HLY HCU
            go_wp2_with fail
            with_reducible refine (HPL.out _ HP.out.sp).mono ?_
            rintro e w8 ⟨⟨v8, rfl⟩, hs, hm⟩
            have HP2 := hid (HP.out.prog hs hm)
            clear hs hm HP HPL
            go_wp2
            exact bodyPost_ret (v := .tuple #[.pointer (some ⟨b1, 0, none⟩), .pointer (some ⟨b2, 0, none⟩)]) (by simp [results, Try.results9, go_sem]) rfl ⟨b1, g1, b2, g2, rfl, by rw [HT.out]; exact HP2.out, by rw [HT.out]; exact HFL.out⟩
      · have HCL := hid (fun W (h : SpM W b1 g1 s0) => clear_any (b := b1) (g := g1) (s := s0) true W h)
        rw [HMO.out] at HCL
        go_wp2_with fail
        with_reducible refine (HCL.out _ HP.out.sp).mono ?_
        rintro e w6 ⟨⟨v6, rfl⟩, g1', hg', hs, hm⟩
        have HPN := hid (HP.out.prog hs (moved_b hm hg'))
        have HS1 := hid (show LayI t 0 (clearS (2 + (m4 : Int)) true) ∧ True from ⟨by
          have := LayI.start HFS.out.ok (m := 2 + (m4 : Int)) HMX.out.symm
          rw [HAL.out] at this
          exact this, trivial⟩)
        clear hs hm hg' HP
        have HP := HPN
        clear HPN c1
        generalize clearS (2 + (m4 : Int)) true = s0 at HP HS1
        generalize g1' = g1 at HP
        have HFL := hid (HFS.out)
        have c4 := HP.out.rf.hd.h4
        obtain ⟨N, hN⟩ : ∃ N, t.L.length = N := ⟨_, rfl⟩
        have hNp : 0 < N ∧ N ≤ 3564 := by rw [← hN]; exact HFS.out.ok.pos
        rw [hN] at c4
        have HNN := hid hN
        have hlg2 := HP.out.lt g2 (by simp)
        have hlb2' := HP.out.lt b2 (by simp)
        clear hN
        go_wp2_with fail
        go_loopw [49] (fun i W => ∃ q : Nat, q ≤ N ∧ i = .int .i64 q ∧ ∃ (g1 : Nat) (s1 : Spc), Hid (Duo w W b1 b2 g1 g2 s1 t) ∧ Hid (LayI t q s1)) (fun i _ => N - (intOf i).toNat)
        case atStart => exact ⟨0, by omega, rfl, g1, s0, HP.out, HS1.out.1⟩
        case round =>
          clear HP HS1 hlb2' hlg2 c4
          obtain ⟨q, hq, rfl, g1, s1, HP, HLY⟩ := hrel
          have hlg2 := HP.out.lt g2 (by simp)
          by_cases hqN : q < N
          · have hqi : (q : Int) < N := by omega
            obtain ⟨c, hc⟩ : ∃ c, t.cel q = c := ⟨_, rfl⟩
            obtain ⟨a0, a1, a2, a3, a4, a5⟩ := HP.out.rf.row.six q (by rw [HNN.out]; exact hqN) c hc
            have HOKC := hid (show c.OK by rw [← hc]; exact HFL.out.ok.cel q)
            have HCE := hid hc
            obtain ⟨W0, hW0⟩ : ∃ W0, wr.alloc (.cells #[.int .u8 c.ch, .bool c.at_, .int .u8 c.fa, .int .u8 c.hi, .int .u8 c.co, .int .u8 c.se] 48) = W0 := ⟨_, rfl⟩
            have hb0 : Below wr.heap.size wr W0 := by rw [← hW0]; exact bal (Below.refl _ _) _
            have HPW := hid (HP.out.below hb0)
            have HW0 := hid hW0
            clear hb0 hW0 hc
            by_cases hz : c = cel0
            · have HZ := hid hz
              subst hz
              simp only [cel0] at a0 a1 a2 a3 a4 a5 HW0
              clear HOKC
              go_wp2_with fail
              rw [HW0.out]
              have HL2 := hid (HLY.out.skip HCE.out)
              clear HP HLY
              go_wp2
              go_roundw
              case rel => exact ⟨q + 1, by omega, by go_num, g1, s1, HPW.out, HL2.out⟩
              case measure => simp [intOf]; omega
            · have hne : c.ch = 0 → c.at_ = false → c.fa = 0 → c.hi = 0 → c.co = 0 → ¬ c.se = 0 := fun h0 h1 h2 h3 h4 h5 => hz (by
                obtain ⟨x0, x1, x2, x3, x4, x5⟩ := c
                dsimp only at h0 h1 h2 h3 h4 h5
                subst h0 h1 h2 h3 h4 h5
                rfl)
              have HSE := hid (fun W (h : SpM W b1 g1 s1) => set_any (b := b1) (g := g1) (s := s1) (q : Int) (i64_small (by omega) (by omega)) c HOKC.out W h)
              have HL2 := hid (HLY.out.set (by rw [HNN.out]; exact hqN) (HFL.out.fit q (by rw [HNN.out]; exact hqN)))
              rw [HCE.out] at HL2
              clear hz HLY
              obtain ⟨x0, x1, x2, x3, x4, x5⟩ := c
              dsimp only at hne a0 a1 a2 a3 a4 a5 HW0
              have hnq := fun W => neq_cell x0 x1 x2 x3 x4 x5 hne W
              clear hne
              go_wp2_with fail
              rw [HW0.out]
              with_reducible refine (HSE.out _ HPW.out.sp).mono ?_
              rintro e w7 ⟨⟨v7, rfl⟩, hs, hm⟩
              have HP2 := hid (HPW.out.prog hs hm)
              clear hs hm HPW HP HSE
              go_wp2
              go_roundw
              case rel => exact ⟨q + 1, by omega, by go_num, g1, _, HP2.out, HL2.out⟩
              case measure => simp [intOf]; omega
          · obtain rfl : q = N := by omega
            have c5 := HP.out.rf.hd.h5
            have HCU := hid (show I64 t.cu from by have h1 := HFL.out.ok.cu1; have h2 := HFL.out.ok.cu2; have h3 := HFL.out.ok.pos; exact i64_small (by omega) (by omega))
            have HPL := hid (fun W (h : SpM W b1 g1 s1) => place_any (b := b1) (g := g1) (s := s1) t.cu HCU.out W h)
            have HDN := hid (show s1.place t.cu = t by
              have h := HLY.out
              rw [← HNN.out] at h
              exact h.done HFL.out.ok HFL.out.ex)
            rw [HDN.out] at HPL
            clear HLY HCU
            go_wp2_with fail
            with_reducible refine (HPL.out _ HP.out.sp).mono ?_
            rintro e w8 ⟨⟨v8, rfl⟩, hs, hm⟩
            have HP2 := hid (HP.out.prog hs hm)
            clear hs hm HP HPL
            go_wp2
            exact bodyPost_ret (v := .tuple #[.pointer (some ⟨b1, 0, none⟩), .pointer (some ⟨b2, 0, none⟩)]) (by simp [results, Try.results9, go_sem]) rfl ⟨b1, g1, b2, g2, rfl, by rw [HT.out]; exact HP2.out, by rw [HT.out]; exact HFL.out⟩
end Go.Proofs.Ytlhaefgchmakfaa
namespace Go.Proofs.Ytlhaefgchmakfaa
open Go.RowKit Go.Lib Go.Deep

/-- The last place below k that has it; -1: there is none. -/
def lastP (P : Nat → Bool) : Nat → Int
  | 0 => -1
  | k + 1 => if P k then (k : Int) else lastP P k
theorem lastP_at (P : Nat → Bool) {a : Nat} : ∀ {k : Nat}, a < k → P a = true → (∀ j, a < j → j < k → P j = false) → lastP P k = a
  | 0, h, _, _ => absurd h (Nat.not_lt_zero _)
  | k + 1, h, ha, hn => by
    unfold lastP
    by_cases e : a = k
    · subst e
      rw [if_pos ha]
    · rw [if_neg (by rw [hn k (by omega) (by omega)]; simp)]
      exact lastP_at P (by omega) ha (fun j h1 h2 => hn j h1 (by omega))
theorem lastP_none (P : Nat → Bool) : ∀ {k : Nat}, (∀ j, j < k → P j = false) → lastP P k = -1
  | 0, _ => rfl
  | k + 1, hn => by
    unfold lastP
    rw [if_neg (by rw [hn k (by omega)]; simp)]
    exact lastP_none P (fun j h => hn j (by omega))
theorem lastP_cases (P : Nat → Bool) : ∀ (k : Nat), ((∀ j, j < k → P j = false) ∧ lastP P k = -1) ∨ ∃ a : Nat, a < k ∧ P a = true ∧ (∀ j, a < j → j < k → P j = false) ∧ lastP P k = a
  | 0 => .inl ⟨fun j h => absurd h (Nat.not_lt_zero _), rfl⟩
  | k + 1 => by
    by_cases e : P k = true
    · exact .inr ⟨k, by omega, e, fun j h1 h2 => absurd h1 (by omega), by unfold lastP; rw [if_pos e]⟩
    · have e' : P k = false := by simpa using e
      rcases lastP_cases P k with ⟨h1, h2⟩ | ⟨a, h1, h2, h3, h4⟩
      · refine .inl ⟨fun j hj => ?_, by unfold lastP; rw [if_neg e]; exact h2⟩
        by_cases q : j = k
        · rw [q]; exact e'
        · exact h1 j (by omega)
      · refine .inr ⟨a, by omega, h2, fun j k1 k2 => ?_, by unfold lastP; rw [if_neg e]; exact h4⟩
        by_cases q : j = k
        · rw [q]; exact e'
        · exact h3 j k1 (by omega)
/-- Where a place's field starts. -/
def stF (P : Nat → Bool) (N p : Nat) : Int := if 0 ≤ lastP P (p + 1) then lastP P (p + 1) else lastP P N
/-- So many places back, round the screen. -/
def bk (N p j : Nat) : Nat := if j ≤ p then p - j else p + N - j
theorem stF_found {P : Nat → Bool} {N p q : Nat} (hq : q < N) (h : ∀ j, j < q → P (bk N p j) = false) (hf : P (bk N p q) = true) : stF P N p = (bk N p q : Int) := by
  unfold stF
  by_cases e : q ≤ p
  · have e1 : bk N p q = p - q := by unfold bk; rw [if_pos e]
    rw [e1] at hf ⊢
    have : lastP P (p + 1) = ((p - q : Nat) : Int) := lastP_at P (by omega) hf (fun j h1 h2 => by
      have := h (p - j) (by omega)
      unfold bk at this
      rwa [if_pos (by omega), show p - (p - j) = j by omega] at this)
    rw [this, if_pos (by omega)]
  · have e1 : bk N p q = p + N - q := by unfold bk; rw [if_neg e]
    rw [e1] at hf ⊢
    have h1 : lastP P (p + 1) = -1 := lastP_none P (fun j hj => by
      have := h (p - j) (by omega)
      unfold bk at this
      rwa [if_pos (by omega), show p - (p - j) = j by omega] at this)
    rw [h1, if_neg (by omega)]
    exact lastP_at P (by omega) hf (fun j k1 k2 => by
      have := h (p + N - j) (by omega)
      unfold bk at this
      rwa [if_neg (by omega), show p + N - (p + N - j) = j by omega] at this)
theorem stF_none {P : Nat → Bool} {N p : Nat} (hp : p < N) (h : ∀ j, j < N → P (bk N p j) = false) : stF P N p = -1 := by
  have hall : ∀ j, j < N → P j = false := fun j hj => by
    by_cases e : j ≤ p
    · have := h (p - j) (by omega)
      unfold bk at this
      rwa [if_pos (by omega), show p - (p - j) = j by omega] at this
    · have := h (p + N - j) (by omega)
      unfold bk at this
      rwa [if_neg (by omega), show p + N - (p + N - j) = j by omega] at this
  unfold stF
  rw [lastP_none P (fun j hj => hall j (by omega)), if_neg (by omega), lastP_none P hall]
theorem stF_bd (P : Nat → Bool) {N p : Nat} (hp : p < N) : stF P N p = -1 ∨ ∃ a : Nat, a < N ∧ P a = true ∧ stF P N p = a := by
  unfold stF
  rcases lastP_cases P (p + 1) with ⟨_, h2⟩ | ⟨a, h1, h2, _, h4⟩
  · rw [h2, if_neg (by omega)]
    rcases lastP_cases P N with ⟨_, h2⟩ | ⟨a, h1, h2, _, h4⟩
    · exact .inl h2
    · exact .inr ⟨a, h1, h2, h4⟩
  · rw [h4, if_pos (by omega)]
    exact .inr ⟨a, by omega, h2, rfl⟩
theorem wr_bk {s : Spc} {p q : Nat} (hp : p < s.L.length) (hq : q ≤ s.L.length) : s.wr ((p : Int) - q) = bk s.L.length p q := by
  unfold Spc.wr bk
  by_cases e : q ≤ p
  · rw [if_pos e, Int.emod_eq_of_lt (by omega) (by omega)]
    omega
  · rw [if_neg e, ← Int.add_emod_right, Int.emod_eq_of_lt (by omega) (by omega)]
    omega
theorem celf1 (x0 : Int) (x1 : Bool) (x2 x3 x4 x5 : Int) (w : World) : (Instr.field 48 (.agg #[.int .u8 x0, .bool x1, .int .u8 x2, .int .u8 x3, .int .u8 x4, .int .u8 x5]) 1).run Try.prog w = .ok (.bool x1) w := by kernel_rfl
theorem celf2 (x0 : Int) (x1 : Bool) (x2 x3 x4 x5 : Int) (w : World) : (Instr.field 48 (.agg #[.int .u8 x0, .bool x1, .int .u8 x2, .int .u8 x3, .int .u8 x4, .int .u8 x5]) 2).run Try.prog w = .ok (.int .u8 x2) w := by kernel_rfl
theorem attf0 (p n m : Bool) (d : Int) (w : World) : (Instr.field 160 (.agg #[.bool p, .bool n, .int .i64 d, .bool m]) 0).run Try.prog w = .ok (.bool p) w := by kernel_rfl
/-- A cell's field attribute. -/
def Cel.fv (c : Cel) : Value := .agg #[.bool (ofP c.fa.toNat), .bool (ofN c.fa.toNat), .int .i64 (ofD c.fa.toNat), .bool (ofM c.fa.toNat)]
theorem of_cel (c : Cel) (h : c.OK) (w : World) : Calls Try.prog 104 #[.int .u8 c.fa] w fun e w' => e = .returned c.fv ∧ Below w.heap.size w w' := by
  obtain ⟨k, hk, e⟩ := u8_nat h.fa
  have q := of_any k hk w
  unfold Cel.fv
  rw [e, Int.toNat_natCast]
  exact q
theorem rof_cel (c : Cel) (h : c.OK) (w : World) : Calls Try.prog 42 #[.int .u8 c.fa] w fun e w' => e = .returned c.fv ∧ Below w.heap.size w w' := by
  obtain ⟨k, hk, e⟩ := u8_nat h.fa
  have q := rof_any k hk w
  unfold Cel.fv
  rw [e, Int.toNat_natCast]
  exact q
theorem box4 {w w1 : World} {x0 x1 x2 x3 : Value} {t : TypeId} (hb : Below (w.alloc (.cells #[x0, x1, x2, x3] t)).heap.size (w.alloc (.cells #[x0, x1, x2, x3] t)) w1) :
    (w1.cell? ⟨w.heap.size, 0, none⟩ = some x0 ∧ w1.cell? ⟨w.heap.size, 1, none⟩ = some x1 ∧ w1.cell? ⟨w.heap.size, 2, none⟩ = some x2 ∧ w1.cell? ⟨w.heap.size, 3, none⟩ = some x3) ∧ (w1.frozen? ⟨w.heap.size, 0, none⟩ = false ∧ w1.frozen? ⟨w.heap.size, 1, none⟩ = false ∧ w1.frozen? ⟨w.heap.size, 2, none⟩ = false ∧ w1.frozen? ⟨w.heap.size, 3, none⟩ = false) ∧ w.heap.size < w1.heap.size :=
  ⟨⟨(hb.cell (p := ⟨w.heap.size, 0, none⟩) (by simp)).trans (by simp [go_sem]), (hb.cell (p := ⟨w.heap.size, 1, none⟩) (by simp)).trans (by simp [go_sem]), (hb.cell (p := ⟨w.heap.size, 2, none⟩) (by simp)).trans (by simp [go_sem]), (hb.cell (p := ⟨w.heap.size, 3, none⟩) (by simp)).trans (by simp [go_sem])⟩, ⟨(hb.frozen (p := ⟨w.heap.size, 0, none⟩) (by simp)).trans (by simp [go_sem]), (hb.frozen (p := ⟨w.heap.size, 1, none⟩) (by simp)).trans (by simp [go_sem]), (hb.frozen (p := ⟨w.heap.size, 2, none⟩) (by simp)).trans (by simp [go_sem]), (hb.frozen (p := ⟨w.heap.size, 3, none⟩) (by simp)).trans (by simp [go_sem])⟩, by have := hb.size; simp at this; omega⟩
section
variable {b g : Nat} {s : Spc}
set_option maxRecDepth 100000 in
set_option maxHeartbeats 4000000 in
theorem fat_any (n : Int) (hn : I64 n) (w : World) (h : SpM w b g s) : Calls Try.prog 116 #[.pointer (some ⟨b, 0, none⟩), .int .i64 n] w fun e w' => e = .returned (s.atC n).fv ∧ Below w.heap.size w w' := by
  have HA := hid (fun W h => at_any (b := b) (g := g) (s := s) n hn W h)
  have HO := hid (fun W => of_cel (s.atC n) (h.ok.cel _) W)
  have HH := hid h
  generalize s.atC n = c at HA HO ⊢
  obtain ⟨fp, fn, fd, fm, hf⟩ : ∃ p n d m, c.fv = .agg #[.bool p, .bool n, .int .i64 d, .bool m] := ⟨_, _, _, _, rfl⟩
  rw [hf] at HO ⊢
  obtain ⟨x0, x1, x2, x3, x4, x5⟩ := c
  dsimp only at HO
  have hf2 := celf2
  clear h hn hf
  go_enter Try.func116, Try.ntmps116
  go_wp2_with fail
  with_reducible refine (HA.out _ (HH.out.below (bal (Below.refl w.heap.size w) _))).mono ?_
  rintro e w1 ⟨rfl, hb1⟩
  have HB1 := hid hb1
  clear hb1 HA
  go_wp2_with fail
  with_reducible refine (HO.out _).mono ?_
  rintro e w2 ⟨rfl, hb2⟩
  obtain ⟨⟨c0, c1, c2, c3⟩, ⟨f0, f1, f2, f3⟩, hs⟩ := box4 (below_t HB1.out hb2)
  have HB2 := hid (blw (below_t HB1.out hb2))
  clear hb2 HB1 HO hf2
  go_wp2
  exact bodyPost_ret (v := .agg #[.bool fp, .bool fn, .int .i64 fd, .bool fm]) (by simp [results, Try.results116, go_sem, c0, c1, c2, c3]) rfl ⟨rfl, ((((HB2.out.sc _ _ _ (Nat.le_refl _)).sc _ _ _ (Nat.le_refl _)).sc _ _ _ (Nat.le_refl _)).sc _ _ _ (Nat.le_refl _))⟩
end
end Go.Proofs.Ytlhaefgchmakfaa
namespace Go.Proofs.Ytlhaefgchmakfaa
open Go.RowKit Go.Lib Go.Deep

/-- Is it protected? -/
def Cel.prot (c : Cel) : Bool := ofP c.fa.toNat
/-- Is the field that starts there protected? -/
def protF (s : Spc) (a : Int) : Bool := if a < 0 then false else (s.cel a.toNat).prot
/-- May one write there? -/
def openB (s : Spc) (n : Int) : Bool := !(s.atC n).at_ && !protF s (stF s.P s.L.length (s.wr n))
/-- Is that the first place of an unprotected field? -/
def firstB (s : Spc) (n : Int) : Bool := (s.atC (n - 1)).at_ && !(s.atC (n - 1)).prot && !(s.atC n).at_
/-- What is sought, from a place on. -/
def SeekR (s : Spc) (p : Nat) (st r : Int) : Prop := (∃ k : Nat, k < s.L.length ∧ firstB s ((p : Int) + st * ((k : Int) + 1)) = true ∧ (∀ j : Nat, j < k → firstB s ((p : Int) + st * ((j : Int) + 1)) = false) ∧ r = (s.wr ((p : Int) + st * ((k : Int) + 1)) : Int)) ∨ ((∀ j : Nat, j < s.L.length → firstB s ((p : Int) + st * ((j : Int) + 1)) = false) ∧ r = -1)
abbrev field0 : Value := .agg #[.bool false, .bool false, .int .i64 0, .bool false]
section
variable {b g : Nat} {s : Spc}
end
end Go.Proofs.Ytlhaefgchmakfaa
