/-
  A box of four; entry.Parse.
-/
import Derived.Test.YtlhaefgchmakfaaPh
namespace Go.Proofs.Ytlhaefgchmakfaa
open Go.RowKit Go.Lib Go.Deep

structure Bx4 (w : World) (b : Nat) (v0 v1 v2 v3 : Value) : Prop where
  c0 : w.cell? ⟨b, 0, none⟩ = some v0
  c1 : w.cell? ⟨b, 1, none⟩ = some v1
  c2 : w.cell? ⟨b, 2, none⟩ = some v2
  c3 : w.cell? ⟨b, 3, none⟩ = some v3
  fr : ∀ i, i < 4 → w.frozen? ⟨b, i, none⟩ = false
def pt4 (w : World) (b : Nat) (v0 v1 v2 v3 : Value) : World := (((w.setCell ⟨b, 0, none⟩ v0).setCell ⟨b, 1, none⟩ v1).setCell ⟨b, 2, none⟩ v2).setCell ⟨b, 3, none⟩ v3
section
variable {w w' : World} {b : Nat} {v0 v1 v2 v3 : Value}
theorem Bx4.new (w : World) (t : TypeId) : Bx4 (w.alloc (.cells #[v0, v1, v2, v3] t)) w.heap.size v0 v1 v2 v3 :=
  ⟨by simp [go_sem], by simp [go_sem], by simp [go_sem], by simp [go_sem], fun i _ => by simp [go_sem]⟩
theorem Bx4.lt (h : Bx4 w b v0 v1 v2 v3) : b < w.heap.size := World.block_lt_of_cell? w _ h.c0
theorem Bx4.moved {S S' : List Nat} (h : Bx4 w b v0 v1 v2 v3) (m : Moved w w' S S') (hb : b ∉ S) : Bx4 w' b v0 v1 v2 v3 :=
  ⟨cell_moved m h.c0 hb, cell_moved m h.c1 hb, cell_moved m h.c2 hb, cell_moved m h.c3 hb, fun i hi => (World.frozen?_of_block (m.block _ h.lt hb)).trans (h.fr i hi)⟩
theorem Bx4.step (h : Bx4 w b v0 v1 v2 v3) (hb : Below w.heap.size w w') : Bx4 w' b v0 v1 v2 v3 := h.moved (Moved.below hb []) (fun q => by cases q)
theorem Bx4.put (h : Bx4 w b v0 v1 v2 v3) (u0 u1 u2 u3 : Value) : Bx4 (pt4 w b u0 u1 u2 u3) b u0 u1 u2 u3 := by
  refine ⟨?_, ?_, ?_, ?_, fun i hi => by unfold pt4; simp [h.fr i hi]⟩
  · exact set_o (by omega) (set_o (by omega) (set_o (by omega) (set_s h.c0)))
  · exact set_o (by omega) (set_o (by omega) (set_s (set_o (by omega) h.c1)))
  · exact set_o (by omega) (set_s (set_o (by omega) (set_o (by omega) h.c2)))
  · exact set_s (set_o (by omega) (set_o (by omega) (set_o (by omega) h.c3)))
theorem Bx4.set3 (h : Bx4 w b v0 v1 v2 v3) (u : Value) : Bx4 (w.setCell ⟨b, 3, none⟩ u) b v0 v1 v2 u :=
  ⟨set_o (by omega) h.c0, set_o (by omega) h.c1, set_o (by omega) h.c2, set_s h.c3, fun i hi => by simp [h.fr i hi]⟩
theorem pt4_moved (w : World) (b : Nat) (v0 v1 v2 v3 : Value) : Moved w (pt4 w b v0 v1 v2 v3) [b] [b] :=
  have h : ∀ (w : World) (i : Nat) (v : Value), Moved w (w.setCell ⟨b, i, none⟩ v) [b] [b] := fun w i v => Moved.set (by simp) i v
  (((h _ 0 v0).trans (h _ 1 v1)).trans (h _ 2 v2)).trans (h _ 3 v3)
theorem pt4_below {B : Nat} (v0 v1 v2 v3 : Value) {w0 : World} (h : Below B w0 w) (hb : B ≤ b) : Below B w0 (pt4 w b v0 v1 v2 v3) := (((h.setCell (by exact hb) _).setCell (by exact hb) _).setCell (by exact hb) _).setCell (by exact hb) _
end
theorem EntM.moved {t : TypeId} {B : Nat} {w w' : World} {v : Value} {xs : List EnV} {S S' : List Nat} (h : EntM t B w v xs) (m : Moved w w' S S') (hS : ∀ k ∈ S, k < B) : EntM t B w' v xs :=
  ⟨own_moved h.row m (fun k hk q => by have := h.bv k hk; have := hS k q; omega), fun x hx => (h.txt x hx).moved m (fun k hk q => by have := h.bt x hx k hk; have := hS k q; omega), h.ap, h.sep, h.bv, h.bt⟩
theorem EntM.weak {t : TypeId} {B B' : Nat} {w : World} {v : Value} {xs : List EnV} (h : EntM t B w v xs) (hB : B' ≤ B) : EntM t B' w v xs :=
  ⟨h.row, h.txt, h.ap, h.sep, fun k hk => Nat.le_trans hB (h.bv k hk), fun x hx k hk => Nat.le_trans hB (h.bt x hx k hk)⟩
/-- A report read. -/
def RptD (r : Int × RepD) (w : World) (e : Ending) (w' : World) : Prop := ∃ v es, e = .returned (.tuple #[.agg #[.int .u8 r.2.aid, .bool r.2.short, .int .i64 r.2.cur, v], .int .i64 r.1]) ∧ EntM 107 w.heap.size w' v es ∧ es.map EnV.d = r.2.ens ∧ Below w.heap.size w w'
theorem par_zero {er : Int} {w w' : World} (hb : Below w.heap.size w w') : RptD (er, repZ) w (.returned (.tuple #[.agg #[.int .u8 0, .bool false, .int .i64 0, .slice none 0 0], .int .i64 er])) w' := ⟨_, [], rfl, EntM.nil _ _ _, rfl, hb⟩
theorem kinds_lit (w : World) : KindsIn (w.alloc (.cells #[.int .i64 17, .int .i64 0, .int .i64 8, .int .i64 40] 3)) (.slice (some ⟨w.heap.size, 0, none⟩) 4 4) kindsP := by
  refine ⟨w.heap.size, 4, rfl, by simp, fun i hi => ?_⟩
  match i, hi with
  | 0, _ => simp [go_sem]; rfl
  | 1, _ => simp [go_sem]; rfl
  | 2, _ => simp [go_sem]; rfl
  | 3, _ => simp [go_sem]; rfl
set_option maxRecDepth 100000 in
set_option maxHeartbeats 4000000 in
theorem eparse_one (v : Value) (a : Int) (w : World) (h : Reads w v [a]) : Calls Try.prog 30 #[v] w (RptD (0, ⟨a, true, 0, []⟩) w) := by
  rcases reads_cases h with ⟨x, c, rfl, hx⟩ | ⟨g, off, n, c, rfl, hn, hg, hc⟩
  · cases hx
  · obtain rfl : n = 1 := hn
    have c0 : w.cell? ⟨g, off, none⟩ = some (.int .u8 a) := hc 0 (Nat.zero_lt_one)
    have HB := hid (fun o => bal (Below.refl w.heap.size w) o)
    clear h hc
    go_enter Try.func30, Try.ntmps30
    go_wp2
    refine bodyPost_ret (v := .tuple #[.agg #[.int .u8 a, .bool true, .int .i64 0, .slice none 0 0], .int .i64 0]) (by simp [results, Try.results30, go_sem]) rfl ?_
    exact ⟨_, [], rfl, EntM.nil _ _ _, rfl, HB.out _⟩
set_option maxRecDepth 100000 in
set_option maxHeartbeats 4000000 in
theorem eparse_long (v : Value) (xs : List Int) (w : World) (h : Reads w v xs) (h1 : xs.length ≠ 1) (hl : xs.length ≤ 100000) : Calls Try.prog 30 #[v] w (RptD (if (inbF kindsP xs).1 = 0 then (0, ⟨xs.getD 0 0, false, (inbF kindsP xs).2.1, entE (inbF kindsP xs).2.2⟩) else ((inbF kindsP xs).1, repZ)) w) := by
  have HIN := hid (fun W (hb : Below w.heap.size w W) kv (hk : KindsIn W kv kindsP) => inb_any v kv kindsP xs W (reads_below h hb) hk (by decide) hl)
  have HL3 := hid (show (inbF kindsP xs).1 = 0 → 3 ≤ xs.length from fun q => Nat.le_of_not_lt fun q2 => by unfold inbF at q; rw [if_pos q2] at q; exact absurd q (by decide))
  have HU8 := hid (show ∀ o ∈ (inbF kindsP xs).2.2, 0 ≤ o.code ∧ o.code < 256 from by
    unfold inbF
    repeat' split
    all_goals first | exact allF_u8 _ (fun x q => h.1 x (List.mem_of_mem_drop q)) | (intro o ho; cases ho))
  have HWT := hid (Nat.le_trans (inbF_wt kindsP xs) (Nat.mul_le_mul_left 3 hl))
  have HKL := hid (kinds_lit (w.alloc (.cells #[.int .u8 0, .bool false, .int .i64 0, .slice none 0 0] 69)))
  rw [show (w.alloc (.cells #[.int .u8 0, .bool false, .int .i64 0, .slice none 0 0] 69)).heap.size = w.heap.size + 1 by simp] at HKL
  have HB0 := hid (bal (bal (Below.refl w.heap.size w) (.cells #[.int .u8 0, .bool false, .int .i64 0, .slice none 0 0] 69)) (.cells #[.int .i64 17, .int .i64 0, .int .i64 8, .int .i64 40] 3))
  have HX := hid ((Bx4.new (v0 := .int .u8 0) (v1 := .bool false) (v2 := .int .i64 0) (v3 := .slice none 0 0) w 69).step (bal (Below.refl _ _) (.cells #[.int .i64 17, .int .i64 0, .int .i64 8, .int .i64 40] 3)))
  have HIC := hid (HIN.out _ HB0.out _ HKL.out)
  obtain ⟨⟨er, cu, ds⟩, hr⟩ : ∃ r, inbF kindsP xs = r := ⟨_, rfl⟩
  rw [hr] at HIC HL3 HU8 HWT ⊢
  dsimp only at HL3 HU8 HWT ⊢
  clear hr HIN
  by_cases he : er = 0
  · subst he
    rw [if_pos rfl]
    have h3 := HL3.out rfl
    rcases reads_cases h with ⟨x, c, rfl, hx⟩ | ⟨g, off, n, c, rfl, hn, hg, hc⟩
    · rw [hx] at h3; exact absurd h3 (by decide)
    · have c0 : w.cell? ⟨g, off, none⟩ = some (.int .u8 (xs.getD 0 0)) := hc 0 (by omega)
      generalize xs.getD 0 0 = a at c0 ⊢
      rw [← hn] at h1 h3 hl
      have hn1 : ((n : Int) == 1) = false := by simp; omega
      have hn2 : (n == 1) = false := by simp; omega
      have hn0 : (0 : Int) < n := by omega
      have hn3 : 0 < n := by omega
      clear h hc hn h1 h3 hl HL3
      go_enter Try.func30, Try.ntmps30
      go_wp2_with fail
      with_reducible refine HIC.out.mono ?_
      rintro e w1 ⟨l, os, rfl, ho, hd, hb1⟩
      have HB01 := hid (below_t (Below.refl _ _) hb1)
      have HX0 := hid (HX.out.step hb1)
      have HB1 := hid (below_t HB0.out hb1)
      dsimp only at hd
      have HD := hid hd
      have HEN := hid (fun W (hb : Below w1.heap.size w1 W) => entries_any l os W (ho.step hb) (fun x hx => HU8.out x.d (by rw [← hd]; exact List.mem_map_of_mem hx)) (by rw [hd]; exact HWT.out))
      obtain ⟨xl, cl, rfl⟩ := row_slice ho.row
      clear ho hd hb1 HIC
      go_wp2_with fail
      refine wp_region_held_drew (S := fun V => V.cell? ⟨g, off, none⟩ = some (.int .u8 a) ∧ Below w.heap.size w V) (by kernel_rfl) ?_ (fun hHeld => ?_)
      · exact ⟨keepc (HB1.out.drew) c0, HB1.out.drew⟩
      refine takeD_o (i := 0) (v := ?_) 25 rfl rfl (by kernel_rfl) (by kernel_rfl) (by kernel_rfl) (fun _ _ _ h => h) (by assumption) (Or.inl ⟨by rfl, ?_⟩) ?_
      rotate_left
      · intro w hSw
        (try dsimp only at hSw)
        go_simp
        try with_reducible rfl
      simp only [List.setIfInBounds_toArray, List.set_cons_zero, List.set_cons_succ]
      refine takeD_o (i := 1) (v := ?_) 26 rfl rfl (by kernel_rfl) (by kernel_rfl) (by kernel_rfl) (fun _ _ _ h => h) (by assumption) (Or.inl ⟨by rfl, ?_⟩) ?_
      rotate_left
      · intro w hSw
        (try dsimp only at hSw)
        go_simp
        try with_reducible rfl
      simp only [List.setIfInBounds_toArray, List.set_cons_zero, List.set_cons_succ]
      refine takeD_o (i := 2) (v := ?_) 27 rfl rfl (by kernel_rfl) (by kernel_rfl) (by kernel_rfl) (fun _ _ _ h => h) (by assumption) (Or.inl ⟨by rfl, ?_⟩) ?_
      rotate_left
      · intro w hSw
        (try dsimp only at hSw)
        go_simp
        try with_reducible rfl
      simp only [List.setIfInBounds_toArray, List.set_cons_zero, List.set_cons_succ]
      refine takeD_o (i := 3) (v := ?_) 28 rfl rfl (by kernel_rfl) (by kernel_rfl) (by kernel_rfl) (fun _ _ _ h => h) (by assumption) (Or.inl ⟨by rfl, ?_⟩) ?_
      rotate_left
      · intro w hSw
        (try dsimp only at hSw)
        go_simp
        try with_reducible rfl
      simp only [List.setIfInBounds_toArray, List.set_cons_zero, List.set_cons_succ]
      refine takeD_o (i := 4) (v := ?_) 29 rfl rfl (by kernel_rfl) (by kernel_rfl) (by kernel_rfl) (fun _ _ _ h => h) (by assumption) (Or.inl ⟨by rfl, ?_⟩) ?_
      rotate_left
      · intro w hSw
        (try dsimp only at hSw)
        go_simp
        try with_reducible rfl
      simp only [List.setIfInBounds_toArray, List.set_cons_zero, List.set_cons_succ]
      refine wpAnyH_ready (rs := [5]) (by kernel_rfl) (by simp) ?_
      refine AllReadyH.cons (by simp only [List.getElem?_toArray, List.getElem?_cons_succ, List.getElem?_cons_zero]; rfl) (fun K hK => ?_) AllReadyH.nil
      go_simp
      go_at_call 62; (with_reducible refine (HEN.out _ (Below.refl _ _).drew).mono ?_); rintro e w2 ⟨v2, es, rfl, hm, hes, hb2⟩
      refine hK.out _ _ ?_ (fun hHeldN => ?_)
      · exact (fun hb3 => ⟨keepc hb3 c0, hb3⟩) (below_t HB1.out (below_t (Below.refl _ _).drew hb2))
      have HM := hid hm
      have HES := hid hes
      have HB2 := hid (below_t HB1.out (below_t (Below.refl _ _).drew hb2))
      obtain ⟨xv, cv, rfl⟩ := row_slice hm.row
      have HX2 := hid ((HX0.out.step (Below.refl _ _).drew).step hb2)
      have hz := HX2.out.lt
      obtain ⟨k0, k1, k2, k3, kf⟩ := HX2.out
      have f0 := kf 0 (by omega)
      have f1 := kf 1 (by omega)
      have f2 := kf 2 (by omega)
      have f3 := kf 3 (by omega)
      clear kf hm hes hb2
      clear hK K hHeld
      have hHeld := hHeldN
      clear hHeldN
      (try simp only [Act.put, List.setIfInBounds_toArray, List.set_cons_zero, List.set_cons_succ])
      refine takeD_o (i := 6) (v := ?_) 31 rfl rfl (by kernel_rfl) (by kernel_rfl) (by kernel_rfl) (fun _ _ _ h => h) (by assumption) (Or.inl ⟨by rfl, ?_⟩) ?_
      rotate_left
      · intro w hSw
        (try dsimp only at hSw)
        go_simp
        try with_reducible rfl
      simp only [List.setIfInBounds_toArray, List.set_cons_zero, List.set_cons_succ]
      refine wpAnyH_ready (rs := [7]) (by kernel_rfl) (by simp) ?_
      refine AllReadyH.cons (by simp only [List.getElem?_toArray, List.getElem?_cons_succ, List.getElem?_cons_zero]; rfl) (fun K hK => ?_) AllReadyH.nil
      go_simp
      refine hK.out _ _ ?_ (fun hHeldN => ?_)
      · exact (fun hq => ⟨keepc hq c0, hq⟩) (pt4_below (b := w.heap.size) (.int .u8 a) (.bool false) (.int .i64 cu) (.slice xv es.length cv) HB2.out (Nat.le_refl _))
      clear hK K hHeld
      have hHeld := hHeldN
      clear hHeldN
      (try simp only [Act.put, List.setIfInBounds_toArray, List.set_cons_zero, List.set_cons_succ])
      refine takeD_o (i := 8) (v := ?_) 3 rfl rfl (by kernel_rfl) (by kernel_rfl) (by kernel_rfl) (fun _ _ _ h => h) (by assumption) (Or.inl ⟨by rfl, ?_⟩) ?_
      rotate_left
      · intro w hSw
        (try dsimp only at hSw)
        go_simp
        try with_reducible rfl
      simp only [List.setIfInBounds_toArray, List.set_cons_zero, List.set_cons_succ]
      refine wpAnyH_done (by kernel_rfl) ?_ _
      clear hHeld
      have HP := hid (HX2.out.put (.int .u8 a) (.bool false) (.int .i64 cu) (.slice xv es.length cv))
      have HF := hid (show RptD (0, ⟨a, false, cu, entE ds⟩) w (.returned (.tuple #[.agg #[.int .u8 a, .bool false, .int .i64 cu, .slice xv es.length cv], .int .i64 0])) (pt4 w2 w.heap.size (.int .u8 a) (.bool false) (.int .i64 cu) (.slice xv es.length cv)) from
        ⟨_, es, rfl, (HM.out.moved (pt4_moved _ _ _ _ _ _) (fun k hk => by rw [List.mem_singleton.1 hk]; have := HX0.out.lt; simpa using this)).weak (by have := HX0.out.lt; simp; omega), by rw [HES.out, HD.out]; rfl, pt4_below _ _ _ _ HB2.out (Nat.le_refl _)⟩)
      go_wp2
      revert HP HF
      generalize hW : pt4 w2 w.heap.size (.int .u8 a) (.bool false) (.int .i64 cu) (.slice xv es.length cv) = Wf
      intro HP HF
      obtain ⟨q0, q1, q2, q3, -⟩ := HP.out
      unfold pt4 at hW
      rw [hW]
      clear hW
      exact bodyPost_ret (v := .tuple #[.agg #[.int .u8 a, .bool false, .int .i64 cu, .slice xv es.length cv], .int .i64 0]) (by simp [results, Try.results30, go_sem, q0, q1, q2, q3]) rfl HF.out
  · rw [if_neg he]
    have e0 : (er == 0) = false := by simpa using he
    have e1 : (er != 0) = true := by simpa using he
    obtain ⟨x, c, rfl⟩ := reads_sl h
    generalize xs.length = n at h1 HIC ⊢
    have hn1 : ((n : Int) == 1) = false := by simp; omega
    have hn2 : (n == 1) = false := by simp; omega
    clear h h1 hl HL3 he
    go_enter Try.func30, Try.ntmps30
    go_wp2_with fail
    with_reducible refine HIC.out.mono ?_
    rintro e w1 ⟨l, os, rfl, ho, hd, hb1⟩
    have HX0 := hid (HX.out.step hb1)
    have HB1 := hid (below_t HB0.out hb1)
    obtain ⟨xl, cl, rfl⟩ := row_slice ho.row
    obtain ⟨k0, k1, k2, k3, kf⟩ := HX0.out
    have f0 := kf 0 (by omega)
    have f1 := kf 1 (by omega)
    have f2 := kf 2 (by omega)
    have f3 := kf 3 (by omega)
    have hz := HX0.out.lt
    clear kf ho hd hb1 HIC
    have HP := hid (HX0.out.put (.int .u8 0) (.bool false) (.int .i64 0) (.slice none 0 0))
    have HF := hid (show RptD (er, repZ) w (.returned (.tuple #[.agg #[.int .u8 0, .bool false, .int .i64 0, .slice none 0 0], .int .i64 er])) (pt4 w1 w.heap.size (.int .u8 0) (.bool false) (.int .i64 0) (.slice none 0 0)) from par_zero (pt4_below _ _ _ _ HB1.out (Nat.le_refl _)))
    go_wp2
    revert HP HF
    generalize hW : pt4 w1 w.heap.size (.int .u8 0) (.bool false) (.int .i64 0) (.slice none 0 0) = Wf
    intro HP HF
    obtain ⟨q0, q1, q2, q3, -⟩ := HP.out
    unfold pt4 at hW
    rw [hW]
    clear hW
    exact bodyPost_ret (v := .tuple #[.agg #[.int .u8 0, .bool false, .int .i64 0, .slice none 0 0], .int .i64 er]) (by simp [results, Try.results30, go_sem, q0, q1, q2, q3]) rfl HF.out
theorem eparse_any (v : Value) (xs : List Int) (w : World) (h : Reads w v xs) (hl : xs.length ≤ 100000) : Calls Try.prog 30 #[v] w (RptD (parE xs) w) := by
  by_cases h1 : xs.length = 1
  · match xs, h1 with
    | [a], _ => exact eparse_one v a w h
  · have e : parE xs = if (inbF kindsP xs).1 = 0 then (0, ⟨xs.getD 0 0, false, (inbF kindsP xs).2.1, entE (inbF kindsP xs).2.2⟩) else ((inbF kindsP xs).1, repZ) := by unfold parE; rw [if_neg h1]
    rw [e]
    exact eparse_long v xs w h h1 hl
end Go.Proofs.Ytlhaefgchmakfaa
