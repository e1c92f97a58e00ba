/-
  The law's own walk: HeaderCodes.
-/
import Derived.Test.YtahminbgedmgcaaDoorHh
namespace Go.Proofs.YtahminbgedmgcaaDoor
open Go.RowKit Go.Lib

/-- Of any few bytes both readers say the same. -/
theorem parse_both (ys : List Int) (hb : ∀ y ∈ ys, 0 ≤ y ∧ y < 256) (hl : ys.length ≤ 1000) : ∃ (t r s q : Int) (zs : List Int) (er : Int), (∀ W v, OwnB W v ys → Calls Tryd.prog 11 #[v] W (ParseE t r s q zs er W)) ∧ (∀ W v, OwnB W v ys → Calls Tryd.prog 13 #[v] W (ParseE t r s q zs er W)) := by
  by_cases h5 : ys.length < 5
  · exact ⟨0, 0, 0, 0, [], 2, fun W v h => parse_own_short h h5, fun W v h => rparse_own_short h h5⟩
  · obtain ⟨t, r, s, a, b, rest, rfl⟩ : ∃ t r s a b rest, ys = t :: r :: s :: a :: b :: rest := by
      match ys, h5 with
      | t :: r :: s :: a :: b :: rest, _ => exact ⟨t, r, s, a, b, rest, rfl⟩
      | [], h => exact absurd (by decide) h
      | [_], h => exact absurd (by simp) h
      | [_, _], h => exact absurd (by simp) h
      | [_, _, _], h => exact absurd (by simp) h
      | [_, _, _, _], h => exact absurd (by simp) h
    have hr : rest.length ≤ 1000 := by simp at hl; omega
    cases hk : okH t s
    · exact ⟨0, 0, 0, 0, [], 1, fun W v h => parse_own_no h hr hk, fun W v h => rparse_own_no h hr hk⟩
    · exact ⟨t, r, s, 256 * a + b, rest, 0, fun W v h => parse_own h hr hk, fun W v h => rparse_own h hr hk⟩
theorem cell_moved {w w' : World} {S S' : List Nat} (m : Moved w w' S S') {a : Addr} {v : Value} (h : w.cell? a = some v) (hs : a.block ∉ S) : w'.cell? a = some v := (World.cell?_of_block (m.block _ (World.block_lt_of_cell? w _ h) hs)).trans h
/-- A struct's own cells. -/
def Box4 (w : World) (g : Nat) (t r s q : Int) : Prop := w.cell? ⟨g, 0, none⟩ = some (.int .u8 t) ∧ w.cell? ⟨g, 1, none⟩ = some (.int .u8 r) ∧ w.cell? ⟨g, 2, none⟩ = some (.int .u8 s) ∧ w.cell? ⟨g, 3, none⟩ = some (.int .u16 q)
theorem Box4.step {w w' : World} {g : Nat} {t r s q : Int} (h : Box4 w g t r s q) (hb : Below w.heap.size w w') : Box4 w' g t r s q := ⟨keepc hb h.1, keepc hb h.2.1, keepc hb h.2.2.1, keepc hb h.2.2.2⟩
theorem Box4.moved {w w' : World} {S S' : List Nat} {g : Nat} {t r s q : Int} (h : Box4 w g t r s q) (m : Moved w w' S S') (hs : g ∉ S) : Box4 w' g t r s q := ⟨cell_moved m h.1 hs, cell_moved m h.2.1 hs, cell_moved m h.2.2.1 hs, cell_moved m h.2.2.2 hs⟩
theorem Box4.new (w : World) (t r s q : Int) (T : TypeId) : Box4 (w.alloc (.cells #[.int .u8 t, .int .u8 r, .int .u8 s, .int .u16 q] T)) w.heap.size t r s q := ⟨by simp [go_sem], by simp [go_sem], by simp [go_sem], by simp [go_sem]⟩
theorem Box4.lt {w : World} {g : Nat} {t r s q : Int} (h : Box4 w g t r s q) : g < w.heap.size := World.block_lt_of_cell? w _ h.1
theorem OwnB.lt {w : World} {v : Value} {xs : List Int} (h : OwnB w v xs) : ∀ k ∈ blkV v, k < w.heap.size := own_lt h.2
set_option maxRecDepth 100000 in
set_option maxHeartbeats 4000000 in
theorem headerCodes_true (t r s q : Int) (F : HFit t r s q) (p : Value) (xs : List Int) (w : World) (hN : Names w) (hp : Reads w p xs) : Calls Tryd.prog 3 #[hdrV t r s q, p] w fun e w' => e = .returned (.bool true) ∧ Below w.heap.size w w' := by
  have hbx := box_lit w (.int .u8 t) (.int .u8 r) (.int .u8 s) (.int .u16 q) 24
  have HW := hid (hawake_true _ (hN.step hbx))
  have HBX := hid hbx
  obtain ⟨i0, hi, hz0, hz1, hz2⟩ := info_parts info5
  have HCU := hid (fun W (h : Below w.heap.size w W) => show Calls Tryd.prog 10 #[p, .int .i64 30] W (RowDone (xs.take 30) W) from cut_any p 30 (by omega) xs W (reads_below hp h))
  have hyl : (xs.take 30).length ≤ 30 := List.length_take_le _ _
  have hyb : ∀ y ∈ xs.take 30, 0 ≤ y ∧ y < 256 := fun y hy => hp.1 y (List.mem_of_mem_take hy)
  obtain ⟨x0, n0, c0, rfl⟩ : ∃ x n c, p = .slice x n c := by
    rcases hp.2 with ⟨rfl, _⟩ | ⟨a, c, rfl, _⟩
    · exact ⟨_, _, _, rfl⟩
    · exact ⟨_, _, _, rfl⟩
  generalize xs.take 30 = ys at *
  obtain ⟨T, R, S, Q, zs, er, hpa, hrp⟩ := parse_both ys hyb (by omega)
  have HPA := hid hpa
  have HRP := hid hrp
  have HYB := hid hyb
  obtain ⟨L, hL⟩ : ∃ L, L = ys.length := ⟨_, rfl⟩
  rw [← hL] at hyl
  have HLY := hid hL
  have HCO := hid (fun W v (h : OwnB W v ys) => rcopy_any v ys W h.reads (by rw [← hL]; omega))
  clear hN hbx hp hpa hrp hyb hL
  cases hk : okH t s
  · have HBY := hid (fun W => hbytes_no t r s q W F hk)
    have HRB := hid (fun W => rbytes_no t r s q W F hk)
    obtain ⟨t0, t1, r0, r1, s0, s1, q0, q1⟩ := F
    clear hk
    go_enter Tryd.func3, Tryd.ntmps3
    go_wp2_with fail
    with_reducible refine HW.out.mono ?_
    rintro e w1 ⟨rfl, hb1⟩
    have hx1 := (Box4.new w t r s q 24).step hb1
    have HX1 := hid hx1
    obtain ⟨p0, p1, p2, p3⟩ := hx1
    have HB1 := hid (below_t HBX.out hb1)
    clear hb1
    go_wp2_with fail
    with_reducible refine (HBY.out _).mono ?_
    rintro e w2 ⟨v2, rfl, ho2, hb2, hk2⟩
    obtain ⟨x2, c2, rfl⟩ := own_empty ho2
    have hx2 := HX1.out.step hb2
    have HX2 := hid hx2
    obtain ⟨p0, p1, p2, p3⟩ := hx2
    have HO2 := hid ho2
    have HB2 := hid (below_t HB1.out hb2)
    clear ho2 hb2 hk2
    go_wp2_with fail
    with_reducible refine (HRB.out _).mono ?_
    rintro e w3 ⟨v3, rfl, ho3, hb3, hk3⟩
    obtain ⟨x3, c3, rfl⟩ := own_empty ho3
    have HX3 := hid (HX2.out.step hb3)
    have HO3 := hid ho3
    have HO2b := hid (HO2.out.step hb3)
    have HB3 := hid (below_t HB2.out hb3)
    clear ho3 hb3 hk3 p0 p1 p2 p3
    go_wp2_with fail
    with_reducible refine (same_true _ _ _ _ HO2b.out.reads HO3.out.reads).mono ?_
    rintro e w4 ⟨rfl, rfl⟩
    go_wp2_with fail
    with_reducible refine (HCU.out _ HB3.out).mono ?_
    rintro e w4 ⟨v4, rfl, hr4, hb4, ho4, hn4⟩
    have HO4 := hid (show OwnB w4 v4 ys from ⟨HYB.out, ho4.mono (Nat.zero_le _)⟩)
    obtain ⟨x4, n4, c4, rfl⟩ := own_slice HO4.out
    have HB4 := hid (below_t HB3.out hb4)
    have HX4 := hid (HX3.out.step hb4)
    clear hr4 hb4 ho4 hn4
    go_wp2_with fail
    with_reducible refine (HCO.out _ _ HO4.out).mono ?_
    rintro e w7 ⟨v7, rfl, ho7, hb7, hk7⟩
    obtain ⟨x7, n7, c7, rfl⟩ := own_slice ho7
    have HO7 := hid ho7
    have HK7 := hid (show (∀ k ∈ blkV (.slice x7 n7 c7), w.heap.size ≤ k ∧ k < w7.heap.size) from fun k h => ⟨Nat.le_trans HB4.out.size (hk7 k h), ho7.lt k h⟩)
    have HB7 := hid (below_t HB4.out hb7)
    have HO4b := hid (HO4.out.step hb7)
    clear ho7 hb7 hk7
    go_wp2_with fail
    with_reducible refine (HPA.out _ _ HO7.out).mono ?_
    rintro e w8 ⟨v8, rfl, ho8, hb8, hk8⟩
    obtain ⟨x8, n8, c8, rfl⟩ := own_slice ho8
    have HO8 := hid (OwnB.step ho8 (bal (Below.refl w8.heap.size w8) (.cells #[.int .u8 T, .int .u8 R, .int .u8 S, .int .u16 Q] 29)))
    have HK8 := hid hk8
    have HB8 := hid (bal (below_t HB7.out hb8) (.cells #[.int .u8 T, .int .u8 R, .int .u8 S, .int .u16 Q] 29))
    have HX8 := hid (Box4.new w8 T R S Q 29)
    have HO4c := hid (HO4b.out.step (bal hb8 (.cells #[.int .u8 T, .int .u8 R, .int .u8 S, .int .u16 Q] 29)))
    have HO7c := hid (HO7.out.step (bal hb8 (.cells #[.int .u8 T, .int .u8 R, .int .u8 S, .int .u16 Q] 29)))
    have HZ8 := hid hb8.size
    clear ho8 hb8 hk8
    go_wp2_with fail
    with_reducible refine (HRP.out _ _ HO4c.out).mono ?_
    rintro e w9 ⟨v9, rfl, ho9, hb9, hk9⟩
    obtain ⟨x9, n9, c9, rfl⟩ := own_slice ho9
    have HO9 := hid (OwnB.step ho9 (bal (Below.refl w9.heap.size w9) (.cells #[.int .u8 T, .int .u8 R, .int .u8 S, .int .u16 Q] 24)))
    have HK9 := hid hk9
    have HB9 := hid (bal (below_t HB8.out hb9) (.cells #[.int .u8 T, .int .u8 R, .int .u8 S, .int .u16 Q] 24))
    have HX9 := hid (Box4.new w9 T R S Q 24)
    have HX8b := hid (HX8.out.step (bal hb9 (.cells #[.int .u8 T, .int .u8 R, .int .u8 S, .int .u16 Q] 24)))
    have HO8b := hid (HO8.out.step (bal hb9 (.cells #[.int .u8 T, .int .u8 R, .int .u8 S, .int .u16 Q] 24)))
    have HO7d := hid (HO7c.out.step (bal hb9 (.cells #[.int .u8 T, .int .u8 R, .int .u8 S, .int .u16 Q] 24)))
    have HZ9 := hid hb9.size
    clear ho9 hb9 hk9
    go_wp2_with fail
    have hfl := flip_any _ ys _ HO7d.out.2 (by rw [← HLY.out]; omega)
    with_reducible refine hfl.mono ?_
    rintro e w10 ⟨rfl, m10⟩
    clear hfl
    have z9 := HZ9.out
    simp only [World.size_alloc] at z9
    have z8 := HZ8.out
    have hx8 := HX8b.out.moved m10 (fun h => by have := (HK7.out _ h).2; omega)
    have hx9 := HX9.out.moved m10 (fun h => by have := (HK7.out _ h).2; omega)
    have HO8e := hid (HO8b.out.moved m10 (fun k h1 h2 => by have := (HK7.out _ h2).2; have := HK8.out k h1; omega))
    have HO9e := hid (HO9.out.moved m10 (fun k h1 h2 => by have := (HK7.out _ h2).2; have h3 := HK9.out k h1; simp at h3; omega))
    have HB10 := hid (HB9.out.trans (m10.toBelow HB9.out.size (fun k h => (HK7.out k h).1)))
    obtain ⟨a0, a1, a2, a3⟩ := hx8
    obtain ⟨b0, b1, b2, b3⟩ := hx9
    clear m10 z8 z9
    go_wp2_with fail
    with_reducible refine (same_true _ _ _ _ HO8e.out.reads HO9e.out.reads).mono ?_
    rintro e w11 ⟨rfl, rfl⟩
    go_wp2
    go_ret
    exact ⟨rfl, HB10.out⟩
  · have HBY := hid (fun W => hbytes_ok t r s q W F hk)
    have HRB := hid (fun W => rbytes_ok t r s q W F hk)
    have HPO := hid (fun W v (h : OwnB W v (hdrL t r s q ++ ys)) => parse_own (t := t) (r := r) (s := s) (a := q / 256) (b := q % 256) (rest := ys) h (by rw [← HLY.out]; omega) hk)
    rw [show 256 * (q / 256) + q % 256 = q by omega] at HPO
    have HLF := hid (hdrL_fit F)
    obtain ⟨t0, t1, r0, r1, s0, s1, q0, q1⟩ := F
    clear hk
    go_enter Tryd.func3, Tryd.ntmps3
    go_wp2_with fail
    with_reducible refine HW.out.mono ?_
    rintro e w1 ⟨rfl, hb1⟩
    have hx1 := (Box4.new w t r s q 24).step hb1
    have HX1 := hid hx1
    obtain ⟨p0, p1, p2, p3⟩ := hx1
    have HB1 := hid (below_t HBX.out hb1)
    clear hb1
    go_wp2_with fail
    with_reducible refine (HBY.out _).mono ?_
    rintro e w2 ⟨v2, rfl, ho2, hb2, hk2⟩
    obtain ⟨x2, n2, c2, rfl⟩ := own_slice ho2
    have hx2 := HX1.out.step hb2
    have HX2 := hid hx2
    obtain ⟨p0, p1, p2, p3⟩ := hx2
    have HO2 := hid ho2
    have HK2 := hid (show ∀ k ∈ blkV (.slice x2 n2 c2), w.heap.size < k ∧ k < w2.heap.size from fun k h => ⟨Nat.lt_of_lt_of_le HX1.out.lt (hk2 k h), ho2.lt k h⟩)
    have HB2 := hid (below_t HB1.out hb2)
    clear ho2 hb2 hk2
    go_wp2_with fail
    with_reducible refine (HRB.out _).mono ?_
    rintro e w3 ⟨v3, rfl, ho3, hb3, hk3⟩
    obtain ⟨x3, n3, c3, rfl⟩ := own_slice ho3
    have HX3 := hid (HX2.out.step hb3)
    have HO3 := hid ho3
    have HZ3 := hid hb3.size
    have HO2b := hid (HO2.out.step hb3)
    have HB3 := hid (below_t HB2.out hb3)
    clear ho3 hb3 hk3 p0 p1 p2 p3
    go_wp2_with fail
    with_reducible refine (same_true _ _ _ _ HO2b.out.reads HO3.out.reads).mono ?_
    rintro e w4 ⟨rfl, rfl⟩
    go_wp2_with fail
    with_reducible refine (HCU.out _ HB3.out).mono ?_
    rintro e w4 ⟨v4, rfl, hr4, hb4, ho4, hn4⟩
    have HO4 := hid (show OwnB w4 v4 ys from ⟨HYB.out, ho4.mono (Nat.zero_le _)⟩)
    obtain ⟨x4, n4, c4, rfl⟩ := own_slice HO4.out
    have HB4 := hid (below_t HB3.out hb4)
    have HX4 := hid (HX3.out.step hb4)
    have HO2c := hid (HO2b.out.step hb4)
    have HK4 := hid (show ∀ k ∈ blkV (.slice x4 n4 c4), w3.heap.size ≤ k from fun k h => (ho4.lt k (mem_blkV.1 h)).1)
    obtain ⟨y4, rfl⟩ : ∃ y, x4 = some y := by
      rcases HO4.out.2.2 with ⟨e, _⟩ | ⟨g, cap, cur, e, _⟩
      · exact absurd e hn4
      · cases e; exact ⟨_, rfl⟩
    have HSR := hid (reads_src HO4.out.reads)
    have HLN : Hid ((ys.map (Value.int .u8)).length = n4 * 1) := by show _ = _; rw [List.length_map, HSR.out.1]; omega
    have hn4' : n4 ≤ 30 := by rw [HSR.out.1, ← HLY.out]; omega
    clear hr4 hb4 ho4 hn4
    go_wp2_with (first
      | (at_builtin; refine wpList_append_blk _ rfl _ _ 25 rfl 5 i0 (.int .u8 0) 1 1 Tryd.underlying25 hi hz0 hz1 hz2 rfl (by decide) (.slice x2 n2 c2) 5 ((hdrL t r s q).map (Value.int .u8)) rfl HO2c.out.2 y4 n4 c4 (ys.map (Value.int .u8)) rfl HLN.out HSR.out.2 (ints_oneCell .u8 _) (by unfold maxLen; omega) (by omega) ?_; intro v5 w5 hown1 hgrow1 hnil1 hblk1; have HO5 := hid hown1; have HG := hid hgrow1; have HNL := hid hnil1; have HK1 := hid hblk1; clear hown1 hgrow1 hnil1 hblk1))
    have m5 := Moved.grown HG.out (S := blkV (.slice x2 n2 c2)) (S' := blkV v5) (fun k h => mem_blkV.2 h) HK1.out
    have HO5b := hid (show OwnB w5 v5 (hdrL t r s q ++ ys) from ⟨fun x hx => by rcases List.mem_append.1 hx with h | h; exact HLF.out x h; exact HYB.out x h, by
      have := HO5.out
      rw [List.map_append, List.length_append, show (hdrL t r s q).length = 5 from rfl, ← HSR.out.1]
      exact this⟩)
    have HB5 := hid (HB4.out.trans (m5.toBelow HB4.out.size (fun k h => Nat.le_of_lt (HK2.out k h).1)))
    have HX5 := hid (HX4.out.moved m5 (fun h => by have := (HK2.out _ h).1; omega))
    have HO45 := hid (HO4.out.moved m5 (fun k h1 h2 => by have := (HK2.out _ h2).2; have := HK4.out k h1; have := HZ3.out; omega))
    clear m5
    obtain ⟨x5, n5, c5, rfl⟩ := own_slice HO5b.out
    with_reducible refine (HPO.out _ _ HO5b.out).mono ?_
    rintro e w6 ⟨v6, rfl, ho6, hb6, hk6⟩
    obtain ⟨x6, n6, c6, rfl⟩ := own_slice ho6
    have HO6 := hid (OwnB.step ho6 (bal (Below.refl w6.heap.size w6) (.cells #[.int .u8 t, .int .u8 r, .int .u8 s, .int .u16 q] 29)))
    have HB6 := hid (bal (below_t HB5.out hb6) (.cells #[.int .u8 t, .int .u8 r, .int .u8 s, .int .u16 q] 29))
    have hx6 := HX5.out.step hb6
    have HO46 := hid (HO45.out.step (bal hb6 (.cells #[.int .u8 t, .int .u8 r, .int .u8 s, .int .u16 q] 29)))
    have hlt : w.heap.size < w6.heap.size := hx6.lt
    obtain ⟨p0, p1, p2, p3⟩ := hx6
    clear ho6 hb6 hk6
    go_wp2_with fail
    with_reducible refine (same_true _ _ _ _ HO6.out.reads HO46.out.reads).mono ?_
    rintro e w7' ⟨rfl, rfl⟩
    clear p0 p1 p2 p3 hlt
    obtain ⟨W6, hW6⟩ : ∃ W6, W6 = w6.alloc (.cells #[.int .u8 t, .int .u8 r, .int .u8 s, .int .u16 q] 29) := ⟨_, rfl⟩
    rw [← hW6] at HO46 HB6 ⊢
    clear hW6 HO4 HB4
    have HO4 := HO46
    have HB4 := HB6
    go_wp2_with fail
    with_reducible refine (HCO.out _ _ HO4.out).mono ?_
    rintro e w7 ⟨v7, rfl, ho7, hb7, hk7⟩
    obtain ⟨x7, n7, c7, rfl⟩ := own_slice ho7
    have HO7 := hid ho7
    have HK7 := hid (show (∀ k ∈ blkV (.slice x7 n7 c7), w.heap.size ≤ k ∧ k < w7.heap.size) from fun k h => ⟨Nat.le_trans HB4.out.size (hk7 k h), ho7.lt k h⟩)
    have HB7 := hid (below_t HB4.out hb7)
    have HO4b := hid (HO4.out.step hb7)
    clear ho7 hb7 hk7
    go_wp2_with fail
    with_reducible refine (HPA.out _ _ HO7.out).mono ?_
    rintro e w8 ⟨v8, rfl, ho8, hb8, hk8⟩
    obtain ⟨x8, n8, c8, rfl⟩ := own_slice ho8
    have HO8 := hid (OwnB.step ho8 (bal (Below.refl w8.heap.size w8) (.cells #[.int .u8 T, .int .u8 R, .int .u8 S, .int .u16 Q] 29)))
    have HK8 := hid hk8
    have HB8 := hid (bal (below_t HB7.out hb8) (.cells #[.int .u8 T, .int .u8 R, .int .u8 S, .int .u16 Q] 29))
    have HX8 := hid (Box4.new w8 T R S Q 29)
    have HO4c := hid (HO4b.out.step (bal hb8 (.cells #[.int .u8 T, .int .u8 R, .int .u8 S, .int .u16 Q] 29)))
    have HO7c := hid (HO7.out.step (bal hb8 (.cells #[.int .u8 T, .int .u8 R, .int .u8 S, .int .u16 Q] 29)))
    have HZ8 := hid hb8.size
    clear ho8 hb8 hk8
    go_wp2_with fail
    with_reducible refine (HRP.out _ _ HO4c.out).mono ?_
    rintro e w9 ⟨v9, rfl, ho9, hb9, hk9⟩
    obtain ⟨x9, n9, c9, rfl⟩ := own_slice ho9
    have HO9 := hid (OwnB.step ho9 (bal (Below.refl w9.heap.size w9) (.cells #[.int .u8 T, .int .u8 R, .int .u8 S, .int .u16 Q] 24)))
    have HK9 := hid hk9
    have HB9 := hid (bal (below_t HB8.out hb9) (.cells #[.int .u8 T, .int .u8 R, .int .u8 S, .int .u16 Q] 24))
    have HX9 := hid (Box4.new w9 T R S Q 24)
    have HX8b := hid (HX8.out.step (bal hb9 (.cells #[.int .u8 T, .int .u8 R, .int .u8 S, .int .u16 Q] 24)))
    have HO8b := hid (HO8.out.step (bal hb9 (.cells #[.int .u8 T, .int .u8 R, .int .u8 S, .int .u16 Q] 24)))
    have HO7d := hid (HO7c.out.step (bal hb9 (.cells #[.int .u8 T, .int .u8 R, .int .u8 S, .int .u16 Q] 24)))
    have HZ9 := hid hb9.size
    clear ho9 hb9 hk9
    go_wp2_with fail
    have hfl := flip_any _ ys _ HO7d.out.2 (by rw [← HLY.out]; omega)
    with_reducible refine hfl.mono ?_
    rintro e w10 ⟨rfl, m10⟩
    clear hfl
    have z9 := HZ9.out
    simp only [World.size_alloc] at z9
    have z8 := HZ8.out
    have hx8 := HX8b.out.moved m10 (fun h => by have := (HK7.out _ h).2; omega)
    have hx9 := HX9.out.moved m10 (fun h => by have := (HK7.out _ h).2; omega)
    have HO8e := hid (HO8b.out.moved m10 (fun k h1 h2 => by have := (HK7.out _ h2).2; have := HK8.out k h1; omega))
    have HO9e := hid (HO9.out.moved m10 (fun k h1 h2 => by have := (HK7.out _ h2).2; have h3 := HK9.out k h1; simp at h3; omega))
    have HB10 := hid (HB9.out.trans (m10.toBelow HB9.out.size (fun k h => (HK7.out k h).1)))
    obtain ⟨a0, a1, a2, a3⟩ := hx8
    obtain ⟨b0, b1, b2, b3⟩ := hx9
    clear m10 z8 z9
    go_wp2_with fail
    with_reducible refine (same_true _ _ _ _ HO8e.out.reads HO9e.out.reads).mono ?_
    rintro e w11 ⟨rfl, rfl⟩
    go_wp2
    go_ret
    exact ⟨rfl, HB10.out⟩
end Go.Proofs.YtahminbgedmgcaaDoor
