/-
  The law's example of entry; EntryAgain's walk.
-/
import Derived.Test.YtlhaefgchmakfaaPl
namespace Go.Proofs.Ytlhaefgchmakfaa
open Go.RowKit Go.Lib Go.Deep

theorem parE_short {xs : List Int} (h : (parE xs).2.short = true) : (parE xs).2 = ⟨(parE xs).2.aid, true, 0, []⟩ := by
  unfold parE at h ⊢
  split
  · rfl
  · rename_i q
    rw [if_neg q] at h
    split
    · rename_i q2; rw [if_pos q2] at h; exact absurd (show false = true from h) (by decide)
    · rename_i q2; rw [if_neg q2] at h; exact absurd (show false = true from h) (by decide)
/-- What was read, told, and read again is the same. -/
theorem parE_again (xs : List Int) (h : (bytE (parE xs).2).1 = 0) : parE (bytE (parE xs).2).2 = (0, (parE xs).2) := by
  have q := parE_told (parE xs).2 h
  rw [q]
  cases hs : (parE xs).2.short
  · rfl
  · rw [if_pos rfl]
    exact congrArg (Prod.mk 0) (parE_short hs).symm
theorem bytE_len (r : RepD) : (bytE r).2.length ≤ 3 + 8 * totE r.ens := by
  unfold bytE
  split
  · show 1 ≤ _; omega
  · split
    · split
      · have h1 := opsB_len (ordE (bareE r.ens) r.ens)
        have h2 := totO_ord (bareE r.ens) r.ens
        show (r.aid :: encZ r.cur ++ _).length ≤ _
        rw [List.length_append]
        simp [encZ]
        omega
      · simp
    · simp
theorem parE_aid {xs : List Int} (hx : ∀ x ∈ xs, 0 ≤ x ∧ x < 256) : 0 ≤ (parE xs).2.aid ∧ (parE xs).2.aid < 256 := by
  have h0 : 0 ≤ xs.getD 0 0 ∧ xs.getD 0 0 < 256 := by
    match xs, hx with
    | [], _ => exact ⟨Int.le_refl _, (by decide : (0 : Int) < 256)⟩
    | b :: r, hx => exact hx b (by simp)
  unfold parE
  split
  · exact h0
  · split
    · exact h0
    · exact ⟨Int.le_refl _, (by decide : (0 : Int) < 256)⟩
set_option maxRecDepth 100000 in
set_option maxHeartbeats 4000000 in
theorem awake20 (w : World) : Calls Try.prog 25 #[] w fun e w' => e = .returned (.bool true) ∧ Below w.heap.size w w' := by
  have hr := (own_lit w #[.int .u8 125, .int .u8 64, .int .u8 194, .int .u8 17, .int .u8 64, .int .u8 193, .int .u8 193, .int .u8 194] 8 [125, 64, 194, 17, 64, 193, 193, 194] (by decide) rfl rfl (by decide) _ rfl).reads
  have HP := hid (eparse_any _ _ _ hr (by decide))
  rw [ex_par] at HP
  have HB0 := hid (bal (Below.refl w.heap.size w) (.cells #[.int .u8 125, .int .u8 64, .int .u8 194, .int .u8 17, .int .u8 64, .int .u8 193, .int .u8 193, .int .u8 194] 5))
  clear hr
  go_enter Try.func25, Try.ntmps25
  go_wp2_with fail
  with_reducible refine HP.out.mono ?_
  rintro e w1 ⟨v, es, rfl, hm, he, hb⟩
  have HB1 := hid (below_t HB0.out hb)
  dsimp only at he
  obtain ⟨x, hx⟩ : ∃ x, es = [x] := List.length_eq_one_iff.1 (by have q := congrArg List.length he; simpa using q)
  subst hx
  obtain ⟨xd, tv⟩ := x
  have hd : xd = ⟨1, [193, 194]⟩ := by simpa using he
  subst hd
  have ht := hm.txt _ (List.mem_singleton_self _)
  dsimp only at ht
  obtain ⟨xv, cv, rfl, _, _, hat⟩ := hm.at
  obtain ⟨g, rfl, hgl, hc0, hc1⟩ := hat 0 (by simp)
  obtain ⟨xt, ct, rfl⟩ := own_len ht 2 rfl
  have c0 : w1.cell? ⟨g, 0, none⟩ = some (.int .i64 1) := hc0
  have c1 : w1.cell? ⟨g, 1, none⟩ = some (.slice xt 2 ct) := hc1
  have hcv : (convert 31 9 (.slice xt 2 ct)).run Try.prog (w1.alloc (.cells #[.int .u8 125, .bool false, .int .i64 2, .slice (some ⟨g, 0, none⟩) 1 cv] 69)) = .ok (.string ⟨#[193, 194]⟩) (w1.alloc (.cells #[.int .u8 125, .bool false, .int .i64 2, .slice (some ⟨g, 0, none⟩) 1 cv] 69)) := reads_conv (reads_below ht.reads (bal (Below.refl _ _) _))
  clear hm he hb hat hc0 hc1 ht
  go_wp2
  go_ret
  exact ⟨rfl, bal HB1.out _⟩
set_option maxRecDepth 100000 in
set_option maxHeartbeats 4000000 in
theorem again_any (v : Value) (xs0 : List Int) (w : World) (h : Reads w v xs0) : Calls Try.prog 7 #[v] w fun e w' => e = .returned (.bool true) ∧ Below w.heap.size w w' := by
  have HA := hid (awake20 w)
  have HCU := hid (fun W (hb : Below w.heap.size w W) => show Calls Try.prog 26 #[v, .int .i64 400] W (OwnDone (xs0.take 400) W) from rcut_own v 400 (by omega) xs0 W (reads_below h hb))
  have hl0 : (xs0.take 400).length ≤ 400 := by rw [List.length_take]; omega
  generalize xs0.take 400 = xs at HCU hl0
  obtain ⟨x0, c0, rfl⟩ := reads_sl h
  generalize xs0.length = n0 at HCU
  have HWT := hid (Nat.le_trans (parE_wt xs) (Nat.mul_le_mul_left 3 hl0))
  have HL0 := hid hl0
  clear h hl0
  go_enter Try.func7, Try.ntmps7
  go_wp2_with fail
  with_reducible refine HA.out.mono ?_
  rintro e w1 ⟨rfl, hb1⟩
  have HB1 := hid hb1
  clear hb1
  go_wp2_with fail
  with_reducible refine (HCU.out _ HB1.out).mono ?_
  rintro e w2 ⟨v2, rfl, ho2, hb2, -⟩
  have HU8 := hid ho2.1
  have HB2 := hid (below_t HB1.out hb2)
  have HP := hid (eparse_any _ xs w2 ho2.reads (by have := HL0.out; omega))
  obtain ⟨x2, n2, c2, rfl⟩ := own_slice ho2
  clear ho2 hb2
  have HAG := hid (parE_again xs)
  have HBR := hid (bytE_read xs)
  have HAI := hid (parE_aid HU8.out)
  have HBL := hid (Nat.le_trans (bytE_len (parE xs).2) (show 3 + 8 * totE (parE xs).2.ens ≤ 100000 by have := HWT.out; omega))
  go_wp2_with fail
  with_reducible refine HP.out.mono ?_
  rintro e w3 ⟨v3, es, rfl, hm3, he3, hb3⟩
  generalize parE xs = r at he3 HWT HAG HBR HAI HBL
  obtain ⟨er, ⟨ai, sh, cu, ens⟩⟩ := r
  dsimp only at he3 HWT HAG HBR HAI HBL ⊢
  subst he3
  obtain ⟨x3, c3, rfl⟩ := row_slice hm3.row
  obtain ⟨n3, hn3⟩ : ∃ n, es.length = n := ⟨_, rfl⟩
  have HM3 := hid hm3
  have HN3 := hid hn3
  have HB3 := hid (below_t HB2.out hb3)
  rw [hn3] at HM3 ⊢
  clear hm3 hb3 hn3
  by_cases he : er = 0
  · subst he
    have HBX := hid (Bx4.new (v0 := .int .u8 ai) (v1 := .bool sh) (v2 := .int .i64 cu) (v3 := .slice x3 n3 c3) w3 69)
    have HBB := hid (bal (Below.refl w3.heap.size w3) (.cells #[.int .u8 ai, .bool sh, .int .i64 cu, .slice x3 n3 c3] 69))
    have HEB := hid (ebytes_any ai sh cu _ es _ _ (HM3.out.step HBB.out) (by have := HWT.out; omega) HAI.out)
    have hb1l := HBX.out.lt
    generalize hR : bytE ⟨ai, sh, cu, es.map EnV.d⟩ = R at HAG HBR HBL HEB
    obtain ⟨ef, bs⟩ := R
    dsimp only at HAG HBR HBL HEB
    clear hR
    go_wp2_with fail
    with_reducible refine HEB.out.mono ?_
    rintro e w4 ⟨v4, rfl, ho4, -, hb4⟩
    dsimp only at ho4
    obtain ⟨x4, n4, c4, rfl⟩ := own_slice ho4
    have HP4 := hid (eparse_any _ bs w4 ho4.reads HBL.out)
    have HB4 := hid (below_t HB3.out (below_t HBB.out hb4))
    have HM4 := hid ((HM3.out.step HBB.out).step hb4)
    have HBX4 := hid (HBX.out.step hb4)
    clear ho4 hb4 HEB
    by_cases hf : ef = 0
    · subst hf
      rw [HAG.out rfl] at HP4
      go_wp2_with fail
      with_reducible refine HP4.out.mono ?_
      rintro e w5 ⟨v5, fs, rfl, hm5, hf5, hb5⟩
      dsimp only at hf5 ⊢
      have HM5 := hid hm5
      obtain ⟨x5, c5, rfl⟩ := row_slice hm5.row
      obtain ⟨n5, hn5⟩ : ∃ n, fs.length = n := ⟨_, rfl⟩
      rw [hn5] at HM5 ⊢
      have HF5 := hid hf5
      have HB5 := hid (below_t HB4.out hb5)
      have HBX5 := hid (HBX4.out.step hb5)
      have HM35 := hid (HM4.out.step hb5)
      have HBB5 := hid (bal (Below.refl w5.heap.size w5) (.cells #[.int .u8 ai, .bool sh, .int .i64 cu, .slice x5 n5 c5] 69))
      have HLE := hid (show es.length ≤ 300000 by have := totE_len (es.map EnV.d); have := HWT.out; rw [List.length_map] at *; omega)
      have HLF := hid (show fs.length ≤ 300000 by have e1 := congrArg List.length HF5.out; rw [List.length_map, List.length_map] at e1; rw [e1]; exact HLE.out)
      have HBX1 := hid (HBX5.out.step HBB5.out)
      have HBX2 := hid (Bx4.new (v0 := .int .u8 ai) (v1 := .bool sh) (v2 := .int .i64 cu) (v3 := .slice x5 n5 c5) w5 69)
      have HMA := hid (HM35.out.step HBB5.out)
      have HMB := hid (HM5.out.step HBB5.out)
      have HB6 := hid (below_t HB5.out HBB5.out)
      clear hm5 hf5 hb5 hn5
      go_wp2_with fail
      generalize w5.alloc (.cells #[.int .u8 ai, .bool sh, .int .i64 cu, .slice x5 n5 c5] 69) = W6 at HBX1 HBX2 HMA HMB HB6 ⊢
      have HBK1 := hid (fun W (hb : Below W6.heap.size W6 W) => rback_any ai sh cu _ es _ W (HMA.out.step hb) HLE.out)
      have HBK2 := hid (fun W (hb : Below W6.heap.size W6 W) => rback_any ai sh cu _ fs _ W (HMB.out.step hb) HLF.out)
      have HSM0 := hid (fun W (hb : Below W6.heap.size W6 W) (v u : Value) (hv : W.ownsRow (W6.drew.heap.size) 64 2 v fs.length (cellsE fs)) (hu : ∃ B, W.ownsRow B 64 2 u es.length (cellsE es)) => rsame20 ai sh cu v u fs es HF5.out W (entIn_of hv (fun x hx => ((HMB.out.step hb).txt x hx).reads)) (entIn_of hu.choose_spec (fun x hx => ((HMA.out.step hb).txt x hx).reads)) HLF.out)
      refine wp_region_held_drew (S := fun V => V.cell? ⟨w3.heap.size, 0, none⟩ = some (.int .u8 ai) ∧ V.cell? ⟨w3.heap.size, 1, none⟩ = some (.bool sh) ∧ V.cell? ⟨w3.heap.size, 2, none⟩ = some (.int .i64 cu) ∧ V.cell? ⟨w3.heap.size, 3, none⟩ = some (.slice x3 n3 c3) ∧ V.cell? ⟨w5.heap.size, 0, none⟩ = some (.int .u8 ai) ∧ V.cell? ⟨w5.heap.size, 1, none⟩ = some (.bool sh) ∧ V.cell? ⟨w5.heap.size, 2, none⟩ = some (.int .i64 cu) ∧ V.cell? ⟨w5.heap.size, 3, none⟩ = some (.slice x5 n5 c5) ∧ Below W6.heap.size W6 V) (by kernel_rfl) ?_ (fun hHeld => ?_)
      · have hdr : Below W6.heap.size W6 W6.drew := (Below.refl _ _).drew
        exact ⟨keepc hdr (HBX1.out.c0), keepc hdr (HBX1.out.c1), keepc hdr (HBX1.out.c2), keepc hdr (HBX1.out.c3), keepc hdr (HBX2.out.c0), keepc hdr (HBX2.out.c1), keepc hdr (HBX2.out.c2), keepc hdr (HBX2.out.c3), hdr⟩
      refine takeD_o (i := 0) (v := ?_) 33 rfl rfl (by kernel_rfl) (by kernel_rfl) (by kernel_rfl) (fun _ _ _ h => h) (by assumption) (Or.inl ⟨by rfl, ?_⟩) ?_
      rotate_left
      · intro w hSw
        (try dsimp only at hSw)
        go_simp
        try with_reducible rfl
      simp only [List.setIfInBounds_toArray, List.set_cons_zero, List.set_cons_succ]
      refine takeD_o (i := 1) (v := ?_) 34 rfl rfl (by kernel_rfl) (by kernel_rfl) (by kernel_rfl) (fun _ _ _ h => h) (by assumption) (Or.inl ⟨by rfl, ?_⟩) ?_
      rotate_left
      · intro w hSw
        (try dsimp only at hSw)
        go_simp
        try with_reducible rfl
      simp only [List.setIfInBounds_toArray, List.set_cons_zero, List.set_cons_succ]
      refine takeD_o (i := 2) (v := ?_) 35 rfl rfl (by kernel_rfl) (by kernel_rfl) (by kernel_rfl) (fun _ _ _ h => h) (by assumption) (Or.inl ⟨by rfl, ?_⟩) ?_
      rotate_left
      · intro w hSw
        (try dsimp only at hSw)
        go_simp
        try with_reducible rfl
      simp only [List.setIfInBounds_toArray, List.set_cons_zero, List.set_cons_succ]
      refine takeD_o (i := 3) (v := ?_) 36 rfl rfl (by kernel_rfl) (by kernel_rfl) (by kernel_rfl) (fun _ _ _ h => h) (by assumption) (Or.inl ⟨by rfl, ?_⟩) ?_
      rotate_left
      · intro w hSw
        (try dsimp only at hSw)
        go_simp
        try with_reducible rfl
      simp only [List.setIfInBounds_toArray, List.set_cons_zero, List.set_cons_succ]
      refine takeD_o (i := 5) (v := ?_) 38 rfl rfl (by kernel_rfl) (by kernel_rfl) (by kernel_rfl) (fun _ _ _ h => h) (by assumption) (Or.inl ⟨by rfl, ?_⟩) ?_
      rotate_left
      · intro w hSw
        (try dsimp only at hSw)
        go_simp
        try with_reducible rfl
      simp only [List.setIfInBounds_toArray, List.set_cons_zero, List.set_cons_succ]
      refine wpAnyH_ready (rs := [4]) (by kernel_rfl) (by simp) ?_
      refine AllReadyH.cons (by simp only [List.getElem?_toArray, List.getElem?_cons_succ, List.getElem?_cons_zero]; rfl) (fun K hK => ?_) AllReadyH.nil
      go_simp
      go_at_call 32; (with_reducible refine (HBK2.out _ hHeld.2.2.2.2.2.2.2.2).mono ?_); rintro e w7 ⟨v7, rfl, ho7, hb7⟩
      refine hK.out _ _ ?_ (fun hHeldN => ?_)
      · exact ⟨keepc hb7 hHeld.1, keepc hb7 hHeld.2.1, keepc hb7 hHeld.2.2.1, keepc hb7 hHeld.2.2.2.1, keepc hb7 hHeld.2.2.2.2.1, keepc hb7 hHeld.2.2.2.2.2.1, keepc hb7 hHeld.2.2.2.2.2.2.1, keepc hb7 hHeld.2.2.2.2.2.2.2.1, below_t hHeld.2.2.2.2.2.2.2.2 hb7⟩
      have HO7 := hid ho7
      have HB7 := hid (below_t hHeld.2.2.2.2.2.2.2.2 hb7)
      obtain ⟨x7, c7, rfl⟩ := row_slice ho7
      clear ho7 hb7
      clear hK K hHeld
      have hHeld := hHeldN
      clear hHeldN
      (try simp only [Act.put, List.setIfInBounds_toArray, List.set_cons_zero, List.set_cons_succ])
      refine wpAnyH_ready (rs := [6]) (by kernel_rfl) (by simp) ?_
      refine AllReadyH.cons (by simp only [List.getElem?_toArray, List.getElem?_cons_succ, List.getElem?_cons_zero]; rfl) (fun K hK => ?_) AllReadyH.nil
      go_simp
      go_at_call 32; (with_reducible refine (HBK1.out _ hHeld.2.2.2.2.2.2.2.2).mono ?_); rintro e w8 ⟨v8, rfl, ho8, hb8⟩
      refine hK.out _ _ ?_ (fun hHeldN => ?_)
      · exact ⟨keepc hb8 hHeld.1, keepc hb8 hHeld.2.1, keepc hb8 hHeld.2.2.1, keepc hb8 hHeld.2.2.2.1, keepc hb8 hHeld.2.2.2.2.1, keepc hb8 hHeld.2.2.2.2.2.1, keepc hb8 hHeld.2.2.2.2.2.2.1, keepc hb8 hHeld.2.2.2.2.2.2.2.1, below_t hHeld.2.2.2.2.2.2.2.2 hb8⟩
      have HO8 := hid ho8
      have HB8 := hid (below_t HB7.out hb8)
      have HSM := hid (HSM0.out w8 HB8.out _ _ (own_moved HO7.out (Moved.below hb8 []) (fun _ _ q => by cases q)) ⟨_, HO8.out⟩)
      obtain ⟨x8, c8, rfl⟩ := row_slice ho8
      clear ho8 hb8
      clear hK K hHeld
      have hHeld := hHeldN
      clear hHeldN
      (try simp only [Act.put, List.setIfInBounds_toArray, List.set_cons_zero, List.set_cons_succ])
      refine wpAnyH_ready (rs := [7]) (by kernel_rfl) (by simp) ?_
      refine AllReadyH.cons (by simp only [List.getElem?_toArray, List.getElem?_cons_succ, List.getElem?_cons_zero]; rfl) (fun K hK => ?_) AllReadyH.nil
      go_simp
      go_at_call 31; (with_reducible refine HSM.out.mono ?_); rintro e w9 ⟨rfl, hb9⟩
      refine hK.out _ _ ?_ (fun hHeldN => ?_)
      · exact ⟨keepc hb9 hHeld.1, keepc hb9 hHeld.2.1, keepc hb9 hHeld.2.2.1, keepc hb9 hHeld.2.2.2.1, keepc hb9 hHeld.2.2.2.2.1, keepc hb9 hHeld.2.2.2.2.2.1, keepc hb9 hHeld.2.2.2.2.2.2.1, keepc hb9 hHeld.2.2.2.2.2.2.2.1, below_t hHeld.2.2.2.2.2.2.2.2 hb9⟩
      have HB9 := hid (below_t HB8.out hb9)
      clear hb9
      clear hK K hHeld
      have hHeld := hHeldN
      clear hHeldN
      (try simp only [Act.put, List.setIfInBounds_toArray, List.set_cons_zero, List.set_cons_succ])
      refine takeD_o (i := 8) (v := ?_) 41 rfl rfl (by kernel_rfl) (by kernel_rfl) (by kernel_rfl) (fun _ _ _ h => h) (by assumption) (Or.inl ⟨by rfl, ?_⟩) ?_
      rotate_left
      · intro w hSw
        (try dsimp only at hSw)
        go_simp
        try with_reducible rfl
      simp only [List.setIfInBounds_toArray, List.set_cons_zero, List.set_cons_succ]
      refine takeD_o (i := 9) (v := ?_) 2 rfl rfl (by kernel_rfl) (by kernel_rfl) (by kernel_rfl) (fun _ _ _ h => h) (by assumption) (Or.inl ⟨by rfl, ?_⟩) ?_
      rotate_left
      · intro w hSw
        (try dsimp only at hSw)
        go_simp
        try with_reducible rfl
      simp only [List.setIfInBounds_toArray, List.set_cons_zero, List.set_cons_succ]
      refine wpAnyH_done (by kernel_rfl) ?_ _
      clear hHeld
      go_wp2
      go_ret
      exact ⟨rfl, below_t HB6.out HB9.out⟩
    · obtain rfl : ef = 9 := HBR.out.resolve_left hf
      clear hf
      go_wp2
      go_ret
      exact ⟨rfl, HB4.out⟩
  · have e0 : (er == 0) = false := by simpa using he
    have e1 : (er != 0) = true := by simpa using he
    clear he
    go_wp2
    go_ret
    exact ⟨rfl, bal HB3.out _⟩
end Go.Proofs.Ytlhaefgchmakfaa
