/-
  AttrBytes' walk.
-/
import Derived.Test.YtpnfdmfmdacjmaaByb
namespace Go.Proofs.Ytpnfdmfmdacjmaa
open Go.RowKit Go.Lib

/-- An argument that reads as pairs. -/
def ArgP (w : World) (v : Value) (ps : List (Nat × Nat)) : Prop :=
  ByteP ps ∧ ps.length ≤ maxLen ∧ ((∃ a cap, v = .slice a 0 cap ∧ ps = []) ∨ ∃ g off cap, v = .slice (some ⟨g, off, none⟩) ps.length cap ∧ ∀ i, i < ps.length → w.cell? ⟨g, off + i * 2, none⟩ = some (.int .u8 (ps.getD i (0, 0)).1) ∧ w.cell? ⟨g, off + i * 2 + 1, none⟩ = some (.int .u8 (ps.getD i (0, 0)).2))
theorem row_read {xs : List Int} {w w' : World} {e : Ending} (h : RowDone xs w e w') : ∃ a cap, e = .returned (.slice (some a) xs.length cap) ∧ Reads w' (.slice (some a) xs.length cap) xs ∧ Below w.heap.size w w' ∧ w'.ownsRow w.heap.size 5 1 (.slice (some a) xs.length cap) xs.length (xs.map (Value.int .u8)) ∧ ∀ j u, (xs.map (Value.int .u8))[j]? = some u → w'.cell? (a.add j) = some u := by
  obtain ⟨v, rfl, hr, hb, ho, hn⟩ := h
  rcases hr.2 with ⟨rfl, _⟩ | ⟨a, cap, rfl, h1, h2, h3⟩
  · exact absurd rfl hn
  · refine ⟨a, cap, rfl, hr, hb, ho, fun j u hu => ?_⟩
    rw [List.getElem?_map] at hu
    by_cases hj : j < xs.length
    · rw [List.getElem?_eq_getElem hj] at hu
      simp only [Option.map_some, Option.some.injEq] at hu
      rw [h3 j hj, List.getD, List.getElem?_eq_getElem hj, ← hu]
      rfl
    · rw [List.getElem?_eq_none (by omega)] at hu
      simp at hu
theorem reads_slice {w : World} {v : Value} {xs : List Int} (h : Reads w v xs) (hx : 0 < xs.length) : ∃ a cap, v = .slice (some a) xs.length cap := by
  rcases h.2 with ⟨_, rfl⟩ | ⟨a, cap, rfl, _⟩
  · simp at hx
  · exact ⟨a, cap, rfl⟩
theorem take_byte {ps : List (Nat × Nat)} (h : ByteP ps) (n : Nat) : ByteP (ps.take n) := fun p hp => h p (List.mem_of_mem_take hp)
/-- What is told is read again. -/
theorem parse_again (qs : List (Nat × Nat)) (hq : qs.length ≤ 255) (hk : allP qs = true) (ys : List Int) (hy : ys.length ≤ 20) (v : Value) (w : World) (h : Reads w v (bytesL qs.length qs ++ ys)) : Calls Try.prog 60 #[v] w fun e w' => ∃ l, e = .returned (.tuple #[l, .int .i64 (1 + 2 * (qs.length : Int)), .int .i64 0]) ∧ PairsIn w' l qs ∧ Below w.heap.size w w' := by
  have e1 : pairsL (bytesL qs.length qs ++ ys) qs.length = qs := pairsL_bytes _ ys qs
  have hl : (bytesL qs.length qs ++ ys).length = 1 + 2 * qs.length + ys.length := by simp [bytesL, flatB_length]; omega
  have hk' : allK (bytesL qs.length qs ++ ys) qs.length = true := by unfold allK; rw [e1]; exact hk
  refine (parse_long v _ qs.length (by show ((qs.length : Int)).toNat = _; simp) (by omega) (by omega) w h).mono fun e w' hd => ?_
  have := parse_all hk' hd
  rw [e1] at this
  exact this
set_option maxRecDepth 100000 in
set_option maxHeartbeats 4000000 in
theorem attrBytes_none (a : Option Addr) (cap : Nat) (p2 : Value) (zs : List Int) (w : World) (hp : Reads w p2 zs) : Calls Try.prog 12 #[.slice a 0 cap, p2] w fun e w' => e = .returned (.bool true) ∧ Below w.heap.size w w' := by
  have HBH := hid hp
  have HCB := hid (show ∀ w, Reads w p2 zs → Calls Try.prog 40 #[p2, .int .i64 20] w (RowDone (zs.take 20) w) from fun w h => cut_any p2 20 (by decide) zs w h)
  have hy20 : (zs.take 20).length ≤ 20 := by rw [List.length_take]; omega
  generalize zs.take 20 = ys at HCB hy20
  clear hp
  go_enter Try.func12, Try.ntmps12
  go_wp2_with fail
  with_reducible refine (awake5_true _).mono ?_
  rintro e w1 ⟨rfl, hb1⟩
  have HBM := hid hb1
  clear hb1
  go_wp2_with fail
  have HMN : Hid (PairsIn w1 (.slice none 0 0) []) := .inl ⟨rfl, rfl⟩
  have HQB : Hid (ByteP []) := fun p hp => by cases hp
  have HQL : Hid (([] : List (Nat × Nat)).length ≤ 100000) := by show _ ≤ _; simp
  go_loopw [5, 19] (fun s i w' => s = .slice none 0 0 ∧ i = .int .i64 0 ∧ w' = w1) (fun _ _ _ => 0)
  case atStart => exact ⟨rfl, rfl, rfl⟩
  case round =>
    obtain ⟨rfl, rfl, rfl⟩ := hrel
    generalize ([] : List (Nat × Nat)) = qs at HMN HQB HQL
    obtain ⟨xs, er, hcase, h64, h65⟩ := bytes_both qs HQB.out
    have HBY := hid h64
    have HRY := hid h65
    clear h64 h65
    rcases hcase with ⟨rfl, hq255, hkq, rfl⟩ | hne
    · have HQ := hid hkq
      have hlx : (bytesL qs.length qs).length = 1 + 2 * qs.length := by simp [bytesL, flatB_length]; omega
      have HAG := hid (fun ys hy v w h => parse_again qs hq255 hkq ys hy v w h)
      have HCPY := hid (fun v w h => copy_any v (bytesL qs.length qs) w h (by omega))
      obtain ⟨N, hN⟩ : ∃ N, N = qs.length := ⟨_, rfl⟩
      rw [← hN] at hlx HAG HCPY HBY HRY hq255
      clear hkq hN
      generalize bytesL N qs = xs at hlx HAG HCPY HBY HRY
      obtain ⟨X, hX⟩ : ∃ X, X = xs.length := ⟨_, rfl⟩
      have HXL := hid hX
      have hXa : X ≤ 1 + 2 * N := by omega
      have hXb : 1 + 2 * N ≤ X := by omega
      clear hX hlx
      go_wp2_with fail
      with_reducible refine (HBY.out _ _ HMN.out).mono ?_
      rintro e w2 ⟨l2, rfl, hr, hb⟩
      have HR2 := hid hr
      have HB2 := hid (below_t HBM.out hb)
      have HMN2 := hid (pairs_below HMN.out hb)
      clear hr hb
      go_wp2_with fail
      with_reducible refine ((back_any _ qs HQL.out _ HMN2.out).mono fun _ _ h => pairs_of_own h).mono ?_
      rintro e w3 ⟨l3, rfl, hl, hb⟩
      have HR3 := hid (reads_below HR2.out hb)
      have HB3 := hid (below_t HB2.out hb)
      have HMN3 := hid (pairs_below HMN2.out hb)
      have HL3 := hid hl
      clear hl hb
      go_wp2_with fail
      with_reducible refine (HRY.out _ _ HL3.out).mono ?_
      rintro e w4 ⟨l4, rfl, hr, hb⟩
      have HR4 := hid (reads_below HR3.out hb)
      have HS4 := hid hr
      have HB4 := hid (below_t HB3.out hb)
      have HMN4 := hid (pairs_below HMN3.out hb)
      clear hr hb
      go_wp2_with fail
      with_reducible refine (same_true _ _ _ _ HR4.out HS4.out).mono ?_
      rintro e w9 ⟨rfl, rfl⟩
      obtain ⟨ap, cp, rfl⟩ := reads_slice HR2.out (by rw [← HXL.out]; omega)
      rw [← HXL.out]
      go_wp2_with fail
      have HR4' := HR4.out
      rw [← HXL.out] at HR4'
      have HBX := hid HR4'.1
      with_reducible refine ((HCPY.out _ _ HR4').mono fun _ _ h => row_read h).mono ?_
      rintro e w5 ⟨a5, c5, rfl, hr, hb, ho, hnw⟩
      have HB5 := hid (below_t HB4.out hb)
      have H45 := hid hb
      have HO5 := hid ho
      clear hr hb ho hnw HR4'
      go_wp2_with fail
      with_reducible refine ((HCB.out _ (reads_below HBH.out HB5.out)).mono fun _ _ h => row_read h).mono ?_
      rintro e w6 ⟨a6, c6, rfl, hr, hb, ho, hnw⟩
      have H46 := hid (below_t H45.out hb)
      have HO6 := hid (own_below HO5.out hb)
      have HY6 := hid hr.1
      have HN6 := hid hnw
      clear hr hb ho hnw
      obtain ⟨i0, hi, hz0, hz1, hz2⟩ := info_parts info5'
      have HLN6 : Hid ((ys.map (Value.int .u8)).length = ys.length * 1) := by show _ = _; rw [List.length_map]; omega
      have HM6 : Hid (xs.length + ys.length ≤ maxLen) := by show _ ≤ _; rw [← HXL.out]; unfold maxLen; omega
      have HL6 : Hid ((xs.length + ys.length) * 1 ≤ 140737488355328) := by show _ ≤ _; rw [← HXL.out]; omega
      have HSZ6 := hid H46.out.size
      go_wp2_with (first
        | (at_builtin; refine wpList_append_own _ rfl _ _ 52 rfl w4.heap.size 5 i0 (.int .u8 0) 1 1 Try.underlying52 hi hz0 hz1 hz2 rfl (by decide) _ xs.length (xs.map (Value.int .u8)) rfl HO6.out a6 ys.length c6 (ys.map (Value.int .u8)) rfl HLN6.out HN6.out (ints_oneCell .u8 _) HM6.out HL6.out HSZ6.out ?_; intro v7 w7 hown7 hgrow7 hnil7; have HO7 := hid hown7; have HG7 := hid hgrow7; clear hown7 hgrow7 hnil7))
      have H47 := hid (H46.out.grown HG7.out HSZ6.out (own_ge HO6.out))
      have HR7 : Hid (Reads w7 v7 (xs ++ ys)) := reads_owned (n := xs.length + ys.length) (fun x hx => (List.mem_append.1 hx).elim (HBX.out x) (HY6.out x)) (by simp) (by rw [List.map_append]; exact HO7.out)
      have HB7 := hid (below_t HB4.out H47.out)
      have HMN7 := hid (pairs_below HMN4.out H47.out)
      with_reducible refine (HAG.out ys hy20 _ _ HR7.out).mono ?_
      rintro e w8 ⟨l8, rfl, hl, hb⟩
      have HB8 := hid (below_t HB7.out hb)
      have HMN8 := hid (pairs_below HMN7.out hb)
      have HL8 := hid hl
      clear hl hb
      have eX : ((1 : Int) + 2 * (N : Int) == (X : Int)) = true := by simp; omega
      go_wp2_with fail
      with_reducible refine ((back_any _ qs HQL.out _ HL8.out).mono fun _ _ h => pairs_of_own h).mono ?_
      rintro e w9 ⟨l9, rfl, hl, hb⟩
      have HB9 := hid (below_t HB8.out hb)
      have HMN9 := hid (pairs_below HMN8.out hb)
      have HL9 := hid hl
      clear hl hb
      go_wp2_with fail
      with_reducible refine ((back_any _ qs HQL.out _ HMN9.out).mono fun _ _ h => pairs_of_own h).mono ?_
      rintro e w10 ⟨l10, rfl, hl, hb⟩
      have HB10 := hid (below_t HB9.out hb)
      have HL9' := hid (pairs_below HL9.out hb)
      have HL10 := hid hl
      clear hl hb
      go_wp2_with fail
      with_reducible refine (equal_same _ _ qs HQL.out _ HL9'.out HL10.out).mono ?_
      rintro e w11 ⟨rfl, hb⟩
      have HB11 := hid (below_t HB10.out hb)
      clear hb
      go_wp2
      go_ret
      exact ⟨rfl, HB11.out⟩
    · have hne' : (er != 0) = true := by simpa using hne
      go_wp2_with fail
      with_reducible refine (HBY.out _ _ HMN.out).mono ?_
      rintro e w2 ⟨l2, rfl, hr, hb⟩
      have HR2 := hid hr
      have HB2 := hid (below_t HBM.out hb)
      have HMN2 := hid (pairs_below HMN.out hb)
      clear hr hb
      go_wp2_with fail
      with_reducible refine ((back_any _ qs HQL.out _ HMN2.out).mono fun _ _ h => pairs_of_own h).mono ?_
      rintro e w3 ⟨l3, rfl, hl, hb⟩
      have HR3 := hid (reads_below HR2.out hb)
      have HB3 := hid (below_t HB2.out hb)
      have HMN3 := hid (pairs_below HMN2.out hb)
      have HL3 := hid hl
      clear hl hb
      go_wp2_with fail
      with_reducible refine (HRY.out _ _ HL3.out).mono ?_
      rintro e w4 ⟨l4, rfl, hr, hb⟩
      have HR4 := hid (reads_below HR3.out hb)
      have HS4 := hid hr
      have HB4 := hid (below_t HB3.out hb)
      have HMN4 := hid (pairs_below HMN3.out hb)
      clear hr hb
      go_wp2_with fail
      with_reducible refine (same_true _ _ _ _ HR4.out HS4.out).mono ?_
      rintro e w9 ⟨rfl, rfl⟩
      go_wp2
      go_ret
      exact ⟨rfl, HB4.out⟩
set_option maxRecDepth 100000 in
set_option maxHeartbeats 4000000 in
theorem attrBytes_row (g off cap : Nat) (ps : List (Nat × Nat)) (hbp : ByteP ps) (hn : ps.length ≤ maxLen) (p2 : Value) (zs : List Int) (w : World) (hp : Reads w p2 zs) (hc : ∀ i, i < ps.length → w.cell? ⟨g, off + i * 2, none⟩ = some (.int .u8 (ps.getD i (0, 0)).1) ∧ w.cell? ⟨g, off + i * 2 + 1, none⟩ = some (.int .u8 (ps.getD i (0, 0)).2)) : Calls Try.prog 12 #[.slice (some ⟨g, off, none⟩) ps.length cap, p2] w fun e w' => e = .returned (.bool true) ∧ Below w.heap.size w w' := by
  have HBH := hid hp
  have HCB := hid (show ∀ w, Reads w p2 zs → Calls Try.prog 40 #[p2, .int .i64 20] w (RowDone (zs.take 20) w) from fun w h => cut_any p2 20 (by decide) zs w h)
  have hy20 : (zs.take 20).length ≤ 20 := by rw [List.length_take]; omega
  generalize zs.take 20 = ys at HCB hy20
  clear hp
  obtain ⟨i2, hi2, hy0, hy1, hy2⟩ := info_parts info82
  have HC := hid hc
  have HSN := hid (cellsP_snoc ps)
  have HBP := hid (take_byte hbp)
  clear hc hbp
  obtain ⟨n, hln⟩ : ∃ n, n = ps.length := ⟨_, rfl⟩
  rw [← hln] at hn HC HSN ⊢
  have HLN := hid hln
  clear hln
  unfold maxLen at hn
  go_enter Try.func12, Try.ntmps12
  go_wp2_with fail
  with_reducible refine (awake5_true _).mono ?_
  rintro e w1 ⟨rfl, hb1⟩
  have HB1 := hid hb1
  clear hb1
  go_wp2_with fail
  go_loopw [5, 19] (fun s i w' => ∃ k m : Nat, k ≤ n ∧ i = .int .i64 k ∧ Hid (m = min k 260) ∧ Hid (w'.ownsRow w.heap.size 82 2 s m (cellsP (ps.take m))) ∧ Hid (Below w.heap.size w w')) (fun _ i _ => n - (intOf i).toNat)
  case atStart => exact ⟨0, 0, Nat.zero_le _, rfl, rfl, World.ownsRow_nil _ _ _ _, HB1.out⟩
  case round =>
    obtain ⟨k, m, hk, rfl, HM, HO, HB⟩ := hrel
    by_cases hlt : k < n
    · have hki : (k : Int) < n := by omega
      have c0 := keepc HB.out (HC.out k hlt).1
      have c1 := keepc HB.out (HC.out k hlt).2
      have HS := hid (HSN.out k hlt)
      generalize (ps.getD k (0, 0)).1 = x at c0 HS
      generalize (ps.getD k (0, 0)).2 = y at c1 HS
      have HBA := hid (HB.out.alloc HB.out.size (.cells #[.int .u8 x, .int .u8 y] 78))
      have HOA := hid (HO.out.alloc (.cells #[.int .u8 x, .int .u8 y] 78))
      by_cases h260 : k < 260
      · have h2 : (k : Int) < 260 := by omega
        obtain rfl : m = k := by have := HM.out; omega
        have HO2 := hid (HOA.out.alloc (.cells #[.int .u8 x, .int .u8 y] 82))
        have HB2 := hid (HBA.out.alloc HBA.out.size (.cells #[.int .u8 x, .int .u8 y] 82))
        have HNW := hid (news_two (wr.alloc (.cells #[.int .u8 x, .int .u8 y] 78)) (.int .u8 x) (.int .u8 y) 82)
        rw [show (wr.alloc (.cells #[.int .u8 x, .int .u8 y] 78)).heap.size = wr.heap.size + 1 by simp] at HNW
        have HSZ := hid HB2.out.size
        have HMX : Hid (m + 1 ≤ maxLen) := by show _ ≤ _; unfold maxLen; omega
        have HLX : Hid ((m + 1) * 2 ≤ 140737488355328) := by show _ ≤ _; omega
        go_wp2_with (first
          | (at_builtin; refine wpList_append_own _ rfl _ _ 90 rfl w.heap.size 82 i2 (.agg #[.int .u8 0, .int .u8 0]) 2 2 Try.underlying90 hi2 hy0 hy1 hy2 rfl (by decide) _ m (cellsP (ps.take m)) rfl HO2.out ⟨wr.heap.size + 1, 0, none⟩ 1 1 [.int .u8 x, .int .u8 y] rfl rfl HNW.out (one_two x y) HMX.out HLX.out HSZ.out ?_; intro v3 w3 hown3 hgrow3 hnil3; have HO4 := hid hown3; have HG4 := hid hgrow3; clear hown3 hgrow3 hnil3))
        go_roundw
        case rel =>
          refine ⟨m + 1, m + 1, by omega, by go_num, ?_, ?_, ?_⟩
          · show _ = _
            omega
          · show World.ownsRow _ _ _ _ _ _ _
            rw [HS.out]
            exact HO4.out
          · exact HB2.out.grown HG4.out HSZ.out (own_ge HO.out)
        case measure => simp [intOf]; omega
      · have h2 : ¬ (k : Int) < 260 := by omega
        go_wp2
        go_roundw
        case rel =>
          refine ⟨k + 1, m, by omega, by go_num, ?_, HOA.out, HBA.out⟩
          show _ = _
          have := HM.out
          omega
        case measure => simp [intOf]; omega
    · obtain rfl : k = n := by omega
      have HMN : Hid (PairsIn wr u5 (ps.take m)) := pairs_owned (by rw [show (ps.take m).length = m by rw [List.length_take, ← HLN.out]; have := HM.out; omega]; exact HO.out)
      have HQB := hid (HBP.out m)
      have HQL : Hid ((ps.take m).length ≤ 100000) := by show _ ≤ _; rw [List.length_take]; have := HM.out; omega
      have HBM := HB
      clear HB HO
      generalize ps.take m = qs at HMN HQB HQL
      obtain ⟨xs, er, hcase, h64, h65⟩ := bytes_both qs HQB.out
      have HBY := hid h64
      have HRY := hid h65
      clear h64 h65
      rcases hcase with ⟨rfl, hq255, hkq, rfl⟩ | hne
      · have HQ := hid hkq
        have hlx : (bytesL qs.length qs).length = 1 + 2 * qs.length := by simp [bytesL, flatB_length]; omega
        have HAG := hid (fun ys hy v w h => parse_again qs hq255 hkq ys hy v w h)
        have HCPY := hid (fun v w h => copy_any v (bytesL qs.length qs) w h (by omega))
        obtain ⟨N, hN⟩ : ∃ N, N = qs.length := ⟨_, rfl⟩
        rw [← hN] at hlx HAG HCPY HBY HRY hq255
        clear hkq hN
        generalize bytesL N qs = xs at hlx HAG HCPY HBY HRY
        obtain ⟨X, hX⟩ : ∃ X, X = xs.length := ⟨_, rfl⟩
        have HXL := hid hX
        have hXa : X ≤ 1 + 2 * N := by omega
        have hXb : 1 + 2 * N ≤ X := by omega
        clear hX hlx
        go_wp2_with fail
        with_reducible refine (HBY.out _ _ HMN.out).mono ?_
        rintro e w2 ⟨l2, rfl, hr, hb⟩
        have HR2 := hid hr
        have HB2 := hid (below_t HBM.out hb)
        have HMN2 := hid (pairs_below HMN.out hb)
        clear hr hb
        go_wp2_with fail
        with_reducible refine ((back_any _ qs HQL.out _ HMN2.out).mono fun _ _ h => pairs_of_own h).mono ?_
        rintro e w3 ⟨l3, rfl, hl, hb⟩
        have HR3 := hid (reads_below HR2.out hb)
        have HB3 := hid (below_t HB2.out hb)
        have HMN3 := hid (pairs_below HMN2.out hb)
        have HL3 := hid hl
        clear hl hb
        go_wp2_with fail
        with_reducible refine (HRY.out _ _ HL3.out).mono ?_
        rintro e w4 ⟨l4, rfl, hr, hb⟩
        have HR4 := hid (reads_below HR3.out hb)
        have HS4 := hid hr
        have HB4 := hid (below_t HB3.out hb)
        have HMN4 := hid (pairs_below HMN3.out hb)
        clear hr hb
        go_wp2_with fail
        with_reducible refine (same_true _ _ _ _ HR4.out HS4.out).mono ?_
        rintro e w9 ⟨rfl, rfl⟩
        obtain ⟨ap, cp, rfl⟩ := reads_slice HR2.out (by rw [← HXL.out]; omega)
        rw [← HXL.out]
        go_wp2_with fail
        have HR4' := HR4.out
        rw [← HXL.out] at HR4'
        have HBX := hid HR4'.1
        with_reducible refine ((HCPY.out _ _ HR4').mono fun _ _ h => row_read h).mono ?_
        rintro e w5 ⟨a5, c5, rfl, hr, hb, ho, hnw⟩
        have HB5 := hid (below_t HB4.out hb)
        have H45 := hid hb
        have HO5 := hid ho
        clear hr hb ho hnw HR4'
        go_wp2_with fail
        with_reducible refine ((HCB.out _ (reads_below HBH.out HB5.out)).mono fun _ _ h => row_read h).mono ?_
        rintro e w6 ⟨a6, c6, rfl, hr, hb, ho, hnw⟩
        have H46 := hid (below_t H45.out hb)
        have HO6 := hid (own_below HO5.out hb)
        have HY6 := hid hr.1
        have HN6 := hid hnw
        clear hr hb ho hnw
        obtain ⟨i0, hi, hz0, hz1, hz2⟩ := info_parts info5'
        have HLN6 : Hid ((ys.map (Value.int .u8)).length = ys.length * 1) := by show _ = _; rw [List.length_map]; omega
        have HM6 : Hid (xs.length + ys.length ≤ maxLen) := by show _ ≤ _; rw [← HXL.out]; unfold maxLen; omega
        have HL6 : Hid ((xs.length + ys.length) * 1 ≤ 140737488355328) := by show _ ≤ _; rw [← HXL.out]; omega
        have HSZ6 := hid H46.out.size
        go_wp2_with (first
          | (at_builtin; refine wpList_append_own _ rfl _ _ 52 rfl w4.heap.size 5 i0 (.int .u8 0) 1 1 Try.underlying52 hi hz0 hz1 hz2 rfl (by decide) _ xs.length (xs.map (Value.int .u8)) rfl HO6.out a6 ys.length c6 (ys.map (Value.int .u8)) rfl HLN6.out HN6.out (ints_oneCell .u8 _) HM6.out HL6.out HSZ6.out ?_; intro v7 w7 hown7 hgrow7 hnil7; have HO7 := hid hown7; have HG7 := hid hgrow7; clear hown7 hgrow7 hnil7))
        have H47 := hid (H46.out.grown HG7.out HSZ6.out (own_ge HO6.out))
        have HR7 : Hid (Reads w7 v7 (xs ++ ys)) := reads_owned (n := xs.length + ys.length) (fun x hx => (List.mem_append.1 hx).elim (HBX.out x) (HY6.out x)) (by simp) (by rw [List.map_append]; exact HO7.out)
        have HB7 := hid (below_t HB4.out H47.out)
        have HMN7 := hid (pairs_below HMN4.out H47.out)
        with_reducible refine (HAG.out ys hy20 _ _ HR7.out).mono ?_
        rintro e w8 ⟨l8, rfl, hl, hb⟩
        have HB8 := hid (below_t HB7.out hb)
        have HMN8 := hid (pairs_below HMN7.out hb)
        have HL8 := hid hl
        clear hl hb
        have eX : ((1 : Int) + 2 * (N : Int) == (X : Int)) = true := by simp; omega
        go_wp2_with fail
        with_reducible refine ((back_any _ qs HQL.out _ HL8.out).mono fun _ _ h => pairs_of_own h).mono ?_
        rintro e w9 ⟨l9, rfl, hl, hb⟩
        have HB9 := hid (below_t HB8.out hb)
        have HMN9 := hid (pairs_below HMN8.out hb)
        have HL9 := hid hl
        clear hl hb
        go_wp2_with fail
        with_reducible refine ((back_any _ qs HQL.out _ HMN9.out).mono fun _ _ h => pairs_of_own h).mono ?_
        rintro e w10 ⟨l10, rfl, hl, hb⟩
        have HB10 := hid (below_t HB9.out hb)
        have HL9' := hid (pairs_below HL9.out hb)
        have HL10 := hid hl
        clear hl hb
        go_wp2_with fail
        with_reducible refine (equal_same _ _ qs HQL.out _ HL9'.out HL10.out).mono ?_
        rintro e w11 ⟨rfl, hb⟩
        have HB11 := hid (below_t HB10.out hb)
        clear hb
        go_wp2
        go_ret
        exact ⟨rfl, HB11.out⟩
      · have hne' : (er != 0) = true := by simpa using hne
        go_wp2_with fail
        with_reducible refine (HBY.out _ _ HMN.out).mono ?_
        rintro e w2 ⟨l2, rfl, hr, hb⟩
        have HR2 := hid hr
        have HB2 := hid (below_t HBM.out hb)
        have HMN2 := hid (pairs_below HMN.out hb)
        clear hr hb
        go_wp2_with fail
        with_reducible refine ((back_any _ qs HQL.out _ HMN2.out).mono fun _ _ h => pairs_of_own h).mono ?_
        rintro e w3 ⟨l3, rfl, hl, hb⟩
        have HR3 := hid (reads_below HR2.out hb)
        have HB3 := hid (below_t HB2.out hb)
        have HMN3 := hid (pairs_below HMN2.out hb)
        have HL3 := hid hl
        clear hl hb
        go_wp2_with fail
        with_reducible refine (HRY.out _ _ HL3.out).mono ?_
        rintro e w4 ⟨l4, rfl, hr, hb⟩
        have HR4 := hid (reads_below HR3.out hb)
        have HS4 := hid hr
        have HB4 := hid (below_t HB3.out hb)
        have HMN4 := hid (pairs_below HMN3.out hb)
        clear hr hb
        go_wp2_with fail
        with_reducible refine (same_true _ _ _ _ HR4.out HS4.out).mono ?_
        rintro e w9 ⟨rfl, rfl⟩
        go_wp2
        go_ret
        exact ⟨rfl, HB4.out⟩

theorem attrBytes_true (v : Value) (ps : List (Nat × Nat)) (p2 : Value) (zs : List Int) (w : World) (h : ArgP w v ps) (hp : Reads w p2 zs) : Calls Try.prog 12 #[v, p2] w fun e w' => e = .returned (.bool true) ∧ Below w.heap.size w w' := by
  obtain ⟨hbp, hn, ⟨a, cap, rfl, rfl⟩ | ⟨g, off, cap, rfl, hc⟩⟩ := h
  · exact attrBytes_none a cap p2 zs w hp
  · exact attrBytes_row g off cap ps hbp hn p2 zs w hp hc
end Go.Proofs.Ytpnfdmfmdacjmaa
