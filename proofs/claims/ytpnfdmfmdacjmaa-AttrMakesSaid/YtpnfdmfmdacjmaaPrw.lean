/-
  AttrParses' walk.
-/
import Derived.Test.YtpnfdmfmdacjmaaPrc
import Derived.Test.YtpnfdmfmdacjmaaCuta
namespace Go.Proofs.Ytpnfdmfmdacjmaa
open Go.RowKit Go.Lib

set_option maxRecDepth 100000 in
set_option maxHeartbeats 2000000 in
theorem parse_short (v : Value) (xs : List Int) (hlm : xs.length ≤ 100000) (hs : xs.length < 1 + 2 * (xs.getD 0 0).toNat) (w : World) (h : Reads w v xs) : Calls Try.prog 60 #[v] w fun e w' => e = .returned (.tuple #[.slice none 0 0, .int .i64 0, .int .i64 2]) ∧ Below w.heap.size w w' := by
  obtain ⟨hb, ⟨rfl, rfl⟩ | ⟨a, cap, rfl, hlc, hcm, hcell⟩⟩ := h
  · clear hs hb hlm
    go_enter Try.func60, Try.ntmps60
    go_wp2
    go_ret3
    exact ⟨rfl, Below.refl _ _⟩
  · by_cases h0 : xs.length = 0
    · rw [h0]
      clear hs hb hlm hlc hcm hcell h0
      go_enter Try.func60, Try.ntmps60
      go_wp2
      go_ret3
      exact ⟨rfl, Below.refl _ _⟩
    · have c0 := hcell 0 (by omega)
      obtain ⟨g, off, spot⟩ := a
      obtain rfl : spot = none := by simpa [Addr.add] using World.cell?_spot c0
      rw [addr_add, Nat.add_zero] at c0
      obtain ⟨c, hc1, hc2, hc3⟩ := byte_at hb 0 (by omega)
      rw [hc3] at hs
      rw [hc2] at c0
      generalize xs.length = L at hs h0 hlm ⊢
      have l1 : ¬ (L : Int) = 0 := by omega
      have l2 : ((L : Int) == 0) = false := by simpa using l1
      have l0 : 0 < L := by omega
      have l3 : (L : Int) < 1 + 2 * c := by omega
      clear hb hlc hcm hcell h0 hc2 hc3 hs
      go_enter Try.func60, Try.ntmps60
      go_wp2
      go_ret3
      exact ⟨rfl, Below.refl _ _⟩
theorem parse_long (v : Value) (xs : List Int) (n : Nat) (hx : (xs.getD 0 0).toNat = n) (hlm : xs.length ≤ 100000) (hs : ¬ xs.length < 1 + 2 * n) (w : World) (h : Reads w v xs) : Calls Try.prog 60 #[v] w (ParseDone 82 xs n w) := by
  obtain ⟨hb, ⟨rfl, rfl⟩ | ⟨a, cap, rfl, hlc, hcm, hcell⟩⟩ := h
  · exact absurd (by simp; omega) hs
  · have c0 := hcell 0 (by omega)
    obtain ⟨g, off, spot⟩ := a
    obtain rfl : spot = none := by simpa [Addr.add] using World.cell?_spot c0
    obtain ⟨c, hc1, hc2, hc3⟩ := byte_at hb 0 (by omega)
    obtain rfl : c = n := by omega
    exact parse_row g off cap xs c hc1 hc2 (by omega) hlm hb w (fun i hi => by have := hcell i hi; rwa [addr_add] at this)
set_option maxRecDepth 100000 in
set_option maxHeartbeats 2000000 in
theorem rparse_short (v : Value) (xs : List Int) (hlm : xs.length ≤ 100000) (hs : xs.length < 1 + 2 * (xs.getD 0 0).toNat) (w : World) (h : Reads w v xs) : Calls Try.prog 61 #[v] w fun e w' => e = .returned (.tuple #[.slice none 0 0, .int .i64 0, .int .i64 2]) ∧ Below w.heap.size w w' := by
  obtain ⟨hb, ⟨rfl, rfl⟩ | ⟨a, cap, rfl, hlc, hcm, hcell⟩⟩ := h
  · clear hs hb hlm
    go_enter Try.func61, Try.ntmps61
    go_wp2
    go_ret3
    exact ⟨rfl, Below.refl _ _⟩
  · by_cases h0 : xs.length = 0
    · rw [h0]
      clear hs hb hlm hlc hcm hcell h0
      go_enter Try.func61, Try.ntmps61
      go_wp2
      go_ret3
      exact ⟨rfl, Below.refl _ _⟩
    · have c0 := hcell 0 (by omega)
      obtain ⟨g, off, spot⟩ := a
      obtain rfl : spot = none := by simpa [Addr.add] using World.cell?_spot c0
      rw [addr_add, Nat.add_zero] at c0
      obtain ⟨c, hc1, hc2, hc3⟩ := byte_at hb 0 (by omega)
      rw [hc3] at hs
      rw [hc2] at c0
      generalize xs.length = L at hs h0 hlm ⊢
      have l1 : ¬ (L : Int) = 0 := by omega
      have l2 : ((L : Int) == 0) = false := by simpa using l1
      have l0 : 0 < L := by omega
      have l3 : (L : Int) - 1 < 2 * c := by omega
      clear hb hlc hcm hcell h0 hc2 hc3 hs
      go_enter Try.func61, Try.ntmps61
      go_wp2
      go_ret3
      exact ⟨rfl, Below.refl _ _⟩
theorem rparse_long (v : Value) (xs : List Int) (n : Nat) (hx : (xs.getD 0 0).toNat = n) (hlm : xs.length ≤ 100000) (hs : ¬ xs.length < 1 + 2 * n) (w : World) (h : Reads w v xs) : Calls Try.prog 61 #[v] w (ParseDone 78 xs n w) := by
  obtain ⟨hb, ⟨rfl, rfl⟩ | ⟨a, cap, rfl, hlc, hcm, hcell⟩⟩ := h
  · exact absurd (by simp; omega) hs
  · have c0 := hcell 0 (by omega)
    obtain ⟨g, off, spot⟩ := a
    obtain rfl : spot = none := by simpa [Addr.add] using World.cell?_spot c0
    obtain ⟨c, hc1, hc2, hc3⟩ := byte_at hb 0 (by omega)
    obtain rfl : c = n := by omega
    exact rparse_row g off cap xs c hc1 hc2 (by omega) hlm hb w (fun i hi => by have := hcell i hi; rwa [addr_add] at this)
theorem parse_all {t : TypeId} {xs : List Int} {n : Nat} {w w' : World} {e : Ending} (hk : allK xs n = true) (h : ParseDone t xs n w e w') : ∃ v, e = .returned (.tuple #[v, .int .i64 (1 + 2 * (n : Int)), .int .i64 0]) ∧ PairsIn w' v (pairsL xs n) ∧ Below w.heap.size w w' := by
  rcases h with ⟨_, v, rfl, ho, hb⟩ | ⟨h, _⟩
  · exact ⟨v, rfl, pairs_owned (by rw [pairsL_length]; exact ho), hb⟩
  · rw [hk] at h; cases h
theorem parse_not {t : TypeId} {xs : List Int} {n : Nat} {w w' : World} {e : Ending} (hk : allK xs n = false) (h : ParseDone t xs n w e w') : ∃ v, e = .returned (.tuple #[v, .int .i64 0, .int .i64 10]) ∧ PairsIn w' v [] ∧ Below w.heap.size w w' := by
  rcases h with ⟨h, _⟩ | ⟨_, rfl, hb⟩
  · rw [hk] at h; cases h
  · exact ⟨_, rfl, .inl ⟨rfl, rfl⟩, hb⟩
/-- Both answers are one. -/
theorem parse_both (xs : List Int) (hlm : xs.length ≤ 100000) : ∃ (ps : List (Nat × Nat)) (u e : Int), ps.length ≤ 100000 ∧ (∀ v w, Reads w v xs → Calls Try.prog 60 #[v] w fun en w' => ∃ l, en = .returned (.tuple #[l, .int .i64 u, .int .i64 e]) ∧ PairsIn w' l ps ∧ Below w.heap.size w w') ∧ (∀ v w, Reads w v xs → Calls Try.prog 61 #[v] w fun en w' => ∃ l, en = .returned (.tuple #[l, .int .i64 u, .int .i64 e]) ∧ PairsIn w' l ps ∧ Below w.heap.size w w') := by
  by_cases hs : xs.length < 1 + 2 * (xs.getD 0 0).toNat
  · refine ⟨[], 0, 2, by simp, fun v w h => ?_, fun v w h => ?_⟩
    · exact (parse_short v xs hlm hs w h).mono fun en w' ⟨he, hb⟩ => ⟨_, he, .inl ⟨rfl, rfl⟩, hb⟩
    · exact (rparse_short v xs hlm hs w h).mono fun en w' ⟨he, hb⟩ => ⟨_, he, .inl ⟨rfl, rfl⟩, hb⟩
  · cases hk : allK xs (xs.getD 0 0).toNat
    · refine ⟨[], 0, 10, by simp, fun v w h => ?_, fun v w h => ?_⟩
      · exact (parse_long v xs _ rfl hlm hs w h).mono fun en w' hd => parse_not hk hd
      · exact (rparse_long v xs _ rfl hlm hs w h).mono fun en w' hd => parse_not hk hd
    · refine ⟨pairsL xs (xs.getD 0 0).toNat, 1 + 2 * ((xs.getD 0 0).toNat : Int), 0, by rw [pairsL_length]; omega, fun v w h => ?_, fun v w h => ?_⟩
      · exact (parse_long v xs _ rfl hlm hs w h).mono fun en w' hd => parse_all hk hd
      · exact (rparse_long v xs _ rfl hlm hs w h).mono fun en w' hd => parse_all hk hd
theorem pairs_of_own {t : TypeId} {ps : List (Nat × Nat)} {w w' : World} {e : Ending} (h : OwnPairs t ps w e w') : ∃ v, e = .returned v ∧ PairsIn w' v ps ∧ Below w.heap.size w w' := by
  obtain ⟨v, rfl, h, hb⟩ := h
  exact ⟨v, rfl, pairs_owned h, hb⟩
set_option maxRecDepth 100000 in
set_option maxHeartbeats 2000000 in
theorem attrParses_true (p : Value) (xs : List Int) (w : World) (hp : Reads w p xs) : Calls Try.prog 11 #[p] w fun e w' => e = .returned (.bool true) ∧ Below w.heap.size w w' := by
  have HP := hid hp
  have HCUT := hid (show ∀ w, Reads w p xs → Calls Try.prog 40 #[p, .int .i64 600] w (RowDone (xs.take 600) w) from fun w h => cut_any p 600 (by decide) xs w h)
  have hlen : (xs.take 600).length ≤ 600 := by rw [List.length_take]; omega
  have HCP := hid (fun v w h => copy_any v (xs.take 600) w h (by omega))
  obtain ⟨ps, u, er, hps, h60, h61⟩ := parse_both (xs.take 600) (by omega)
  have HPA := hid h60
  have HRP := hid h61
  clear hp h60 h61 hlen
  generalize xs.take 600 = ys at HCUT HCP HPA HRP
  go_enter Try.func11, Try.ntmps11
  go_wp2_with fail
  with_reducible refine (awake5_true _).mono ?_
  rintro e w1 ⟨rfl, hb1⟩
  have HB1 := hid hb1
  clear hb1
  go_wp2_with fail
  with_reducible refine (HCUT.out _ (reads_below HP.out HB1.out)).mono ?_
  rintro e w2 ⟨v, rfl, hr, hb, -⟩
  have HR2 := hid hr
  have HB2 := hid (below_t HB1.out hb)
  clear hr hb
  go_wp2_with fail
  with_reducible refine (HCP.out _ _ HR2.out).mono ?_
  rintro e w3 ⟨m, rfl, hr, hb, -⟩
  have HM3 := hid hr
  have HR3 := hid (reads_below HR2.out hb)
  have HB3 := hid (below_t HB2.out hb)
  clear hr hb
  go_wp2_with fail
  with_reducible refine (HPA.out _ _ HM3.out).mono ?_
  rintro e w4 ⟨l, rfl, hl, hb⟩
  have HM4 := hid (reads_below HM3.out hb)
  have HR4 := hid (reads_below HR3.out hb)
  have HB4 := hid (below_t HB3.out hb)
  have HL4 := hid hl
  clear hl hb
  go_wp2_with fail
  with_reducible refine (HRP.out _ _ HR4.out).mono ?_
  rintro e w5 ⟨k, rfl, hk, hb⟩
  have HM5 := hid (reads_below HM4.out hb)
  have HR5 := hid (reads_below HR4.out hb)
  have HB5 := hid (below_t HB4.out hb)
  have HL5 := hid (pairs_below HL4.out hb)
  have HK5 := hid hk
  clear hk hb
  go_wp2_with fail
  with_reducible refine ((back_any _ ps hps _ HL5.out).mono fun _ _ h => pairs_of_own h).mono ?_
  rintro e w6 ⟨l6, rfl, hl, hb⟩
  have HM6 := hid (reads_below HM5.out hb)
  have HR6 := hid (reads_below HR5.out hb)
  have HB6 := hid (below_t HB5.out hb)
  have HK6 := hid (pairs_below HK5.out hb)
  have HL6 := hid hl
  clear hl hb
  go_wp2_with fail
  with_reducible refine (equal_same _ _ ps hps _ HL6.out HK6.out).mono ?_
  rintro e w7 ⟨rfl, hb⟩
  have HM7 := hid (reads_below HM6.out hb)
  have HR7 := hid (reads_below HR6.out hb)
  have HB7 := hid (below_t HB6.out hb)
  clear hb
  go_wp2_with fail
  with_reducible refine (same_true _ _ ys _ HM7.out HR7.out).mono ?_
  rintro e w8 ⟨rfl, rfl⟩
  go_wp2
  go_ret
  exact ⟨rfl, HB7.out⟩
end Go.Proofs.Ytpnfdmfmdacjmaa
