/-
  Attributes read of bytes: the reference's Parse; where they are too few.
-/
import Derived.Test.YtpnfdmfmdacjmaaPrb
namespace Go.Proofs.Ytpnfdmfmdacjmaa
open Go.RowKit Go.Lib

set_option maxRecDepth 100000 in
set_option maxHeartbeats 2000000 in
theorem rparse_row (g off cap : Nat) (xs : List Int) (n : Nat) (hn : n < 256) (hx : xs.getD 0 0 = (n : Int)) (hl : 1 + 2 * n ≤ xs.length) (hlm : xs.length ≤ 100000) (hb : ∀ x ∈ xs, 0 ≤ x ∧ x < 256) (w : World) (hc : ∀ i, i < xs.length → w.cell? ⟨g, off + i, none⟩ = some (.int .u8 (xs.getD i 0))) : Calls Try.prog 61 #[.slice (some ⟨g, off, none⟩) xs.length cap] w (ParseDone 78 xs n w) := by
  obtain ⟨i0, hi, hz0, hz1, hz2⟩ := info_parts info78
  have c00 := hc 0 (by omega)
  rw [hx, Nat.add_zero] at c00
  have HC := hid hc
  have HC0 := hid c00
  have HBY := hid (fun i h => byte_at hb i h)
  clear hc hb hx
  obtain ⟨L, hL⟩ : ∃ L, L = xs.length := ⟨_, rfl⟩
  rw [← hL] at hl hlm HC HBY ⊢
  clear hL
  have l0 : 0 < L := by omega
  have l1 : ¬ (L : Int) = 0 := by omega
  have l2 : ((L : Int) == 0) = false := by simpa using l1
  have l3 : ¬ (L : Int) - 1 < 2 * n := by omega
  go_enter Try.func61, Try.ntmps61
  go_wp2
  clear c00 l1 l2 l3
  go_loopw [5, 6] (fun v i w' => ∃ k : Nat, k ≤ n ∧ i = .int .i64 k ∧ Hid (w'.ownsRow w.heap.size 78 2 v k (cellsP (pairsL xs k))) ∧ Hid (Below w.heap.size w w') ∧ Hid (allK xs k = true)) (fun _ i _ => n - (intOf i).toNat)
  case atStart => exact ⟨0, Nat.zero_le _, rfl, World.ownsRow_nil _ _ _ _, Below.refl _ _, allK_zero xs⟩
  case round =>
    obtain ⟨k, hk, rfl, HO, HB, HK⟩ := hrel
    have p0 := keepc HB.out HC0.out
    by_cases hlt : k < n
    · have m1 : (k : Int) < n := by omega
      have c0 := keepc HB.out (HC.out (1 + 2 * k) (by omega))
      have c1 := keepc HB.out (HC.out (2 + 2 * k) (by omega))
      obtain ⟨x, hx1, hx2, hx3⟩ := HBY.out (1 + 2 * k) (by omega)
      obtain ⟨y, hy1, hy2, hy3⟩ := HBY.out (2 + 2 * k) (by omega)
      rw [hx2] at c0
      rw [hy2] at c1
      have HP : Hid (pairAt xs k = (x, y)) := by show _ = _; unfold pairAt; rw [hx3, show 1 + 2 * k + 1 = 2 + 2 * k by omega, hy3]
      have HS := hid (cellsP_succ xs k)
      have HKS := hid (allK_succ xs k)
      rw [HP.out] at HS HKS
      have HCH := hid (right_any x y hy1)
      clear hx2 hx3 hy2 hy3 hx1 hy1
      have HX := hid (And.intro c0 (And.intro c1 HB.out))
      clear c0 c1
      go_wp2
      have b1 : (1 : Int) + 2 * k < L := by omega
      have b2 : (2 : Int) + 2 * k < L := by omega
      have b3 : (0 : Int) ≤ 1 + 2 * k := by omega
      have b4 : (0 : Int) ≤ 2 + 2 * k := by omega
      have b5 : IntKind.i64.wrap (2 * (k : Int)) = 2 * k := IntWalk.i64_in _ (by omega)
      have b6 : IntKind.i64.wrap (1 + 2 * (k : Int)) = 1 + 2 * k := IntWalk.i64_in _ (by omega)
      have b7 : IntKind.i64.wrap (2 + 2 * (k : Int)) = 2 + 2 * k := IntWalk.i64_in _ (by omega)
      have b8 : (1 + 2 * (k : Int)).toNat = 1 + 2 * k := by omega
      have b9 : (2 + 2 * (k : Int)).toNat = 2 + 2 * k := by omega
      go_region_held3 (fun w' => w'.cell? ⟨g, off + (1 + 2 * k), none⟩ = some (.int .u8 x) ∧ w'.cell? ⟨g, off + (2 + 2 * k), none⟩ = some (.int .u8 y) ∧ Below w.heap.size w w') (first | exact held_drew HX.out | exact held_alloc (held_drew HX.out)) (first | fail)
      rename_i hH
      clear hH b1 b2 b3 b4 b5 b6 b7 b8 b9 p0
      have KB : Below wr.heap.size wr (wr.drew.alloc (.cells #[.int .u8 x, .int .u8 y] 78)) := ((Below.refl _ _).drew).alloc (Nat.le_refl _) _
      have HOA := hid (HO.out.drew.alloc (.cells #[.int .u8 x, .int .u8 y] 78))
      have HBA := hid (below_t HB.out KB)
      clear KB
      go_wp2_with fail
      cases hkn : knownB x y
      · rw [hkn] at HCH HKS
        have HBAD := hid (allK_bad (xs := xs) (k := k) (by rw [HP.out]; exact hkn) n hlt)
        clear hkn
        with_reducible refine (HCH.out _).mono ?_
        rintro e w2 ⟨rfl, hb2⟩
        have HB2 := hid (below_t HBA.out hb2)
        clear hb2
        go_wp2
        go_ret3
        exact parse_bad HBAD.out HB2.out
      · rw [hkn] at HCH HKS
        clear hkn
        with_reducible refine (HCH.out _).mono ?_
        rintro e w2 ⟨rfl, hb2⟩
        have q0 := keepc (a := ⟨wr.heap.size, 0, none⟩) (v := .int .u8 x) hb2 (by simp [go_sem])
        have q1 := keepc (a := ⟨wr.heap.size, 1, none⟩) (v := .int .u8 y) hb2 (by simp [go_sem])
        have HB2 := hid (below_t HBA.out hb2)
        have HO2 := hid ((own_below HOA.out hb2).alloc (.cells #[.int .u8 x, .int .u8 y] 78))
        have HSZ := hid (show w.heap.size ≤ (w2.alloc (.cells #[.int .u8 x, .int .u8 y] 78)).heap.size by have := HB2.out.size; simp; omega)
        have HNW := hid (news_two w2 (.int .u8 x) (.int .u8 y) 78)
        have HB3 := hid (HB2.out.alloc HB2.out.size (.cells #[.int .u8 x, .int .u8 y] 78))
        have HM : Hid (k + 1 ≤ maxLen) := by show _ ≤ _; unfold maxLen; omega
        have HL : Hid ((k + 1) * 2 ≤ 140737488355328) := by show _ ≤ _; omega
        clear hb2
        go_wp2_with (first
          | (at_builtin; refine wpList_append_own _ rfl _ _ 93 rfl w.heap.size 78 i0 (.agg #[.int .u8 0, .int .u8 0]) 2 2 Try.underlying93 hi hz0 hz1 hz2 rfl (by decide) _ k (cellsP (pairsL xs k)) rfl HO2.out ⟨w2.heap.size, 0, none⟩ 1 1 [.int .u8 x, .int .u8 y] rfl rfl HNW.out (one_two x y) HM.out HL.out HSZ.out ?_; intro v3 w3 hown3 hgrow3 hnil3; have HO4 := hid hown3; have HG4 := hid hgrow3; clear hown3 hgrow3 hnil3))
        go_roundw
        case rel =>
          refine ⟨k + 1, by omega, by go_num, ?_, ?_, ?_⟩
          · show World.ownsRow _ _ _ _ _ _ _
            rw [HS.out]
            exact HO4.out
          · exact HB3.out.grown HG4.out HSZ.out (own_ge HO.out)
          · show _ = _
            rw [HKS.out, HK.out]
            rfl
        case measure => simp [intOf]; omega
    · obtain rfl : k = n := by omega
      have HO1 := HO.out
      rcases HO1.2 with ⟨rfl, h0⟩ | ⟨g1, cap1, cur, rfl, _⟩
      · subst h0
        clear HO1
        go_wp2
        go_ret3
        exact parse_good HK.out rfl HO.out HB.out
      · clear HO1
        go_wp2
        go_ret3
        exact parse_good HK.out rfl HO.out HB.out
end Go.Proofs.Ytpnfdmfmdacjmaa
