/-
  AddrCodes' walk.
-/
import Derived.Test.YtpnfdmfmdacjmaaCuta
import Derived.Test.YtpnfdmfmdacjmaaAwk
namespace Go.Proofs.Ytpnfdmfmdacjmaa
open Go.RowKit Go.Lib

theorem below_trans {a b c : World} (h : Below a.heap.size a b) (k : Below b.heap.size b c) : Below a.heap.size a c := h.trans (k.mono h.size)
theorem enc_of_bad {k n : Int} {w w' : World} {e : Ending} (hk : k ≠ 12 ∧ k ≠ 14 ∧ k ≠ 16) (h : EncDone k n w e w') : e = .returned (.tuple #[.slice none 0 0, .int .i64 1]) ∧ Below w.heap.size w w' := by
  obtain ⟨v, er, rfl, hb, ⟨_, rfl, rfl⟩ | ⟨h1, _⟩ | ⟨h1, _⟩⟩ := h
  · exact ⟨rfl, hb⟩
  · omega
  · omega
theorem enc_of_out {k n : Int} {w w' : World} {e : Ending} (hk : k = 12 ∨ k = 14 ∨ k = 16) (hn : n < 0 ∨ mostZ k < n) (h : EncDone k n w e w') : e = .returned (.tuple #[.slice none 0 0, .int .i64 9]) ∧ Below w.heap.size w w' := by
  obtain ⟨v, er, rfl, hb, ⟨h1, _⟩ | ⟨_, _, rfl, rfl⟩ | ⟨_, h1, h2, _⟩⟩ := h
  · omega
  · exact ⟨rfl, hb⟩
  · omega
theorem enc_of_ok {k n : Int} {w w' : World} {e : Ending} (hk : k = 12 ∨ k = 14 ∨ k = 16) (h0 : 0 ≤ n) (hm : n ≤ mostZ k) (h : EncDone k n w e w') : ∃ v, e = .returned (.tuple #[v, .int .i64 0]) ∧ Reads w' v (encL k n) ∧ Below w.heap.size w w' := by
  obtain ⟨v, er, rfl, hb, ⟨h1, _⟩ | ⟨_, h1, _⟩ | ⟨_, _, _, rfl, h1⟩⟩ := h
  · omega
  · omega
  · exact ⟨v, rfl, h1, hb⟩
theorem sixZ_top : ∀ k, k < 64 → 64 ≤ sixZ k ∧ (sixZ k < 128 ∨ 192 ≤ sixZ k) := by decide +kernel
/-- What is told is read again. -/
theorem dec_enc {k n : Int} (hk : k = 12 ∨ k = 14 ∨ k = 16) (h0 : 0 ≤ n) (hm : n ≤ mostZ k) : decZ k (encL k n) = (n, 0) := by
  rcases hk with rfl | rfl | rfl
  · have h1 : n ≤ 4095 := hm
    show decZ 12 [sixZ (n / 64 % 64).toNat, sixZ (n % 64).toNat] = _
    have a := sixZ_top (n / 64 % 64).toNat (by omega)
    have b := sixZ_mod (n / 64 % 64).toNat (by omega)
    have c := sixZ_mod (n % 64).toNat (by omega)
    rw [decZ_six (.inl rfl) a.1 a.2, b, c]
    congr 1
    omega
  · have h1 : n ≤ 16383 := hm
    show decZ 14 [n / 256, n % 256] = _
    rw [decZ_whole (by omega) (by omega)]
    congr 1
    omega
  · have h1 : n ≤ 65535 := hm
    show decZ 16 [n / 256, n % 256] = _
    rw [decZ_whole (by omega) (by omega)]
    congr 1
    omega
set_option maxRecDepth 100000 in
set_option maxHeartbeats 2000000 in
theorem addrCodes_true (k n : Int) (hn : I64 n) (p : Value) (xs : List Int) (w : World) (hp : Reads w p xs) : Calls Try.prog 7 #[.int .i64 k, .int .i64 n, p] w fun e w' => e = .returned (.bool true) ∧ Below w.heap.size w w' := by
  have HP := hid hp
  have HCUT := hid (show ∀ w, Reads w p xs → Calls Try.prog 40 #[p, .int .i64 5] w (RowDone (xs.take 5) w) from fun w h => cut_any p 5 (by decide) xs w h)
  have HSI := hid (six_any n)
  have HRS := hid (rsix_any n hn)
  generalize sixZ (n % 64).toNat = Z at HSI HRS
  clear hp hn
  by_cases hk : k = 12 ∨ k = 14 ∨ k = 16
  · by_cases hn : n < 0 ∨ mostZ k < n
    · have HE := hid (fun w => (encode_any k n w).mono fun _ _ h => enc_of_out hk hn h)
      have HF := hid (fun w => (rencode_any k n w).mono fun _ _ h => enc_of_out hk hn h)
      clear hk hn
      go_enter Try.func7, Try.ntmps7
      go_wp2_with fail
      with_reducible refine (awake_true _).mono ?_
      rintro e w1 ⟨rfl, hb1⟩
      have HB1 := hid hb1
      clear hb1
      go_wp2_with fail
      with_reducible refine (HE.out _).mono ?_
      rintro e w2 ⟨rfl, hb2⟩
      have HB2 := hid (below_trans HB1.out hb2)
      clear hb2
      go_wp2_with fail
      with_reducible refine (HF.out _).mono ?_
      rintro e w3 ⟨rfl, hb3⟩
      have HB3 := hid (below_trans HB2.out hb3)
      clear hb3
      go_wp2_with fail
      with_reducible refine (same_true _ _ [] _ (reads_nil _) (reads_nil _)).mono ?_
      rintro e w4 ⟨rfl, rfl⟩
      go_wp2_with fail
      with_reducible refine (HCUT.out _ (reads_below HP.out HB3.out)).mono ?_
      rintro e w6 ⟨y, rfl, hry, hb6, -⟩
      have HRY := hid hry
      have HB6 := hid hb6
      clear hry hb6
      go_wp2_with fail
      with_reducible refine (decode_any k y (xs.take 5) _ HRY.out).mono ?_
      rintro e w7 ⟨rfl, hb7⟩
      have HB7 := hid hb7
      clear hb7
      go_wp2_with fail
      with_reducible refine (rdecode_any k y (xs.take 5) _ (reads_below HRY.out HB7.out)).mono ?_
      rintro e w8 ⟨rfl, hb8⟩
      have HB8 := hid hb8
      clear hb8
      generalize (decZ k (xs.take 5)).1 = D1
      generalize (decZ k (xs.take 5)).2 = D2
      go_wp2_with fail
      with_reducible refine (HSI.out _).mono ?_
      rintro e w9 ⟨rfl, rfl⟩
      go_wp2_with fail
      with_reducible refine (HRS.out _).mono ?_
      rintro e w9 ⟨rfl, rfl⟩
      go_wp2
      go_ret
      refine ⟨rfl, ?_⟩
      have g1 : Below w.heap.size w w3 := HB3.out
      have g2 := g1.trans (HB6.out.mono g1.size)
      have g3 := g2.trans (HB7.out.mono g2.size)
      exact g3.trans (HB8.out.mono g3.size)
    · have h0 : 0 ≤ n := by omega
      have h1 : n ≤ mostZ k := by omega
      have HE := hid (fun w => (encode_any k n w).mono fun _ _ h => enc_of_ok hk h0 h1 h)
      have HF := hid (fun w => (rencode_any k n w).mono fun _ _ h => enc_of_ok hk h0 h1 h)
      have HD := hid (fun v w h => decode_any k v (encL k n) w h)
      unfold DecDone at HD
      rw [dec_enc hk h0 h1] at HD
      generalize encL k n = ys at HE HF HD
      clear hk hn h0 h1
      go_enter Try.func7, Try.ntmps7
      go_wp2_with fail
      with_reducible refine (awake_true _).mono ?_
      rintro e w1 ⟨rfl, hb1⟩
      have HB1 := hid hb1
      clear hb1
      go_wp2_with fail
      with_reducible refine (HE.out _).mono ?_
      rintro e w2 ⟨v2, rfl, hr2, hb2⟩
      have HB2 := hid (below_trans HB1.out hb2)
      have HR2 := hid hr2
      clear hb2 hr2
      go_wp2_with fail
      with_reducible refine (HF.out _).mono ?_
      rintro e w3 ⟨v3, rfl, hr3, hb3⟩
      have HB3 := hid (below_trans HB2.out hb3)
      have HR2' := hid (reads_below HR2.out hb3)
      have HR3 := hid hr3
      clear hb3 hr3
      go_wp2_with fail
      with_reducible refine (same_true _ _ ys _ HR2'.out HR3.out).mono ?_
      rintro e w4 ⟨rfl, rfl⟩
      go_wp2_with fail
      with_reducible refine (HD.out _ _ HR2'.out).mono ?_
      rintro e w4 ⟨rfl, hb4⟩
      have HB4 := hid (below_trans HB3.out hb4)
      clear hb4
      go_wp2_with fail
      with_reducible refine (HCUT.out _ (reads_below HP.out HB4.out)).mono ?_
      rintro e w6 ⟨y, rfl, hry, hb6, -⟩
      have HRY := hid hry
      have HB6 := hid hb6
      clear hry hb6
      go_wp2_with fail
      with_reducible refine (decode_any k y (xs.take 5) _ HRY.out).mono ?_
      rintro e w7 ⟨rfl, hb7⟩
      have HB7 := hid hb7
      clear hb7
      go_wp2_with fail
      with_reducible refine (rdecode_any k y (xs.take 5) _ (reads_below HRY.out HB7.out)).mono ?_
      rintro e w8 ⟨rfl, hb8⟩
      have HB8 := hid hb8
      clear hb8
      generalize (decZ k (xs.take 5)).1 = D1
      generalize (decZ k (xs.take 5)).2 = D2
      go_wp2_with fail
      with_reducible refine (HSI.out _).mono ?_
      rintro e w9 ⟨rfl, rfl⟩
      go_wp2_with fail
      with_reducible refine (HRS.out _).mono ?_
      rintro e w9 ⟨rfl, rfl⟩
      go_wp2
      go_ret
      refine ⟨rfl, ?_⟩
      have g1 : Below w.heap.size w w4 := HB4.out
      have g2 := g1.trans (HB6.out.mono g1.size)
      have g3 := g2.trans (HB7.out.mono g2.size)
      exact g3.trans (HB8.out.mono g3.size)
  · have hk' : k ≠ 12 ∧ k ≠ 14 ∧ k ≠ 16 := ⟨fun h => hk (.inl h), fun h => hk (.inr (.inl h)), fun h => hk (.inr (.inr h))⟩
    have HE := hid (fun w => (encode_any k n w).mono fun _ _ h => enc_of_bad hk' h)
    have HF := hid (fun w => (rencode_any k n w).mono fun _ _ h => enc_of_bad hk' h)
    clear hk hk'
    go_enter Try.func7, Try.ntmps7
    go_wp2_with fail
    with_reducible refine (awake_true _).mono ?_
    rintro e w1 ⟨rfl, hb1⟩
    have HB1 := hid hb1
    clear hb1
    go_wp2_with fail
    with_reducible refine (HE.out _).mono ?_
    rintro e w2 ⟨rfl, hb2⟩
    have HB2 := hid (below_trans HB1.out hb2)
    clear hb2
    go_wp2_with fail
    with_reducible refine (HF.out _).mono ?_
    rintro e w3 ⟨rfl, hb3⟩
    have HB3 := hid (below_trans HB2.out hb3)
    clear hb3
    go_wp2_with fail
    with_reducible refine (same_true _ _ [] _ (reads_nil _) (reads_nil _)).mono ?_
    rintro e w4 ⟨rfl, rfl⟩
    go_wp2_with fail
    with_reducible refine (HCUT.out _ (reads_below HP.out HB3.out)).mono ?_
    rintro e w6 ⟨y, rfl, hry, hb6, -⟩
    have HRY := hid hry
    have HB6 := hid hb6
    clear hry hb6
    go_wp2_with fail
    with_reducible refine (decode_any k y (xs.take 5) _ HRY.out).mono ?_
    rintro e w7 ⟨rfl, hb7⟩
    have HB7 := hid hb7
    clear hb7
    go_wp2_with fail
    with_reducible refine (rdecode_any k y (xs.take 5) _ (reads_below HRY.out HB7.out)).mono ?_
    rintro e w8 ⟨rfl, hb8⟩
    have HB8 := hid hb8
    clear hb8
    generalize (decZ k (xs.take 5)).1 = D1
    generalize (decZ k (xs.take 5)).2 = D2
    go_wp2_with fail
    with_reducible refine (HSI.out _).mono ?_
    rintro e w9 ⟨rfl, rfl⟩
    go_wp2_with fail
    with_reducible refine (HRS.out _).mono ?_
    rintro e w9 ⟨rfl, rfl⟩
    go_wp2
    go_ret
    refine ⟨rfl, ?_⟩
    have g1 : Below w.heap.size w w3 := HB3.out
    have g2 := g1.trans (HB6.out.mono g1.size)
    have g3 := g2.trans (HB7.out.mono g2.size)
    exact g3.trans (HB8.out.mono g3.size)
end Go.Proofs.Ytpnfdmfmdacjmaa
