/-
  The graphic escapes back, by the program and by the reference; and the whole road of PageEscapes.
-/
import Derived.Test.YtadoiplfglaonaaDoorEsca
namespace Go.Proofs.YtadoiplfglaonaaDoor
open Go.RowKit Go.Lib Go.Shelf

theorem find_first2 : ∀ (l : List (Int × Int)) (c : Int) (j : Nat), j < l.length → (l.getD j (0, 0)).2 = c → (∀ i, i < j → (l.getD i (0, 0)).2 ≠ c) → l.find? (fun p => p.2 == c) = some (l.getD j (0, 0))
  | [], _, _, h, _, _ => by simp at h
  | p :: l, c, 0, _, hc, _ => by
    simp only [List.getD_cons_zero] at hc ⊢
    rw [List.find?_cons_of_pos (by simpa using hc)]
  | p :: l, c, j + 1, h, hc, hno => by
    have h0 := hno 0 (by omega)
    simp only [List.getD_cons_zero] at h0
    rw [List.find?_cons_of_neg (by simpa using h0), List.getD_cons_succ]
    exact find_first2 l c j (by simpa using h) (by simpa using hc) (fun i hi => by have := hno (i + 1) (by omega); simpa using this)
theorem find_none2 (l : List (Int × Int)) (c : Int) (hno : ∀ i, i < l.length → (l.getD i (0, 0)).2 ≠ c) : l.find? (fun p => p.2 == c) = none := by
  rw [List.find?_eq_none]
  intro p hp
  obtain ⟨i, hi, e⟩ := List.getElem_of_mem hp
  have := hno i hi
  rw [List.getD, List.getElem?_eq_getElem hi, e] at this
  simpa using this

set_option maxRecDepth 100000 in
set_option maxHeartbeats 1000000 in
theorem escaped_any (s : Int) (w : World) (hE : Escapes w) : Calls Tryd.prog 32 #[.int .i32 s] w fun e w' => e = .returned (.tuple #[.int .u8 (escBack s).1, .bool (escBack s).2]) ∧ Below w.heap.size w w' := by
  have HE := hid hE
  have HI : Hid ((Tryd.prog.info? 105).map (·.size) = some (flat escL).length) := by rw [Hid, flat_escL_length]; kernel_rfl
  clear hE
  go_enter Tryd.func32, Tryd.ntmps32
  go_wp2_with (refine wpList_load_mid rfl 105 _ rfl 0 0 rfl (flat escL) _ HE.out.2 Tryd.underlying105 rfl HI.out ?_)
  go_loopw [7] (fun i wr => ∃ k : Nat, k ≤ 19 ∧ i = .int .i64 k ∧ Hid (∀ i, i < k → (escL.getD i (0, 0)).2 ≠ s) ∧ Hid (Below w.heap.size w wr)) (fun i _ => 19 - (intOf i).toNat)
  case atStart => exact ⟨0, by omega, rfl, fun i h => absurd h (Nat.not_lt_zero _), Below.refl _ _⟩
  case round =>
    obtain ⟨k, hk, rfl, HNO, HB⟩ := hrel
    by_cases hlt : k < 19
    · obtain ⟨⟨qc, qs⟩, hq⟩ : ∃ q, escL[k]? = some q := ⟨_, List.getElem?_eq_getElem (show k < escL.length from hlt)⟩
      have hix := index_105 k qc qs hq wr
      have hqd : escL.getD k (0, 0) = (qc, qs) := by rw [List.getD, hq]; rfl
      have HQ := hid hqd
      clear hqd hq
      by_cases hqc : qs = s
      · have hqb : (qs == s) = true := by simpa using hqc
        have HQC := hid hqc
        clear hqc
        go_wp2
        go_ret2
        have e : escBack s = (qc, true) := by
          unfold escBack
          rw [find_first2 escL s k hlt (by rw [HQ.out]; exact HQC.out) HNO.out, HQ.out]
        exact ⟨by rw [e]; rfl, HB.out.alloc HB.out.size _⟩
      · have hqb : (qs == s) = false := by simpa using hqc
        have HQC := hid hqc
        clear hqc
        go_wp2
        go_roundw
        case rel => exact ⟨k + 1, by omega, by go_num, fun i hi => by
          by_cases hij : i = k
          · rw [hij, HQ.out]; exact HQC.out
          · exact HNO.out i (by omega), HB.out.alloc HB.out.size _⟩
        case measure => simp [intOf]; omega
    · obtain rfl : k = 19 := by omega
      go_wp2
      go_ret2
      have e : escBack s = (0, false) := by
        unfold escBack
        rw [find_none2 escL s HNO.out]
      exact ⟨by rw [e]; rfl, HB.out⟩

theorem esc_size : (⟨escS.toArray⟩ : ByteArray).size = 114 := by kernel_rfl
theorem esc_at (j : Nat) (hj : j < 19) : (escL.getD j (0, 0)) ∈ escL := by
  rw [List.getD, List.getElem?_eq_getElem (show j < escL.length from hj)]
  simp

set_option maxRecDepth 100000 in
set_option maxHeartbeats 1000000 in
theorem escape_ref (c : Nat) (hc : c < 256) (w : World) : Calls Tryd.prog 34 #[.int .u8 c] w fun e w' => e = .returned (.int .i32 (escOf c).1) ∧ w = w' := by
  go_enter Tryd.func34, Tryd.ntmps34
  go_wp2
  go_loop [3] (fun i => ∃ j : Nat, j ≤ 19 ∧ i = .int .i64 ((6 * j : Nat) : Int) ∧ Hid (∀ i, i < j → (escL.getD i (0, 0)).1 ≠ c)) (fun i => 114 - (intOf i).toNat)
  case atStart => exact ⟨0, Nat.zero_le _, rfl, fun i h => absurd h (Nat.not_lt_zero _)⟩
  case round =>
    obtain ⟨j, hj, rfl, HNO⟩ := hrel
    by_cases hlt : j < 19
    · obtain ⟨hcd, hsg⟩ := esc_codes j hlt
      obtain ⟨o1, o2, o3, o4, _⟩ := esc_ok _ (esc_at j hlt)
      have HH : Hid ((escL.getD j (0, 0)).1 = c → (escOf c).1 = (escL.getD j (0, 0)).2) := fun h => by
        unfold escOf
        rw [find_first escL c j hlt h HNO.out]
      have HP1 := hid (fun p (hp : p = (⟨escS.toArray⟩ : ByteArray).extract (6 * (j : Int)).toNat (6 * (j : Int) + 2).toNat) => (by
        have hp' : p = (⟨escS.toArray⟩ : ByteArray).extract (6 * j) (6 * j + 2) := by rw [hp]; congr 1 <;> omega
        have hz : p.size ≤ 4 := by rw [hp', extract_size _ _ _ (by rw [escS_length]; omega)]; omega
        have h := num_any p w hz
        rw [hp', piece_extract, hcd] at h
        rw [hp']
        exact h : Calls Tryd.prog 58 #[.string p] w fun e w' => e = .returned (.int .i64 (escL.getD j (0, 0)).1) ∧ w = w'))
      have HP2 := hid (fun p (hp : p = (⟨escS.toArray⟩ : ByteArray).extract (6 * (j : Int) + 2).toNat (6 * (j : Int) + 6).toNat) => (by
        have hp' : p = (⟨escS.toArray⟩ : ByteArray).extract (6 * j + 2) (6 * j + 2 + 4) := by rw [hp]; congr 1 <;> omega
        have hz : p.size ≤ 4 := by rw [hp', extract_size _ _ _ (by rw [escS_length]; omega)]; omega
        have h := num_any p w hz
        rw [hp', piece_extract, hsg] at h
        rw [hp']
        exact h : Calls Tryd.prog 58 #[.string p] w fun e w' => e = .returned (.int .i64 (escL.getD j (0, 0)).2) ∧ w = w'))
      obtain ⟨q, hq⟩ : ∃ q, q = escL.getD j (0, 0) := ⟨_, rfl⟩
      rw [← hq] at HP1 HP2 HH o1 o2 o3 o4
      obtain ⟨qc, qs⟩ := q
      have HQ := hid hq
      simp only at HP1 HP2 o1 o2 o3 o4
      clear hcd hsg hq
      by_cases hqc : qc = c
      · have hqb : (qc == (c : Int)) = true := by simpa using hqc
        have HQC := hid hqc
        clear hqc
        go_wp2_with (refine wpList_slice_str _ rfl _ _ _ rfl ⟨escS.toArray⟩ (6 * (j : Int)) (6 * (j : Int) + 2) (by kernel_rfl) rfl rfl (by omega) (by omega) (by rw [esc_size]; omega) ?_; intro p hp; have HPP := hid hp; clear hp)
        refine (HP1.out _ HPP.out).mono ?_
        rintro e w' ⟨rfl, rfl⟩
        go_wp2_with (refine wpList_slice_str _ rfl _ _ _ rfl ⟨escS.toArray⟩ (6 * (j : Int) + 2) (6 * (j : Int) + 6) (by kernel_rfl) rfl rfl (by omega) (by omega) (by rw [esc_size]; omega) ?_; intro p2 hp2; have HPP2 := hid hp2; clear hp2)
        refine (HP2.out _ HPP2.out).mono ?_
        rintro e w' ⟨rfl, rfl⟩
        go_wp2
        go_ret
        exact ⟨by rw [HH.out HQC.out]; rfl, rfl⟩
      · have hqb : (qc == (c : Int)) = false := by simpa using hqc
        have HQC := hid hqc
        clear hqc
        go_wp2_with (refine wpList_slice_str _ rfl _ _ _ rfl ⟨escS.toArray⟩ (6 * (j : Int)) (6 * (j : Int) + 2) (by kernel_rfl) rfl rfl (by omega) (by omega) (by rw [esc_size]; omega) ?_; intro p hp; have HPP := hid hp; clear hp)
        refine (HP1.out _ HPP.out).mono ?_
        rintro e w' ⟨rfl, rfl⟩
        go_wp2
        go_round
        case rel => exact ⟨j + 1, by omega, by go_num, fun i hi => by
          by_cases hij : i = j
          · rw [hij, ← HQ.out]; exact HQC.out
          · exact HNO.out i (by omega)⟩
        case measure => simp [intOf]; omega
    · obtain rfl : j = 19 := by omega
      have e : (escOf c).1 = 0 := by
        unfold escOf
        rw [find_none escL c HNO.out]
      have HEE := hid e
      clear e
      go_wp2
      go_ret
      exact ⟨by rw [HEE.out]; rfl, rfl⟩
end Go.Proofs.YtadoiplfglaonaaDoor
