/-
  The reference's six-bit codes, and its addresses of 12 bits.
-/
import Derived.Test.YtlhaefgchmakfaaPc
namespace Go.Proofs.Ytlhaefgchmakfaa
open Go.RowKit Go.Lib

/-- The codes' digits. -/
def digL : List UInt8 := [52, 48, 99, 49, 99, 50, 99, 51, 99, 52, 99, 53, 99, 54, 99, 55, 99, 56, 99, 57, 52, 97, 52, 98, 52, 99, 52, 100, 52, 101, 52, 102, 53, 48, 100, 49, 100, 50, 100, 51, 100, 52, 100, 53, 100, 54, 100, 55, 100, 56, 100, 57, 53, 97, 53, 98, 53, 99, 53, 100, 53, 101, 53, 102, 54, 48, 54, 49, 101, 50, 101, 51, 101, 52, 101, 53, 101, 54, 101, 55, 101, 56, 101, 57, 54, 97, 54, 98, 54, 99, 54, 100, 54, 101, 54, 102, 102, 48, 102, 49, 102, 50, 102, 51, 102, 52, 102, 53, 102, 54, 102, 55, 102, 56, 102, 57, 55, 97, 55, 98, 55, 99, 55, 100, 55, 101, 55, 102]
def digZ (c : UInt8) : Int := if 97 ≤ (c.toNat : Int) then (c.toNat : Int) - 97 + 10 else ((c.toNat : Int) - 48) % 256
/-- A number of digits. -/
def numL (l : List UInt8) : Int := l.foldl (fun n c => 16 * n + digZ c) 0
theorem numL_snoc (l : List UInt8) (c : UInt8) : numL (l ++ [c]) = 16 * numL l + digZ c := by simp [numL]
theorem dig_bd (c : UInt8) : 0 ≤ digZ c ∧ digZ c ≤ 265 := by
  have := c.toNat_lt
  unfold digZ
  split <;> omega
theorem numL_bd4 (l : List UInt8) (h : l.length ≤ 4) : 0 ≤ numL l ∧ numL l ≤ 20000000 := by
  match l, h with
  | [], _ => simp [numL]
  | [a], _ => have := dig_bd a; simp [numL]; omega
  | [a, b], _ => have := dig_bd a; have := dig_bd b; simp [numL]; omega
  | [a, b, c], _ => have := dig_bd a; have := dig_bd b; have := dig_bd c; simp [numL]; omega
  | [a, b, c, d], _ => have := dig_bd a; have := dig_bd b; have := dig_bd c; have := dig_bd d; simp [numL]; omega
  | _ :: _ :: _ :: _ :: _ :: _, h => simp at h
theorem take_snocB (s : ByteArray) (k : Nat) (h : k < s.size) : s.data.toList.take (k + 1) = s.data.toList.take k ++ [s[k]] := by
  rw [List.take_succ_eq_append_getElem (by simpa using h)]; rfl
theorem dig_lo (c : UInt8) (h : ¬ 97 ≤ (c.toNat : Int)) : digZ c = ((c.toNat : Int) - 48) % 256 := if_neg h
theorem dig_hi (c : UInt8) (h : 97 ≤ (c.toNat : Int)) : digZ c = (c.toNat : Int) - 97 + 10 := if_pos h
set_option maxRecDepth 100000 in
set_option maxHeartbeats 400000 in
theorem num_any (s : ByteArray) (w : World) (hs : s.size ≤ 4) : Calls Try.prog 70 #[.string s] w fun e w' => e = .returned (.int .i64 (numL s.data.toList)) ∧ w = w' := by
  go_enter Try.func70, Try.ntmps70
  go_wp2
  go_loop [3, 4] (fun n i => ∃ k : Nat, k ≤ s.size ∧ i = .int .i64 k ∧ n = .int .i64 (numL (s.data.toList.take k))) (fun _ i => s.size - (intOf i).toNat)
  case atStart => exact ⟨0, Nat.zero_le _, rfl, rfl⟩
  case round =>
    obtain ⟨k, hk, rfl, rfl⟩ := hrel
    obtain ⟨hb0, hb1⟩ := numL_bd4 (s.data.toList.take k) (by rw [List.length_take]; omega)
    by_cases hlt : k < s.size
    · have HT := hid (take_snocB s k hlt)
      have hc := s[k].toNat_lt
      obtain ⟨N, hN⟩ : ∃ N, N = numL (s.data.toList.take k) := ⟨_, rfl⟩
      rw [← hN] at hb0 hb1 ⊢
      have HN := hid hN
      clear hN
      by_cases hh : 97 ≤ (s[k].toNat : Int)
      · go_wp2
        go_round
        case rel =>
          refine ⟨k + 1, by omega, by go_num, ?_⟩
          rw [HT.out, numL_snoc, dig_hi _ hh, ← HN.out]
        case measure => simp [intOf]; omega
      · go_wp2
        go_round
        case rel =>
          refine ⟨k + 1, by omega, by go_num, ?_⟩
          rw [HT.out, numL_snoc, dig_lo _ hh, ← HN.out]
        case measure => simp [intOf]; omega
    · go_wp2
      go_ret
      exact ⟨by rw [List.take_of_length_le (by simp; omega)]; rfl, rfl⟩
theorem slice_sx (s : ByteArray) (x y : Int) (h0 : 0 ≤ x) (h1 : x ≤ y) (h2 : y ≤ s.size) (w : World) : (Instr.slice 9 (.string s) (some (.int .i64 x)) (some (.int .i64 y)) none).run Try.prog w = .ok (.string (s.extract x.toNat y.toNat)) w := by
  have h3 : 0 ≤ y := by omega
  obtain ⟨a, rfl⟩ : ∃ a : Nat, x = (a : Int) := ⟨x.toNat, by omega⟩
  obtain ⟨b, rfl⟩ : ∃ b : Nat, y = (b : Int) := ⟨y.toNat, by omega⟩
  have h5 : a ≤ b := by omega
  have h6 : b ≤ s.size := by omega
  simp [Instr.slice, run_underlying Try.underlying9, Instr.sliceBounds, Instr.sliceBound, asIntOf, h5, h6]
set_option maxRecDepth 100000 in
/-- A piece of a string, for the walk. -/
theorem wpList_slice_sx (w : World) {ops : Array Oper} {rest : List Oper} {o : Oper} {a : Act} {Q : Exit → Act → World → Prop}
    (hg : o.guard = none) (x l h : Operand) (hop : o.op = Op.slice 9 x (some l) (some h) none) (s : ByteArray) (lo hi : Int) (hx : a.eval x = .string s) (hl : a.eval l = .int .i64 lo) (hh : a.eval h = .int .i64 hi)
    (h0 : 0 ≤ lo) (h1 : lo ≤ hi) (h2 : hi ≤ s.size) (hK : ∀ p, p = s.extract lo.toNat hi.toNat → wpList Try.prog ops Q rest (a.put o.dst (.string p)) w) :
    wpList Try.prog ops Q (o :: rest) a w := by
  refine wpList_plain hg fun K hK' => ?_
  have hrun : (Instr.sliceAt 9 (.string s) (some (.int .i64 lo)) (some (.int .i64 hi)) none).run Try.prog w = .ok (.string (s.extract lo.toNat hi.toNat)) w := by
    have := slice_sx s lo hi h0 h1 h2 w
    simp [Instr.sliceAt, run_underlying Try.underlying9, this]
  unfold Oper.wp
  simp [execOp, hop, hx, hl, hh, hrun, Result.andThen]
  exact hK' _ _ (hK _ rfl)
/-- A piece of the digits. -/
def pieceB (k : Nat) : ByteArray := (⟨digL.toArray⟩ : ByteArray).extract (2 * k) (2 * k + 2)
theorem piece_all : ∀ k, k < 64 → (pieceB k).size = 2 ∧ numL (pieceB k).data.toList = sixZ k := by decide +kernel
set_option maxRecDepth 100000 in
set_option maxHeartbeats 1000000 in
theorem rsix_p (n : Int) (hn : I64 n) (w : World) : Calls Try.prog 41 #[.int .i64 n] w fun e w' => e = .returned (.int .u8 (sixZ (n % 64).toNat)) ∧ w = w' := by
  have HM := hid (mod_any n 64 hn (by decide) (by decide))
  obtain ⟨k, hk⟩ : ∃ k : Nat, n % 64 = (k : Int) := ⟨(n % 64).toNat, by omega⟩
  have hl : k < 64 := by omega
  rw [hk] at HM ⊢
  clear hk hn
  obtain ⟨hp1, hp2⟩ := piece_all k hl
  have HP1 := hid hp1
  have HP2 := hid hp2
  obtain ⟨hz1, hz2⟩ := sixZ_bd k hl
  clear hp1 hp2
  rw [show ((k : Int)).toNat = k from rfl]
  go_enter Try.func41, Try.ntmps41
  go_wp2_with fail
  with_reducible refine (HM.out _).mono ?_
  rintro e w1 ⟨rfl, rfl⟩
  go_wp2_with (refine wpList_slice_sx _ rfl _ _ _ rfl _ _ _ rfl rfl rfl (by omega) (by omega) (by show _ ≤ ((128 : Nat) : Int); omega) ?_; intro p hp; have HP := hid hp; clear hp)
  have HN := hid (num_any p w (by rw [HP.out]; exact Nat.le_trans (Nat.le_of_eq HP1.out) (by decide)))
  have HE : Hid (numL p.data.toList = sixZ k) := by show _ = _; rw [HP.out]; exact HP2.out
  rw [HE.out] at HN
  obtain ⟨Z, hZ⟩ : ∃ Z, Z = sixZ k := ⟨_, rfl⟩
  rw [← hZ] at HN hz1 hz2
  have HZ := hid hZ
  clear hZ
  with_reducible refine HN.out.mono ?_
  rintro e w2 ⟨rfl, rfl⟩
  go_wp2
  go_ret
  exact ⟨ret_int HZ.out, rfl⟩
set_option maxRecDepth 100000 in
set_option maxHeartbeats 1000000 in
theorem renc_any (n : Int) (w : World) : Calls Try.prog 13 #[.int .i64 12, .int .i64 n] w (EncD n w) := by
  cases hk : okA n
  · have HF := hid (enc_no hk w)
    have h1 : n < 0 ∨ 4095 < n := by
      by_cases q : 0 ≤ n ∧ n ≤ 4095
      · rw [okA_iff.2 q] at hk; cases hk
      · omega
    clear hk
    by_cases h0 : n < 0
    · clear h1
      go_enter Try.func13, Try.ntmps13
      go_wp2
      go_ret2
      exact HF.out
    · have h2 : 4095 < n := h1.resolve_left h0
      clear h1
      go_enter Try.func13, Try.ntmps13
      go_wp2
      go_ret2
      exact HF.out
  · have HF := hid (enc_yes hk w)
    obtain ⟨h0, h1⟩ := okA_iff.1 hk
    have h2 : n < 4096 := by omega
    have HA := hid (rsix_p (n / 64) (i64_small (by omega) (by omega)))
    have HB := hid (rsix_p (n % 64) (i64_small (by omega) (by omega)))
    rw [show (n % 64 % 64).toNat = (n % 64).toNat by omega] at HB
    clear hk h1
    go_enter Try.func13, Try.ntmps13
    go_wp2_with fail
    with_reducible refine (HA.out _).mono ?_
    rintro e w1 ⟨rfl, rfl⟩
    go_wp2_with fail
    with_reducible refine (HB.out _).mono ?_
    rintro e w1 ⟨rfl, rfl⟩
    go_wp2
    go_ret2
    exact HF.out
end Go.Proofs.Ytlhaefgchmakfaa
