/-
  The six-bit codes: the program's and the reference's are one list; both ways.
-/
import Derived.Test.YtpnfdmfmdacjmaaSzb
import Derived.Laws.BitsLemmas
namespace Go.Proofs.Ytpnfdmfmdacjmaa
open Go.RowKit Go.Lib

/-- The codes. -/
def sixL : List UInt8 := [64, 193, 194, 195, 196, 197, 198, 199, 200, 201, 74, 75, 76, 77, 78, 79, 80, 209, 210, 211, 212, 213, 214, 215, 216, 217, 90, 91, 92, 93, 94, 95, 96, 97, 226, 227, 228, 229, 230, 231, 232, 233, 106, 107, 108, 109, 110, 111, 240, 241, 242, 243, 244, 245, 246, 247, 248, 249, 122, 123, 124, 125, 126, 127]
/-- The code of a number. -/
def sixZ (k : Nat) : Int := ((sixL.getD k 0).toNat : Int)
/-- The codes' digits. -/
def digL : List UInt8 := [52, 48, 99, 49, 99, 50, 99, 51, 99, 52, 99, 53, 99, 54, 99, 55, 99, 56, 99, 57, 52, 97, 52, 98, 52, 99, 52, 100, 52, 101, 52, 102, 53, 48, 100, 49, 100, 50, 100, 51, 100, 52, 100, 53, 100, 54, 100, 55, 100, 56, 100, 57, 53, 97, 53, 98, 53, 99, 53, 100, 53, 101, 53, 102, 54, 48, 54, 49, 101, 50, 101, 51, 101, 52, 101, 53, 101, 54, 101, 55, 101, 56, 101, 57, 54, 97, 54, 98, 54, 99, 54, 100, 54, 101, 54, 102, 102, 48, 102, 49, 102, 50, 102, 51, 102, 52, 102, 53, 102, 54, 102, 55, 102, 56, 102, 57, 55, 97, 55, 98, 55, 99, 55, 100, 55, 101, 55, 102]
def dig (c : UInt8) : Int := if 97 ≤ (c.toNat : Int) then (c.toNat : Int) - 97 + 10 else ((c.toNat : Int) - 48) % 256
/-- A number of digits. -/
def numL (l : List UInt8) : Int := l.foldl (fun n c => 16 * n + dig c) 0
theorem numL_snoc (l : List UInt8) (c : UInt8) : numL (l ++ [c]) = 16 * numL l + dig c := by simp [numL]
theorem dig_bd (c : UInt8) : 0 ≤ dig c ∧ dig c ≤ 265 := by
  have := c.toNat_lt
  unfold dig
  split <;> omega
theorem numL_bd4 (l : List UInt8) (h : l.length ≤ 4) : 0 ≤ numL l ∧ numL l ≤ 20000000 := by
  match l, h with
  | [], _ => simp [numL]
  | [a], _ => have := dig_bd a; simp [numL]; omega
  | [a, b], _ => have := dig_bd a; have := dig_bd b; simp [numL]; omega
  | [a, b, c], _ => have := dig_bd a; have := dig_bd b; have := dig_bd c; simp [numL]; omega
  | [a, b, c, d], _ => have := dig_bd a; have := dig_bd b; have := dig_bd c; have := dig_bd d; simp [numL]; omega
  | _ :: _ :: _ :: _ :: _ :: _, h => simp at h
theorem take_snoc (s : ByteArray) (k : Nat) (h : k < s.size) : s.data.toList.take (k + 1) = s.data.toList.take k ++ [s[k]] := by
  rw [List.take_succ_eq_append_getElem (by simpa using h)]; rfl
theorem dig_lo (c : UInt8) (h : ¬ 97 ≤ (c.toNat : Int)) : dig c = ((c.toNat : Int) - 48) % 256 := if_neg h
theorem dig_hi (c : UInt8) (h : 97 ≤ (c.toNat : Int)) : dig c = (c.toNat : Int) - 97 + 10 := if_pos h
set_option maxRecDepth 100000 in
set_option maxHeartbeats 400000 in
theorem num_any (s : ByteArray) (w : World) (hs : s.size ≤ 4) : Calls Try.prog 76 #[.string s] w fun e w' => e = .returned (.int .i64 (numL s.data.toList)) ∧ w = w' := by
  go_enter Try.func76, Try.ntmps76
  go_wp2
  go_loop [3, 4] (fun n i => ∃ k : Nat, k ≤ s.size ∧ i = .int .i64 k ∧ n = .int .i64 (numL (s.data.toList.take k))) (fun _ i => s.size - (intOf i).toNat)
  case atStart => exact ⟨0, Nat.zero_le _, rfl, rfl⟩
  case round =>
    obtain ⟨k, hk, rfl, rfl⟩ := hrel
    obtain ⟨hb0, hb1⟩ := numL_bd4 (s.data.toList.take k) (by rw [List.length_take]; omega)
    by_cases hlt : k < s.size
    · have HT := hid (take_snoc s k hlt)
      have hc := s[k].toNat_lt
      obtain ⟨N, hN⟩ : ∃ N, N = numL (s.data.toList.take k) := ⟨_, rfl⟩
      rw [← hN] at hb0 hb1 ⊢
      have HN := hid hN
      clear hN
      by_cases hh : 97 ≤ (s[k].toNat : Int)
      · go_wp2
        go_round
        case rel =>
          refine ⟨k + 1, by omega, by go_num, ?_⟩
          rw [HT.out, numL_snoc, dig_hi _ hh, ← HN.out]
        case measure => simp [intOf]; omega
      · go_wp2
        go_round
        case rel =>
          refine ⟨k + 1, by omega, by go_num, ?_⟩
          rw [HT.out, numL_snoc, dig_lo _ hh, ← HN.out]
        case measure => simp [intOf]; omega
    · go_wp2
      go_ret
      exact ⟨by rw [List.take_of_length_le (by simp; omega)]; rfl, rfl⟩
theorem slice_str (s : ByteArray) (x y : Int) (h0 : 0 ≤ x) (h1 : x ≤ y) (h2 : y ≤ s.size) (w : World) : (Instr.slice 9 (.string s) (some (.int .i64 x)) (some (.int .i64 y)) none).run Try.prog w = .ok (.string (s.extract x.toNat y.toNat)) w := by
  have h3 : 0 ≤ y := by omega
  obtain ⟨a, rfl⟩ : ∃ a : Nat, x = (a : Int) := ⟨x.toNat, by omega⟩
  obtain ⟨b, rfl⟩ : ∃ b : Nat, y = (b : Int) := ⟨y.toNat, by omega⟩
  have h5 : a ≤ b := by omega
  have h6 : b ≤ s.size := by omega
  simp [Instr.slice, run_underlying Try.underlying9, Instr.sliceBounds, Instr.sliceBound, asIntOf, h5, h6]
set_option maxRecDepth 100000 in
/-- A piece of a string, for the walk. -/
theorem wpList_slice_str (w : World) {ops : Array Oper} {rest : List Oper} {o : Oper} {a : Act} {Q : Exit → Act → World → Prop}
    (hg : o.guard = none) (x l h : Operand) (hop : o.op = Op.slice 9 x (some l) (some h) none) (s : ByteArray) (lo hi : Int) (hx : a.eval x = .string s) (hl : a.eval l = .int .i64 lo) (hh : a.eval h = .int .i64 hi)
    (h0 : 0 ≤ lo) (h1 : lo ≤ hi) (h2 : hi ≤ s.size) (hK : ∀ p, p = s.extract lo.toNat hi.toNat → wpList Try.prog ops Q rest (a.put o.dst (.string p)) w) :
    wpList Try.prog ops Q (o :: rest) a w := by
  refine wpList_plain hg fun K hK' => ?_
  have hrun : (Instr.sliceAt 9 (.string s) (some (.int .i64 lo)) (some (.int .i64 hi)) none).run Try.prog w = .ok (.string (s.extract lo.toNat hi.toNat)) w := by
    have := slice_str s lo hi h0 h1 h2 w
    simp [Instr.sliceAt, run_underlying Try.underlying9, this]
  unfold Oper.wp
  simp [execOp, hop, hx, hl, hh, hrun, Result.andThen]
  exact hK' _ _ (hK _ rfl)
/-- A piece of the digits. -/
def pieceB (k : Nat) : ByteArray := (⟨digL.toArray⟩ : ByteArray).extract (2 * k) (2 * k + 2)
theorem piece_all : ∀ k, k < 64 → (pieceB k).size = 2 ∧ numL (pieceB k).data.toList = sixZ k := by decide +kernel
theorem sixZ_bd : ∀ k, k < 64 → 0 ≤ sixZ k ∧ sixZ k ≤ 255 := by decide +kernel
theorem sixZ_mod : ∀ k, k < 64 → sixZ k % 64 = k := by decide +kernel
/-- The byte's number, by a search: its lower six bits. -/
theorem i64_and63 (n : Int) : bits .and .i64 n 63 = n % 64 := by
  have h63 : (BitVec.ofInt 64 63).toNat = 2 ^ 6 - 1 := by decide
  have key : (BitVec.ofInt 64 n &&& BitVec.ofInt 64 63).toNat = (n % ((2 ^ 64 : Nat) : Int)).toNat % 2 ^ 6 := by
    rw [BitVec.toNat_and, BitVec.toNat_ofInt, h63, Nat.and_two_pow_sub_one_eq_mod]
  show IntKind.i64.wrap ((BitVec.ofInt 64 n &&& BitVec.ofInt 64 63).toNat : Nat) = n % 64
  rw [key, IntKind.wrap_i64]
  omega
theorem six_get (k : Nat) (h : k < (⟨sixL.toArray⟩ : ByteArray).size) : ((⟨sixL.toArray⟩ : ByteArray)[k].toNat : Int) = sixZ k := by
  unfold sixZ
  rw [List.getD, List.getElem?_eq_getElem (by exact h)]
  rfl
set_option maxRecDepth 100000 in
theorem six_any (n : Int) (w : World) : Calls Try.prog 42 #[.int .i64 n] w fun e w' => e = .returned (.int .u8 (sixZ (n % 64).toNat)) ∧ w = w' := by
  have hb := i64_and63 n
  obtain ⟨k, hk⟩ : ∃ k : Nat, n % 64 = (k : Int) := ⟨(n % 64).toNat, by omega⟩
  have hl : k < 64 := by omega
  rw [hk] at hb ⊢
  clear hk
  have hl' : (k : Int) < 64 := by omega
  have HG := hid (fun h => six_get k h)
  go_enter Try.func42, Try.ntmps42
  go_wp2
  go_ret
  exact ⟨ret_int (HG.out hl), rfl⟩
set_option maxRecDepth 100000 in
theorem unsix_any (n : Int) (h1 : 0 ≤ n) (h2 : n ≤ 255) (w : World) : Calls Try.prog 44 #[.int .u8 n] w fun e w' => e = .returned (.int .i64 (n % 64)) ∧ w = w' := by
  go_enter Try.func44, Try.ntmps44
  go_wp2
  go_ret
  exact ⟨rfl, rfl⟩
set_option maxRecDepth 100000 in
set_option maxHeartbeats 1000000 in
theorem rsix_any (n : Int) (hn : I64 n) (w : World) : Calls Try.prog 43 #[.int .i64 n] w fun e w' => e = .returned (.int .u8 (sixZ (n % 64).toNat)) ∧ w = w' := by
  have HM := hid (mod_any n 64 hn (by decide) (by decide))
  obtain ⟨k, hk⟩ : ∃ k : Nat, n % 64 = (k : Int) := ⟨(n % 64).toNat, by omega⟩
  have hl : k < 64 := by omega
  rw [hk] at HM ⊢
  clear hk hn
  obtain ⟨hp1, hp2⟩ := piece_all k hl
  have HP1 := hid hp1
  have HP2 := hid hp2
  obtain ⟨hz1, hz2⟩ := sixZ_bd k hl
  clear hp1 hp2
  rw [show ((k : Int)).toNat = k from rfl]
  go_enter Try.func43, Try.ntmps43
  go_wp2_with fail
  with_reducible refine (HM.out _).mono ?_
  rintro e w1 ⟨rfl, rfl⟩
  go_wp2_with (refine wpList_slice_str _ rfl _ _ _ rfl _ _ _ rfl rfl rfl (by omega) (by omega) (by show _ ≤ ((128 : Nat) : Int); omega) ?_; intro p hp; have HP := hid hp; clear hp)
  have HN := hid (num_any p w (by rw [HP.out]; exact Nat.le_trans (Nat.le_of_eq HP1.out) (by decide)))
  have HE : Hid (numL p.data.toList = sixZ k) := by show _ = _; rw [HP.out]; exact HP2.out
  rw [HE.out] at HN
  obtain ⟨Z, hZ⟩ : ∃ Z, Z = sixZ k := ⟨_, rfl⟩
  rw [← hZ] at HN hz1 hz2
  have HZ := hid hZ
  clear hZ
  with_reducible refine HN.out.mono ?_
  rintro e w2 ⟨rfl, rfl⟩
  go_wp2
  go_ret
  exact ⟨ret_int HZ.out, rfl⟩
theorem six_hit {k b : Nat} (hk : k < 64) (h : sixZ k = (b : Int)) : (k : Int) = (b : Int) % 64 := by rw [← h, sixZ_mod k hk]
set_option maxRecDepth 100000 in
set_option maxHeartbeats 1000000 in
theorem runsix_any (b : Nat) (hb : b < 256) (w : World) : Calls Try.prog 45 #[.int .u8 b] w fun e w' => e = .returned (.int .i64 ((b : Int) % 64)) ∧ w = w' := by
  go_enter Try.func45, Try.ntmps45
  go_wp2
  go_loop [3] (fun i => ∃ k : Nat, k ≤ 64 ∧ i = .int .i64 k) (fun i => 64 - (intOf i).toNat)
  case atStart => exact ⟨0, Nat.zero_le _, rfl⟩
  case round =>
    obtain ⟨k, hk, rfl⟩ := hrel
    by_cases hlt : k < 64
    · have HS := hid (rsix_any k (i64_small (by omega) (by omega)))
      rw [show ((k : Int) % 64).toNat = k by omega] at HS
      obtain ⟨hz1, hz2⟩ := sixZ_bd k hlt
      have HH := hid (@six_hit k b hlt)
      generalize sixZ k = Z at HS hz1 hz2 HH
      by_cases hh : Z = (b : Int)
      · have HB := hid (HH.out hh)
        subst hh
        clear HH
        go_wp2_with fail
        with_reducible refine (HS.out _).mono ?_
        rintro e w2 ⟨rfl, rfl⟩
        go_wp2
        go_ret
        exact ⟨ret_int HB.out, rfl⟩
      · have hh2 : (Z == (b : Int)) = false := by simpa using hh
        clear HH
        go_wp2_with fail
        with_reducible refine (HS.out _).mono ?_
        rintro e w2 ⟨rfl, rfl⟩
        go_wp2
        go_round
        case rel => exact ⟨k + 1, by omega, by go_num⟩
        case measure => simp [intOf]; omega
    · go_wp2
      go_ret
      exact ⟨ret_int (by omega), rfl⟩
end Go.Proofs.Ytpnfdmfmdacjmaa
