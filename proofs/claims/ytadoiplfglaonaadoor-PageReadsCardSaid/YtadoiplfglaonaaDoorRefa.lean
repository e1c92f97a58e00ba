/-
  The reference's own calls: a number of digits, a code's sign on a page.
-/
import Derived.Test.YtadoiplfglaonaaDoorProg
import Derived.Test.YtadoiplfglaonaaDoorRefd
import Derived.WalkKit
import Derived.Lib.Hide
namespace Go.Proofs.YtadoiplfglaonaaDoor
open Go.RowKit Go.Lib

theorem numL_bd4 (l : List UInt8) (h : l.length ≤ 4) : 0 ≤ numL l ∧ numL l ≤ 20000000 := by
  match l, h with
  | [], _ => simp [numL]
  | [a], _ => have := dig_bd a; simp [numL]; omega
  | [a, b], _ => have := dig_bd a; have := dig_bd b; simp [numL]; omega
  | [a, b, c], _ => have := dig_bd a; have := dig_bd b; have := dig_bd c; simp [numL]; omega
  | [a, b, c, d], _ => have := dig_bd a; have := dig_bd b; have := dig_bd c; have := dig_bd d; simp [numL]; omega
  | _ :: _ :: _ :: _ :: _ :: _, h => simp at h
theorem take_snoc (s : ByteArray) (k : Nat) (h : k < s.size) : s.data.toList.take (k + 1) = s.data.toList.take k ++ [s[k]] := by
  rw [List.take_succ_eq_append_getElem (by simpa using h)]; rfl
theorem dig_lo (c : UInt8) (h : ¬ 97 ≤ (c.toNat : Int)) : dig c = ((c.toNat : Int) - 48) % 256 := if_neg h
theorem dig_hi (c : UInt8) (h : 97 ≤ (c.toNat : Int)) : dig c = (c.toNat : Int) - 97 + 10 := if_pos h

set_option maxRecDepth 100000 in
set_option maxHeartbeats 400000 in
theorem num_any (s : ByteArray) (w : World) (hs : s.size ≤ 4) : Calls Tryd.prog 58 #[.string s] w fun e w' => e = .returned (.int .i64 (numL s.data.toList)) ∧ w = w' := by
  go_enter Tryd.func58, Tryd.ntmps58
  go_wp2
  go_loop [3, 4] (fun n i => ∃ k : Nat, k ≤ s.size ∧ i = .int .i64 k ∧ n = .int .i64 (numL (s.data.toList.take k))) (fun _ i => s.size - (intOf i).toNat)
  case atStart => exact ⟨0, Nat.zero_le _, rfl, rfl⟩
  case round =>
    obtain ⟨k, hk, rfl, rfl⟩ := hrel
    obtain ⟨hb0, hb1⟩ := numL_bd4 (s.data.toList.take k) (by rw [List.length_take]; omega)
    by_cases hlt : k < s.size
    · have HT := hid (take_snoc s k hlt)
      have hc := s[k].toNat_lt
      obtain ⟨N, hN⟩ : ∃ N, N = numL (s.data.toList.take k) := ⟨_, rfl⟩
      rw [← hN] at hb0 hb1 ⊢
      have HN := hid hN
      clear hN
      by_cases hh : 97 ≤ (s[k].toNat : Int)
      · go_wp2
        go_round
        case rel =>
          refine ⟨k + 1, by omega, by go_num, ?_⟩
          rw [HT.out, numL_snoc, dig_hi _ hh, ← HN.out]
        case measure => simp [intOf]; omega
      · go_wp2
        go_round
        case rel =>
          refine ⟨k + 1, by omega, by go_num, ?_⟩
          rw [HT.out, numL_snoc, dig_lo _ hh, ← HN.out]
        case measure => simp [intOf]; omega
    · go_wp2
      go_ret
      exact ⟨by rw [List.take_of_length_le (by simp; omega)]; rfl, rfl⟩

/-- The strings of a page. -/
def othersB (n : Int) : ByteArray := ⟨(othersL n).toArray⟩
set_option maxRecDepth 100000 in
set_option maxHeartbeats 1000000 in
theorem others_37 (w : World) : Calls Tryd.prog 57 #[.int .i64 37] w fun e w' => e = .returned (.tuple #[.string (othersB 37), .bool true]) ∧ w = w' := by
  go_enter Tryd.func57, Tryd.ntmps57
  go_wp2
  go_ret2
  exact ⟨rfl, rfl⟩
set_option maxRecDepth 100000 in
set_option maxHeartbeats 1000000 in
theorem others_273 (w : World) : Calls Tryd.prog 57 #[.int .i64 273] w fun e w' => e = .returned (.tuple #[.string (othersB 273), .bool true]) ∧ w = w' := by
  go_enter Tryd.func57, Tryd.ntmps57
  go_wp2
  go_ret2
  exact ⟨rfl, rfl⟩
set_option maxRecDepth 100000 in
set_option maxHeartbeats 1000000 in
theorem others_297 (w : World) : Calls Tryd.prog 57 #[.int .i64 297] w fun e w' => e = .returned (.tuple #[.string (othersB 297), .bool true]) ∧ w = w' := by
  go_enter Tryd.func57, Tryd.ntmps57
  go_wp2
  go_ret2
  exact ⟨rfl, rfl⟩
set_option maxRecDepth 100000 in
set_option maxHeartbeats 1000000 in
theorem others_500 (w : World) : Calls Tryd.prog 57 #[.int .i64 500] w fun e w' => e = .returned (.tuple #[.string (othersB 500), .bool true]) ∧ w = w' := by
  go_enter Tryd.func57, Tryd.ntmps57
  go_wp2
  go_ret2
  exact ⟨rfl, rfl⟩
set_option maxRecDepth 100000 in
set_option maxHeartbeats 1000000 in
theorem others_1047 (w : World) : Calls Tryd.prog 57 #[.int .i64 1047] w fun e w' => e = .returned (.tuple #[.string (othersB 1047), .bool true]) ∧ w = w' := by
  go_enter Tryd.func57, Tryd.ntmps57
  go_wp2
  go_ret2
  exact ⟨rfl, rfl⟩
set_option maxRecDepth 100000 in
set_option maxHeartbeats 1000000 in
theorem others_1140 (w : World) : Calls Tryd.prog 57 #[.int .i64 1140] w fun e w' => e = .returned (.tuple #[.string (othersB 1140), .bool true]) ∧ w = w' := by
  go_enter Tryd.func57, Tryd.ntmps57
  go_wp2
  go_ret2
  exact ⟨rfl, rfl⟩
theorem others_any (n : Int) (hn : n ∈ pagesL) (w : World) : Calls Tryd.prog 57 #[.int .i64 n] w fun e w' => e = .returned (.tuple #[.string (othersB n), .bool true]) ∧ w = w' := by
  simp only [pagesL, List.mem_cons, List.not_mem_nil, or_false] at hn
  rcases hn with rfl | rfl | rfl | rfl | rfl | rfl
  · exact others_37 w
  · exact others_273 w
  · exact others_297 w
  · exact others_500 w
  · exact others_1047 w
  · exact others_1140 w
end Go.Proofs.YtadoiplfglaonaaDoor
