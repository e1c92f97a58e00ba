/-
  The document's names, bytes and numbers of commands.
-/
import Derived.Test.YtdampfngdnicoaaDoorMu
namespace Go.Proofs.YtdampfngdnicoaaDoor
open Go.RowKit Go.Lib Go.Deep

set_option maxRecDepth 100000 in
theorem sl_at (w : World) : ∀ k : Nat, k < 18 → (Instr.slice 9 (.string ⟨#[48, 51, 48, 49, 48, 53, 48, 100, 48, 102, 48, 50, 48, 54, 48, 101, 49, 49, 48, 51, 102, 49, 102, 53, 55, 101, 54, 102, 102, 50, 102, 54, 54, 101, 102, 51]⟩) (some (.int .i64 (2 * (k : Int)))) (some (.int .i64 (2 * (k : Int) + 2))) none).run Tryd.prog w = .ok (.string (twoL.getD k ByteArray.empty)) w := by
  intro k hk
  rcases eighteen hk with rfl | rfl | rfl | rfl | rfl | rfl | rfl | rfl | rfl | rfl | rfl | rfl | rfl | rfl | rfl | rfl | rfl | rfl
  all_goals kernel_rfl
theorem cmd_hit : ∀ b : Nat, b < 256 → ∀ i : Nat, i < 18 → numL.getD i 0 = b → cmdF b = (((i % 9 : Nat) : Int), true) := by decide +kernel
theorem cmd_mis : ∀ b : Nat, b < 256 → (∀ i : Nat, i < 18 → numL.getD i 0 ≠ b) → cmdF b = (0, false) := by decide +kernel
theorem mod9 : ∀ q : Nat, q < 18 → ((q : Int) % 9) = ((q % 9 : Nat) : Int) := fun q _ => by omega
set_option maxRecDepth 100000 in
set_option maxHeartbeats 4000000 in
theorem rcommand_any (b : Nat) (hb : b < 256) (W : World) : Calls Tryd.prog 17 #[.int .u8 b] W fun e w' => e = .returned (.int .i64 (if (cmdF b).2 then (cmdF b).1 else -1)) ∧ w' = W := by
  have HNUM := hid (fun q hq => num_at q hq _ rfl W)
  have HSL := hid (sl_at W)
  have HHIT := hid (fun i hi he => (show (if (cmdF b).2 then (cmdF b).1 else -1) = ((i % 9 : Nat) : Int) by rw [cmd_hit b hb i hi he]; simp))
  have HMIS := hid (fun h => (show (if (cmdF b).2 then (cmdF b).1 else -1) = (-1 : Int) by rw [cmd_mis b hb h]; simp))
  generalize (if (cmdF b).2 then (cmdF b).1 else -1) = R at HHIT HMIS ⊢
  have HNB := hid (fun q (hq : q < 18) => (show numL.getD q 0 < 256 from by
    have : ∀ q, q < 18 → numL.getD q 0 < 256 := by decide
    exact this q hq))
  go_enter Tryd.func17, Tryd.ntmps17
  go_wp2_with fail
  go_loopw [3] (fun i wr => wr = W ∧ ∃ q : Nat, q ≤ 18 ∧ i = .int .i64 q ∧ Hid (∀ j, j < q → numL.getD j 0 ≠ b)) (fun i _ => 18 - (RowKit.intOf i).toNat)
  case atStart => exact ⟨by rfl, 0, by omega, rfl, fun _ h => absurd h (Nat.not_lt_zero _)⟩
  case round =>
    obtain ⟨rfl, q, hq, rfl, HNO⟩ := hrel
    by_cases hlt : q < 18
    · have hqi : (q : Int) < 18 := by omega
      have hs := HSL.out q hlt
      have HN1 := hid (HNUM.out q hlt)
      have HH1 := hid (HHIT.out q hlt)
      have HNQ := hid (fun h => (show ∀ j, j < q + 1 → numL.getD j 0 ≠ b from fun j hj => by
        by_cases e : j < q
        · exact HNO.out j e
        · obtain rfl : j = q := by omega
          exact h))
      generalize twoL.getD q ByteArray.empty = X at hs HN1
      generalize numL.getD q 0 = v at HN1 HH1 HNQ
      go_wp2_with fail
      with_reducible refine HN1.out.mono ?_
      rintro e w1 ⟨rfl, rfl⟩
      by_cases hvb : v = b
      · subst hvb
        have HE := hid (HH1.out rfl)
        go_wp2
        refine bodyPost_ret (v := .int .i64 ((q % 9 : Nat) : Int)) ?_ rfl ⟨by rw [HE.out], rfl⟩
        simp [results, Tryd.results17, go_sem]
      · have hvi : ((v : Int) == (b : Int)) = false := by simp; omega
        go_wp2
        go_roundw
        case rel => exact ⟨by simp, q + 1, by omega, by go_num, HNQ.out hvb⟩
        case measure => simp [RowKit.intOf]; omega
    · obtain rfl : q = 18 := by omega
      have HE := hid (HMIS.out HNO.out)
      go_wp2
      refine bodyPost_ret (v := .int .i64 (-1)) ?_ rfl ⟨by rw [HE.out], rfl⟩
      simp [results, Tryd.results17, go_sem]
set_option maxRecDepth 100000 in
set_option maxHeartbeats 4000000 in
theorem rbyte_any (n : Int) (hn : I64 n) (W : World) : Calls Tryd.prog 20 #[.int .i64 n] W fun e w' => e = .returned (.int .u8 (ncF n).2.2) ∧ w' = W := by
  have hn1 := hn.1
  have hn2 := hn.2
  by_cases h0 : n < 0
  · rw [ncF_no (.inl h0)]
    go_enter Tryd.func20, Tryd.ntmps20
    go_wp2
    go_ret
    exact ⟨rfl, rfl⟩
  by_cases h9 : 9 ≤ n
  · rw [ncF_no (.inr h9)]
    have h8 : 8 < n := by omega
    go_enter Tryd.func20, Tryd.ntmps20
    go_wp2
    go_ret
    exact ⟨rfl, rfl⟩
  obtain ⟨k, rfl⟩ : ∃ k : Nat, n = k := ⟨n.toNat, by omega⟩
  have hk : k < 9 := by omega
  rw [ncF_at hk]
  clear hn hn1 hn2 h0 h9
  rcases nine hk with rfl | rfl | rfl | rfl | rfl | rfl | rfl | rfl | rfl
  · have HN := hid (num_3 W)
    have hs : (Instr.slice 9 (.string ⟨#[48, 51, 48, 49, 48, 53, 48, 100, 48, 102, 48, 50, 48, 54, 48, 101, 49, 49, 48, 51, 102, 49, 102, 53, 55, 101, 54, 102, 102, 50, 102, 54, 54, 101, 102, 51]⟩) (some (.int .i64 18)) (some (.int .i64 20)) none).run Tryd.prog W = .ok (.string ⟨#[48, 51]⟩) W := by kernel_rfl
    go_enter Tryd.func20, Tryd.ntmps20
    go_wp2_with fail
    with_reducible refine HN.out.mono ?_
    rintro e w1 ⟨rfl, rfl⟩
    go_wp2
    go_ret
    exact ⟨rfl, rfl⟩
  · have HN := hid (num_241 W)
    have hs : (Instr.slice 9 (.string ⟨#[48, 51, 48, 49, 48, 53, 48, 100, 48, 102, 48, 50, 48, 54, 48, 101, 49, 49, 48, 51, 102, 49, 102, 53, 55, 101, 54, 102, 102, 50, 102, 54, 54, 101, 102, 51]⟩) (some (.int .i64 20)) (some (.int .i64 22)) none).run Tryd.prog W = .ok (.string ⟨#[102, 49]⟩) W := by kernel_rfl
    go_enter Tryd.func20, Tryd.ntmps20
    go_wp2_with fail
    with_reducible refine HN.out.mono ?_
    rintro e w1 ⟨rfl, rfl⟩
    go_wp2
    go_ret
    exact ⟨rfl, rfl⟩
  · have HN := hid (num_245 W)
    have hs : (Instr.slice 9 (.string ⟨#[48, 51, 48, 49, 48, 53, 48, 100, 48, 102, 48, 50, 48, 54, 48, 101, 49, 49, 48, 51, 102, 49, 102, 53, 55, 101, 54, 102, 102, 50, 102, 54, 54, 101, 102, 51]⟩) (some (.int .i64 22)) (some (.int .i64 24)) none).run Tryd.prog W = .ok (.string ⟨#[102, 53]⟩) W := by kernel_rfl
    go_enter Tryd.func20, Tryd.ntmps20
    go_wp2_with fail
    with_reducible refine HN.out.mono ?_
    rintro e w1 ⟨rfl, rfl⟩
    go_wp2
    go_ret
    exact ⟨rfl, rfl⟩
  · have HN := hid (num_126 W)
    have hs : (Instr.slice 9 (.string ⟨#[48, 51, 48, 49, 48, 53, 48, 100, 48, 102, 48, 50, 48, 54, 48, 101, 49, 49, 48, 51, 102, 49, 102, 53, 55, 101, 54, 102, 102, 50, 102, 54, 54, 101, 102, 51]⟩) (some (.int .i64 24)) (some (.int .i64 26)) none).run Tryd.prog W = .ok (.string ⟨#[55, 101]⟩) W := by kernel_rfl
    go_enter Tryd.func20, Tryd.ntmps20
    go_wp2_with fail
    with_reducible refine HN.out.mono ?_
    rintro e w1 ⟨rfl, rfl⟩
    go_wp2
    go_ret
    exact ⟨rfl, rfl⟩
  · have HN := hid (num_111 W)
    have hs : (Instr.slice 9 (.string ⟨#[48, 51, 48, 49, 48, 53, 48, 100, 48, 102, 48, 50, 48, 54, 48, 101, 49, 49, 48, 51, 102, 49, 102, 53, 55, 101, 54, 102, 102, 50, 102, 54, 54, 101, 102, 51]⟩) (some (.int .i64 26)) (some (.int .i64 28)) none).run Tryd.prog W = .ok (.string ⟨#[54, 102]⟩) W := by kernel_rfl
    go_enter Tryd.func20, Tryd.ntmps20
    go_wp2_with fail
    with_reducible refine HN.out.mono ?_
    rintro e w1 ⟨rfl, rfl⟩
    go_wp2
    go_ret
    exact ⟨rfl, rfl⟩
  · have HN := hid (num_242 W)
    have hs : (Instr.slice 9 (.string ⟨#[48, 51, 48, 49, 48, 53, 48, 100, 48, 102, 48, 50, 48, 54, 48, 101, 49, 49, 48, 51, 102, 49, 102, 53, 55, 101, 54, 102, 102, 50, 102, 54, 54, 101, 102, 51]⟩) (some (.int .i64 28)) (some (.int .i64 30)) none).run Tryd.prog W = .ok (.string ⟨#[102, 50]⟩) W := by kernel_rfl
    go_enter Tryd.func20, Tryd.ntmps20
    go_wp2_with fail
    with_reducible refine HN.out.mono ?_
    rintro e w1 ⟨rfl, rfl⟩
    go_wp2
    go_ret
    exact ⟨rfl, rfl⟩
  · have HN := hid (num_246 W)
    have hs : (Instr.slice 9 (.string ⟨#[48, 51, 48, 49, 48, 53, 48, 100, 48, 102, 48, 50, 48, 54, 48, 101, 49, 49, 48, 51, 102, 49, 102, 53, 55, 101, 54, 102, 102, 50, 102, 54, 54, 101, 102, 51]⟩) (some (.int .i64 30)) (some (.int .i64 32)) none).run Tryd.prog W = .ok (.string ⟨#[102, 54]⟩) W := by kernel_rfl
    go_enter Tryd.func20, Tryd.ntmps20
    go_wp2_with fail
    with_reducible refine HN.out.mono ?_
    rintro e w1 ⟨rfl, rfl⟩
    go_wp2
    go_ret
    exact ⟨rfl, rfl⟩
  · have HN := hid (num_110 W)
    have hs : (Instr.slice 9 (.string ⟨#[48, 51, 48, 49, 48, 53, 48, 100, 48, 102, 48, 50, 48, 54, 48, 101, 49, 49, 48, 51, 102, 49, 102, 53, 55, 101, 54, 102, 102, 50, 102, 54, 54, 101, 102, 51]⟩) (some (.int .i64 32)) (some (.int .i64 34)) none).run Tryd.prog W = .ok (.string ⟨#[54, 101]⟩) W := by kernel_rfl
    go_enter Tryd.func20, Tryd.ntmps20
    go_wp2_with fail
    with_reducible refine HN.out.mono ?_
    rintro e w1 ⟨rfl, rfl⟩
    go_wp2
    go_ret
    exact ⟨rfl, rfl⟩
  · have HN := hid (num_243 W)
    have hs : (Instr.slice 9 (.string ⟨#[48, 51, 48, 49, 48, 53, 48, 100, 48, 102, 48, 50, 48, 54, 48, 101, 49, 49, 48, 51, 102, 49, 102, 53, 55, 101, 54, 102, 102, 50, 102, 54, 54, 101, 102, 51]⟩) (some (.int .i64 34)) (some (.int .i64 36)) none).run Tryd.prog W = .ok (.string ⟨#[102, 51]⟩) W := by kernel_rfl
    go_enter Tryd.func20, Tryd.ntmps20
    go_wp2_with fail
    with_reducible refine HN.out.mono ?_
    rintro e w1 ⟨rfl, rfl⟩
    go_wp2
    go_ret
    exact ⟨rfl, rfl⟩
set_option maxRecDepth 100000 in
set_option maxHeartbeats 4000000 in
theorem rname_any (n : Int) (hn : I64 n) (W : World) : Calls Tryd.prog 22 #[.int .i64 n] W fun e w' => e = .returned (.string (ncF n).1) ∧ Below W.heap.size W w' := by
  have hn1 := hn.1
  have hn2 := hn.2
  by_cases h0 : n < 0
  · rw [ncF_no (.inl h0)]
    go_enter Tryd.func22, Tryd.ntmps22
    go_wp2
    go_ret
    exact ⟨rfl, Below.refl _ _⟩
  by_cases h9 : 9 ≤ n
  · rw [ncF_no (.inr h9)]
    have h8 : 8 < n := by omega
    go_enter Tryd.func22, Tryd.ntmps22
    go_wp2
    go_ret
    exact ⟨rfl, Below.refl _ _⟩
  obtain ⟨k, rfl⟩ : ∃ k : Nat, n = k := ⟨n.toNat, by omega⟩
  have hk : k < 9 := by omega
  rw [ncF_at hk]
  clear hn hn1 hn2 h0 h9
  rcases nine hk with rfl | rfl | rfl | rfl | rfl | rfl | rfl | rfl | rfl
  all_goals
    go_enter Tryd.func22, Tryd.ntmps22
    go_wp2
    go_ret
    exact ⟨rfl, bal (Below.refl _ _) _⟩
end Go.Proofs.YtdampfngdnicoaaDoor
