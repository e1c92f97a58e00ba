/-
  The commands' names and bytes, in the program and in the document.
-/
import Derived.Test.YtdampfngdnicoaaDoorMn
import Derived.Test.YtdampfngdnicoaaDoorMq
namespace Go.Proofs.YtdampfngdnicoaaDoor
open Go.RowKit Go.Lib Go.Deep

/-- The coding of a number. -/
def ncF (n : Int) : ByteArray × Int × Int := if 0 ≤ n ∧ n < 9 then codL.getD n.toNat (ByteArray.empty, 0, 0) else (ByteArray.empty, 0, 0)
def ncV (n : Int) : Value := .agg #[.string (ncF n).1, .int .u8 (ncF n).2.1, .int .u8 (ncF n).2.2]
theorem cod_cells {W : World} (h : Cods W) : ∀ j, j < 9 → W.cell? ⟨0, j * 3, none⟩ = some (.string (codL.getD j (ByteArray.empty, 0, 0)).1) ∧ W.cell? ⟨0, j * 3 + 1, none⟩ = some (.int .u8 (codL.getD j (ByteArray.empty, 0, 0)).2.1) ∧ W.cell? ⟨0, j * 3 + 2, none⟩ = some (.int .u8 (codL.getD j (ByteArray.empty, 0, 0)).2.2) := fun j hj => by
  obtain ⟨h0, h1, h2⟩ := codC_at j hj
  have k0 := h.1 _ _ h0
  have k1 := h.1 _ _ h1
  have k2 := h.1 _ _ h2
  rw [Nat.zero_add] at k0 k1 k2
  exact ⟨k0, k1, k2⟩
theorem ncF_at {k : Nat} (hk : k < 9) : ncF (k : Int) = codL.getD k (ByteArray.empty, 0, 0) := by
  unfold ncF
  rw [if_pos (by omega)]
  rfl
theorem ncF_no {n : Int} (h : n < 0 ∨ 9 ≤ n) : ncF n = (ByteArray.empty, 0, 0) := by
  unfold ncF
  rw [if_neg (by omega)]
theorem nine {k : Nat} (h : k < 9) : k = 0 ∨ k = 1 ∨ k = 2 ∨ k = 3 ∨ k = 4 ∨ k = 5 ∨ k = 6 ∨ k = 7 ∨ k = 8 := by omega
set_option maxRecDepth 100000 in
set_option maxHeartbeats 4000000 in
theorem coding_any (n : Int) (hn : I64 n) (W : World) (hC : Cods W) : Calls Tryd.prog 46 #[.int .i64 n] W fun e w' => e = .returned (ncV n) ∧ Below W.heap.size W w' := by
  have hn1 := hn.1
  have hn2 := hn.2
  have hlt := hC.2
  by_cases h0 : n < 0
  · unfold ncV
    rw [ncF_no (.inl h0)]
    go_enter Tryd.func46, Tryd.ntmps46
    go_wp2
    refine bodyPost_ret (v := .agg #[.string ByteArray.empty, .int .u8 0, .int .u8 0]) ?_ rfl ⟨rfl, ?_⟩
    · simp [results, Tryd.results46, go_sem]
      rfl
    · exact bal (Below.refl _ _) _
  by_cases h9 : 9 ≤ n
  · unfold ncV
    rw [ncF_no (.inr h9)]
    go_enter Tryd.func46, Tryd.ntmps46
    go_wp2
    refine bodyPost_ret (v := .agg #[.string ByteArray.empty, .int .u8 0, .int .u8 0]) ?_ rfl ⟨rfl, ?_⟩
    · simp [results, Tryd.results46, go_sem]
      rfl
    · exact bal (Below.refl _ _) _
  obtain ⟨k, rfl⟩ : ∃ k : Nat, n = k := ⟨n.toNat, by omega⟩
  have hk : k < 9 := by omega
  obtain ⟨z0, z1, z2⟩ := cod_cells hC k hk
  unfold ncV
  rw [ncF_at hk]
  generalize codL.getD k (ByteArray.empty, 0, 0) = cv at z0 z1 z2 ⊢
  obtain ⟨nm, f1, s1⟩ := cv
  dsimp only at z0 z1 z2 ⊢
  clear hC h0 h9 hn hn1 hn2
  rcases nine hk with rfl | rfl | rfl | rfl | rfl | rfl | rfl | rfl | rfl
  all_goals
    simp only [Nat.reduceMul, Nat.reduceAdd] at z0 z1 z2
    go_enter Tryd.func46, Tryd.ntmps46
    go_wp2
    refine bodyPost_ret (v := .agg #[.string nm, .int .u8 f1, .int .u8 s1]) ?_ rfl ⟨rfl, ?_⟩
    · simp [results, Tryd.results46, go_sem]
    · exact bal (Below.refl _ _) _
theorem fld_2 (w : World) (nm : ByteArray) (a b : Int) : (Instr.field 81 (.agg #[.string nm, .int .u8 a, .int .u8 b]) 2).run Tryd.prog w = .ok (.int .u8 b) w := by kernel_rfl
theorem fld_0 (w : World) (nm : ByteArray) (a b : Int) : (Instr.field 81 (.agg #[.string nm, .int .u8 a, .int .u8 b]) 0).run Tryd.prog w = .ok (.string nm) w := by kernel_rfl
def numL : List Nat := [3, 1, 5, 13, 15, 2, 6, 14, 17, 3, 241, 245, 126, 111, 242, 246, 110, 243]
set_option maxRecDepth 100000 in
set_option maxHeartbeats 4000000 in
theorem byte_of (n : Int) (hn : I64 n) (W : World) (hC : Cods W) : Calls Tryd.prog 19 #[.int .i64 n] W fun e w' => e = .returned (.int .u8 (ncF n).2.2) ∧ Below W.heap.size W w' := by
  have HCO := hid (coding_any n hn W hC)
  unfold ncV at HCO
  generalize ncF n = cv at HCO ⊢
  obtain ⟨nm, f1, s1⟩ := cv
  dsimp only at HCO ⊢
  go_enter Tryd.func19, Tryd.ntmps19
  go_wp2_with fail
  with_reducible refine HCO.out.mono ?_
  rintro e w1 ⟨rfl, hb1⟩
  have hq := fld_2 w1 nm f1 s1
  go_wp2
  go_ret
  exact ⟨rfl, hb1⟩
set_option maxRecDepth 100000 in
set_option maxHeartbeats 4000000 in
theorem name_of (n : Int) (hn : I64 n) (W : World) (hC : Cods W) : Calls Tryd.prog 21 #[.int .i64 n] W fun e w' => e = .returned (.string (ncF n).1) ∧ Below W.heap.size W w' := by
  have HCO := hid (coding_any n hn W hC)
  unfold ncV at HCO
  generalize ncF n = cv at HCO ⊢
  obtain ⟨nm, f1, s1⟩ := cv
  dsimp only at HCO ⊢
  go_enter Tryd.func21, Tryd.ntmps21
  go_wp2_with fail
  with_reducible refine HCO.out.mono ?_
  rintro e w1 ⟨rfl, hb1⟩
  have hq := fld_0 w1 nm f1 s1
  go_wp2
  go_ret
  exact ⟨rfl, hb1⟩
set_option maxRecDepth 100000 in
set_option maxHeartbeats 4000000 in
theorem num_3 (W : World) : Calls Tryd.prog 40 #[.string ⟨#[48, 51]⟩] W fun e w' => e = .returned (.int .i64 3) ∧ w' = W := by
  go_enter Tryd.func40, Tryd.ntmps40
  go_wp2_with fail
  go_loopw [4, 3] (fun i n wr => wr = W ∧ (i = .int .i64 0 ∧ n = .int .i64 0 ∨ i = .int .i64 1 ∧ n = .int .i64 0 ∨ i = .int .i64 2 ∧ n = .int .i64 3)) (fun i _ _ => 2 - (RowKit.intOf i).toNat)
  case atStart => exact ⟨rfl, .inl ⟨rfl, rfl⟩⟩
  case round =>
    obtain ⟨rfl, ⟨rfl, rfl⟩ | ⟨rfl, rfl⟩ | ⟨rfl, rfl⟩⟩ := hrel
    · go_wp2
      go_roundw
      case rel => exact ⟨by simp, .inr (.inl ⟨rfl, rfl⟩)⟩
      case measure => simp [RowKit.intOf]
    · go_wp2
      go_roundw
      case rel => exact ⟨by simp, .inr (.inr ⟨rfl, rfl⟩)⟩
      case measure => simp [RowKit.intOf]
    · go_wp2
      go_ret
      exact ⟨rfl, rfl⟩
set_option maxRecDepth 100000 in
set_option maxHeartbeats 4000000 in
theorem num_1 (W : World) : Calls Tryd.prog 40 #[.string ⟨#[48, 49]⟩] W fun e w' => e = .returned (.int .i64 1) ∧ w' = W := by
  go_enter Tryd.func40, Tryd.ntmps40
  go_wp2_with fail
  go_loopw [4, 3] (fun i n wr => wr = W ∧ (i = .int .i64 0 ∧ n = .int .i64 0 ∨ i = .int .i64 1 ∧ n = .int .i64 0 ∨ i = .int .i64 2 ∧ n = .int .i64 1)) (fun i _ _ => 2 - (RowKit.intOf i).toNat)
  case atStart => exact ⟨rfl, .inl ⟨rfl, rfl⟩⟩
  case round =>
    obtain ⟨rfl, ⟨rfl, rfl⟩ | ⟨rfl, rfl⟩ | ⟨rfl, rfl⟩⟩ := hrel
    · go_wp2
      go_roundw
      case rel => exact ⟨by simp, .inr (.inl ⟨rfl, rfl⟩)⟩
      case measure => simp [RowKit.intOf]
    · go_wp2
      go_roundw
      case rel => exact ⟨by simp, .inr (.inr ⟨rfl, rfl⟩)⟩
      case measure => simp [RowKit.intOf]
    · go_wp2
      go_ret
      exact ⟨rfl, rfl⟩
set_option maxRecDepth 100000 in
set_option maxHeartbeats 4000000 in
theorem num_5 (W : World) : Calls Tryd.prog 40 #[.string ⟨#[48, 53]⟩] W fun e w' => e = .returned (.int .i64 5) ∧ w' = W := by
  go_enter Tryd.func40, Tryd.ntmps40
  go_wp2_with fail
  go_loopw [4, 3] (fun i n wr => wr = W ∧ (i = .int .i64 0 ∧ n = .int .i64 0 ∨ i = .int .i64 1 ∧ n = .int .i64 0 ∨ i = .int .i64 2 ∧ n = .int .i64 5)) (fun i _ _ => 2 - (RowKit.intOf i).toNat)
  case atStart => exact ⟨rfl, .inl ⟨rfl, rfl⟩⟩
  case round =>
    obtain ⟨rfl, ⟨rfl, rfl⟩ | ⟨rfl, rfl⟩ | ⟨rfl, rfl⟩⟩ := hrel
    · go_wp2
      go_roundw
      case rel => exact ⟨by simp, .inr (.inl ⟨rfl, rfl⟩)⟩
      case measure => simp [RowKit.intOf]
    · go_wp2
      go_roundw
      case rel => exact ⟨by simp, .inr (.inr ⟨rfl, rfl⟩)⟩
      case measure => simp [RowKit.intOf]
    · go_wp2
      go_ret
      exact ⟨rfl, rfl⟩
set_option maxRecDepth 100000 in
set_option maxHeartbeats 4000000 in
theorem num_13 (W : World) : Calls Tryd.prog 40 #[.string ⟨#[48, 100]⟩] W fun e w' => e = .returned (.int .i64 13) ∧ w' = W := by
  go_enter Tryd.func40, Tryd.ntmps40
  go_wp2_with fail
  go_loopw [4, 3] (fun i n wr => wr = W ∧ (i = .int .i64 0 ∧ n = .int .i64 0 ∨ i = .int .i64 1 ∧ n = .int .i64 0 ∨ i = .int .i64 2 ∧ n = .int .i64 13)) (fun i _ _ => 2 - (RowKit.intOf i).toNat)
  case atStart => exact ⟨rfl, .inl ⟨rfl, rfl⟩⟩
  case round =>
    obtain ⟨rfl, ⟨rfl, rfl⟩ | ⟨rfl, rfl⟩ | ⟨rfl, rfl⟩⟩ := hrel
    · go_wp2
      go_roundw
      case rel => exact ⟨by simp, .inr (.inl ⟨rfl, rfl⟩)⟩
      case measure => simp [RowKit.intOf]
    · go_wp2
      go_roundw
      case rel => exact ⟨by simp, .inr (.inr ⟨rfl, rfl⟩)⟩
      case measure => simp [RowKit.intOf]
    · go_wp2
      go_ret
      exact ⟨rfl, rfl⟩
set_option maxRecDepth 100000 in
set_option maxHeartbeats 4000000 in
theorem num_15 (W : World) : Calls Tryd.prog 40 #[.string ⟨#[48, 102]⟩] W fun e w' => e = .returned (.int .i64 15) ∧ w' = W := by
  go_enter Tryd.func40, Tryd.ntmps40
  go_wp2_with fail
  go_loopw [4, 3] (fun i n wr => wr = W ∧ (i = .int .i64 0 ∧ n = .int .i64 0 ∨ i = .int .i64 1 ∧ n = .int .i64 0 ∨ i = .int .i64 2 ∧ n = .int .i64 15)) (fun i _ _ => 2 - (RowKit.intOf i).toNat)
  case atStart => exact ⟨rfl, .inl ⟨rfl, rfl⟩⟩
  case round =>
    obtain ⟨rfl, ⟨rfl, rfl⟩ | ⟨rfl, rfl⟩ | ⟨rfl, rfl⟩⟩ := hrel
    · go_wp2
      go_roundw
      case rel => exact ⟨by simp, .inr (.inl ⟨rfl, rfl⟩)⟩
      case measure => simp [RowKit.intOf]
    · go_wp2
      go_roundw
      case rel => exact ⟨by simp, .inr (.inr ⟨rfl, rfl⟩)⟩
      case measure => simp [RowKit.intOf]
    · go_wp2
      go_ret
      exact ⟨rfl, rfl⟩
set_option maxRecDepth 100000 in
set_option maxHeartbeats 4000000 in
theorem num_2 (W : World) : Calls Tryd.prog 40 #[.string ⟨#[48, 50]⟩] W fun e w' => e = .returned (.int .i64 2) ∧ w' = W := by
  go_enter Tryd.func40, Tryd.ntmps40
  go_wp2_with fail
  go_loopw [4, 3] (fun i n wr => wr = W ∧ (i = .int .i64 0 ∧ n = .int .i64 0 ∨ i = .int .i64 1 ∧ n = .int .i64 0 ∨ i = .int .i64 2 ∧ n = .int .i64 2)) (fun i _ _ => 2 - (RowKit.intOf i).toNat)
  case atStart => exact ⟨rfl, .inl ⟨rfl, rfl⟩⟩
  case round =>
    obtain ⟨rfl, ⟨rfl, rfl⟩ | ⟨rfl, rfl⟩ | ⟨rfl, rfl⟩⟩ := hrel
    · go_wp2
      go_roundw
      case rel => exact ⟨by simp, .inr (.inl ⟨rfl, rfl⟩)⟩
      case measure => simp [RowKit.intOf]
    · go_wp2
      go_roundw
      case rel => exact ⟨by simp, .inr (.inr ⟨rfl, rfl⟩)⟩
      case measure => simp [RowKit.intOf]
    · go_wp2
      go_ret
      exact ⟨rfl, rfl⟩
set_option maxRecDepth 100000 in
set_option maxHeartbeats 4000000 in
theorem num_6 (W : World) : Calls Tryd.prog 40 #[.string ⟨#[48, 54]⟩] W fun e w' => e = .returned (.int .i64 6) ∧ w' = W := by
  go_enter Tryd.func40, Tryd.ntmps40
  go_wp2_with fail
  go_loopw [4, 3] (fun i n wr => wr = W ∧ (i = .int .i64 0 ∧ n = .int .i64 0 ∨ i = .int .i64 1 ∧ n = .int .i64 0 ∨ i = .int .i64 2 ∧ n = .int .i64 6)) (fun i _ _ => 2 - (RowKit.intOf i).toNat)
  case atStart => exact ⟨rfl, .inl ⟨rfl, rfl⟩⟩
  case round =>
    obtain ⟨rfl, ⟨rfl, rfl⟩ | ⟨rfl, rfl⟩ | ⟨rfl, rfl⟩⟩ := hrel
    · go_wp2
      go_roundw
      case rel => exact ⟨by simp, .inr (.inl ⟨rfl, rfl⟩)⟩
      case measure => simp [RowKit.intOf]
    · go_wp2
      go_roundw
      case rel => exact ⟨by simp, .inr (.inr ⟨rfl, rfl⟩)⟩
      case measure => simp [RowKit.intOf]
    · go_wp2
      go_ret
      exact ⟨rfl, rfl⟩
set_option maxRecDepth 100000 in
set_option maxHeartbeats 4000000 in
theorem num_14 (W : World) : Calls Tryd.prog 40 #[.string ⟨#[48, 101]⟩] W fun e w' => e = .returned (.int .i64 14) ∧ w' = W := by
  go_enter Tryd.func40, Tryd.ntmps40
  go_wp2_with fail
  go_loopw [4, 3] (fun i n wr => wr = W ∧ (i = .int .i64 0 ∧ n = .int .i64 0 ∨ i = .int .i64 1 ∧ n = .int .i64 0 ∨ i = .int .i64 2 ∧ n = .int .i64 14)) (fun i _ _ => 2 - (RowKit.intOf i).toNat)
  case atStart => exact ⟨rfl, .inl ⟨rfl, rfl⟩⟩
  case round =>
    obtain ⟨rfl, ⟨rfl, rfl⟩ | ⟨rfl, rfl⟩ | ⟨rfl, rfl⟩⟩ := hrel
    · go_wp2
      go_roundw
      case rel => exact ⟨by simp, .inr (.inl ⟨rfl, rfl⟩)⟩
      case measure => simp [RowKit.intOf]
    · go_wp2
      go_roundw
      case rel => exact ⟨by simp, .inr (.inr ⟨rfl, rfl⟩)⟩
      case measure => simp [RowKit.intOf]
    · go_wp2
      go_ret
      exact ⟨rfl, rfl⟩
set_option maxRecDepth 100000 in
set_option maxHeartbeats 4000000 in
theorem num_17 (W : World) : Calls Tryd.prog 40 #[.string ⟨#[49, 49]⟩] W fun e w' => e = .returned (.int .i64 17) ∧ w' = W := by
  go_enter Tryd.func40, Tryd.ntmps40
  go_wp2_with fail
  go_loopw [4, 3] (fun i n wr => wr = W ∧ (i = .int .i64 0 ∧ n = .int .i64 0 ∨ i = .int .i64 1 ∧ n = .int .i64 1 ∨ i = .int .i64 2 ∧ n = .int .i64 17)) (fun i _ _ => 2 - (RowKit.intOf i).toNat)
  case atStart => exact ⟨rfl, .inl ⟨rfl, rfl⟩⟩
  case round =>
    obtain ⟨rfl, ⟨rfl, rfl⟩ | ⟨rfl, rfl⟩ | ⟨rfl, rfl⟩⟩ := hrel
    · go_wp2
      go_roundw
      case rel => exact ⟨by simp, .inr (.inl ⟨rfl, rfl⟩)⟩
      case measure => simp [RowKit.intOf]
    · go_wp2
      go_roundw
      case rel => exact ⟨by simp, .inr (.inr ⟨rfl, rfl⟩)⟩
      case measure => simp [RowKit.intOf]
    · go_wp2
      go_ret
      exact ⟨rfl, rfl⟩
set_option maxRecDepth 100000 in
set_option maxHeartbeats 4000000 in
theorem num_241 (W : World) : Calls Tryd.prog 40 #[.string ⟨#[102, 49]⟩] W fun e w' => e = .returned (.int .i64 241) ∧ w' = W := by
  go_enter Tryd.func40, Tryd.ntmps40
  go_wp2_with fail
  go_loopw [4, 3] (fun i n wr => wr = W ∧ (i = .int .i64 0 ∧ n = .int .i64 0 ∨ i = .int .i64 1 ∧ n = .int .i64 15 ∨ i = .int .i64 2 ∧ n = .int .i64 241)) (fun i _ _ => 2 - (RowKit.intOf i).toNat)
  case atStart => exact ⟨rfl, .inl ⟨rfl, rfl⟩⟩
  case round =>
    obtain ⟨rfl, ⟨rfl, rfl⟩ | ⟨rfl, rfl⟩ | ⟨rfl, rfl⟩⟩ := hrel
    · go_wp2
      go_roundw
      case rel => exact ⟨by simp, .inr (.inl ⟨rfl, rfl⟩)⟩
      case measure => simp [RowKit.intOf]
    · go_wp2
      go_roundw
      case rel => exact ⟨by simp, .inr (.inr ⟨rfl, rfl⟩)⟩
      case measure => simp [RowKit.intOf]
    · go_wp2
      go_ret
      exact ⟨rfl, rfl⟩
set_option maxRecDepth 100000 in
set_option maxHeartbeats 4000000 in
theorem num_245 (W : World) : Calls Tryd.prog 40 #[.string ⟨#[102, 53]⟩] W fun e w' => e = .returned (.int .i64 245) ∧ w' = W := by
  go_enter Tryd.func40, Tryd.ntmps40
  go_wp2_with fail
  go_loopw [4, 3] (fun i n wr => wr = W ∧ (i = .int .i64 0 ∧ n = .int .i64 0 ∨ i = .int .i64 1 ∧ n = .int .i64 15 ∨ i = .int .i64 2 ∧ n = .int .i64 245)) (fun i _ _ => 2 - (RowKit.intOf i).toNat)
  case atStart => exact ⟨rfl, .inl ⟨rfl, rfl⟩⟩
  case round =>
    obtain ⟨rfl, ⟨rfl, rfl⟩ | ⟨rfl, rfl⟩ | ⟨rfl, rfl⟩⟩ := hrel
    · go_wp2
      go_roundw
      case rel => exact ⟨by simp, .inr (.inl ⟨rfl, rfl⟩)⟩
      case measure => simp [RowKit.intOf]
    · go_wp2
      go_roundw
      case rel => exact ⟨by simp, .inr (.inr ⟨rfl, rfl⟩)⟩
      case measure => simp [RowKit.intOf]
    · go_wp2
      go_ret
      exact ⟨rfl, rfl⟩
set_option maxRecDepth 100000 in
set_option maxHeartbeats 4000000 in
theorem num_126 (W : World) : Calls Tryd.prog 40 #[.string ⟨#[55, 101]⟩] W fun e w' => e = .returned (.int .i64 126) ∧ w' = W := by
  go_enter Tryd.func40, Tryd.ntmps40
  go_wp2_with fail
  go_loopw [4, 3] (fun i n wr => wr = W ∧ (i = .int .i64 0 ∧ n = .int .i64 0 ∨ i = .int .i64 1 ∧ n = .int .i64 7 ∨ i = .int .i64 2 ∧ n = .int .i64 126)) (fun i _ _ => 2 - (RowKit.intOf i).toNat)
  case atStart => exact ⟨rfl, .inl ⟨rfl, rfl⟩⟩
  case round =>
    obtain ⟨rfl, ⟨rfl, rfl⟩ | ⟨rfl, rfl⟩ | ⟨rfl, rfl⟩⟩ := hrel
    · go_wp2
      go_roundw
      case rel => exact ⟨by simp, .inr (.inl ⟨rfl, rfl⟩)⟩
      case measure => simp [RowKit.intOf]
    · go_wp2
      go_roundw
      case rel => exact ⟨by simp, .inr (.inr ⟨rfl, rfl⟩)⟩
      case measure => simp [RowKit.intOf]
    · go_wp2
      go_ret
      exact ⟨rfl, rfl⟩
set_option maxRecDepth 100000 in
set_option maxHeartbeats 4000000 in
theorem num_111 (W : World) : Calls Tryd.prog 40 #[.string ⟨#[54, 102]⟩] W fun e w' => e = .returned (.int .i64 111) ∧ w' = W := by
  go_enter Tryd.func40, Tryd.ntmps40
  go_wp2_with fail
  go_loopw [4, 3] (fun i n wr => wr = W ∧ (i = .int .i64 0 ∧ n = .int .i64 0 ∨ i = .int .i64 1 ∧ n = .int .i64 6 ∨ i = .int .i64 2 ∧ n = .int .i64 111)) (fun i _ _ => 2 - (RowKit.intOf i).toNat)
  case atStart => exact ⟨rfl, .inl ⟨rfl, rfl⟩⟩
  case round =>
    obtain ⟨rfl, ⟨rfl, rfl⟩ | ⟨rfl, rfl⟩ | ⟨rfl, rfl⟩⟩ := hrel
    · go_wp2
      go_roundw
      case rel => exact ⟨by simp, .inr (.inl ⟨rfl, rfl⟩)⟩
      case measure => simp [RowKit.intOf]
    · go_wp2
      go_roundw
      case rel => exact ⟨by simp, .inr (.inr ⟨rfl, rfl⟩)⟩
      case measure => simp [RowKit.intOf]
    · go_wp2
      go_ret
      exact ⟨rfl, rfl⟩
set_option maxRecDepth 100000 in
set_option maxHeartbeats 4000000 in
theorem num_242 (W : World) : Calls Tryd.prog 40 #[.string ⟨#[102, 50]⟩] W fun e w' => e = .returned (.int .i64 242) ∧ w' = W := by
  go_enter Tryd.func40, Tryd.ntmps40
  go_wp2_with fail
  go_loopw [4, 3] (fun i n wr => wr = W ∧ (i = .int .i64 0 ∧ n = .int .i64 0 ∨ i = .int .i64 1 ∧ n = .int .i64 15 ∨ i = .int .i64 2 ∧ n = .int .i64 242)) (fun i _ _ => 2 - (RowKit.intOf i).toNat)
  case atStart => exact ⟨rfl, .inl ⟨rfl, rfl⟩⟩
  case round =>
    obtain ⟨rfl, ⟨rfl, rfl⟩ | ⟨rfl, rfl⟩ | ⟨rfl, rfl⟩⟩ := hrel
    · go_wp2
      go_roundw
      case rel => exact ⟨by simp, .inr (.inl ⟨rfl, rfl⟩)⟩
      case measure => simp [RowKit.intOf]
    · go_wp2
      go_roundw
      case rel => exact ⟨by simp, .inr (.inr ⟨rfl, rfl⟩)⟩
      case measure => simp [RowKit.intOf]
    · go_wp2
      go_ret
      exact ⟨rfl, rfl⟩
set_option maxRecDepth 100000 in
set_option maxHeartbeats 4000000 in
theorem num_246 (W : World) : Calls Tryd.prog 40 #[.string ⟨#[102, 54]⟩] W fun e w' => e = .returned (.int .i64 246) ∧ w' = W := by
  go_enter Tryd.func40, Tryd.ntmps40
  go_wp2_with fail
  go_loopw [4, 3] (fun i n wr => wr = W ∧ (i = .int .i64 0 ∧ n = .int .i64 0 ∨ i = .int .i64 1 ∧ n = .int .i64 15 ∨ i = .int .i64 2 ∧ n = .int .i64 246)) (fun i _ _ => 2 - (RowKit.intOf i).toNat)
  case atStart => exact ⟨rfl, .inl ⟨rfl, rfl⟩⟩
  case round =>
    obtain ⟨rfl, ⟨rfl, rfl⟩ | ⟨rfl, rfl⟩ | ⟨rfl, rfl⟩⟩ := hrel
    · go_wp2
      go_roundw
      case rel => exact ⟨by simp, .inr (.inl ⟨rfl, rfl⟩)⟩
      case measure => simp [RowKit.intOf]
    · go_wp2
      go_roundw
      case rel => exact ⟨by simp, .inr (.inr ⟨rfl, rfl⟩)⟩
      case measure => simp [RowKit.intOf]
    · go_wp2
      go_ret
      exact ⟨rfl, rfl⟩
set_option maxRecDepth 100000 in
set_option maxHeartbeats 4000000 in
theorem num_110 (W : World) : Calls Tryd.prog 40 #[.string ⟨#[54, 101]⟩] W fun e w' => e = .returned (.int .i64 110) ∧ w' = W := by
  go_enter Tryd.func40, Tryd.ntmps40
  go_wp2_with fail
  go_loopw [4, 3] (fun i n wr => wr = W ∧ (i = .int .i64 0 ∧ n = .int .i64 0 ∨ i = .int .i64 1 ∧ n = .int .i64 6 ∨ i = .int .i64 2 ∧ n = .int .i64 110)) (fun i _ _ => 2 - (RowKit.intOf i).toNat)
  case atStart => exact ⟨rfl, .inl ⟨rfl, rfl⟩⟩
  case round =>
    obtain ⟨rfl, ⟨rfl, rfl⟩ | ⟨rfl, rfl⟩ | ⟨rfl, rfl⟩⟩ := hrel
    · go_wp2
      go_roundw
      case rel => exact ⟨by simp, .inr (.inl ⟨rfl, rfl⟩)⟩
      case measure => simp [RowKit.intOf]
    · go_wp2
      go_roundw
      case rel => exact ⟨by simp, .inr (.inr ⟨rfl, rfl⟩)⟩
      case measure => simp [RowKit.intOf]
    · go_wp2
      go_ret
      exact ⟨rfl, rfl⟩
set_option maxRecDepth 100000 in
set_option maxHeartbeats 4000000 in
theorem num_243 (W : World) : Calls Tryd.prog 40 #[.string ⟨#[102, 51]⟩] W fun e w' => e = .returned (.int .i64 243) ∧ w' = W := by
  go_enter Tryd.func40, Tryd.ntmps40
  go_wp2_with fail
  go_loopw [4, 3] (fun i n wr => wr = W ∧ (i = .int .i64 0 ∧ n = .int .i64 0 ∨ i = .int .i64 1 ∧ n = .int .i64 15 ∨ i = .int .i64 2 ∧ n = .int .i64 243)) (fun i _ _ => 2 - (RowKit.intOf i).toNat)
  case atStart => exact ⟨rfl, .inl ⟨rfl, rfl⟩⟩
  case round =>
    obtain ⟨rfl, ⟨rfl, rfl⟩ | ⟨rfl, rfl⟩ | ⟨rfl, rfl⟩⟩ := hrel
    · go_wp2
      go_roundw
      case rel => exact ⟨by simp, .inr (.inl ⟨rfl, rfl⟩)⟩
      case measure => simp [RowKit.intOf]
    · go_wp2
      go_roundw
      case rel => exact ⟨by simp, .inr (.inr ⟨rfl, rfl⟩)⟩
      case measure => simp [RowKit.intOf]
    · go_wp2
      go_ret
      exact ⟨rfl, rfl⟩
def twoL : List ByteArray := [(⟨#[48, 51]⟩ : ByteArray), (⟨#[48, 49]⟩ : ByteArray), (⟨#[48, 53]⟩ : ByteArray), (⟨#[48, 100]⟩ : ByteArray), (⟨#[48, 102]⟩ : ByteArray), (⟨#[48, 50]⟩ : ByteArray), (⟨#[48, 54]⟩ : ByteArray), (⟨#[48, 101]⟩ : ByteArray), (⟨#[49, 49]⟩ : ByteArray), (⟨#[48, 51]⟩ : ByteArray), (⟨#[102, 49]⟩ : ByteArray), (⟨#[102, 53]⟩ : ByteArray), (⟨#[55, 101]⟩ : ByteArray), (⟨#[54, 102]⟩ : ByteArray), (⟨#[102, 50]⟩ : ByteArray), (⟨#[102, 54]⟩ : ByteArray), (⟨#[54, 101]⟩ : ByteArray), (⟨#[102, 51]⟩ : ByteArray)]
theorem eighteen {k : Nat} (h : k < 18) : k = 0 ∨ k = 1 ∨ k = 2 ∨ k = 3 ∨ k = 4 ∨ k = 5 ∨ k = 6 ∨ k = 7 ∨ k = 8 ∨ k = 9 ∨ k = 10 ∨ k = 11 ∨ k = 12 ∨ k = 13 ∨ k = 14 ∨ k = 15 ∨ k = 16 ∨ k = 17 := by omega
theorem num_at (k : Nat) (hk : k < 18) (X : ByteArray) (hX : X = twoL.getD k ByteArray.empty) (W : World) : Calls Tryd.prog 40 #[.string X] W fun e w' => e = .returned (.int .i64 (numL.getD k 0 : Nat)) ∧ w' = W := by
  subst hX
  rcases eighteen hk with rfl | rfl | rfl | rfl | rfl | rfl | rfl | rfl | rfl | rfl | rfl | rfl | rfl | rfl | rfl | rfl | rfl | rfl
  · exact num_3 W
  · exact num_1 W
  · exact num_5 W
  · exact num_13 W
  · exact num_15 W
  · exact num_2 W
  · exact num_6 W
  · exact num_14 W
  · exact num_17 W
  · exact num_3 W
  · exact num_241 W
  · exact num_245 W
  · exact num_126 W
  · exact num_111 W
  · exact num_242 W
  · exact num_246 W
  · exact num_110 W
  · exact num_243 W
end Go.Proofs.YtdampfngdnicoaaDoor
