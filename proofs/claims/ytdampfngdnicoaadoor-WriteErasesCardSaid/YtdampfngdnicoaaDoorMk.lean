/-
  The commands: their table as it is laid; which one a byte calls.
-/
import Derived.Test.YtdampfngdnicoaaDoorMj
import Derived.Deep.MidRow
namespace Go.Proofs.YtdampfngdnicoaaDoor
open Go.RowKit Go.Lib Go.Deep

/-- The table: names, the ones, the others. -/
def codL : List (ByteArray × Int × Int) := [((⟨#[78, 111, 116, 104, 105, 110, 103]⟩ : ByteArray), 3, 3), ((⟨#[87, 114, 105, 116, 101]⟩ : ByteArray), 1, 241), ((⟨#[69, 114, 97, 115, 101, 87, 114, 105, 116, 101]⟩ : ByteArray), 5, 245), ((⟨#[69, 114, 97, 115, 101, 65, 108, 116, 101, 114, 110, 97, 116, 101]⟩ : ByteArray), 13, 126), ((⟨#[69, 114, 97, 115, 101, 85, 110, 112, 114, 111, 116, 101, 99, 116, 101, 100]⟩ : ByteArray), 15, 111), ((⟨#[82, 101, 97, 100, 66, 117, 102, 102, 101, 114]⟩ : ByteArray), 2, 242), ((⟨#[82, 101, 97, 100, 77, 111, 100, 105, 102, 105, 101, 100]⟩ : ByteArray), 6, 246), ((⟨#[82, 101, 97, 100, 65, 108, 108]⟩ : ByteArray), 14, 110), ((⟨#[83, 116, 114, 117, 99, 116, 117, 114, 101, 100]⟩ : ByteArray), 17, 243)]
def codC : List Value := [.string (⟨#[78, 111, 116, 104, 105, 110, 103]⟩ : ByteArray), .int .u8 3, .int .u8 3, .string (⟨#[87, 114, 105, 116, 101]⟩ : ByteArray), .int .u8 1, .int .u8 241, .string (⟨#[69, 114, 97, 115, 101, 87, 114, 105, 116, 101]⟩ : ByteArray), .int .u8 5, .int .u8 245, .string (⟨#[69, 114, 97, 115, 101, 65, 108, 116, 101, 114, 110, 97, 116, 101]⟩ : ByteArray), .int .u8 13, .int .u8 126, .string (⟨#[69, 114, 97, 115, 101, 85, 110, 112, 114, 111, 116, 101, 99, 116, 101, 100]⟩ : ByteArray), .int .u8 15, .int .u8 111, .string (⟨#[82, 101, 97, 100, 66, 117, 102, 102, 101, 114]⟩ : ByteArray), .int .u8 2, .int .u8 242, .string (⟨#[82, 101, 97, 100, 77, 111, 100, 105, 102, 105, 101, 100]⟩ : ByteArray), .int .u8 6, .int .u8 246, .string (⟨#[82, 101, 97, 100, 65, 108, 108]⟩ : ByteArray), .int .u8 14, .int .u8 110, .string (⟨#[83, 116, 114, 117, 99, 116, 117, 114, 101, 100]⟩ : ByteArray), .int .u8 17, .int .u8 243]
/-- It lies in its block. -/
def Cods (w : World) : Prop := w.rangeAt 0 0 codC ∧ 0 < w.heap.size
theorem Cods.below {w w' : World} {B : Nat} (h : Cods w) (hB : 0 < B) (hb : Below B w w') : Cods w' := ⟨fun j v hv => (hb.cell (p := ⟨0, 0 + j, none⟩) hB).trans (h.1 j v hv), Nat.lt_of_lt_of_le h.2 hb.size⟩
theorem cod_0 (w : World) : (Instr.index 82 (.agg codC.toArray) (.int .i64 ((0 : Nat) : Int))).run Tryd.prog w = .ok (.agg #[.string (codL.getD 0 (ByteArray.empty, 0, 0)).1, .int .u8 (codL.getD 0 (ByteArray.empty, 0, 0)).2.1, .int .u8 (codL.getD 0 (ByteArray.empty, 0, 0)).2.2]) w := by kernel_rfl
theorem cod_1 (w : World) : (Instr.index 82 (.agg codC.toArray) (.int .i64 ((1 : Nat) : Int))).run Tryd.prog w = .ok (.agg #[.string (codL.getD 1 (ByteArray.empty, 0, 0)).1, .int .u8 (codL.getD 1 (ByteArray.empty, 0, 0)).2.1, .int .u8 (codL.getD 1 (ByteArray.empty, 0, 0)).2.2]) w := by kernel_rfl
theorem cod_2 (w : World) : (Instr.index 82 (.agg codC.toArray) (.int .i64 ((2 : Nat) : Int))).run Tryd.prog w = .ok (.agg #[.string (codL.getD 2 (ByteArray.empty, 0, 0)).1, .int .u8 (codL.getD 2 (ByteArray.empty, 0, 0)).2.1, .int .u8 (codL.getD 2 (ByteArray.empty, 0, 0)).2.2]) w := by kernel_rfl
theorem cod_3 (w : World) : (Instr.index 82 (.agg codC.toArray) (.int .i64 ((3 : Nat) : Int))).run Tryd.prog w = .ok (.agg #[.string (codL.getD 3 (ByteArray.empty, 0, 0)).1, .int .u8 (codL.getD 3 (ByteArray.empty, 0, 0)).2.1, .int .u8 (codL.getD 3 (ByteArray.empty, 0, 0)).2.2]) w := by kernel_rfl
theorem cod_4 (w : World) : (Instr.index 82 (.agg codC.toArray) (.int .i64 ((4 : Nat) : Int))).run Tryd.prog w = .ok (.agg #[.string (codL.getD 4 (ByteArray.empty, 0, 0)).1, .int .u8 (codL.getD 4 (ByteArray.empty, 0, 0)).2.1, .int .u8 (codL.getD 4 (ByteArray.empty, 0, 0)).2.2]) w := by kernel_rfl
theorem cod_5 (w : World) : (Instr.index 82 (.agg codC.toArray) (.int .i64 ((5 : Nat) : Int))).run Tryd.prog w = .ok (.agg #[.string (codL.getD 5 (ByteArray.empty, 0, 0)).1, .int .u8 (codL.getD 5 (ByteArray.empty, 0, 0)).2.1, .int .u8 (codL.getD 5 (ByteArray.empty, 0, 0)).2.2]) w := by kernel_rfl
theorem cod_6 (w : World) : (Instr.index 82 (.agg codC.toArray) (.int .i64 ((6 : Nat) : Int))).run Tryd.prog w = .ok (.agg #[.string (codL.getD 6 (ByteArray.empty, 0, 0)).1, .int .u8 (codL.getD 6 (ByteArray.empty, 0, 0)).2.1, .int .u8 (codL.getD 6 (ByteArray.empty, 0, 0)).2.2]) w := by kernel_rfl
theorem cod_7 (w : World) : (Instr.index 82 (.agg codC.toArray) (.int .i64 ((7 : Nat) : Int))).run Tryd.prog w = .ok (.agg #[.string (codL.getD 7 (ByteArray.empty, 0, 0)).1, .int .u8 (codL.getD 7 (ByteArray.empty, 0, 0)).2.1, .int .u8 (codL.getD 7 (ByteArray.empty, 0, 0)).2.2]) w := by kernel_rfl
theorem cod_8 (w : World) : (Instr.index 82 (.agg codC.toArray) (.int .i64 ((8 : Nat) : Int))).run Tryd.prog w = .ok (.agg #[.string (codL.getD 8 (ByteArray.empty, 0, 0)).1, .int .u8 (codL.getD 8 (ByteArray.empty, 0, 0)).2.1, .int .u8 (codL.getD 8 (ByteArray.empty, 0, 0)).2.2]) w := by kernel_rfl
theorem cod_index (k : Nat) (hk : k < 9) (w : World) : (Instr.index 82 (.agg codC.toArray) (.int .i64 k)).run Tryd.prog w = .ok (.agg #[.string (codL.getD k (ByteArray.empty, 0, 0)).1, .int .u8 (codL.getD k (ByteArray.empty, 0, 0)).2.1, .int .u8 (codL.getD k (ByteArray.empty, 0, 0)).2.2]) w := by
  have h : k = 0 ∨ k = 1 ∨ k = 2 ∨ k = 3 ∨ k = 4 ∨ k = 5 ∨ k = 6 ∨ k = 7 ∨ k = 8 := by omega
  rcases h with rfl | rfl | rfl | rfl | rfl | rfl | rfl | rfl | rfl
  · exact cod_0 w
  · exact cod_1 w
  · exact cod_2 w
  · exact cod_3 w
  · exact cod_4 w
  · exact cod_5 w
  · exact cod_6 w
  · exact cod_7 w
  · exact cod_8 w
/-- Is it one of the two bytes of a command? -/
def cmdAt (b : Int) (j : Nat) : Bool := (codL.getD j (ByteArray.empty, 0, 0)).2.1 == b || (codL.getD j (ByteArray.empty, 0, 0)).2.2 == b
def cmdF (b : Int) : Int × Bool := match (List.range 9).find? (cmdAt b) with | some j => ((j : Int), true) | none => (0, false)
theorem cmdF_hit {b : Int} {k : Nat} (hk : k < 9) (h : cmdAt b k = true) (hno : ∀ j, j < k → cmdAt b j = false) : cmdF b = ((k : Int), true) := by
  have e : (List.range 9).find? (cmdAt b) = some k := by
    rw [List.find?_range_eq_some]
    exact ⟨h, by simpa using hk, fun j hj => by simpa using hno j hj⟩
  unfold cmdF
  rw [e]
theorem cmdF_miss {b : Int} (hno : ∀ j, j < 9 → cmdAt b j = false) : cmdF b = (0, false) := by
  have e : (List.range 9).find? (cmdAt b) = none := by
    rw [List.find?_eq_none]
    intro j hj
    simpa using hno j (by simpa using hj)
  unfold cmdF
  rw [e]
set_option maxRecDepth 100000 in
set_option maxHeartbeats 2000000 in
theorem command_any (b : Nat) (hb : b < 256) (w : World) (hC : Cods w) : Calls Tryd.prog 16 #[.int .u8 b] w fun e w' => e = .returned (.tuple #[.int .i64 (cmdF b).1, .bool (cmdF b).2]) ∧ Below w.heap.size w w' := by
  have HC := hid hC.1
  have HIX := hid cod_index
  have HHIT := hid (fun k (hk : k < 9) (h : cmdAt b k = true) hno => cmdF_hit hk h hno)
  have HMIS := hid (fun hno => cmdF_miss (b := b) hno)
  have hsl : codC.length = 27 := by rfl
  have HSL := hid hsl
  clear hsl hC
  generalize codC = cc at HC HIX HSL
  go_enter Tryd.func16, Tryd.ntmps16
  go_wp2_with (with_reducible refine wpList_load_mid rfl 82 _ rfl 0 0 rfl cc _ HC.out Tryd.underlying82 rfl (by rw [HSL.out]; kernel_rfl) ?_)
  go_loopw [7] (fun i wr => ∃ k : Nat, k ≤ 9 ∧ i = .int .i64 k ∧ Hid (∀ j, j < k → cmdAt b j = false) ∧ Hid (Below w.heap.size w wr)) (fun i _ => 9 - (intOf i).toNat)
  case atStart => exact ⟨0, by omega, rfl, fun _ h => by omega, Below.refl _ _⟩
  case round =>
    obtain ⟨k, hk, rfl, HNO, HB⟩ := hrel
    by_cases hlt : k < 9
    · have hix := HIX.out k hlt wr
      have HCA := hid (show cmdAt b k = ((codL.getD k (ByteArray.empty, 0, 0)).2.1 == (b : Int) || (codL.getD k (ByteArray.empty, 0, 0)).2.2 == (b : Int)) from rfl)
      have HH1 := hid (fun h => HHIT.out k hlt h HNO.out)
      generalize codL.getD k (ByteArray.empty, 0, 0) = cv at hix HCA
      obtain ⟨nm, f1, s1⟩ := cv
      dsimp only at hix HCA
      have hal : Below w.heap.size w (wr.alloc (.cells #[.string nm, .int .u8 f1, .int .u8 s1] 81)) := HB.out.alloc HB.out.size _
      have HAL := hid hal
      clear hal
      by_cases h1 : (b : Int) = f1
      · subst h1
        have HH2 := hid (HH1.out (by rw [HCA.out]; simp))
        go_wp2
        refine bodyPost_ret (v := .tuple #[.int .i64 k, .bool true]) (by simp [results, Tryd.results16, go_sem]) rfl ⟨by rw [HH2.out], HAL.out⟩
      · have e1 : ((b : Int) == f1) = false := by simpa using h1
        by_cases h2 : (b : Int) = s1
        · subst h2
          have HH2 := hid (HH1.out (by rw [HCA.out]; simp))
          go_wp2
          refine bodyPost_ret (v := .tuple #[.int .i64 k, .bool true]) (by simp [results, Tryd.results16, go_sem]) rfl ⟨by rw [HH2.out], HAL.out⟩
        · have e2 : ((b : Int) == s1) = false := by simpa using h2
          have HN2 := hid (show ∀ j, j < k + 1 → cmdAt b j = false from fun j hj => by
            by_cases h : j < k
            · exact HNO.out j h
            · obtain rfl : j = k := by omega
              rw [HCA.out]
              have : (f1 == (b : Int)) = false := by simpa using fun e => h1 e.symm
              have h3 : (s1 == (b : Int)) = false := by simpa using fun e => h2 e.symm
              rw [this, h3]
              rfl)
          go_wp2
          go_roundw
          case rel => exact ⟨k + 1, by omega, by go_num, HN2, HAL⟩
          case measure => simp [intOf]; omega
    · obtain rfl : k = 9 := by omega
      have HM := hid (HMIS.out HNO.out)
      go_wp2
      refine bodyPost_ret (v := .tuple #[.int .i64 0, .bool false]) (by simp [results, Tryd.results16, go_sem]) rfl ⟨by rw [HM.out], HB.out⟩
end Go.Proofs.YtdampfngdnicoaaDoor
