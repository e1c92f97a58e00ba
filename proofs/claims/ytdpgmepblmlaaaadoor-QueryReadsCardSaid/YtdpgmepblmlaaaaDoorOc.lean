/-
  The commands: their table as it is laid; which one a byte calls.
  What the listed variable 'codings' gives the walks, and that the program's own start meets the condition.
  The commands' names and bytes, in the program and in the document.
  The document's names, bytes and numbers of commands.
  WriteNames: the law's own walk.
  WriteAgain: results compared; bytes appended; the law's own walk.
-/
import Derived.Test.YtdpgmepblmlaaaaDoorOb
import Derived.Deep.MidRow
import Derived.ProofKit
import Derived.LaidMore
import Derived.OpenShut
import Derived.Stop.Joined
import Derived.Deep.Strs
import Derived.Test.YtdpgmepblmlaaaaDoorRows
namespace Go.Proofs.YtdpgmepblmlaaaaDoor
open Go.RowKit Go.Lib Go.Deep

/-- The table: names, the ones, the others. -/
def codL : List (ByteArray × Int × Int) := [((⟨#[78, 111, 116, 104, 105, 110, 103]⟩ : ByteArray), 3, 3), ((⟨#[87, 114, 105, 116, 101]⟩ : ByteArray), 1, 241), ((⟨#[69, 114, 97, 115, 101, 87, 114, 105, 116, 101]⟩ : ByteArray), 5, 245), ((⟨#[69, 114, 97, 115, 101, 65, 108, 116, 101, 114, 110, 97, 116, 101]⟩ : ByteArray), 13, 126), ((⟨#[69, 114, 97, 115, 101, 85, 110, 112, 114, 111, 116, 101, 99, 116, 101, 100]⟩ : ByteArray), 15, 111), ((⟨#[82, 101, 97, 100, 66, 117, 102, 102, 101, 114]⟩ : ByteArray), 2, 242), ((⟨#[82, 101, 97, 100, 77, 111, 100, 105, 102, 105, 101, 100]⟩ : ByteArray), 6, 246), ((⟨#[82, 101, 97, 100, 65, 108, 108]⟩ : ByteArray), 14, 110), ((⟨#[83, 116, 114, 117, 99, 116, 117, 114, 101, 100]⟩ : ByteArray), 17, 243)]
def codC : List Value := [.string (⟨#[78, 111, 116, 104, 105, 110, 103]⟩ : ByteArray), .int .u8 3, .int .u8 3, .string (⟨#[87, 114, 105, 116, 101]⟩ : ByteArray), .int .u8 1, .int .u8 241, .string (⟨#[69, 114, 97, 115, 101, 87, 114, 105, 116, 101]⟩ : ByteArray), .int .u8 5, .int .u8 245, .string (⟨#[69, 114, 97, 115, 101, 65, 108, 116, 101, 114, 110, 97, 116, 101]⟩ : ByteArray), .int .u8 13, .int .u8 126, .string (⟨#[69, 114, 97, 115, 101, 85, 110, 112, 114, 111, 116, 101, 99, 116, 101, 100]⟩ : ByteArray), .int .u8 15, .int .u8 111, .string (⟨#[82, 101, 97, 100, 66, 117, 102, 102, 101, 114]⟩ : ByteArray), .int .u8 2, .int .u8 242, .string (⟨#[82, 101, 97, 100, 77, 111, 100, 105, 102, 105, 101, 100]⟩ : ByteArray), .int .u8 6, .int .u8 246, .string (⟨#[82, 101, 97, 100, 65, 108, 108]⟩ : ByteArray), .int .u8 14, .int .u8 110, .string (⟨#[83, 116, 114, 117, 99, 116, 117, 114, 101, 100]⟩ : ByteArray), .int .u8 17, .int .u8 243]
/-- It lies in its block. -/
def Cods (w : World) : Prop := w.rangeAt 1 0 codC ∧ 1 < w.heap.size
theorem Cods.below {w w' : World} {B : Nat} (h : Cods w) (hB : 1 < B) (hb : Below B w w') : Cods w' := ⟨fun j v hv => (hb.cell (p := ⟨1, 0 + j, none⟩) hB).trans (h.1 j v hv), Nat.lt_of_lt_of_le h.2 hb.size⟩
theorem cod_0 (w : World) : (Instr.index 153 (.agg codC.toArray) (.int .i64 ((0 : Nat) : Int))).run Tryd.prog w = .ok (.agg #[.string (codL.getD 0 (ByteArray.empty, 0, 0)).1, .int .u8 (codL.getD 0 (ByteArray.empty, 0, 0)).2.1, .int .u8 (codL.getD 0 (ByteArray.empty, 0, 0)).2.2]) w := by kernel_rfl
theorem cod_1 (w : World) : (Instr.index 153 (.agg codC.toArray) (.int .i64 ((1 : Nat) : Int))).run Tryd.prog w = .ok (.agg #[.string (codL.getD 1 (ByteArray.empty, 0, 0)).1, .int .u8 (codL.getD 1 (ByteArray.empty, 0, 0)).2.1, .int .u8 (codL.getD 1 (ByteArray.empty, 0, 0)).2.2]) w := by kernel_rfl
theorem cod_2 (w : World) : (Instr.index 153 (.agg codC.toArray) (.int .i64 ((2 : Nat) : Int))).run Tryd.prog w = .ok (.agg #[.string (codL.getD 2 (ByteArray.empty, 0, 0)).1, .int .u8 (codL.getD 2 (ByteArray.empty, 0, 0)).2.1, .int .u8 (codL.getD 2 (ByteArray.empty, 0, 0)).2.2]) w := by kernel_rfl
theorem cod_3 (w : World) : (Instr.index 153 (.agg codC.toArray) (.int .i64 ((3 : Nat) : Int))).run Tryd.prog w = .ok (.agg #[.string (codL.getD 3 (ByteArray.empty, 0, 0)).1, .int .u8 (codL.getD 3 (ByteArray.empty, 0, 0)).2.1, .int .u8 (codL.getD 3 (ByteArray.empty, 0, 0)).2.2]) w := by kernel_rfl
theorem cod_4 (w : World) : (Instr.index 153 (.agg codC.toArray) (.int .i64 ((4 : Nat) : Int))).run Tryd.prog w = .ok (.agg #[.string (codL.getD 4 (ByteArray.empty, 0, 0)).1, .int .u8 (codL.getD 4 (ByteArray.empty, 0, 0)).2.1, .int .u8 (codL.getD 4 (ByteArray.empty, 0, 0)).2.2]) w := by kernel_rfl
theorem cod_5 (w : World) : (Instr.index 153 (.agg codC.toArray) (.int .i64 ((5 : Nat) : Int))).run Tryd.prog w = .ok (.agg #[.string (codL.getD 5 (ByteArray.empty, 0, 0)).1, .int .u8 (codL.getD 5 (ByteArray.empty, 0, 0)).2.1, .int .u8 (codL.getD 5 (ByteArray.empty, 0, 0)).2.2]) w := by kernel_rfl
theorem cod_6 (w : World) : (Instr.index 153 (.agg codC.toArray) (.int .i64 ((6 : Nat) : Int))).run Tryd.prog w = .ok (.agg #[.string (codL.getD 6 (ByteArray.empty, 0, 0)).1, .int .u8 (codL.getD 6 (ByteArray.empty, 0, 0)).2.1, .int .u8 (codL.getD 6 (ByteArray.empty, 0, 0)).2.2]) w := by kernel_rfl
theorem cod_7 (w : World) : (Instr.index 153 (.agg codC.toArray) (.int .i64 ((7 : Nat) : Int))).run Tryd.prog w = .ok (.agg #[.string (codL.getD 7 (ByteArray.empty, 0, 0)).1, .int .u8 (codL.getD 7 (ByteArray.empty, 0, 0)).2.1, .int .u8 (codL.getD 7 (ByteArray.empty, 0, 0)).2.2]) w := by kernel_rfl
theorem cod_8 (w : World) : (Instr.index 153 (.agg codC.toArray) (.int .i64 ((8 : Nat) : Int))).run Tryd.prog w = .ok (.agg #[.string (codL.getD 8 (ByteArray.empty, 0, 0)).1, .int .u8 (codL.getD 8 (ByteArray.empty, 0, 0)).2.1, .int .u8 (codL.getD 8 (ByteArray.empty, 0, 0)).2.2]) w := by kernel_rfl
theorem cod_index (k : Nat) (hk : k < 9) (w : World) : (Instr.index 153 (.agg codC.toArray) (.int .i64 k)).run Tryd.prog w = .ok (.agg #[.string (codL.getD k (ByteArray.empty, 0, 0)).1, .int .u8 (codL.getD k (ByteArray.empty, 0, 0)).2.1, .int .u8 (codL.getD k (ByteArray.empty, 0, 0)).2.2]) w := by
  have h : k = 0 ∨ k = 1 ∨ k = 2 ∨ k = 3 ∨ k = 4 ∨ k = 5 ∨ k = 6 ∨ k = 7 ∨ k = 8 := by omega
  rcases h with rfl | rfl | rfl | rfl | rfl | rfl | rfl | rfl | rfl
  · exact cod_0 w
  · exact cod_1 w
  · exact cod_2 w
  · exact cod_3 w
  · exact cod_4 w
  · exact cod_5 w
  · exact cod_6 w
  · exact cod_7 w
  · exact cod_8 w
/-- Is it one of the two bytes of a command? -/
def cmdAt (b : Int) (j : Nat) : Bool := (codL.getD j (ByteArray.empty, 0, 0)).2.1 == b || (codL.getD j (ByteArray.empty, 0, 0)).2.2 == b
def cmdF (b : Int) : Int × Bool := match (List.range 9).find? (cmdAt b) with | some j => ((j : Int), true) | none => (0, false)
theorem cmdF_hit {b : Int} {k : Nat} (hk : k < 9) (h : cmdAt b k = true) (hno : ∀ j, j < k → cmdAt b j = false) : cmdF b = ((k : Int), true) := by
  have e : (List.range 9).find? (cmdAt b) = some k := by
    rw [List.find?_range_eq_some]
    exact ⟨h, by simpa using hk, fun j hj => by simpa using hno j hj⟩
  unfold cmdF
  rw [e]
theorem cmdF_miss {b : Int} (hno : ∀ j, j < 9 → cmdAt b j = false) : cmdF b = (0, false) := by
  have e : (List.range 9).find? (cmdAt b) = none := by
    rw [List.find?_eq_none]
    intro j hj
    simpa using hno j (by simpa using hj)
  unfold cmdF
  rw [e]
set_option maxRecDepth 100000 in
set_option maxHeartbeats 2000000 in
theorem command_any (b : Nat) (_hb : b < 256) (w : World) (hC : Cods w) : Calls Tryd.prog 73 #[.int .u8 b] w fun e w' => e = .returned (.tuple #[.int .i64 (cmdF b).1, .bool (cmdF b).2]) ∧ Below w.heap.size w w' := by
  have HC := hid hC.1
  have HIX := hid cod_index
  have HHIT := hid (fun k (hk : k < 9) (h : cmdAt b k = true) hno => cmdF_hit hk h hno)
  have HMIS := hid (fun hno => cmdF_miss (b := b) hno)
  have hsl : codC.length = 27 := by rfl
  have HSL := hid hsl
  clear hsl hC
  generalize codC = cc at HC HIX HSL
  go_enter Tryd.func73, Tryd.ntmps73
  go_wp2_with (with_reducible refine wpList_load_mid rfl 153 _ rfl 1 0 rfl cc _ HC.out Tryd.underlying153 rfl (by rw [HSL.out]; kernel_rfl) ?_)
  go_loopw [7] (fun i wr => ∃ k : Nat, k ≤ 9 ∧ i = .int .i64 k ∧ Hid (∀ j, j < k → cmdAt b j = false) ∧ Hid (Below w.heap.size w wr)) (fun i _ => 9 - (intOf i).toNat)
  case atStart => exact ⟨0, by omega, rfl, fun _ h => by omega, Below.refl _ _⟩
  case round =>
    obtain ⟨k, hk, rfl, HNO, HB⟩ := hrel
    by_cases hlt : k < 9
    · have hix := HIX.out k hlt wr
      have HCA := hid (show cmdAt b k = ((codL.getD k (ByteArray.empty, 0, 0)).2.1 == (b : Int) || (codL.getD k (ByteArray.empty, 0, 0)).2.2 == (b : Int)) from rfl)
      have HH1 := hid (fun h => HHIT.out k hlt h HNO.out)
      generalize codL.getD k (ByteArray.empty, 0, 0) = cv at hix HCA
      obtain ⟨nm, f1, s1⟩ := cv
      dsimp only at hix HCA
      have hal : Below w.heap.size w (wr.alloc (.cells #[.string nm, .int .u8 f1, .int .u8 s1] 126)) := HB.out.alloc HB.out.size _
      have HAL := hid hal
      clear hal
      by_cases h1 : (b : Int) = f1
      · subst h1
        have HH2 := hid (HH1.out (by rw [HCA.out]; simp))
        go_wp2
        refine bodyPost_ret (v := .tuple #[.int .i64 k, .bool true]) (by simp [results, Tryd.results73, go_sem]) rfl ⟨by rw [HH2.out], HAL.out⟩
      · have e1 : ((b : Int) == f1) = false := by simpa using h1
        by_cases h2 : (b : Int) = s1
        · subst h2
          have HH2 := hid (HH1.out (by rw [HCA.out]; simp))
          go_wp2
          refine bodyPost_ret (v := .tuple #[.int .i64 k, .bool true]) (by simp [results, Tryd.results73, go_sem]) rfl ⟨by rw [HH2.out], HAL.out⟩
        · have e2 : ((b : Int) == s1) = false := by simpa using h2
          have HN2 := hid (show ∀ j, j < k + 1 → cmdAt b j = false from fun j hj => by
            by_cases h : j < k
            · exact HNO.out j h
            · obtain rfl : j = k := by omega
              rw [HCA.out]
              have : (f1 == (b : Int)) = false := by simpa using fun e => h1 e.symm
              have h3 : (s1 == (b : Int)) = false := by simpa using fun e => h2 e.symm
              rw [this, h3]
              rfl)
          go_wp2
          go_roundw
          case rel => exact ⟨k + 1, by omega, by go_num, HN2, HAL⟩
          case measure => simp [intOf]; omega
    · obtain rfl : k = 9 := by omega
      have HM := hid (HMIS.out HNO.out)
      go_wp2
      refine bodyPost_ret (v := .tuple #[.int .i64 0, .bool false]) (by simp [results, Tryd.results73, go_sem]) rfl ⟨by rw [HM.out], HB.out⟩
end Go.Proofs.YtdpgmepblmlaaaaDoor
namespace Go.Proofs.YtdpgmepblmlaaaaDoor
open Go.ChangeShapes Go.WideShapes Go.ChangeAt Go.WideMaps Go.WideElems Go.RowKit Go.Deep

theorem gCods : Tryd.prog.globalNamed "vitrine/write.codings" = some 1 := by kernel_rfl
theorem tCods : (Tryd.prog.globals[1]?).map (·.type) = some 153 := by kernel_rfl
def laidN : List (String × DataW Unit) := [("vitrine/write.codings", Rows.laid_vitrine_write_codings)]
theorem door_codings (os : Os) (args : Array Value) : laidMetH Tryd.prog laidN ((World.doorLaid Tryd.prog 4000 os).forCall (fun _ _ => 0) ⟨#[], args, []⟩).memory :=
  laidMetH_of_parts3 (fuel := 8) (laidMet_of_run' 8 (by kernel_rfl) (by kernel_rfl)) (by kernel_rfl) (by kernel_rfl)
theorem codC_at : ∀ j, j < 9 → codC[j * 3]? = some (.string (codL.getD j (ByteArray.empty, 0, 0)).1) ∧ codC[j * 3 + 1]? = some (.int .u8 (codL.getD j (ByteArray.empty, 0, 0)).2.1) ∧ codC[j * 3 + 2]? = some (.int .u8 (codL.getD j (ByteArray.empty, 0, 0)).2.2) := by
  intro j hj
  have : j = 0 ∨ j = 1 ∨ j = 2 ∨ j = 3 ∨ j = 4 ∨ j = 5 ∨ j = 6 ∨ j = 7 ∨ j = 8 := by omega
  rcases this with rfl | rfl | rfl | rfl | rfl | rfl | rfl | rfl | rfl <;> exact ⟨rfl, rfl, rfl⟩
theorem cods_of_laid {W : World} (h : laidMetH Tryd.prog laidN W) : Cods W := by
  have h : laidMetH Tryd.prog [("vitrine/write.codings", Rows.laid_vitrine_write_codings)] W := h
  rw [MakeChecks.laidMetH_plain _ _ _ (by kernel_rfl)] at h
  obtain ⟨ps, ⟨g0, t0, cs0, f0, p0, q0, hg0, ht0, hv0, hd0, _, _⟩, _, _⟩ := h
  obtain rfl := Option.some.inj (gCods.symm.trans hg0)
  obtain rfl := Option.some.inj (tCods.symm.trans ht0)
  obtain ⟨xs, m1, rfl, hx1, hlen, hn3, hel⟩ := DataW.trod_array Tryd.underlying153 hd0
  have ca : Tryd.prog.cellsOf 126 = 3 := by kernel_rfl
  have c5 : Tryd.prog.cellsOf 5 = 1 := by kernel_rfl
  have cs : Tryd.prog.cellsOf 9 = 1 := by kernel_rfl
  have hx2 : xs.map (fun x => x.1) = codL.map (fun p => (.agg [.lit (.string p.1.data.toList), .lit (.int .u8 p.2.1), .lit (.int .u8 p.2.2)] : DataW Unit)) := by
    have := (Prod.mk.inj hx1).1
    simp only [Rows.laid_vitrine_write_codings, DataW.agg.injEq] at this
    exact this.symm
  have hcells : ∀ j, j < 9 → W.cell? ⟨1, j * 3, none⟩ = some (.string (codL.getD j (ByteArray.empty, 0, 0)).1) ∧ W.cell? ⟨1, j * 3 + 1, none⟩ = some (.int .u8 (codL.getD j (ByteArray.empty, 0, 0)).2.1) ∧ W.cell? ⟨1, j * 3 + 2, none⟩ = some (.int .u8 (codL.getD j (ByteArray.empty, 0, 0)).2.2) := by
    intro j hj
    have h := hel j hj
    rw [ca, List.getElem?_eq_getElem (show j < xs.length by omega)] at h
    obtain ⟨y0, y1, y2, n, e, _, h0, h1, h2⟩ := trod_struct3 Tryd.underlying126 h
    simp only [c5, cs, List.drop_zero] at h0 h1 h2
    obtain ⟨a, e0, f0, _⟩ := DataW.trod_string Tryd.underlying9 h0
    obtain ⟨b, e1, f1, _⟩ := DataW.trod_int Tryd.underlying5 h1
    obtain ⟨c, e2, f2, _⟩ := DataW.trod_int Tryd.underlying5 h2
    have g0 : cs0.toList[j * 3]? = some (.string a) := by
      have t : (List.take 1 (List.take 3 (List.drop (j * 3) cs0.toList)))[0]? = cs0.toList[j * 3]? := by
        rw [List.getElem?_take_of_lt (by omega), List.getElem?_take_of_lt (by omega), List.getElem?_drop, Nat.add_zero]
      rw [← t, e0]; rfl
    have g1 : cs0.toList[j * 3 + 1]? = some (.int .u8 b) := by
      have t : (List.take 1 (List.drop 1 (List.take 3 (List.drop (j * 3) cs0.toList))))[0]? = cs0.toList[j * 3 + 1]? := by
        rw [List.getElem?_take_of_lt (by omega), List.getElem?_drop, List.getElem?_take_of_lt (by omega), List.getElem?_drop]
      rw [← t, e1]; rfl
    have g2 : cs0.toList[j * 3 + 2]? = some (.int .u8 c) := by
      have t : (List.take 1 (List.drop 2 (List.take 3 (List.drop (j * 3) cs0.toList))))[0]? = cs0.toList[j * 3 + 2]? := by
        rw [List.getElem?_take_of_lt (by omega), List.getElem?_drop, List.getElem?_take_of_lt (by omega), List.getElem?_drop]
      rw [← t, e2]; rfl
    have h3 : (xs.map (fun x => x.1))[j]? = (codL.map (fun p => (.agg [.lit (.string p.1.data.toList), .lit (.int .u8 p.2.1), .lit (.int .u8 p.2.2)] : DataW Unit)))[j]? := by rw [hx2]
    rw [List.getElem?_map, List.getElem?_map, List.getElem?_eq_getElem (show j < xs.length by omega), List.getElem?_eq_getElem (show j < codL.length from hj), e, f0, f1, f2] at h3
    simp only [Option.map_some, Option.some.injEq, DataW.agg.injEq, List.cons.injEq, DataW.lit.injEq, Lit.int.injEq, Lit.string.injEq, true_and, and_true] at h3
    have h4 : a = (codL[j]'hj).1 := by
      obtain ⟨d⟩ := a
      have : d = (codL[j]'hj).1.data := Array.toList_inj.1 h3.1
      rw [this]
    rw [World.var?_cell hg0 hv0, World.var?_cell hg0 hv0, World.var?_cell hg0 hv0, ← Array.getElem?_toList, ← Array.getElem?_toList, ← Array.getElem?_toList, g0, g1, g2, h4, h3.2.1, h3.2.2, List.getD, List.getElem?_eq_getElem (show j < codL.length from hj)]
    exact ⟨rfl, rfl, rfl⟩
  refine ⟨fun i v hv => ?_, World.block_lt_of_cell? W _ (hcells 0 (by omega)).1⟩
  have hi : i < 27 := (List.getElem?_eq_some_iff.1 hv).1
  have hj : i / 3 < 9 := by omega
  obtain ⟨k0, k1, k2⟩ := codC_at (i / 3) hj
  obtain ⟨m0, m1, m2⟩ := hcells (i / 3) hj
  rw [Nat.zero_add]
  rcases (show i % 3 = 0 ∨ i % 3 = 1 ∨ i % 3 = 2 by omega) with h2 | h2 | h2
  · rw [show i / 3 * 3 = i by omega] at k0 m0
    rw [m0, ← hv, k0]
  · rw [show i / 3 * 3 + 1 = i by omega] at k1 m1
    rw [m1, ← hv, k1]
  · rw [show i / 3 * 3 + 2 = i by omega] at k2 m2
    rw [m2, ← hv, k2]
end Go.Proofs.YtdpgmepblmlaaaaDoor
namespace Go.Proofs.YtdpgmepblmlaaaaDoor
open Go.RowKit Go.Lib Go.Deep

/-- The coding of a number. -/
def ncF (n : Int) : ByteArray × Int × Int := if 0 ≤ n ∧ n < 9 then codL.getD n.toNat (ByteArray.empty, 0, 0) else (ByteArray.empty, 0, 0)
def ncV (n : Int) : Value := .agg #[.string (ncF n).1, .int .u8 (ncF n).2.1, .int .u8 (ncF n).2.2]
theorem cod_cells {W : World} (h : Cods W) : ∀ j, j < 9 → W.cell? ⟨1, j * 3, none⟩ = some (.string (codL.getD j (ByteArray.empty, 0, 0)).1) ∧ W.cell? ⟨1, j * 3 + 1, none⟩ = some (.int .u8 (codL.getD j (ByteArray.empty, 0, 0)).2.1) ∧ W.cell? ⟨1, j * 3 + 2, none⟩ = some (.int .u8 (codL.getD j (ByteArray.empty, 0, 0)).2.2) := fun j hj => by
  obtain ⟨h0, h1, h2⟩ := codC_at j hj
  have k0 := h.1 _ _ h0
  have k1 := h.1 _ _ h1
  have k2 := h.1 _ _ h2
  rw [Nat.zero_add] at k0 k1 k2
  exact ⟨k0, k1, k2⟩
theorem ncF_at {k : Nat} (hk : k < 9) : ncF (k : Int) = codL.getD k (ByteArray.empty, 0, 0) := by
  unfold ncF
  rw [if_pos (by omega)]
  rfl
theorem ncF_no {n : Int} (h : n < 0 ∨ 9 ≤ n) : ncF n = (ByteArray.empty, 0, 0) := by
  unfold ncF
  rw [if_neg (by omega)]
theorem nine {k : Nat} (h : k < 9) : k = 0 ∨ k = 1 ∨ k = 2 ∨ k = 3 ∨ k = 4 ∨ k = 5 ∨ k = 6 ∨ k = 7 ∨ k = 8 := by omega
set_option maxRecDepth 100000 in
set_option maxHeartbeats 4000000 in
theorem coding_any (n : Int) (hn : I64 n) (W : World) (hC : Cods W) : Calls Tryd.prog 77 #[.int .i64 n] W fun e w' => e = .returned (ncV n) ∧ Below W.heap.size W w' := by
  have hn1 := hn.1
  have hn2 := hn.2
  have hlt := hC.2
  by_cases h0 : n < 0
  · unfold ncV
    rw [ncF_no (.inl h0)]
    go_enter Tryd.func77, Tryd.ntmps77
    go_wp2
    refine bodyPost_ret (v := .agg #[.string ByteArray.empty, .int .u8 0, .int .u8 0]) ?_ rfl ⟨rfl, ?_⟩
    · simp [results, Tryd.results77, go_sem]
      rfl
    · exact bal (Below.refl _ _) _
  by_cases h9 : 9 ≤ n
  · unfold ncV
    rw [ncF_no (.inr h9)]
    go_enter Tryd.func77, Tryd.ntmps77
    go_wp2
    refine bodyPost_ret (v := .agg #[.string ByteArray.empty, .int .u8 0, .int .u8 0]) ?_ rfl ⟨rfl, ?_⟩
    · simp [results, Tryd.results77, go_sem]
      rfl
    · exact bal (Below.refl _ _) _
  obtain ⟨k, rfl⟩ : ∃ k : Nat, n = k := ⟨n.toNat, by omega⟩
  have hk : k < 9 := by omega
  obtain ⟨z0, z1, z2⟩ := cod_cells hC k hk
  unfold ncV
  rw [ncF_at hk]
  generalize codL.getD k (ByteArray.empty, 0, 0) = cv at z0 z1 z2 ⊢
  obtain ⟨nm, f1, s1⟩ := cv
  dsimp only at z0 z1 z2 ⊢
  clear hC h0 h9 hn hn1 hn2
  rcases nine hk with rfl | rfl | rfl | rfl | rfl | rfl | rfl | rfl | rfl
  all_goals
    simp only [Nat.reduceMul, Nat.reduceAdd] at z0 z1 z2
    go_enter Tryd.func77, Tryd.ntmps77
    go_wp2
    refine bodyPost_ret (v := .agg #[.string nm, .int .u8 f1, .int .u8 s1]) ?_ rfl ⟨rfl, ?_⟩
    · simp [results, Tryd.results77, go_sem]
    · exact bal (Below.refl _ _) _
theorem fld_2 (w : World) (nm : ByteArray) (a b : Int) : (Instr.field 126 (.agg #[.string nm, .int .u8 a, .int .u8 b]) 2).run Tryd.prog w = .ok (.int .u8 b) w := by kernel_rfl
theorem fld_0 (w : World) (nm : ByteArray) (a b : Int) : (Instr.field 126 (.agg #[.string nm, .int .u8 a, .int .u8 b]) 0).run Tryd.prog w = .ok (.string nm) w := by kernel_rfl
def numL : List Nat := [3, 1, 5, 13, 15, 2, 6, 14, 17, 3, 241, 245, 126, 111, 242, 246, 110, 243]
set_option maxRecDepth 100000 in
set_option maxHeartbeats 4000000 in
theorem byte_of (n : Int) (hn : I64 n) (W : World) (hC : Cods W) : Calls Tryd.prog 59 #[.int .i64 n] W fun e w' => e = .returned (.int .u8 (ncF n).2.2) ∧ Below W.heap.size W w' := by
  have HCO := hid (coding_any n hn W hC)
  unfold ncV at HCO
  generalize ncF n = cv at HCO ⊢
  obtain ⟨nm, f1, s1⟩ := cv
  dsimp only at HCO ⊢
  go_enter Tryd.func59, Tryd.ntmps59
  go_wp2_with fail
  with_reducible refine HCO.out.mono ?_
  rintro e w1 ⟨rfl, hb1⟩
  have hq := fld_2 w1 nm f1 s1
  go_wp2
  go_ret
  exact ⟨rfl, hb1⟩
set_option maxRecDepth 100000 in
set_option maxHeartbeats 4000000 in
theorem num_3 (W : World) : Calls Tryd.prog 75 #[.string ⟨#[48, 51]⟩] W fun e w' => e = .returned (.int .i64 3) ∧ w' = W := by
  go_enter Tryd.func75, Tryd.ntmps75
  go_wp2_with fail
  go_loopw [4, 3] (fun i n wr => wr = W ∧ (i = .int .i64 0 ∧ n = .int .i64 0 ∨ i = .int .i64 1 ∧ n = .int .i64 0 ∨ i = .int .i64 2 ∧ n = .int .i64 3)) (fun i _ _ => 2 - (RowKit.intOf i).toNat)
  case atStart => exact ⟨rfl, .inl ⟨rfl, rfl⟩⟩
  case round =>
    obtain ⟨rfl, ⟨rfl, rfl⟩ | ⟨rfl, rfl⟩ | ⟨rfl, rfl⟩⟩ := hrel
    · go_wp2
      go_roundw
      case rel => exact ⟨by simp, .inr (.inl ⟨rfl, rfl⟩)⟩
      case measure => simp [RowKit.intOf]
    · go_wp2
      go_roundw
      case rel => exact ⟨by simp, .inr (.inr ⟨rfl, rfl⟩)⟩
      case measure => simp [RowKit.intOf]
    · go_wp2
      go_ret
      exact ⟨rfl, rfl⟩
set_option maxRecDepth 100000 in
set_option maxHeartbeats 4000000 in
theorem num_1 (W : World) : Calls Tryd.prog 75 #[.string ⟨#[48, 49]⟩] W fun e w' => e = .returned (.int .i64 1) ∧ w' = W := by
  go_enter Tryd.func75, Tryd.ntmps75
  go_wp2_with fail
  go_loopw [4, 3] (fun i n wr => wr = W ∧ (i = .int .i64 0 ∧ n = .int .i64 0 ∨ i = .int .i64 1 ∧ n = .int .i64 0 ∨ i = .int .i64 2 ∧ n = .int .i64 1)) (fun i _ _ => 2 - (RowKit.intOf i).toNat)
  case atStart => exact ⟨rfl, .inl ⟨rfl, rfl⟩⟩
  case round =>
    obtain ⟨rfl, ⟨rfl, rfl⟩ | ⟨rfl, rfl⟩ | ⟨rfl, rfl⟩⟩ := hrel
    · go_wp2
      go_roundw
      case rel => exact ⟨by simp, .inr (.inl ⟨rfl, rfl⟩)⟩
      case measure => simp [RowKit.intOf]
    · go_wp2
      go_roundw
      case rel => exact ⟨by simp, .inr (.inr ⟨rfl, rfl⟩)⟩
      case measure => simp [RowKit.intOf]
    · go_wp2
      go_ret
      exact ⟨rfl, rfl⟩
set_option maxRecDepth 100000 in
set_option maxHeartbeats 4000000 in
theorem num_5 (W : World) : Calls Tryd.prog 75 #[.string ⟨#[48, 53]⟩] W fun e w' => e = .returned (.int .i64 5) ∧ w' = W := by
  go_enter Tryd.func75, Tryd.ntmps75
  go_wp2_with fail
  go_loopw [4, 3] (fun i n wr => wr = W ∧ (i = .int .i64 0 ∧ n = .int .i64 0 ∨ i = .int .i64 1 ∧ n = .int .i64 0 ∨ i = .int .i64 2 ∧ n = .int .i64 5)) (fun i _ _ => 2 - (RowKit.intOf i).toNat)
  case atStart => exact ⟨rfl, .inl ⟨rfl, rfl⟩⟩
  case round =>
    obtain ⟨rfl, ⟨rfl, rfl⟩ | ⟨rfl, rfl⟩ | ⟨rfl, rfl⟩⟩ := hrel
    · go_wp2
      go_roundw
      case rel => exact ⟨by simp, .inr (.inl ⟨rfl, rfl⟩)⟩
      case measure => simp [RowKit.intOf]
    · go_wp2
      go_roundw
      case rel => exact ⟨by simp, .inr (.inr ⟨rfl, rfl⟩)⟩
      case measure => simp [RowKit.intOf]
    · go_wp2
      go_ret
      exact ⟨rfl, rfl⟩
set_option maxRecDepth 100000 in
set_option maxHeartbeats 4000000 in
theorem num_13 (W : World) : Calls Tryd.prog 75 #[.string ⟨#[48, 100]⟩] W fun e w' => e = .returned (.int .i64 13) ∧ w' = W := by
  go_enter Tryd.func75, Tryd.ntmps75
  go_wp2_with fail
  go_loopw [4, 3] (fun i n wr => wr = W ∧ (i = .int .i64 0 ∧ n = .int .i64 0 ∨ i = .int .i64 1 ∧ n = .int .i64 0 ∨ i = .int .i64 2 ∧ n = .int .i64 13)) (fun i _ _ => 2 - (RowKit.intOf i).toNat)
  case atStart => exact ⟨rfl, .inl ⟨rfl, rfl⟩⟩
  case round =>
    obtain ⟨rfl, ⟨rfl, rfl⟩ | ⟨rfl, rfl⟩ | ⟨rfl, rfl⟩⟩ := hrel
    · go_wp2
      go_roundw
      case rel => exact ⟨by simp, .inr (.inl ⟨rfl, rfl⟩)⟩
      case measure => simp [RowKit.intOf]
    · go_wp2
      go_roundw
      case rel => exact ⟨by simp, .inr (.inr ⟨rfl, rfl⟩)⟩
      case measure => simp [RowKit.intOf]
    · go_wp2
      go_ret
      exact ⟨rfl, rfl⟩
set_option maxRecDepth 100000 in
set_option maxHeartbeats 4000000 in
theorem num_15 (W : World) : Calls Tryd.prog 75 #[.string ⟨#[48, 102]⟩] W fun e w' => e = .returned (.int .i64 15) ∧ w' = W := by
  go_enter Tryd.func75, Tryd.ntmps75
  go_wp2_with fail
  go_loopw [4, 3] (fun i n wr => wr = W ∧ (i = .int .i64 0 ∧ n = .int .i64 0 ∨ i = .int .i64 1 ∧ n = .int .i64 0 ∨ i = .int .i64 2 ∧ n = .int .i64 15)) (fun i _ _ => 2 - (RowKit.intOf i).toNat)
  case atStart => exact ⟨rfl, .inl ⟨rfl, rfl⟩⟩
  case round =>
    obtain ⟨rfl, ⟨rfl, rfl⟩ | ⟨rfl, rfl⟩ | ⟨rfl, rfl⟩⟩ := hrel
    · go_wp2
      go_roundw
      case rel => exact ⟨by simp, .inr (.inl ⟨rfl, rfl⟩)⟩
      case measure => simp [RowKit.intOf]
    · go_wp2
      go_roundw
      case rel => exact ⟨by simp, .inr (.inr ⟨rfl, rfl⟩)⟩
      case measure => simp [RowKit.intOf]
    · go_wp2
      go_ret
      exact ⟨rfl, rfl⟩
set_option maxRecDepth 100000 in
set_option maxHeartbeats 4000000 in
theorem num_2 (W : World) : Calls Tryd.prog 75 #[.string ⟨#[48, 50]⟩] W fun e w' => e = .returned (.int .i64 2) ∧ w' = W := by
  go_enter Tryd.func75, Tryd.ntmps75
  go_wp2_with fail
  go_loopw [4, 3] (fun i n wr => wr = W ∧ (i = .int .i64 0 ∧ n = .int .i64 0 ∨ i = .int .i64 1 ∧ n = .int .i64 0 ∨ i = .int .i64 2 ∧ n = .int .i64 2)) (fun i _ _ => 2 - (RowKit.intOf i).toNat)
  case atStart => exact ⟨rfl, .inl ⟨rfl, rfl⟩⟩
  case round =>
    obtain ⟨rfl, ⟨rfl, rfl⟩ | ⟨rfl, rfl⟩ | ⟨rfl, rfl⟩⟩ := hrel
    · go_wp2
      go_roundw
      case rel => exact ⟨by simp, .inr (.inl ⟨rfl, rfl⟩)⟩
      case measure => simp [RowKit.intOf]
    · go_wp2
      go_roundw
      case rel => exact ⟨by simp, .inr (.inr ⟨rfl, rfl⟩)⟩
      case measure => simp [RowKit.intOf]
    · go_wp2
      go_ret
      exact ⟨rfl, rfl⟩
set_option maxRecDepth 100000 in
set_option maxHeartbeats 4000000 in
theorem num_6 (W : World) : Calls Tryd.prog 75 #[.string ⟨#[48, 54]⟩] W fun e w' => e = .returned (.int .i64 6) ∧ w' = W := by
  go_enter Tryd.func75, Tryd.ntmps75
  go_wp2_with fail
  go_loopw [4, 3] (fun i n wr => wr = W ∧ (i = .int .i64 0 ∧ n = .int .i64 0 ∨ i = .int .i64 1 ∧ n = .int .i64 0 ∨ i = .int .i64 2 ∧ n = .int .i64 6)) (fun i _ _ => 2 - (RowKit.intOf i).toNat)
  case atStart => exact ⟨rfl, .inl ⟨rfl, rfl⟩⟩
  case round =>
    obtain ⟨rfl, ⟨rfl, rfl⟩ | ⟨rfl, rfl⟩ | ⟨rfl, rfl⟩⟩ := hrel
    · go_wp2
      go_roundw
      case rel => exact ⟨by simp, .inr (.inl ⟨rfl, rfl⟩)⟩
      case measure => simp [RowKit.intOf]
    · go_wp2
      go_roundw
      case rel => exact ⟨by simp, .inr (.inr ⟨rfl, rfl⟩)⟩
      case measure => simp [RowKit.intOf]
    · go_wp2
      go_ret
      exact ⟨rfl, rfl⟩
set_option maxRecDepth 100000 in
set_option maxHeartbeats 4000000 in
theorem num_14 (W : World) : Calls Tryd.prog 75 #[.string ⟨#[48, 101]⟩] W fun e w' => e = .returned (.int .i64 14) ∧ w' = W := by
  go_enter Tryd.func75, Tryd.ntmps75
  go_wp2_with fail
  go_loopw [4, 3] (fun i n wr => wr = W ∧ (i = .int .i64 0 ∧ n = .int .i64 0 ∨ i = .int .i64 1 ∧ n = .int .i64 0 ∨ i = .int .i64 2 ∧ n = .int .i64 14)) (fun i _ _ => 2 - (RowKit.intOf i).toNat)
  case atStart => exact ⟨rfl, .inl ⟨rfl, rfl⟩⟩
  case round =>
    obtain ⟨rfl, ⟨rfl, rfl⟩ | ⟨rfl, rfl⟩ | ⟨rfl, rfl⟩⟩ := hrel
    · go_wp2
      go_roundw
      case rel => exact ⟨by simp, .inr (.inl ⟨rfl, rfl⟩)⟩
      case measure => simp [RowKit.intOf]
    · go_wp2
      go_roundw
      case rel => exact ⟨by simp, .inr (.inr ⟨rfl, rfl⟩)⟩
      case measure => simp [RowKit.intOf]
    · go_wp2
      go_ret
      exact ⟨rfl, rfl⟩
set_option maxRecDepth 100000 in
set_option maxHeartbeats 4000000 in
theorem num_17 (W : World) : Calls Tryd.prog 75 #[.string ⟨#[49, 49]⟩] W fun e w' => e = .returned (.int .i64 17) ∧ w' = W := by
  go_enter Tryd.func75, Tryd.ntmps75
  go_wp2_with fail
  go_loopw [4, 3] (fun i n wr => wr = W ∧ (i = .int .i64 0 ∧ n = .int .i64 0 ∨ i = .int .i64 1 ∧ n = .int .i64 1 ∨ i = .int .i64 2 ∧ n = .int .i64 17)) (fun i _ _ => 2 - (RowKit.intOf i).toNat)
  case atStart => exact ⟨rfl, .inl ⟨rfl, rfl⟩⟩
  case round =>
    obtain ⟨rfl, ⟨rfl, rfl⟩ | ⟨rfl, rfl⟩ | ⟨rfl, rfl⟩⟩ := hrel
    · go_wp2
      go_roundw
      case rel => exact ⟨by simp, .inr (.inl ⟨rfl, rfl⟩)⟩
      case measure => simp [RowKit.intOf]
    · go_wp2
      go_roundw
      case rel => exact ⟨by simp, .inr (.inr ⟨rfl, rfl⟩)⟩
      case measure => simp [RowKit.intOf]
    · go_wp2
      go_ret
      exact ⟨rfl, rfl⟩
set_option maxRecDepth 100000 in
set_option maxHeartbeats 4000000 in
theorem num_241 (W : World) : Calls Tryd.prog 75 #[.string ⟨#[102, 49]⟩] W fun e w' => e = .returned (.int .i64 241) ∧ w' = W := by
  go_enter Tryd.func75, Tryd.ntmps75
  go_wp2_with fail
  go_loopw [4, 3] (fun i n wr => wr = W ∧ (i = .int .i64 0 ∧ n = .int .i64 0 ∨ i = .int .i64 1 ∧ n = .int .i64 15 ∨ i = .int .i64 2 ∧ n = .int .i64 241)) (fun i _ _ => 2 - (RowKit.intOf i).toNat)
  case atStart => exact ⟨rfl, .inl ⟨rfl, rfl⟩⟩
  case round =>
    obtain ⟨rfl, ⟨rfl, rfl⟩ | ⟨rfl, rfl⟩ | ⟨rfl, rfl⟩⟩ := hrel
    · go_wp2
      go_roundw
      case rel => exact ⟨by simp, .inr (.inl ⟨rfl, rfl⟩)⟩
      case measure => simp [RowKit.intOf]
    · go_wp2
      go_roundw
      case rel => exact ⟨by simp, .inr (.inr ⟨rfl, rfl⟩)⟩
      case measure => simp [RowKit.intOf]
    · go_wp2
      go_ret
      exact ⟨rfl, rfl⟩
set_option maxRecDepth 100000 in
set_option maxHeartbeats 4000000 in
theorem num_245 (W : World) : Calls Tryd.prog 75 #[.string ⟨#[102, 53]⟩] W fun e w' => e = .returned (.int .i64 245) ∧ w' = W := by
  go_enter Tryd.func75, Tryd.ntmps75
  go_wp2_with fail
  go_loopw [4, 3] (fun i n wr => wr = W ∧ (i = .int .i64 0 ∧ n = .int .i64 0 ∨ i = .int .i64 1 ∧ n = .int .i64 15 ∨ i = .int .i64 2 ∧ n = .int .i64 245)) (fun i _ _ => 2 - (RowKit.intOf i).toNat)
  case atStart => exact ⟨rfl, .inl ⟨rfl, rfl⟩⟩
  case round =>
    obtain ⟨rfl, ⟨rfl, rfl⟩ | ⟨rfl, rfl⟩ | ⟨rfl, rfl⟩⟩ := hrel
    · go_wp2
      go_roundw
      case rel => exact ⟨by simp, .inr (.inl ⟨rfl, rfl⟩)⟩
      case measure => simp [RowKit.intOf]
    · go_wp2
      go_roundw
      case rel => exact ⟨by simp, .inr (.inr ⟨rfl, rfl⟩)⟩
      case measure => simp [RowKit.intOf]
    · go_wp2
      go_ret
      exact ⟨rfl, rfl⟩
set_option maxRecDepth 100000 in
set_option maxHeartbeats 4000000 in
theorem num_126 (W : World) : Calls Tryd.prog 75 #[.string ⟨#[55, 101]⟩] W fun e w' => e = .returned (.int .i64 126) ∧ w' = W := by
  go_enter Tryd.func75, Tryd.ntmps75
  go_wp2_with fail
  go_loopw [4, 3] (fun i n wr => wr = W ∧ (i = .int .i64 0 ∧ n = .int .i64 0 ∨ i = .int .i64 1 ∧ n = .int .i64 7 ∨ i = .int .i64 2 ∧ n = .int .i64 126)) (fun i _ _ => 2 - (RowKit.intOf i).toNat)
  case atStart => exact ⟨rfl, .inl ⟨rfl, rfl⟩⟩
  case round =>
    obtain ⟨rfl, ⟨rfl, rfl⟩ | ⟨rfl, rfl⟩ | ⟨rfl, rfl⟩⟩ := hrel
    · go_wp2
      go_roundw
      case rel => exact ⟨by simp, .inr (.inl ⟨rfl, rfl⟩)⟩
      case measure => simp [RowKit.intOf]
    · go_wp2
      go_roundw
      case rel => exact ⟨by simp, .inr (.inr ⟨rfl, rfl⟩)⟩
      case measure => simp [RowKit.intOf]
    · go_wp2
      go_ret
      exact ⟨rfl, rfl⟩
set_option maxRecDepth 100000 in
set_option maxHeartbeats 4000000 in
theorem num_111 (W : World) : Calls Tryd.prog 75 #[.string ⟨#[54, 102]⟩] W fun e w' => e = .returned (.int .i64 111) ∧ w' = W := by
  go_enter Tryd.func75, Tryd.ntmps75
  go_wp2_with fail
  go_loopw [4, 3] (fun i n wr => wr = W ∧ (i = .int .i64 0 ∧ n = .int .i64 0 ∨ i = .int .i64 1 ∧ n = .int .i64 6 ∨ i = .int .i64 2 ∧ n = .int .i64 111)) (fun i _ _ => 2 - (RowKit.intOf i).toNat)
  case atStart => exact ⟨rfl, .inl ⟨rfl, rfl⟩⟩
  case round =>
    obtain ⟨rfl, ⟨rfl, rfl⟩ | ⟨rfl, rfl⟩ | ⟨rfl, rfl⟩⟩ := hrel
    · go_wp2
      go_roundw
      case rel => exact ⟨by simp, .inr (.inl ⟨rfl, rfl⟩)⟩
      case measure => simp [RowKit.intOf]
    · go_wp2
      go_roundw
      case rel => exact ⟨by simp, .inr (.inr ⟨rfl, rfl⟩)⟩
      case measure => simp [RowKit.intOf]
    · go_wp2
      go_ret
      exact ⟨rfl, rfl⟩
set_option maxRecDepth 100000 in
set_option maxHeartbeats 4000000 in
theorem num_242 (W : World) : Calls Tryd.prog 75 #[.string ⟨#[102, 50]⟩] W fun e w' => e = .returned (.int .i64 242) ∧ w' = W := by
  go_enter Tryd.func75, Tryd.ntmps75
  go_wp2_with fail
  go_loopw [4, 3] (fun i n wr => wr = W ∧ (i = .int .i64 0 ∧ n = .int .i64 0 ∨ i = .int .i64 1 ∧ n = .int .i64 15 ∨ i = .int .i64 2 ∧ n = .int .i64 242)) (fun i _ _ => 2 - (RowKit.intOf i).toNat)
  case atStart => exact ⟨rfl, .inl ⟨rfl, rfl⟩⟩
  case round =>
    obtain ⟨rfl, ⟨rfl, rfl⟩ | ⟨rfl, rfl⟩ | ⟨rfl, rfl⟩⟩ := hrel
    · go_wp2
      go_roundw
      case rel => exact ⟨by simp, .inr (.inl ⟨rfl, rfl⟩)⟩
      case measure => simp [RowKit.intOf]
    · go_wp2
      go_roundw
      case rel => exact ⟨by simp, .inr (.inr ⟨rfl, rfl⟩)⟩
      case measure => simp [RowKit.intOf]
    · go_wp2
      go_ret
      exact ⟨rfl, rfl⟩
set_option maxRecDepth 100000 in
set_option maxHeartbeats 4000000 in
theorem num_246 (W : World) : Calls Tryd.prog 75 #[.string ⟨#[102, 54]⟩] W fun e w' => e = .returned (.int .i64 246) ∧ w' = W := by
  go_enter Tryd.func75, Tryd.ntmps75
  go_wp2_with fail
  go_loopw [4, 3] (fun i n wr => wr = W ∧ (i = .int .i64 0 ∧ n = .int .i64 0 ∨ i = .int .i64 1 ∧ n = .int .i64 15 ∨ i = .int .i64 2 ∧ n = .int .i64 246)) (fun i _ _ => 2 - (RowKit.intOf i).toNat)
  case atStart => exact ⟨rfl, .inl ⟨rfl, rfl⟩⟩
  case round =>
    obtain ⟨rfl, ⟨rfl, rfl⟩ | ⟨rfl, rfl⟩ | ⟨rfl, rfl⟩⟩ := hrel
    · go_wp2
      go_roundw
      case rel => exact ⟨by simp, .inr (.inl ⟨rfl, rfl⟩)⟩
      case measure => simp [RowKit.intOf]
    · go_wp2
      go_roundw
      case rel => exact ⟨by simp, .inr (.inr ⟨rfl, rfl⟩)⟩
      case measure => simp [RowKit.intOf]
    · go_wp2
      go_ret
      exact ⟨rfl, rfl⟩
set_option maxRecDepth 100000 in
set_option maxHeartbeats 4000000 in
theorem num_110 (W : World) : Calls Tryd.prog 75 #[.string ⟨#[54, 101]⟩] W fun e w' => e = .returned (.int .i64 110) ∧ w' = W := by
  go_enter Tryd.func75, Tryd.ntmps75
  go_wp2_with fail
  go_loopw [4, 3] (fun i n wr => wr = W ∧ (i = .int .i64 0 ∧ n = .int .i64 0 ∨ i = .int .i64 1 ∧ n = .int .i64 6 ∨ i = .int .i64 2 ∧ n = .int .i64 110)) (fun i _ _ => 2 - (RowKit.intOf i).toNat)
  case atStart => exact ⟨rfl, .inl ⟨rfl, rfl⟩⟩
  case round =>
    obtain ⟨rfl, ⟨rfl, rfl⟩ | ⟨rfl, rfl⟩ | ⟨rfl, rfl⟩⟩ := hrel
    · go_wp2
      go_roundw
      case rel => exact ⟨by simp, .inr (.inl ⟨rfl, rfl⟩)⟩
      case measure => simp [RowKit.intOf]
    · go_wp2
      go_roundw
      case rel => exact ⟨by simp, .inr (.inr ⟨rfl, rfl⟩)⟩
      case measure => simp [RowKit.intOf]
    · go_wp2
      go_ret
      exact ⟨rfl, rfl⟩
set_option maxRecDepth 100000 in
set_option maxHeartbeats 4000000 in
theorem num_243 (W : World) : Calls Tryd.prog 75 #[.string ⟨#[102, 51]⟩] W fun e w' => e = .returned (.int .i64 243) ∧ w' = W := by
  go_enter Tryd.func75, Tryd.ntmps75
  go_wp2_with fail
  go_loopw [4, 3] (fun i n wr => wr = W ∧ (i = .int .i64 0 ∧ n = .int .i64 0 ∨ i = .int .i64 1 ∧ n = .int .i64 15 ∨ i = .int .i64 2 ∧ n = .int .i64 243)) (fun i _ _ => 2 - (RowKit.intOf i).toNat)
  case atStart => exact ⟨rfl, .inl ⟨rfl, rfl⟩⟩
  case round =>
    obtain ⟨rfl, ⟨rfl, rfl⟩ | ⟨rfl, rfl⟩ | ⟨rfl, rfl⟩⟩ := hrel
    · go_wp2
      go_roundw
      case rel => exact ⟨by simp, .inr (.inl ⟨rfl, rfl⟩)⟩
      case measure => simp [RowKit.intOf]
    · go_wp2
      go_roundw
      case rel => exact ⟨by simp, .inr (.inr ⟨rfl, rfl⟩)⟩
      case measure => simp [RowKit.intOf]
    · go_wp2
      go_ret
      exact ⟨rfl, rfl⟩
def twoL : List ByteArray := [(⟨#[48, 51]⟩ : ByteArray), (⟨#[48, 49]⟩ : ByteArray), (⟨#[48, 53]⟩ : ByteArray), (⟨#[48, 100]⟩ : ByteArray), (⟨#[48, 102]⟩ : ByteArray), (⟨#[48, 50]⟩ : ByteArray), (⟨#[48, 54]⟩ : ByteArray), (⟨#[48, 101]⟩ : ByteArray), (⟨#[49, 49]⟩ : ByteArray), (⟨#[48, 51]⟩ : ByteArray), (⟨#[102, 49]⟩ : ByteArray), (⟨#[102, 53]⟩ : ByteArray), (⟨#[55, 101]⟩ : ByteArray), (⟨#[54, 102]⟩ : ByteArray), (⟨#[102, 50]⟩ : ByteArray), (⟨#[102, 54]⟩ : ByteArray), (⟨#[54, 101]⟩ : ByteArray), (⟨#[102, 51]⟩ : ByteArray)]
theorem eighteen {k : Nat} (h : k < 18) : k = 0 ∨ k = 1 ∨ k = 2 ∨ k = 3 ∨ k = 4 ∨ k = 5 ∨ k = 6 ∨ k = 7 ∨ k = 8 ∨ k = 9 ∨ k = 10 ∨ k = 11 ∨ k = 12 ∨ k = 13 ∨ k = 14 ∨ k = 15 ∨ k = 16 ∨ k = 17 := by omega
theorem num_at (k : Nat) (hk : k < 18) (X : ByteArray) (hX : X = twoL.getD k ByteArray.empty) (W : World) : Calls Tryd.prog 75 #[.string X] W fun e w' => e = .returned (.int .i64 (numL.getD k 0 : Nat)) ∧ w' = W := by
  subst hX
  rcases eighteen hk with rfl | rfl | rfl | rfl | rfl | rfl | rfl | rfl | rfl | rfl | rfl | rfl | rfl | rfl | rfl | rfl | rfl | rfl
  · exact num_3 W
  · exact num_1 W
  · exact num_5 W
  · exact num_13 W
  · exact num_15 W
  · exact num_2 W
  · exact num_6 W
  · exact num_14 W
  · exact num_17 W
  · exact num_3 W
  · exact num_241 W
  · exact num_245 W
  · exact num_126 W
  · exact num_111 W
  · exact num_242 W
  · exact num_246 W
  · exact num_110 W
  · exact num_243 W
end Go.Proofs.YtdpgmepblmlaaaaDoor
namespace Go.Proofs.YtdpgmepblmlaaaaDoor
open Go.RowKit Go.Lib Go.Deep

set_option maxRecDepth 100000 in
theorem sl_at (w : World) : ∀ k : Nat, k < 18 → (Instr.slice 9 (.string ⟨#[48, 51, 48, 49, 48, 53, 48, 100, 48, 102, 48, 50, 48, 54, 48, 101, 49, 49, 48, 51, 102, 49, 102, 53, 55, 101, 54, 102, 102, 50, 102, 54, 54, 101, 102, 51]⟩) (some (.int .i64 (2 * (k : Int)))) (some (.int .i64 (2 * (k : Int) + 2))) none).run Tryd.prog w = .ok (.string (twoL.getD k ByteArray.empty)) w := by
  intro k hk
  rcases eighteen hk with rfl | rfl | rfl | rfl | rfl | rfl | rfl | rfl | rfl | rfl | rfl | rfl | rfl | rfl | rfl | rfl | rfl | rfl
  all_goals kernel_rfl
theorem cmd_hit : ∀ b : Nat, b < 256 → ∀ i : Nat, i < 18 → numL.getD i 0 = b → cmdF b = (((i % 9 : Nat) : Int), true) := by decide +kernel
theorem cmd_mis : ∀ b : Nat, b < 256 → (∀ i : Nat, i < 18 → numL.getD i 0 ≠ b) → cmdF b = (0, false) := by decide +kernel
theorem mod9 : ∀ q : Nat, q < 18 → ((q : Int) % 9) = ((q % 9 : Nat) : Int) := fun q _ => by omega
set_option maxRecDepth 100000 in
set_option maxHeartbeats 4000000 in
theorem rcommand_any (b : Nat) (hb : b < 256) (W : World) : Calls Tryd.prog 56 #[.int .u8 b] W fun e w' => e = .returned (.int .i64 (if (cmdF b).2 then (cmdF b).1 else -1)) ∧ w' = W := by
  have HNUM := hid (fun q hq => num_at q hq _ rfl W)
  have HSL := hid (sl_at W)
  have HHIT := hid (fun i hi he => (show (if (cmdF b).2 then (cmdF b).1 else -1) = ((i % 9 : Nat) : Int) by rw [cmd_hit b hb i hi he]; simp))
  have HMIS := hid (fun h => (show (if (cmdF b).2 then (cmdF b).1 else -1) = (-1 : Int) by rw [cmd_mis b hb h]; simp))
  generalize (if (cmdF b).2 then (cmdF b).1 else -1) = R at HHIT HMIS ⊢
  have HNB := hid (fun q (hq : q < 18) => (show numL.getD q 0 < 256 from by
    have : ∀ q, q < 18 → numL.getD q 0 < 256 := by decide
    exact this q hq))
  go_enter Tryd.func56, Tryd.ntmps56
  go_wp2_with fail
  go_loopw [3] (fun i wr => wr = W ∧ ∃ q : Nat, q ≤ 18 ∧ i = .int .i64 q ∧ Hid (∀ j, j < q → numL.getD j 0 ≠ b)) (fun i _ => 18 - (RowKit.intOf i).toNat)
  case atStart => exact ⟨by rfl, 0, by omega, rfl, fun _ h => absurd h (Nat.not_lt_zero _)⟩
  case round =>
    obtain ⟨rfl, q, hq, rfl, HNO⟩ := hrel
    by_cases hlt : q < 18
    · have hqi : (q : Int) < 18 := by omega
      have hs := HSL.out q hlt
      have HN1 := hid (HNUM.out q hlt)
      have HH1 := hid (HHIT.out q hlt)
      have HNQ := hid (fun h => (show ∀ j, j < q + 1 → numL.getD j 0 ≠ b from fun j hj => by
        by_cases e : j < q
        · exact HNO.out j e
        · obtain rfl : j = q := by omega
          exact h))
      generalize twoL.getD q ByteArray.empty = X at hs HN1
      generalize numL.getD q 0 = v at HN1 HH1 HNQ
      go_wp2_with fail
      with_reducible refine HN1.out.mono ?_
      rintro e w1 ⟨rfl, rfl⟩
      by_cases hvb : v = b
      · subst hvb
        have HE := hid (HH1.out rfl)
        go_wp2
        refine bodyPost_ret (v := .int .i64 ((q % 9 : Nat) : Int)) ?_ rfl ⟨by rw [HE.out], rfl⟩
        simp [results, Tryd.results56, go_sem]
      · have hvi : ((v : Int) == (b : Int)) = false := by simp; omega
        go_wp2
        go_roundw
        case rel => exact ⟨by simp, q + 1, by omega, by go_num, HNQ.out hvb⟩
        case measure => simp [RowKit.intOf]; omega
    · obtain rfl : q = 18 := by omega
      have HE := hid (HMIS.out HNO.out)
      go_wp2
      refine bodyPost_ret (v := .int .i64 (-1)) ?_ rfl ⟨by rw [HE.out], rfl⟩
      simp [results, Tryd.results56, go_sem]
set_option maxRecDepth 100000 in
set_option maxHeartbeats 4000000 in
theorem rbyte_any (n : Int) (hn : I64 n) (W : World) : Calls Tryd.prog 58 #[.int .i64 n] W fun e w' => e = .returned (.int .u8 (ncF n).2.2) ∧ w' = W := by
  have hn1 := hn.1
  have hn2 := hn.2
  by_cases h0 : n < 0
  · rw [ncF_no (.inl h0)]
    go_enter Tryd.func58, Tryd.ntmps58
    go_wp2
    go_ret
    exact ⟨rfl, rfl⟩
  by_cases h9 : 9 ≤ n
  · rw [ncF_no (.inr h9)]
    have h8 : 8 < n := by omega
    go_enter Tryd.func58, Tryd.ntmps58
    go_wp2
    go_ret
    exact ⟨rfl, rfl⟩
  obtain ⟨k, rfl⟩ : ∃ k : Nat, n = k := ⟨n.toNat, by omega⟩
  have hk : k < 9 := by omega
  rw [ncF_at hk]
  clear hn hn1 hn2 h0 h9
  rcases nine hk with rfl | rfl | rfl | rfl | rfl | rfl | rfl | rfl | rfl
  · have HN := hid (num_3 W)
    have hs : (Instr.slice 9 (.string ⟨#[48, 51, 48, 49, 48, 53, 48, 100, 48, 102, 48, 50, 48, 54, 48, 101, 49, 49, 48, 51, 102, 49, 102, 53, 55, 101, 54, 102, 102, 50, 102, 54, 54, 101, 102, 51]⟩) (some (.int .i64 18)) (some (.int .i64 20)) none).run Tryd.prog W = .ok (.string ⟨#[48, 51]⟩) W := by kernel_rfl
    go_enter Tryd.func58, Tryd.ntmps58
    go_wp2_with fail
    with_reducible refine HN.out.mono ?_
    rintro e w1 ⟨rfl, rfl⟩
    go_wp2
    go_ret
    exact ⟨rfl, rfl⟩
  · have HN := hid (num_241 W)
    have hs : (Instr.slice 9 (.string ⟨#[48, 51, 48, 49, 48, 53, 48, 100, 48, 102, 48, 50, 48, 54, 48, 101, 49, 49, 48, 51, 102, 49, 102, 53, 55, 101, 54, 102, 102, 50, 102, 54, 54, 101, 102, 51]⟩) (some (.int .i64 20)) (some (.int .i64 22)) none).run Tryd.prog W = .ok (.string ⟨#[102, 49]⟩) W := by kernel_rfl
    go_enter Tryd.func58, Tryd.ntmps58
    go_wp2_with fail
    with_reducible refine HN.out.mono ?_
    rintro e w1 ⟨rfl, rfl⟩
    go_wp2
    go_ret
    exact ⟨rfl, rfl⟩
  · have HN := hid (num_245 W)
    have hs : (Instr.slice 9 (.string ⟨#[48, 51, 48, 49, 48, 53, 48, 100, 48, 102, 48, 50, 48, 54, 48, 101, 49, 49, 48, 51, 102, 49, 102, 53, 55, 101, 54, 102, 102, 50, 102, 54, 54, 101, 102, 51]⟩) (some (.int .i64 22)) (some (.int .i64 24)) none).run Tryd.prog W = .ok (.string ⟨#[102, 53]⟩) W := by kernel_rfl
    go_enter Tryd.func58, Tryd.ntmps58
    go_wp2_with fail
    with_reducible refine HN.out.mono ?_
    rintro e w1 ⟨rfl, rfl⟩
    go_wp2
    go_ret
    exact ⟨rfl, rfl⟩
  · have HN := hid (num_126 W)
    have hs : (Instr.slice 9 (.string ⟨#[48, 51, 48, 49, 48, 53, 48, 100, 48, 102, 48, 50, 48, 54, 48, 101, 49, 49, 48, 51, 102, 49, 102, 53, 55, 101, 54, 102, 102, 50, 102, 54, 54, 101, 102, 51]⟩) (some (.int .i64 24)) (some (.int .i64 26)) none).run Tryd.prog W = .ok (.string ⟨#[55, 101]⟩) W := by kernel_rfl
    go_enter Tryd.func58, Tryd.ntmps58
    go_wp2_with fail
    with_reducible refine HN.out.mono ?_
    rintro e w1 ⟨rfl, rfl⟩
    go_wp2
    go_ret
    exact ⟨rfl, rfl⟩
  · have HN := hid (num_111 W)
    have hs : (Instr.slice 9 (.string ⟨#[48, 51, 48, 49, 48, 53, 48, 100, 48, 102, 48, 50, 48, 54, 48, 101, 49, 49, 48, 51, 102, 49, 102, 53, 55, 101, 54, 102, 102, 50, 102, 54, 54, 101, 102, 51]⟩) (some (.int .i64 26)) (some (.int .i64 28)) none).run Tryd.prog W = .ok (.string ⟨#[54, 102]⟩) W := by kernel_rfl
    go_enter Tryd.func58, Tryd.ntmps58
    go_wp2_with fail
    with_reducible refine HN.out.mono ?_
    rintro e w1 ⟨rfl, rfl⟩
    go_wp2
    go_ret
    exact ⟨rfl, rfl⟩
  · have HN := hid (num_242 W)
    have hs : (Instr.slice 9 (.string ⟨#[48, 51, 48, 49, 48, 53, 48, 100, 48, 102, 48, 50, 48, 54, 48, 101, 49, 49, 48, 51, 102, 49, 102, 53, 55, 101, 54, 102, 102, 50, 102, 54, 54, 101, 102, 51]⟩) (some (.int .i64 28)) (some (.int .i64 30)) none).run Tryd.prog W = .ok (.string ⟨#[102, 50]⟩) W := by kernel_rfl
    go_enter Tryd.func58, Tryd.ntmps58
    go_wp2_with fail
    with_reducible refine HN.out.mono ?_
    rintro e w1 ⟨rfl, rfl⟩
    go_wp2
    go_ret
    exact ⟨rfl, rfl⟩
  · have HN := hid (num_246 W)
    have hs : (Instr.slice 9 (.string ⟨#[48, 51, 48, 49, 48, 53, 48, 100, 48, 102, 48, 50, 48, 54, 48, 101, 49, 49, 48, 51, 102, 49, 102, 53, 55, 101, 54, 102, 102, 50, 102, 54, 54, 101, 102, 51]⟩) (some (.int .i64 30)) (some (.int .i64 32)) none).run Tryd.prog W = .ok (.string ⟨#[102, 54]⟩) W := by kernel_rfl
    go_enter Tryd.func58, Tryd.ntmps58
    go_wp2_with fail
    with_reducible refine HN.out.mono ?_
    rintro e w1 ⟨rfl, rfl⟩
    go_wp2
    go_ret
    exact ⟨rfl, rfl⟩
  · have HN := hid (num_110 W)
    have hs : (Instr.slice 9 (.string ⟨#[48, 51, 48, 49, 48, 53, 48, 100, 48, 102, 48, 50, 48, 54, 48, 101, 49, 49, 48, 51, 102, 49, 102, 53, 55, 101, 54, 102, 102, 50, 102, 54, 54, 101, 102, 51]⟩) (some (.int .i64 32)) (some (.int .i64 34)) none).run Tryd.prog W = .ok (.string ⟨#[54, 101]⟩) W := by kernel_rfl
    go_enter Tryd.func58, Tryd.ntmps58
    go_wp2_with fail
    with_reducible refine HN.out.mono ?_
    rintro e w1 ⟨rfl, rfl⟩
    go_wp2
    go_ret
    exact ⟨rfl, rfl⟩
  · have HN := hid (num_243 W)
    have hs : (Instr.slice 9 (.string ⟨#[48, 51, 48, 49, 48, 53, 48, 100, 48, 102, 48, 50, 48, 54, 48, 101, 49, 49, 48, 51, 102, 49, 102, 53, 55, 101, 54, 102, 102, 50, 102, 54, 54, 101, 102, 51]⟩) (some (.int .i64 34)) (some (.int .i64 36)) none).run Tryd.prog W = .ok (.string ⟨#[102, 51]⟩) W := by kernel_rfl
    go_enter Tryd.func58, Tryd.ntmps58
    go_wp2_with fail
    with_reducible refine HN.out.mono ?_
    rintro e w1 ⟨rfl, rfl⟩
    go_wp2
    go_ret
    exact ⟨rfl, rfl⟩
end Go.Proofs.YtdpgmepblmlaaaaDoor
namespace Go.Proofs.YtdpgmepblmlaaaaDoor
open Go.RowKit Go.Lib Go.Deep

set_option maxRecDepth 100000 in
set_option maxHeartbeats 4000000 in
theorem reads_w (c : Int) (W : World) : Calls Tryd.prog 74 #[.int .i64 c] W fun e w' => e = .returned (.bool (decide (5 ≤ c) && decide (c ≤ 7))) ∧ w' = W := by
  by_cases h : 5 ≤ c
  · by_cases h2 : c ≤ 7
    · rw [decide_eq_true h, decide_eq_true h2]
      go_enter Tryd.func74, Tryd.ntmps74
      go_wp2
      go_ret
      exact ⟨rfl, rfl⟩
    · rw [decide_eq_true h, decide_eq_false h2]
      go_enter Tryd.func74, Tryd.ntmps74
      go_wp2
      go_ret
      exact ⟨rfl, rfl⟩
  · rw [decide_eq_false h, Bool.false_and]
    go_enter Tryd.func74, Tryd.ntmps74
    go_wp2
    go_ret
    exact ⟨rfl, rfl⟩
end Go.Proofs.YtdpgmepblmlaaaaDoor
namespace Go.Proofs.YtdpgmepblmlaaaaDoor
open Go.RowKit Go.Lib Go.Deep

theorem row_anyK {w : World} {base : Nat} {e : TypeId} {size n : Nat} {v : Value} {xs : List Value} (h : w.ownsRow base e size v n xs) : ∃ y cap, v = .slice y n cap := by
  rcases h.2 with ⟨rfl, h0⟩ | ⟨g, cap, cur, rfl, _⟩
  · exact ⟨none, 0, by rw [h0]⟩
  · exact ⟨_, cap, rfl⟩
theorem ints_one (l : List Int) : ∀ v ∈ l.map (Value.int .u8), v.oneCell' = true := by
  intro v hv
  obtain ⟨x, _, rfl⟩ := List.mem_map.1 hv
  rfl

theorem run_append_none (w : World) {B n : Nat} {v : Value} {xs : List Value} (h : w.ownsRow B 5 1 v n xs) (ty : TypeId) : (Builtin.append_ #[22, 22] ty #[v, .slice none 0 0]).run Tryd.prog w = .ok v w := by
  obtain ⟨i0, hi, hz0, hz1, hz2⟩ := info_parts info5
  rcases h.2 with ⟨rfl, _⟩ | ⟨g, cap, cur, rfl, _, _, hnc, _⟩
  · simp [Builtin.append_, run_underlying Tryd.underlying22, sizeOf, typeInfo, hi, Builtin.lenOf, Builtin.firstCells]
  · simp [Builtin.append_, run_underlying Tryd.underlying22, sizeOf, typeInfo, hi, Builtin.lenOf, Builtin.firstCells, hnc, storeCells]
theorem wpList_append_val {P : Program} {w w' : World} {ops : Array Oper} {rest : List Oper} {o : Oper} {a : Act} {Q : Exit → Act → World → Prop} (hgd : o.guard = none) (s x : Operand) (t : TypeId)
    (ho : o.op = .call { callee := .builtin .append, args := #[s, x], argTypes := #[t, t] }) (vs vx v' : Value) (hs : a.eval s = vs) (hx : a.eval x = vx) (hr : (Builtin.append_ #[t, t] o.type #[vs, vx]).run P w = .ok v' w')
    (h : wpList P ops Q rest (a.put o.dst v') w') : wpList P ops Q (o :: rest) a w :=
  wpList_plain hgd fun _ hK => by
    unfold Oper.wp execOp
    simp only [ho, resolve, invoke, builtin, Sem.run_bind, Sem.run_pure, Result.andThen_ok, List.map_toArray, List.map_cons, List.map_nil, hs, hx, hr]
    exact hK _ _ h
/-- An append of bytes onto a row of one's own, whatever the bytes are: one law for nil and the rest. -/
theorem append_bytes {w : World} {B n : Nat} {v u : Value} {ys xs : List Int} (h : w.ownsRow B 5 1 v n (ys.map (Value.int .u8))) (hu : Reads w u xs) (hn : n + xs.length ≤ 10000000) (hB : B ≤ w.heap.size) (ty : TypeId) :
    ∃ v' w', (Builtin.append_ #[22, 22] ty #[v, u]).run Tryd.prog w = .ok v' w' ∧ w'.ownsRow B 5 1 v' (n + xs.length) ((ys ++ xs).map (Value.int .u8)) ∧ w.grownBy w' v.ownBlock := by
  rcases hu.2 with ⟨rfl, rfl⟩ | ⟨a, cap, rfl, _, _, _⟩
  · exact ⟨v, w, run_append_none w h ty, by simpa using h, ⟨rfl, rfl, rfl, Nat.le_refl _, fun _ _ _ => rfl⟩⟩
  · obtain ⟨i0, hi, hz0, hz1, hz2⟩ := info_parts info5
    have hsrc := (reads_src hu).2
    obtain ⟨v', w', h1, h2, h3, _⟩ := run_append_own (P := Tryd.prog) w B 22 ty 5 i0 (.int .u8 0) 1 1 Tryd.underlying22 hi hz0 hz1 hz2 rfl (by decide) v n _ h a xs.length cap (xs.map (Value.int .u8)) (by simp) hsrc (ints_one xs) (by unfold maxLen; omega) (by omega) hB
    exact ⟨v', w', h1, by rw [List.map_append]; exact h2, h3⟩
theorem wpList_append_bytes {w : World} {ops : Array Oper} {rest : List Oper} {o : Oper} {a : Act} {Q : Exit → Act → World → Prop} (hgd : o.guard = none) (s x : Operand)
    (ho : o.op = .call { callee := .builtin .append, args := #[s, x], argTypes := #[22, 22] }) (B n : Nat) (v u : Value) (ys xs : List Int) (hs : a.eval s = v) (hx : a.eval x = u) (h : w.ownsRow B 5 1 v n (ys.map (Value.int .u8))) (hu : Reads w u xs) (hn : n + xs.length ≤ 10000000) (hB : B ≤ w.heap.size) (N : Nat) (hN : n + xs.length = N) (zs : List Int) (hz : ys ++ xs = zs)
    (hk : ∀ y cap w', w'.ownsRow B 5 1 (.slice y N cap) N (zs.map (Value.int .u8)) → w.grownBy w' v.ownBlock → wpList Tryd.prog ops Q rest (a.put o.dst (.slice y N cap)) w') : wpList Tryd.prog ops Q (o :: rest) a w := by
  subst hN hz
  obtain ⟨v', w', h1, h2, h3⟩ := append_bytes h hu hn hB o.type
  obtain ⟨y, cap, rfl⟩ := row_anyK h2
  exact wpList_append_val hgd s x 22 ho v u _ hs hx h1 (hk y cap w' h2 h3)

end Go.Proofs.YtdpgmepblmlaaaaDoor
