/-
  What the listed variable 'codings' gives the walks, and that the program's own start meets the condition.
-/
import Derived.Test.YtdampfngdnicoaaDoorRows
import Derived.Test.YtdampfngdnicoaaDoorMk
import Derived.ProofKit
import Derived.LaidMore
import Derived.OpenShut
import Derived.Stop.Joined
import Derived.Deep.Strs
namespace Go.Proofs.YtdampfngdnicoaaDoor
open Go.ChangeShapes Go.WideShapes Go.ChangeAt Go.WideMaps Go.WideElems Go.RowKit Go.Deep

theorem gCods : Tryd.prog.globalNamed "vitrine/write.codings" = some 0 := by kernel_rfl
theorem tCods : (Tryd.prog.globals[0]?).map (·.type) = some 82 := by kernel_rfl
def laidN : List (String × DataW Unit) := [("vitrine/write.codings", Rows.laid_vitrine_write_codings)]
theorem door_codings (os : Os) (args : Array Value) : laidMetH Tryd.prog laidN ((World.doorLaid Tryd.prog 4000 os).forCall (fun _ _ => 0) ⟨#[], args, []⟩).memory :=
  laidMetH_of_parts3 (fuel := 8) (laidMet_of_run' 8 (by kernel_rfl) (by kernel_rfl)) (by kernel_rfl) (by kernel_rfl)
theorem codC_at : ∀ j, j < 9 → codC[j * 3]? = some (.string (codL.getD j (ByteArray.empty, 0, 0)).1) ∧ codC[j * 3 + 1]? = some (.int .u8 (codL.getD j (ByteArray.empty, 0, 0)).2.1) ∧ codC[j * 3 + 2]? = some (.int .u8 (codL.getD j (ByteArray.empty, 0, 0)).2.2) := by
  intro j hj
  have : j = 0 ∨ j = 1 ∨ j = 2 ∨ j = 3 ∨ j = 4 ∨ j = 5 ∨ j = 6 ∨ j = 7 ∨ j = 8 := by omega
  rcases this with rfl | rfl | rfl | rfl | rfl | rfl | rfl | rfl | rfl <;> exact ⟨rfl, rfl, rfl⟩
theorem cods_of_laid {W : World} (h : laidMetH Tryd.prog laidN W) : Cods W := by
  have h : laidMetH Tryd.prog [("vitrine/write.codings", Rows.laid_vitrine_write_codings)] W := h
  rw [MakeChecks.laidMetH_plain _ _ _ (by kernel_rfl)] at h
  obtain ⟨ps, ⟨g0, t0, cs0, f0, p0, q0, hg0, ht0, hv0, hd0, _, _⟩, _, _⟩ := h
  obtain rfl := Option.some.inj (gCods.symm.trans hg0)
  obtain rfl := Option.some.inj (tCods.symm.trans ht0)
  obtain ⟨xs, m1, rfl, hx1, hlen, hn3, hel⟩ := DataW.trod_array Tryd.underlying82 hd0
  have ca : Tryd.prog.cellsOf 81 = 3 := by kernel_rfl
  have c5 : Tryd.prog.cellsOf 5 = 1 := by kernel_rfl
  have cs : Tryd.prog.cellsOf 9 = 1 := by kernel_rfl
  have hx2 : xs.map (fun x => x.1) = codL.map (fun p => (.agg [.lit (.string p.1.data.toList), .lit (.int .u8 p.2.1), .lit (.int .u8 p.2.2)] : DataW Unit)) := by
    have := (Prod.mk.inj hx1).1
    simp only [Rows.laid_vitrine_write_codings, DataW.agg.injEq] at this
    exact this.symm
  have hcells : ∀ j, j < 9 → W.cell? ⟨0, j * 3, none⟩ = some (.string (codL.getD j (ByteArray.empty, 0, 0)).1) ∧ W.cell? ⟨0, j * 3 + 1, none⟩ = some (.int .u8 (codL.getD j (ByteArray.empty, 0, 0)).2.1) ∧ W.cell? ⟨0, j * 3 + 2, none⟩ = some (.int .u8 (codL.getD j (ByteArray.empty, 0, 0)).2.2) := by
    intro j hj
    have h := hel j hj
    rw [ca, List.getElem?_eq_getElem (show j < xs.length by omega)] at h
    obtain ⟨y0, y1, y2, n, e, _, h0, h1, h2⟩ := trod_struct3 Tryd.underlying81 h
    simp only [c5, cs, List.drop_zero] at h0 h1 h2
    obtain ⟨a, e0, f0, _⟩ := DataW.trod_string Tryd.underlying9 h0
    obtain ⟨b, e1, f1, _⟩ := DataW.trod_int Tryd.underlying5 h1
    obtain ⟨c, e2, f2, _⟩ := DataW.trod_int Tryd.underlying5 h2
    have g0 : cs0.toList[j * 3]? = some (.string a) := by
      have t : (List.take 1 (List.take 3 (List.drop (j * 3) cs0.toList)))[0]? = cs0.toList[j * 3]? := by
        rw [List.getElem?_take_of_lt (by omega), List.getElem?_take_of_lt (by omega), List.getElem?_drop, Nat.add_zero]
      rw [← t, e0]; rfl
    have g1 : cs0.toList[j * 3 + 1]? = some (.int .u8 b) := by
      have t : (List.take 1 (List.drop 1 (List.take 3 (List.drop (j * 3) cs0.toList))))[0]? = cs0.toList[j * 3 + 1]? := by
        rw [List.getElem?_take_of_lt (by omega), List.getElem?_drop, List.getElem?_take_of_lt (by omega), List.getElem?_drop]
      rw [← t, e1]; rfl
    have g2 : cs0.toList[j * 3 + 2]? = some (.int .u8 c) := by
      have t : (List.take 1 (List.drop 2 (List.take 3 (List.drop (j * 3) cs0.toList))))[0]? = cs0.toList[j * 3 + 2]? := by
        rw [List.getElem?_take_of_lt (by omega), List.getElem?_drop, List.getElem?_take_of_lt (by omega), List.getElem?_drop]
      rw [← t, e2]; rfl
    have h3 : (xs.map (fun x => x.1))[j]? = (codL.map (fun p => (.agg [.lit (.string p.1.data.toList), .lit (.int .u8 p.2.1), .lit (.int .u8 p.2.2)] : DataW Unit)))[j]? := by rw [hx2]
    rw [List.getElem?_map, List.getElem?_map, List.getElem?_eq_getElem (show j < xs.length by omega), List.getElem?_eq_getElem (show j < codL.length from hj), e, f0, f1, f2] at h3
    simp only [Option.map_some, Option.some.injEq, DataW.agg.injEq, List.cons.injEq, DataW.lit.injEq, Lit.int.injEq, Lit.string.injEq, true_and, and_true] at h3
    have h4 : a = (codL[j]'hj).1 := by
      obtain ⟨d⟩ := a
      have : d = (codL[j]'hj).1.data := Array.toList_inj.1 h3.1
      rw [this]
    rw [World.var?_cell hg0 hv0, World.var?_cell hg0 hv0, World.var?_cell hg0 hv0, ← Array.getElem?_toList, ← Array.getElem?_toList, ← Array.getElem?_toList, g0, g1, g2, h4, h3.2.1, h3.2.2, List.getD, List.getElem?_eq_getElem (show j < codL.length from hj)]
    exact ⟨rfl, rfl, rfl⟩
  refine ⟨fun i v hv => ?_, World.block_lt_of_cell? W _ (hcells 0 (by omega)).1⟩
  have hi : i < 27 := (List.getElem?_eq_some_iff.1 hv).1
  have hj : i / 3 < 9 := by omega
  obtain ⟨k0, k1, k2⟩ := codC_at (i / 3) hj
  obtain ⟨m0, m1, m2⟩ := hcells (i / 3) hj
  rw [Nat.zero_add]
  rcases (show i % 3 = 0 ∨ i % 3 = 1 ∨ i % 3 = 2 by omega) with h2 | h2 | h2
  · rw [show i / 3 * 3 = i by omega] at k0 m0
    rw [m0, ← hv, k0]
  · rw [show i / 3 * 3 + 1 = i by omega] at k1 m1
    rw [m1, ← hv, k1]
  · rw [show i / 3 * 3 + 2 = i by omega] at k2 m2
    rw [m2, ← hv, k2]
end Go.Proofs.YtdampfngdnicoaaDoor
