/-
  What the listed variables 'numbers' and 'escapes' give the walks, and that the program's own start meets the condition.
-/
import Derived.Test.YtadoiplfglaonaaDoorLaid
import Derived.Test.YtadoiplfglaonaaDoorEscw
import Derived.LaidSub
namespace Go.Proofs.YtadoiplfglaonaaDoor
open Go.ChangeShapes Go.WideShapes Go.ChangeAt Go.WideMaps Go.WideElems Go.RowKit

theorem gEscapes : Tryd.prog.globalNamed "vitrine/page.escapes" = some 0 := by kernel_rfl
theorem tEscapes : (Tryd.prog.globals[0]?).map (·.type) = some 105 := by kernel_rfl
def laidE : List (String × DataW Unit) := [("vitrine/page.numbers", Rows.laid_vitrine_page_numbers), ("vitrine/page.escapes", Rows.laid_vitrine_page_escapes)]
theorem door_escapes (os : Os) (args : Array Value) : laidMetH Tryd.prog laidE ((World.doorLaid Tryd.prog 4000 os).forCall (fun _ _ => 0) ⟨#[], args, []⟩).memory :=
  laidMetH_of_parts3 (fuel := 8) (laidMet_of_run' 8 (by kernel_rfl) (by kernel_rfl)) (by kernel_rfl) (by kernel_rfl)
theorem numbers_of_laidE {W : World} (h : laidMetH Tryd.prog laidE W) : Numbers W :=
  numbers_of_laid (laidMetH.filter (fun x => x.1 == "vitrine/page.numbers") h)
theorem escapes_of_laid {W : World} (h : laidMetH Tryd.prog laidE W) : Escapes W := by
  have h := laidMetH.filter (fun x => x.1 == "vitrine/page.escapes") h
  have h : laidMetH Tryd.prog [("vitrine/page.escapes", Rows.laid_vitrine_page_escapes)] W := h
  rw [MakeChecks.laidMetH_plain _ _ _ (by kernel_rfl)] at h
  obtain ⟨ps, ⟨g0, t0, cs0, f0, p0, q0, hg0, ht0, hv0, hd0, _, _⟩, _, _⟩ := h
  obtain rfl := Option.some.inj (gEscapes.symm.trans hg0)
  obtain rfl := Option.some.inj (tEscapes.symm.trans ht0)
  obtain ⟨xs, m1, rfl, hx1, hlen, hn3, hel⟩ := DataW.trod_array Tryd.underlying105 hd0
  have c104 : Tryd.prog.cellsOf 104 = 2 := by kernel_rfl
  have c105 : Tryd.prog.cellsOf 105 = 38 := by kernel_rfl
  have c5 : Tryd.prog.cellsOf 5 = 1 := by kernel_rfl
  have c21 : Tryd.prog.cellsOf 21 = 1 := by kernel_rfl
  have hx2 : xs.map (fun x => x.1) = escL.map (fun p => (.agg [.lit (.int .u8 p.1), .lit (.int .i32 p.2)] : DataW Unit)) := by
    have := (Prod.mk.inj hx1).1
    simp only [Rows.laid_vitrine_page_escapes, DataW.agg.injEq] at this
    exact this.symm
  have hcells : ∀ j, j < 19 → W.cell? ⟨0, j * 2, none⟩ = some (.int .u8 (escL.getD j (0, 0)).1) ∧ W.cell? ⟨0, j * 2 + 1, none⟩ = some (.int .i32 (escL.getD j (0, 0)).2) := by
    intro j hj
    have h := hel j hj
    rw [c104, List.getElem?_eq_getElem (show j < xs.length by omega)] at h
    obtain ⟨y0, y1, n, e, _, h0, h1⟩ := trod_struct2 Tryd.underlying104 h
    simp only [c5, c21, List.drop_zero] at h0 h1
    obtain ⟨a, e0, f0, _⟩ := DataW.trod_int Tryd.underlying5 h0
    obtain ⟨b, e1, f1, _⟩ := DataW.trod_int Tryd.underlying21 h1
    have g0 : cs0.toList[j * 2]? = some (.int .u8 a) := by
      have t : (List.take 1 (List.take 2 (List.drop (j * 2) cs0.toList)))[0]? = cs0.toList[j * 2]? := by
        rw [List.getElem?_take_of_lt (by omega), List.getElem?_take_of_lt (by omega), List.getElem?_drop, Nat.add_zero]
      rw [← t, e0]; rfl
    have g1 : cs0.toList[j * 2 + 1]? = some (.int .i32 b) := by
      have t : (List.take 1 (List.drop 1 (List.take 2 (List.drop (j * 2) cs0.toList))))[0]? = cs0.toList[j * 2 + 1]? := by
        rw [List.getElem?_take_of_lt (by omega), List.getElem?_drop, List.getElem?_take_of_lt (by omega), List.getElem?_drop]
      rw [← t, e1]; rfl
    have h3 : (xs.map (fun x => x.1))[j]? = (escL.map (fun p => (.agg [.lit (.int .u8 p.1), .lit (.int .i32 p.2)] : DataW Unit)))[j]? := by rw [hx2]
    rw [List.getElem?_map, List.getElem?_map, List.getElem?_eq_getElem (show j < xs.length by omega), List.getElem?_eq_getElem (show j < escL.length from hj), e, f0, f1] at h3
    simp only [Option.map_some, Option.some.injEq, DataW.agg.injEq, List.cons.injEq, DataW.lit.injEq, Lit.int.injEq, true_and, and_true] at h3
    rw [World.var?_cell hg0 hv0, World.var?_cell hg0 hv0, ← Array.getElem?_toList, ← Array.getElem?_toList, g0, g1, h3.1, h3.2, List.getD, List.getElem?_eq_getElem (show j < escL.length from hj)]
    exact ⟨rfl, rfl⟩
  refine ⟨World.block_lt_of_cell? W _ (hcells 0 (by omega)).1, fun i v hv => ?_⟩
  have hi : i < 38 := by have := (List.getElem?_eq_some_iff.1 hv).1; rw [flat_escL_length] at this; exact this
  have hj : i / 2 < 19 := by omega
  have hq : escL[i / 2]? = some ((escL.getD (i / 2) (0, 0)).1, (escL.getD (i / 2) (0, 0)).2) := by
    rw [List.getD, List.getElem?_eq_getElem (show i / 2 < escL.length from hj)]
    rfl
  obtain ⟨k0, k1⟩ := flat_at escL (i / 2) _ _ hq
  obtain ⟨m0, m1⟩ := hcells (i / 2) hj
  rw [Nat.zero_add]
  rcases Nat.mod_two_eq_zero_or_one i with h2 | h2
  · rw [show i / 2 * 2 = i by omega] at k0 m0
    rw [m0, ← hv, k0]
  · rw [show i / 2 * 2 + 1 = i by omega] at k1 m1
    rw [m1, ← hv, k1]
end Go.Proofs.YtadoiplfglaonaaDoor
