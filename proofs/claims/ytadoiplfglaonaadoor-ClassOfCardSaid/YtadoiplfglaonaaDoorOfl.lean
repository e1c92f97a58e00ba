/-
  What the listed variables 'numbers' and 'names' give the walks, and that the program's own start meets the condition.
-/
import Derived.Test.YtadoiplfglaonaaDoorLaid
import Derived.Test.YtadoiplfglaonaaDoorOfn
import Derived.LaidSub
namespace Go.Proofs.YtadoiplfglaonaaDoor
open Go.ChangeShapes Go.WideShapes Go.ChangeAt Go.WideMaps Go.WideElems Go.RowKit

theorem gNames : Tryd.prog.globalNamed "vitrine/class.names" = some 2 := by kernel_rfl
theorem tNames : (Tryd.prog.globals[2]?).map (·.type) = some 109 := by kernel_rfl
def laidC : List (String × DataW Unit) := [("vitrine/page.numbers", Rows.laid_vitrine_page_numbers), ("vitrine/class.names", Rows.laid_vitrine_class_names)]
theorem door_names (os : Os) (args : Array Value) : laidMetH Tryd.prog laidC ((World.doorLaid Tryd.prog 4000 os).forCall (fun _ _ => 0) ⟨#[], args, []⟩).memory :=
  laidMetH_of_parts3 (fuel := 8) (laidMet_of_run' 8 (by kernel_rfl) (by kernel_rfl)) (by kernel_rfl) (by kernel_rfl)
theorem numbers_of_laidC {W : World} (h : laidMetH Tryd.prog laidC W) : Numbers W :=
  numbers_of_laid (laidMetH.filter (fun x => x.1 == "vitrine/page.numbers") h)
theorem names_of_laid {W : World} (h : laidMetH Tryd.prog laidC W) : Names W := by
  have h := laidMetH.filter (fun x => x.1 == "vitrine/class.names") h
  have h : laidMetH Tryd.prog [("vitrine/class.names", Rows.laid_vitrine_class_names)] W := h
  rw [MakeChecks.laidMetH_plain _ _ _ (by kernel_rfl)] at h
  obtain ⟨ps, ⟨g0, t0, cs0, f0, p0, q0, hg0, ht0, hv0, hd0, _, _⟩, _, _⟩ := h
  obtain rfl := Option.some.inj (gNames.symm.trans hg0)
  obtain rfl := Option.some.inj (tNames.symm.trans ht0)
  obtain ⟨xs, m1, rfl, hx1, hlen, hn3, hel⟩ := DataW.trod_array Tryd.underlying109 hd0
  have c9 : Tryd.prog.cellsOf 9 = 1 := by kernel_rfl
  have hx2 : xs.map (fun x => x.1) = namesL.map (fun k => (.lit (.string k) : DataW Unit)) := by
    have := (Prod.mk.inj hx1).1
    simp only [Rows.laid_vitrine_class_names, DataW.agg.injEq] at this
    exact this.symm
  have hcells : ∀ j, j < 8 → W.cell? ⟨2, j, none⟩ = some (.string (nameB j)) := by
    intro j hj
    have h := hel j hj
    rw [c9, Nat.mul_one, List.getElem?_eq_getElem (show j < xs.length by omega)] at h
    obtain ⟨s, e1, e2, _⟩ := DataW.trod_string Tryd.underlying9 h
    rw [World.var?_cell hg0 hv0 j, ← Array.getElem?_toList, getElem?_take_drop _ _ _ e1]
    have h3 : (xs.map (fun x => x.1))[j]? = (namesL.map (fun k => (.lit (.string k) : DataW Unit)))[j]? := by rw [hx2]
    rw [List.getElem?_map, List.getElem?_map, List.getElem?_eq_getElem (show j < xs.length by omega), List.getElem?_eq_getElem (show j < namesL.length from hj), e2] at h3
    simp only [Option.map_some, Option.some.injEq, DataW.lit.injEq, Lit.string.injEq] at h3
    have e3 : s = nameB j := by
      apply bytes_inj
      rw [h3, nameB, List.getD, List.getElem?_eq_getElem (show j < namesL.length from hj)]
      rfl
    rw [e3]
  exact ⟨World.block_lt_of_cell? W _ (hcells 0 (by omega)), hcells⟩
end Go.Proofs.YtadoiplfglaonaaDoor
