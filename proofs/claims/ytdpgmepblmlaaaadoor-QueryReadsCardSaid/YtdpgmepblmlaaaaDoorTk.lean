/-
  What the listed variable 'numbers' gives the walks, and that the program's own start meets the condition.
-/
import Derived.Test.YtdpgmepblmlaaaaDoorRows
import Derived.Test.YtdpgmepblmlaaaaDoorTi
import Derived.ProofKit
import Derived.LaidMore
import Derived.OpenShut
import Derived.Stop.Joined
namespace Go.Proofs.YtdpgmepblmlaaaaDoor
open Go.ChangeShapes Go.WideShapes Go.ChangeAt Go.WideMaps Go.WideElems Go.RowKit

theorem gNumbers : Tryd.prog.globalNamed "vitrine/page.numbers" = some 2 := by kernel_rfl
theorem tNumbers : (Tryd.prog.globals[2]?).map (·.type) = some 154 := by kernel_rfl
def laidP : List (String × DataW Unit) := [("vitrine/page.numbers", Rows.laid_vitrine_page_numbers)]
theorem door_numbers (os : Os) (args : Array Value) : laidMetH Tryd.prog laidP ((World.doorLaid Tryd.prog 4000 os).forCall (fun _ _ => 0) ⟨#[], args, []⟩).memory :=
  laidMetH_of_parts3 (fuel := 8) (laidMet_of_run' 8 (by kernel_rfl) (by kernel_rfl)) (by kernel_rfl) (by kernel_rfl)

theorem getElem?_take_dropP {α : Type} (l : List α) (j : Nat) (a : α) (h : (l.drop j).take 1 = [a]) : l[j]? = some a := by
  have e : ((l.drop j).take 1)[0]? = l[j]? := by rw [List.getElem?_take_of_lt (by omega), List.getElem?_drop, Nat.add_zero]
  rw [← e, h]
  rfl
theorem numbers_of_laid {W : World} (h : laidMetH Tryd.prog laidP W) : Numbers W := by
  rw [MakeChecks.laidMetH_plain _ _ _ (by kernel_rfl)] at h
  obtain ⟨ps, ⟨g0, t0, cs0, f0, p0, q0, hg0, ht0, hv0, hd0, _, _⟩, _, _⟩ := h
  obtain rfl := Option.some.inj (gNumbers.symm.trans hg0)
  obtain rfl := Option.some.inj (tNumbers.symm.trans ht0)
  obtain ⟨xs, m1, rfl, hx1, hlen, hn3, hel⟩ := DataW.trod_array Tryd.underlying154 hd0
  have c3 : Tryd.prog.cellsOf 3 = 1 := by kernel_rfl
  have c6 : Tryd.prog.cellsOf 154 = 6 := by kernel_rfl
  have hx2 : xs.map (fun x => x.1) = pagesL.map (fun k => (.lit (.int .i64 k) : DataW Unit)) := by
    have := (Prod.mk.inj hx1).1
    simp only [Rows.laid_vitrine_page_numbers, DataW.agg.injEq] at this
    exact this.symm
  have hcells : ∀ j, j < 6 → W.cell? ⟨2, j, none⟩ = some (.int .i64 (pagesL.getD j 0)) := by
    intro j hj
    have h := hel j hj
    rw [c3, Nat.mul_one, List.getElem?_eq_getElem (show j < xs.length by omega)] at h
    obtain ⟨k, e1, e2, _⟩ := DataW.trod_int Tryd.underlying3 h
    rw [World.var?_cell hg0 hv0 j, ← Array.getElem?_toList, getElem?_take_dropP _ _ _ e1]
    have h3 : (xs.map (fun x => x.1))[j]? = (pagesL.map (fun k => (.lit (.int .i64 k) : DataW Unit)))[j]? := by rw [hx2]
    rw [List.getElem?_map, List.getElem?_map, List.getElem?_eq_getElem (show j < xs.length by omega), List.getElem?_eq_getElem (show j < pagesL.length from hj), e2] at h3
    simp only [Option.map_some, Option.some.injEq, DataW.lit.injEq, Lit.int.injEq, true_and] at h3
    rw [h3, List.getD, List.getElem?_eq_getElem (show j < pagesL.length from hj)]
    rfl
  exact ⟨World.block_lt_of_cell? W _ (hcells 0 (by omega)), hcells⟩
end Go.Proofs.YtdpgmepblmlaaaaDoor
