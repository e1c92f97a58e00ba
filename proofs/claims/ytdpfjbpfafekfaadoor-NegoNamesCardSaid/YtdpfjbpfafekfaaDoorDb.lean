/-
  What the listed variable 'reasons' gives the walks, and that the program's own start meets the condition.
-/
import Derived.Test.YtdpfjbpfafekfaaDoorRows
import Derived.Test.YtdpfjbpfafekfaaDoorDa
import Derived.ProofKit
import Derived.LaidMore
import Derived.OpenShut
import Derived.Stop.Joined
namespace Go.Proofs.YtdpfjbpfafekfaaDoor
open Go.ChangeShapes Go.WideShapes Go.ChangeAt Go.WideMaps Go.WideElems Go.RowKit

theorem own : ownKnob Tryd.prog.godebug = none := by kernel_rfl
theorem laidOut : laidOutB Tryd.prog = true := by kernel_rfl
theorem gNames : Tryd.prog.globalNamed "vitrine/nego.reasons" = some 0 := by kernel_rfl
theorem tNames : (Tryd.prog.globals[0]?).map (·.type) = some 46 := by kernel_rfl
def laidN : List (String × DataW Unit) := [("vitrine/nego.reasons", Rows.laid_vitrine_nego_reasons)]
theorem door_names (os : Os) (args : Array Value) : laidMetH Tryd.prog laidN ((World.doorLaid Tryd.prog 4000 os).forCall (fun _ _ => 0) ⟨#[], args, []⟩).memory :=
  laidMetH_of_parts3 (fuel := 8) (laidMet_of_run' 8 (by kernel_rfl) (by kernel_rfl)) (by kernel_rfl) (by kernel_rfl)
theorem getElem?_take_drop {α : Type} (l : List α) (j : Nat) (a : α) (h : (l.drop j).take 1 = [a]) : l[j]? = some a := by
  have e : ((l.drop j).take 1)[0]? = l[j]? := by rw [List.getElem?_take_of_lt (by omega), List.getElem?_drop, Nat.add_zero]
  rw [← e, h]
  rfl
theorem names_of_laid {W : World} (h : laidMetH Tryd.prog laidN W) : Names W := by
  rw [MakeChecks.laidMetH_plain _ _ _ (by kernel_rfl)] at h
  obtain ⟨ps, ⟨g0, t0, cs0, f0, p0, q0, hg0, ht0, hv0, hd0, _, _⟩, _, _⟩ := h
  obtain rfl := Option.some.inj (gNames.symm.trans hg0)
  obtain rfl := Option.some.inj (tNames.symm.trans ht0)
  obtain ⟨xs, m1, rfl, hx1, hlen, hn3, hel⟩ := DataW.trod_array Tryd.underlying46 hd0
  have c3 : Tryd.prog.cellsOf 9 = 1 := by kernel_rfl
  have hx2 : xs.map (fun x => x.1) = nameL.map (fun k => (.lit (.string k.data.toList) : DataW Unit)) := by
    have := (Prod.mk.inj hx1).1
    simp only [Rows.laid_vitrine_nego_reasons, DataW.agg.injEq] at this
    exact this.symm
  have hcells : ∀ j, j < 8 → W.cell? ⟨0, j, none⟩ = some (.string (nameS j)) := by
    intro j hj
    have h := hel j hj
    rw [c3, Nat.mul_one, List.getElem?_eq_getElem (show j < xs.length by omega)] at h
    obtain ⟨k, e1, e2, _⟩ := DataW.trod_string Tryd.underlying9 h
    rw [World.var?_cell hg0 hv0 j, ← Array.getElem?_toList, getElem?_take_drop _ _ _ e1]
    have h3 : (xs.map (fun x => x.1))[j]? = (nameL.map (fun k => (.lit (.string k.data.toList) : DataW Unit)))[j]? := by rw [hx2]
    rw [List.getElem?_map, List.getElem?_map, List.getElem?_eq_getElem (show j < xs.length by omega), List.getElem?_eq_getElem (show j < nameL.length from hj), e2] at h3
    simp only [Option.map_some, Option.some.injEq, DataW.lit.injEq, Lit.string.injEq] at h3
    have h4 : k = nameL[j]'hj := by
      obtain ⟨d⟩ := k
      have : d = (nameL[j]'hj).data := Array.toList_inj.1 h3
      rw [this]
    rw [h4, nameS, List.getD, List.getElem?_eq_getElem (show j < nameL.length from hj)]
    rfl
  exact ⟨World.block_lt_of_cell? W _ (hcells 0 (by omega)), hcells⟩
end Go.Proofs.YtdpfjbpfafekfaaDoor
