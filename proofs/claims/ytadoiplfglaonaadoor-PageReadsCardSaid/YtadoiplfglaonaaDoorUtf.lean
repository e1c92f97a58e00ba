/-
  What the listed variables 'numbers', 'acceptRanges' and 'first' give the walks, and that the program's own start meets the condition.
-/
import Derived.Test.YtadoiplfglaonaaDoorLaid
import Derived.LaidSub
import Derived.Lay
namespace Go.Proofs.YtadoiplfglaonaaDoor
open Go.ChangeShapes Go.WideShapes Go.ChangeAt Go.WideMaps Go.WideElems Go.RowKit

def laidU : List (String × DataW Unit) := [("unicode/utf8.acceptRanges", Rows.laid_unicode_utf8_acceptRanges), ("vitrine/page.numbers", Rows.laid_vitrine_page_numbers), ("unicode/utf8.first", Rows.laid_unicode_utf8_first)]
theorem door_utf (os : Os) (args : Array Value) : laidMetH Tryd.prog laidU ((World.laidAll Tryd.prog os laidU).forCall (fun _ _ => 0) ⟨#[], args, []⟩).memory := by
  rw [MakeChecks.laidMetH_plain _ _ _ (by kernel_rfl)]
  exact laidMet_laidAll _ (by kernel_rfl) (by kernel_rfl)
theorem numbers_of_laidU {W : World} (h : laidMetH Tryd.prog laidU W) : Numbers W :=
  numbers_of_laid (laidMetH.filter (fun x => x.1 == "vitrine/page.numbers") h)
end Go.Proofs.YtadoiplfglaonaaDoor
