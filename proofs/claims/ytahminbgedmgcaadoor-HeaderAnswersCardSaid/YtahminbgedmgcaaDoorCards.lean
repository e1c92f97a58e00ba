/-
  DERIVED. GIVEN WITH THE SEED: THE CARDS: each row of YtahminbgedmgcaaDoorRows.lean that lists a variable, with what it lists TIED to the program's text (the seventh form; the later family's looks); each row that meets fmt, with fmt's text TOLD by the authors' own Lean function (tested against real Go, not proved from fmt's source: count such statements apart). THE CARD IS WHAT COUNTS. Prove the row's statement (the work); the ties are given (YtahminbgedmgcaaDoorTie.lean); close each card by the builder's one call (the guide's Derived/Test/ToyasCard.lean, 'card_holds'). Laid BY PROGRAM, IN A SANDBOX (cutbox-door.mjs). By AI agents, Wed Nov 11 2026. No macro, syntax, notation, axiom, sorry.
-/
import Derived.Test.YtahminbgedmgcaaDoorRows
import GoSem.ClaimSeven
namespace Go.Proofs.YtahminbgedmgcaaDoor
namespace Rows

/-- THE TIED CARD OF 'vitrinelaw09.HeaderCodes'. -/
def headerCodesCard : Claim7 := { stood := { row := headerCodesRow, standIns := [], harness := (true, "25eb7194588e0c7952b8c5c9dc8cf6e8f7ec9b56f7f67538e3f82fdf5a1fcc44"), looks := false }, kinds := [], alts := [], laidByText := true, laidKinds := [.data], laidTests := true, laidLooks := .later }
def HeaderCodesCardSaid : Prop := Claim7.holds Tryd.pinned (.plain (OpenSpec.ofChange headerCodesSpec)) headerCodesCard

/-- THE TIED CARD OF 'vitrinelaw09.HeaderAnswers'. -/
def headerAnswersCard : Claim7 := { stood := { row := headerAnswersRow, standIns := [], harness := (true, "25eb7194588e0c7952b8c5c9dc8cf6e8f7ec9b56f7f67538e3f82fdf5a1fcc44"), looks := false }, kinds := [], alts := [], laidByText := true, laidKinds := [.data], laidTests := true, laidLooks := .later }
def HeaderAnswersCardSaid : Prop := Claim7.holds Tryd.pinned (.plain (OpenSpec.ofChange headerAnswersSpec)) headerAnswersCard

/-- THE TIED CARD OF 'vitrinelaw09.HeaderResponses'. -/
def headerResponsesCard : Claim7 := { stood := { row := headerResponsesRow, standIns := [], harness := (true, "25eb7194588e0c7952b8c5c9dc8cf6e8f7ec9b56f7f67538e3f82fdf5a1fcc44"), looks := false }, kinds := [], alts := [], laidByText := true, laidKinds := [.data], laidTests := true, laidLooks := .later }
def HeaderResponsesCardSaid : Prop := Claim7.holds Tryd.pinned (.plain (OpenSpec.ofChange headerResponsesSpec)) headerResponsesCard

/-- THE SECOND FORM's CARD OF 'vitrinelaw09.HeaderCodes'. -/
def headerCodesUptoCard : Claim7 := { stood := { row := headerCodesUptoRow, standIns := [], harness := (true, "25eb7194588e0c7952b8c5c9dc8cf6e8f7ec9b56f7f67538e3f82fdf5a1fcc44"), looks := false }, kinds := [], alts := [], laidByText := true, laidKinds := [.data], laidTests := true, laidLooks := .later }
def HeaderCodesUptoCardSaid : Prop := Claim7.holds Tryd.pinned (.plain (OpenSpec.upto headerCodesSpec)) headerCodesUptoCard

/-- THE SECOND FORM's CARD OF 'vitrinelaw09.HeaderAnswers'. -/
def headerAnswersUptoCard : Claim7 := { stood := { row := headerAnswersUptoRow, standIns := [], harness := (true, "25eb7194588e0c7952b8c5c9dc8cf6e8f7ec9b56f7f67538e3f82fdf5a1fcc44"), looks := false }, kinds := [], alts := [], laidByText := true, laidKinds := [.data], laidTests := true, laidLooks := .later }
def HeaderAnswersUptoCardSaid : Prop := Claim7.holds Tryd.pinned (.plain (OpenSpec.upto headerAnswersSpec)) headerAnswersUptoCard

/-- THE SECOND FORM's CARD OF 'vitrinelaw09.HeaderResponses'. -/
def headerResponsesUptoCard : Claim7 := { stood := { row := headerResponsesUptoRow, standIns := [], harness := (true, "25eb7194588e0c7952b8c5c9dc8cf6e8f7ec9b56f7f67538e3f82fdf5a1fcc44"), looks := false }, kinds := [], alts := [], laidByText := true, laidKinds := [.data], laidTests := true, laidLooks := .later }
def HeaderResponsesUptoCardSaid : Prop := Claim7.holds Tryd.pinned (.plain (OpenSpec.upto headerResponsesSpec)) headerResponsesUptoCard
end Rows
end Go.Proofs.YtahminbgedmgcaaDoor
