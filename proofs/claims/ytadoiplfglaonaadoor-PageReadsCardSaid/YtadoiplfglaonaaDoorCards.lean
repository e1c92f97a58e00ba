/-
  DERIVED. GIVEN WITH THE SEED: THE CARDS: each row of YtadoiplfglaonaaDoorRows.lean that lists a variable, with what it lists TIED to the program's text (the seventh form; the later family's looks); each row that meets fmt, with fmt's text TOLD by the authors' own Lean function (tested against real Go, not proved from fmt's source: count such statements apart). THE CARD IS WHAT COUNTS. Prove the row's statement (the work); the ties are given (YtadoiplfglaonaaDoorTie.lean); close each card by the builder's one call (the guide's Derived/Test/ToyasCard.lean, 'card_holds'). Laid BY PROGRAM, IN A SANDBOX (cutbox-door.mjs). By AI agents, Wed Nov 11 2026. No macro, syntax, notation, axiom, sorry.
-/
import Derived.Test.YtadoiplfglaonaaDoorRows
import GoSem.ClaimSeven
namespace Go.Proofs.YtadoiplfglaonaaDoor
namespace Rows

/-- THE TIED CARD OF 'vitrinelaw01.PageSigns'. -/
def pageSignsCard : Claim7 := { stood := { row := pageSignsRow, standIns := [], harness := (true, "c68914462988821e644cd2cbfa1f5465143a826e39dd97757fa84471d79f2e5e"), looks := false }, kinds := [], alts := [], laidByText := true, laidKinds := [.data], laidTests := true, laidLooks := .later }
def PageSignsCardSaid : Prop := Claim7.holds Tryd.pinned (.plain (OpenSpec.ofChange pageSignsSpec)) pageSignsCard

/-- THE TIED CARD OF 'vitrinelaw01.PageCodes'. -/
def pageCodesCard : Claim7 := { stood := { row := pageCodesRow, standIns := [], harness := (true, "c68914462988821e644cd2cbfa1f5465143a826e39dd97757fa84471d79f2e5e"), looks := false }, kinds := [], alts := [], laidByText := true, laidKinds := [.data], laidTests := true, laidLooks := .later }
def PageCodesCardSaid : Prop := Claim7.holds Tryd.pinned (.plain (OpenSpec.ofChange pageCodesSpec)) pageCodesCard

/-- THE TIED CARD OF 'vitrinelaw01.PageTexts'. -/
def pageTextsCard : Claim7 := { stood := { row := pageTextsRow, standIns := [], harness := (true, "c68914462988821e644cd2cbfa1f5465143a826e39dd97757fa84471d79f2e5e"), looks := false }, kinds := [], alts := [], laidByText := true, laidKinds := [.data, .data, .pinned], laidTests := true, laidLooks := .later }
def PageTextsCardSaid : Prop := Claim7.holds Tryd.pinned (.plain (OpenSpec.ofChange pageTextsSpec)) pageTextsCard

/-- THE TIED CARD OF 'vitrinelaw01.PageReads'. -/
def pageReadsCard : Claim7 := { stood := { row := pageReadsRow, standIns := [], harness := (true, "c68914462988821e644cd2cbfa1f5465143a826e39dd97757fa84471d79f2e5e"), looks := false }, kinds := [], alts := [], laidByText := true, laidKinds := [.data, .data, .pinned], laidTests := true, laidLooks := .later }
def PageReadsCardSaid : Prop := Claim7.holds Tryd.pinned (.plain (OpenSpec.ofChange pageReadsSpec)) pageReadsCard

/-- THE TIED CARD OF 'vitrinelaw01.PageUppers'. -/
def pageUppersCard : Claim7 := { stood := { row := pageUppersRow, standIns := [], harness := (true, "c68914462988821e644cd2cbfa1f5465143a826e39dd97757fa84471d79f2e5e"), looks := false }, kinds := [], alts := [], laidByText := true, laidKinds := [.data], laidTests := true, laidLooks := .later }
def PageUppersCardSaid : Prop := Claim7.holds Tryd.pinned (.plain (OpenSpec.ofChange pageUppersSpec)) pageUppersCard

/-- THE TIED CARD OF 'vitrinelaw01.PageEscapes'. -/
def pageEscapesCard : Claim7 := { stood := { row := pageEscapesRow, standIns := [], harness := (true, "c68914462988821e644cd2cbfa1f5465143a826e39dd97757fa84471d79f2e5e"), looks := false }, kinds := [], alts := [], laidByText := true, laidKinds := [.data, .data], laidTests := true, laidLooks := .later }
def PageEscapesCardSaid : Prop := Claim7.holds Tryd.pinned (.plain (OpenSpec.ofChange pageEscapesSpec)) pageEscapesCard

/-- THE TIED CARD OF 'vitrinelaw01.PageNumbers'. -/
def pageNumbersCard : Claim7 := { stood := { row := pageNumbersRow, standIns := [], harness := (true, "c68914462988821e644cd2cbfa1f5465143a826e39dd97757fa84471d79f2e5e"), looks := false }, kinds := [], alts := [], laidByText := true, laidKinds := [.data, .data, .pinned], laidTests := true, laidLooks := .later }
def PageNumbersCardSaid : Prop := Claim7.holds Tryd.pinned (.plain (OpenSpec.ofChange pageNumbersSpec)) pageNumbersCard

/-- THE TIED CARD OF 'vitrinelaw01.PageCommon'. -/
def pageCommonCard : Claim7 := { stood := { row := pageCommonRow, standIns := [], harness := (true, "c68914462988821e644cd2cbfa1f5465143a826e39dd97757fa84471d79f2e5e"), looks := false }, kinds := [], alts := [], laidByText := true, laidKinds := [.data], laidTests := true, laidLooks := .later }
def PageCommonCardSaid : Prop := Claim7.holds Tryd.pinned (.plain (OpenSpec.ofChange pageCommonSpec)) pageCommonCard

/-- THE TIED CARD OF 'vitrinelaw02.ClassOf'. -/
def classOfCard : Claim7 := { stood := { row := classOfRow, standIns := [], harness := (true, "c68914462988821e644cd2cbfa1f5465143a826e39dd97757fa84471d79f2e5e"), looks := false }, kinds := [], alts := [], laidByText := true, laidKinds := [.data, .data], laidTests := true, laidLooks := .later }
def ClassOfCardSaid : Prop := Claim7.holds Tryd.pinned (.plain (OpenSpec.ofChange classOfSpec)) classOfCard

/-- THE TIED CARD OF 'vitrinelaw02.ClassUses'. -/
def classUsesCard : Claim7 := { stood := { row := classUsesRow, standIns := [], harness := (true, "c68914462988821e644cd2cbfa1f5465143a826e39dd97757fa84471d79f2e5e"), looks := false }, kinds := [], alts := [], laidByText := true, laidKinds := [.data], laidTests := true, laidLooks := .later }
def ClassUsesCardSaid : Prop := Claim7.holds Tryd.pinned (.plain (OpenSpec.ofChange classUsesSpec)) classUsesCard

/-- THE TIED CARD OF 'vitrinelaw02.ClassCounts'. -/
def classCountsCard : Claim7 := { stood := { row := classCountsRow, standIns := [], harness := (true, "c68914462988821e644cd2cbfa1f5465143a826e39dd97757fa84471d79f2e5e"), looks := false }, kinds := [], alts := [], laidByText := true, laidKinds := [.data], laidTests := true, laidLooks := .later }
def ClassCountsCardSaid : Prop := Claim7.holds Tryd.pinned (.plain (OpenSpec.ofChange classCountsSpec)) classCountsCard

/-- THE TIED CARD OF 'vitrinelaw02.ClassAlone'. -/
def classAloneCard : Claim7 := { stood := { row := classAloneRow, standIns := [], harness := (true, "c68914462988821e644cd2cbfa1f5465143a826e39dd97757fa84471d79f2e5e"), looks := false }, kinds := [], alts := [], laidByText := true, laidKinds := [.data], laidTests := true, laidLooks := .later }
def ClassAloneCardSaid : Prop := Claim7.holds Tryd.pinned (.plain (OpenSpec.ofChange classAloneSpec)) classAloneCard

/-- THE SECOND FORM's CARD OF 'vitrinelaw01.PageSigns'. -/
def pageSignsUptoCard : Claim7 := { stood := { row := pageSignsUptoRow, standIns := [], harness := (true, "c68914462988821e644cd2cbfa1f5465143a826e39dd97757fa84471d79f2e5e"), looks := false }, kinds := [], alts := [], laidByText := true, laidKinds := [.data], laidTests := true, laidLooks := .later }
def PageSignsUptoCardSaid : Prop := Claim7.holds Tryd.pinned (.plain (OpenSpec.upto pageSignsSpec)) pageSignsUptoCard

/-- THE SECOND FORM's CARD OF 'vitrinelaw01.PageCodes'. -/
def pageCodesUptoCard : Claim7 := { stood := { row := pageCodesUptoRow, standIns := [], harness := (true, "c68914462988821e644cd2cbfa1f5465143a826e39dd97757fa84471d79f2e5e"), looks := false }, kinds := [], alts := [], laidByText := true, laidKinds := [.data], laidTests := true, laidLooks := .later }
def PageCodesUptoCardSaid : Prop := Claim7.holds Tryd.pinned (.plain (OpenSpec.upto pageCodesSpec)) pageCodesUptoCard

/-- THE SECOND FORM's CARD OF 'vitrinelaw01.PageTexts'. -/
def pageTextsUptoCard : Claim7 := { stood := { row := pageTextsUptoRow, standIns := [], harness := (true, "c68914462988821e644cd2cbfa1f5465143a826e39dd97757fa84471d79f2e5e"), looks := false }, kinds := [], alts := [], laidByText := true, laidKinds := [.data, .data, .pinned], laidTests := true, laidLooks := .later }
def PageTextsUptoCardSaid : Prop := Claim7.holds Tryd.pinned (.plain (OpenSpec.upto pageTextsSpec)) pageTextsUptoCard

/-- THE SECOND FORM's CARD OF 'vitrinelaw01.PageReads'. -/
def pageReadsUptoCard : Claim7 := { stood := { row := pageReadsUptoRow, standIns := [], harness := (true, "c68914462988821e644cd2cbfa1f5465143a826e39dd97757fa84471d79f2e5e"), looks := false }, kinds := [], alts := [], laidByText := true, laidKinds := [.data, .data, .pinned], laidTests := true, laidLooks := .later }
def PageReadsUptoCardSaid : Prop := Claim7.holds Tryd.pinned (.plain (OpenSpec.upto pageReadsSpec)) pageReadsUptoCard

/-- THE SECOND FORM's CARD OF 'vitrinelaw01.PageUppers'. -/
def pageUppersUptoCard : Claim7 := { stood := { row := pageUppersUptoRow, standIns := [], harness := (true, "c68914462988821e644cd2cbfa1f5465143a826e39dd97757fa84471d79f2e5e"), looks := false }, kinds := [], alts := [], laidByText := true, laidKinds := [.data], laidTests := true, laidLooks := .later }
def PageUppersUptoCardSaid : Prop := Claim7.holds Tryd.pinned (.plain (OpenSpec.upto pageUppersSpec)) pageUppersUptoCard

/-- THE SECOND FORM's CARD OF 'vitrinelaw01.PageEscapes'. -/
def pageEscapesUptoCard : Claim7 := { stood := { row := pageEscapesUptoRow, standIns := [], harness := (true, "c68914462988821e644cd2cbfa1f5465143a826e39dd97757fa84471d79f2e5e"), looks := false }, kinds := [], alts := [], laidByText := true, laidKinds := [.data, .data], laidTests := true, laidLooks := .later }
def PageEscapesUptoCardSaid : Prop := Claim7.holds Tryd.pinned (.plain (OpenSpec.upto pageEscapesSpec)) pageEscapesUptoCard

/-- THE SECOND FORM's CARD OF 'vitrinelaw01.PageNumbers'. -/
def pageNumbersUptoCard : Claim7 := { stood := { row := pageNumbersUptoRow, standIns := [], harness := (true, "c68914462988821e644cd2cbfa1f5465143a826e39dd97757fa84471d79f2e5e"), looks := false }, kinds := [], alts := [], laidByText := true, laidKinds := [.data, .data, .pinned], laidTests := true, laidLooks := .later }
def PageNumbersUptoCardSaid : Prop := Claim7.holds Tryd.pinned (.plain (OpenSpec.upto pageNumbersSpec)) pageNumbersUptoCard

/-- THE SECOND FORM's CARD OF 'vitrinelaw01.PageCommon'. -/
def pageCommonUptoCard : Claim7 := { stood := { row := pageCommonUptoRow, standIns := [], harness := (true, "c68914462988821e644cd2cbfa1f5465143a826e39dd97757fa84471d79f2e5e"), looks := false }, kinds := [], alts := [], laidByText := true, laidKinds := [.data], laidTests := true, laidLooks := .later }
def PageCommonUptoCardSaid : Prop := Claim7.holds Tryd.pinned (.plain (OpenSpec.upto pageCommonSpec)) pageCommonUptoCard

/-- THE SECOND FORM's CARD OF 'vitrinelaw02.ClassOf'. -/
def classOfUptoCard : Claim7 := { stood := { row := classOfUptoRow, standIns := [], harness := (true, "c68914462988821e644cd2cbfa1f5465143a826e39dd97757fa84471d79f2e5e"), looks := false }, kinds := [], alts := [], laidByText := true, laidKinds := [.data, .data], laidTests := true, laidLooks := .later }
def ClassOfUptoCardSaid : Prop := Claim7.holds Tryd.pinned (.plain (OpenSpec.upto classOfSpec)) classOfUptoCard

/-- THE SECOND FORM's CARD OF 'vitrinelaw02.ClassUses'. -/
def classUsesUptoCard : Claim7 := { stood := { row := classUsesUptoRow, standIns := [], harness := (true, "c68914462988821e644cd2cbfa1f5465143a826e39dd97757fa84471d79f2e5e"), looks := false }, kinds := [], alts := [], laidByText := true, laidKinds := [.data], laidTests := true, laidLooks := .later }
def ClassUsesUptoCardSaid : Prop := Claim7.holds Tryd.pinned (.plain (OpenSpec.upto classUsesSpec)) classUsesUptoCard

/-- THE SECOND FORM's CARD OF 'vitrinelaw02.ClassCounts'. -/
def classCountsUptoCard : Claim7 := { stood := { row := classCountsUptoRow, standIns := [], harness := (true, "c68914462988821e644cd2cbfa1f5465143a826e39dd97757fa84471d79f2e5e"), looks := false }, kinds := [], alts := [], laidByText := true, laidKinds := [.data], laidTests := true, laidLooks := .later }
def ClassCountsUptoCardSaid : Prop := Claim7.holds Tryd.pinned (.plain (OpenSpec.upto classCountsSpec)) classCountsUptoCard

/-- THE SECOND FORM's CARD OF 'vitrinelaw02.ClassAlone'. -/
def classAloneUptoCard : Claim7 := { stood := { row := classAloneUptoRow, standIns := [], harness := (true, "c68914462988821e644cd2cbfa1f5465143a826e39dd97757fa84471d79f2e5e"), looks := false }, kinds := [], alts := [], laidByText := true, laidKinds := [.data], laidTests := true, laidLooks := .later }
def ClassAloneUptoCardSaid : Prop := Claim7.holds Tryd.pinned (.plain (OpenSpec.upto classAloneSpec)) classAloneUptoCard
end Rows
end Go.Proofs.YtadoiplfglaonaaDoor
