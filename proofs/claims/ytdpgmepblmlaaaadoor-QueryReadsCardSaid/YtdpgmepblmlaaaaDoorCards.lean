/-
  DERIVED. GIVEN WITH THE SEED: THE CARDS: each row of YtdpgmepblmlaaaaDoorRows.lean that lists a variable, with what it lists TIED to the program's text (the seventh form; the later family's looks); each row that meets fmt, with fmt's text TOLD by the authors' own Lean function (tested against real Go, not proved from fmt's source: count such statements apart). THE CARD IS WHAT COUNTS. Prove the row's statement (the work); the ties are given (YtdpgmepblmlaaaaDoorTie.lean); close each card by the builder's one call (the guide's Derived/Test/ToyasCard.lean, 'card_holds'). Laid BY PROGRAM, IN A SANDBOX (cutbox-door.mjs). By AI agents, Wed Nov 11 2026. No macro, syntax, notation, axiom, sorry.
-/
import Derived.Test.YtdpgmepblmlaaaaDoorRows
import GoSem.ClaimSeven
namespace Go.Proofs.YtdpgmepblmlaaaaDoor
namespace Rows

/-- THE TIED CARD OF 'vitrinelaw21.SfieldReads'. -/
def sfieldReadsCard : Claim7 := { stood := { row := sfieldReadsRow, standIns := [], harness := (true, "6929fd1d263bca9fe346194a64efa72ab0189ed8dbe3c8e050515bbd15233b83"), looks := false }, kinds := [], alts := [], laidByText := true, laidKinds := [.data], laidTests := true, laidLooks := .later }
def SfieldReadsCardSaid : Prop := Claim7.holds Tryd.pinned (.plain (OpenSpec.ofChange sfieldReadsSpec)) sfieldReadsCard

/-- THE TIED CARD OF 'vitrinelaw21.SfieldActs'. -/
def sfieldActsCard : Claim7 := { stood := { row := sfieldActsRow, standIns := [], harness := (true, "6929fd1d263bca9fe346194a64efa72ab0189ed8dbe3c8e050515bbd15233b83"), looks := false }, kinds := [], alts := [], laidByText := true, laidKinds := [.data, .data], laidTests := true, laidLooks := .later }
def SfieldActsCardSaid : Prop := Claim7.holds Tryd.pinned (.plain (OpenSpec.ofChange sfieldActsSpec)) sfieldActsCard

/-- THE TIED CARD OF 'vitrinelaw21.SfieldRecords'. -/
def sfieldRecordsCard : Claim7 := { stood := { row := sfieldRecordsRow, standIns := [], harness := (true, "6929fd1d263bca9fe346194a64efa72ab0189ed8dbe3c8e050515bbd15233b83"), looks := false }, kinds := [], alts := [], laidByText := true, laidKinds := [.data], laidTests := true, laidLooks := .later }
def SfieldRecordsCardSaid : Prop := Claim7.holds Tryd.pinned (.plain (OpenSpec.ofChange sfieldRecordsSpec)) sfieldRecordsCard

/-- THE TIED CARD OF 'vitrinelaw21.SfieldBytes'. -/
def sfieldBytesCard : Claim7 := { stood := { row := sfieldBytesRow, standIns := [], harness := (true, "6929fd1d263bca9fe346194a64efa72ab0189ed8dbe3c8e050515bbd15233b83"), looks := false }, kinds := [], alts := [], laidByText := true, laidKinds := [.data], laidTests := true, laidLooks := .later }
def SfieldBytesCardSaid : Prop := Claim7.holds Tryd.pinned (.plain (OpenSpec.ofChange sfieldBytesSpec)) sfieldBytesCard

/-- THE TIED CARD OF 'vitrinelaw21.SfieldRest'. -/
def sfieldRestCard : Claim7 := { stood := { row := sfieldRestRow, standIns := [], harness := (true, "6929fd1d263bca9fe346194a64efa72ab0189ed8dbe3c8e050515bbd15233b83"), looks := false }, kinds := [], alts := [], laidByText := true, laidKinds := [.data], laidTests := true, laidLooks := .later }
def SfieldRestCardSaid : Prop := Claim7.holds Tryd.pinned (.plain (OpenSpec.ofChange sfieldRestSpec)) sfieldRestCard

/-- THE TIED CARD OF 'vitrinelaw22.QueryReads'. -/
def queryReadsCard : Claim7 := { stood := { row := queryReadsRow, standIns := [], harness := (true, "6929fd1d263bca9fe346194a64efa72ab0189ed8dbe3c8e050515bbd15233b83"), looks := false }, kinds := [], alts := [], laidByText := true, laidKinds := [.data], laidTests := true, laidLooks := .later }
def QueryReadsCardSaid : Prop := Claim7.holds Tryd.pinned (.plain (OpenSpec.ofChange queryReadsSpec)) queryReadsCard

/-- THE TIED CARD OF 'vitrinelaw22.QueryParses'. -/
def queryParsesCard : Claim7 := { stood := { row := queryParsesRow, standIns := [], harness := (true, "6929fd1d263bca9fe346194a64efa72ab0189ed8dbe3c8e050515bbd15233b83"), looks := false }, kinds := [], alts := [], laidByText := true, laidKinds := [.data], laidTests := true, laidLooks := .later }
def QueryParsesCardSaid : Prop := Claim7.holds Tryd.pinned (.plain (OpenSpec.ofChange queryParsesSpec)) queryParsesCard

/-- THE SECOND FORM's CARD OF 'vitrinelaw21.SfieldReads'. -/
def sfieldReadsUptoCard : Claim7 := { stood := { row := sfieldReadsUptoRow, standIns := [], harness := (true, "6929fd1d263bca9fe346194a64efa72ab0189ed8dbe3c8e050515bbd15233b83"), looks := false }, kinds := [], alts := [], laidByText := true, laidKinds := [.data], laidTests := true, laidLooks := .later }
def SfieldReadsUptoCardSaid : Prop := Claim7.holds Tryd.pinned (.plain (OpenSpec.upto sfieldReadsSpec)) sfieldReadsUptoCard

/-- THE SECOND FORM's CARD OF 'vitrinelaw21.SfieldActs'. -/
def sfieldActsUptoCard : Claim7 := { stood := { row := sfieldActsUptoRow, standIns := [], harness := (true, "6929fd1d263bca9fe346194a64efa72ab0189ed8dbe3c8e050515bbd15233b83"), looks := false }, kinds := [], alts := [], laidByText := true, laidKinds := [.data, .data], laidTests := true, laidLooks := .later }
def SfieldActsUptoCardSaid : Prop := Claim7.holds Tryd.pinned (.plain (OpenSpec.upto sfieldActsSpec)) sfieldActsUptoCard

/-- THE SECOND FORM's CARD OF 'vitrinelaw21.SfieldRecords'. -/
def sfieldRecordsUptoCard : Claim7 := { stood := { row := sfieldRecordsUptoRow, standIns := [], harness := (true, "6929fd1d263bca9fe346194a64efa72ab0189ed8dbe3c8e050515bbd15233b83"), looks := false }, kinds := [], alts := [], laidByText := true, laidKinds := [.data], laidTests := true, laidLooks := .later }
def SfieldRecordsUptoCardSaid : Prop := Claim7.holds Tryd.pinned (.plain (OpenSpec.upto sfieldRecordsSpec)) sfieldRecordsUptoCard

/-- THE SECOND FORM's CARD OF 'vitrinelaw21.SfieldBytes'. -/
def sfieldBytesUptoCard : Claim7 := { stood := { row := sfieldBytesUptoRow, standIns := [], harness := (true, "6929fd1d263bca9fe346194a64efa72ab0189ed8dbe3c8e050515bbd15233b83"), looks := false }, kinds := [], alts := [], laidByText := true, laidKinds := [.data], laidTests := true, laidLooks := .later }
def SfieldBytesUptoCardSaid : Prop := Claim7.holds Tryd.pinned (.plain (OpenSpec.upto sfieldBytesSpec)) sfieldBytesUptoCard

/-- THE SECOND FORM's CARD OF 'vitrinelaw21.SfieldRest'. -/
def sfieldRestUptoCard : Claim7 := { stood := { row := sfieldRestUptoRow, standIns := [], harness := (true, "6929fd1d263bca9fe346194a64efa72ab0189ed8dbe3c8e050515bbd15233b83"), looks := false }, kinds := [], alts := [], laidByText := true, laidKinds := [.data], laidTests := true, laidLooks := .later }
def SfieldRestUptoCardSaid : Prop := Claim7.holds Tryd.pinned (.plain (OpenSpec.upto sfieldRestSpec)) sfieldRestUptoCard

/-- THE SECOND FORM's CARD OF 'vitrinelaw22.QueryReads'. -/
def queryReadsUptoCard : Claim7 := { stood := { row := queryReadsUptoRow, standIns := [], harness := (true, "6929fd1d263bca9fe346194a64efa72ab0189ed8dbe3c8e050515bbd15233b83"), looks := false }, kinds := [], alts := [], laidByText := true, laidKinds := [.data], laidTests := true, laidLooks := .later }
def QueryReadsUptoCardSaid : Prop := Claim7.holds Tryd.pinned (.plain (OpenSpec.upto queryReadsSpec)) queryReadsUptoCard

/-- THE SECOND FORM's CARD OF 'vitrinelaw22.QueryParses'. -/
def queryParsesUptoCard : Claim7 := { stood := { row := queryParsesUptoRow, standIns := [], harness := (true, "6929fd1d263bca9fe346194a64efa72ab0189ed8dbe3c8e050515bbd15233b83"), looks := false }, kinds := [], alts := [], laidByText := true, laidKinds := [.data], laidTests := true, laidLooks := .later }
def QueryParsesUptoCardSaid : Prop := Claim7.holds Tryd.pinned (.plain (OpenSpec.upto queryParsesSpec)) queryParsesUptoCard
end Rows
end Go.Proofs.YtdpgmepblmlaaaaDoor
