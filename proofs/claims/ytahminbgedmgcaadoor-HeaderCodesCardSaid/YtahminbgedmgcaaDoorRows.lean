/-
  NARROWER THAN 'FOR EVERY INPUT', by the rows' own cells (each row's printed sentence says how): HeaderCodes: laid · HeaderAnswers: laid · HeaderResponses: laid.
  DERIVED. THE GIVEN ROWS OF THIS SEAT. 3 by the template 'for every input the law returns true; each argument reads behind the call as it read before'; 0 by the template 'total and deterministic' (their statements: YtahminbgedmgcaaDoorTotals.lean).
  GIVEN WITH THE SEED: the statements are not yours to turn. If you find one false, say at which input.
  Laid BY PROGRAM, IN A SANDBOX (cutbox-rows.mjs): the forced cells as the released guide's own fill.sh prints them over the translation 8564dd95016b39a7… (all of the seat's roots in one cut). By AI agents, Wed Nov 11 2026. No macro, syntax, notation, axiom, sorry.
-/
import Derived.Test.YtahminbgedmgcaaDoorChecked
import GoSem.Claim
import GoSem.ClaimJoined
import GoSem.ClaimMapViews
import Derived.JoinedTies
import Derived.KernelRfl
namespace Go.Proofs.YtahminbgedmgcaaDoor
/- THE CELL 'sum', in the pinned program and in every row, IS THE sha256 OF THE DUMP (.gsa) THAT YtahminbgedmgcaaDoorProg.lean LOADS. Nothing in Lean hashes anything: it is a label: what it is worth is what the hold of that sum in a sandbox is worth. -/
noncomputable def Tryd.pinned : Pinned := { name := "ytahminbgedmgcaadoor", sum := "8564dd95016b39a7d0013b72a80dc10640ccc199f3856680c25d3673eaf4e9da", checked := Tryd.checked }
namespace Rows
def none {H : Type} : Left H := { results := [], args := [] }

/- WHAT THE LISTED PACKAGE-LEVEL VARIABLES READ AS WHEN THE CALL BEGINS. Each datum BY PROGRAM (the guide's laid-datum.mjs) off the statement by which the dump's own 'gosem.cut.vars' lays the variable. In a bare row this is a premise. The card (YtahminbgedmgcaaDoorCards.lean) ties it to the program's text. -/
def laid_vitrine_header_names {H : Type} : DataW H := .agg [.lit (.string [51, 50, 55, 48, 45, 68, 65, 84, 65]), .lit (.string [83, 67, 83, 45, 68, 65, 84, 65]), .lit (.string [82, 69, 83, 80, 79, 78, 83, 69]), .lit (.string [66, 73, 78, 68, 45, 73, 77, 65, 71, 69]), .lit (.string [85, 78, 66, 73, 78, 68]), .lit (.string [78, 86, 84, 45, 68, 65, 84, 65]), .lit (.string [82, 69, 81, 85, 69, 83, 84]), .lit (.string [83, 83, 67, 80, 45, 76, 85, 45, 68, 65, 84, 65]), .lit (.string [80, 82, 73, 78, 84, 45, 69, 79, 74])]

/-- 'vitrinelaw09.HeaderCodes': WHATEVER THE INPUT: true; the input reads as it did. -/
def headerCodesSpec : ChangeSpec := { name := "headerCodes", fn := fun _ => fun
  | [d1, d2] => { results := [.lit (.bool true)], args := [d1, d2] }
  | _ => none }
def headerCodesRow : OpenClaim := { program := "ytahminbgedmgcaadoor", sum := "8564dd95016b39a7d0013b72a80dc10640ccc199f3856680c25d3673eaf4e9da", func := "vitrine/vitrinelaw09.HeaderCodes", spec := "headerCodes", named := ["vitrine/header.names"], apart := false, laid := [("vitrine/header.names", laid_vitrine_header_names)] }
def HeaderCodesSaid : Prop := headerCodesRow.holds Tryd.pinned (OpenSpec.ofChange headerCodesSpec)

/-- ITS FALSE NEIGHBOUR: 'it returns false'. Refute it at one input. -/
def headerCodesWrong : ChangeSpec := { name := "headerCodes", fn := fun _ => fun
  | [d1, d2] => { results := [.lit (.bool false)], args := [d1, d2] }
  | _ => none }
def HeaderCodesWrongFalsely : Prop := headerCodesRow.holds Tryd.pinned (OpenSpec.ofChange headerCodesWrong)

/-- 'vitrinelaw09.HeaderAnswers': WHATEVER THE INPUT: true; the input reads as it did. -/
def headerAnswersSpec : ChangeSpec := { name := "headerAnswers", fn := fun _ => fun
  | [d1, d2] => { results := [.lit (.bool true)], args := [d1, d2] }
  | _ => none }
def headerAnswersRow : OpenClaim := { program := "ytahminbgedmgcaadoor", sum := "8564dd95016b39a7d0013b72a80dc10640ccc199f3856680c25d3673eaf4e9da", func := "vitrine/vitrinelaw09.HeaderAnswers", spec := "headerAnswers", named := ["vitrine/header.names"], apart := false, laid := [("vitrine/header.names", laid_vitrine_header_names)] }
def HeaderAnswersSaid : Prop := headerAnswersRow.holds Tryd.pinned (OpenSpec.ofChange headerAnswersSpec)

/-- ITS FALSE NEIGHBOUR: 'it returns false'. Refute it at one input. -/
def headerAnswersWrong : ChangeSpec := { name := "headerAnswers", fn := fun _ => fun
  | [d1, d2] => { results := [.lit (.bool false)], args := [d1, d2] }
  | _ => none }
def HeaderAnswersWrongFalsely : Prop := headerAnswersRow.holds Tryd.pinned (OpenSpec.ofChange headerAnswersWrong)

/-- 'vitrinelaw09.HeaderResponses': WHATEVER THE INPUT: true; the input reads as it did. -/
def headerResponsesSpec : ChangeSpec := { name := "headerResponses", fn := fun _ => fun
  | [d1, d2, d3] => { results := [.lit (.bool true)], args := [d1, d2, d3] }
  | _ => none }
def headerResponsesRow : OpenClaim := { program := "ytahminbgedmgcaadoor", sum := "8564dd95016b39a7d0013b72a80dc10640ccc199f3856680c25d3673eaf4e9da", func := "vitrine/vitrinelaw09.HeaderResponses", spec := "headerResponses", named := ["vitrine/header.names"], apart := false, laid := [("vitrine/header.names", laid_vitrine_header_names)] }
def HeaderResponsesSaid : Prop := headerResponsesRow.holds Tryd.pinned (OpenSpec.ofChange headerResponsesSpec)

/-- ITS FALSE NEIGHBOUR: 'it returns false'. Refute it at one input. -/
def headerResponsesWrong : ChangeSpec := { name := "headerResponses", fn := fun _ => fun
  | [d1, d2, d3] => { results := [.lit (.bool false)], args := [d1, d2, d3] }
  | _ => none }
def HeaderResponsesWrongFalsely : Prop := headerResponsesRow.holds Tryd.pinned (OpenSpec.ofChange headerResponsesWrong)

/- THE SECOND FORM. 'bulk': how many values and letters a reading holds, each counted each time it is reached (what is shared counts as often as it is met; a slice's spare places count too). A statement '..UptoSaid' is the law's where the arguments, and the package variables that the reading takes, are together of bulk at most 1048576: NARROWER than '..Said'. Prove '..Said' where nothing that the law and all that it calls make is longer than what came in: it says more and counts as full. Else prove '..UptoSaid'. A law counts once. -/
mutual
def uptoBulk {H : Type} : DataW H → Nat
  | .lit (.string bytes) => bytes.length + 1
  | .lit _ => 1
  | .nil => 1
  | .ptr d => uptoBulk d + 1
  | .slice elems spare => uptoBulkAll elems + uptoBulkAll spare + 1
  | .agg parts => uptoBulkAll parts + 1
  | .iface _ d => uptoBulk d + 1
  | .map entries => uptoBulkEntries entries + 1
  | .held _ => 1
def uptoBulkAll {H : Type} : List (DataW H) → Nat
  | [] => 0
  | d :: r => uptoBulk d + uptoBulkAll r
def uptoBulkEntries {H : Type} : List (Lit × DataW H) → Nat
  | [] => 0
  | x :: r => uptoBulkEntry x + uptoBulkEntries r
def uptoBulkEntry {H : Type} : Lit × DataW H → Nat
  | (.string bytes, d) => bytes.length + uptoBulk d + 1
  | (_, d) => uptoBulk d + 1
 end
def uptoSmall : (H : Type) → List (DataW H) → Bool := fun _ ds => decide (uptoBulkAll ds ≤ 1048576)
def OpenSpec.upto (s : _root_.Go.ChangeSpec) : _root_.Go.OpenSpec := { _root_.Go.OpenSpec.ofChange s with cond := some uptoSmall }

/-- 'vitrinelaw09.HeaderCodes', WHERE WHAT IT READS IS OF BULK AT MOST 1048576: true; the input reads as it did. -/
def headerCodesUptoRow : OpenClaim := { program := "ytahminbgedmgcaadoor", sum := "8564dd95016b39a7d0013b72a80dc10640ccc199f3856680c25d3673eaf4e9da", func := "vitrine/vitrinelaw09.HeaderCodes", spec := "headerCodes", named := ["vitrine/header.names"], apart := false, laid := [("vitrine/header.names", laid_vitrine_header_names)], narrowed := true }
def HeaderCodesUptoSaid : Prop := headerCodesUptoRow.holds Tryd.pinned (OpenSpec.upto headerCodesSpec)

/-- 'vitrinelaw09.HeaderAnswers', WHERE WHAT IT READS IS OF BULK AT MOST 1048576: true; the input reads as it did. -/
def headerAnswersUptoRow : OpenClaim := { program := "ytahminbgedmgcaadoor", sum := "8564dd95016b39a7d0013b72a80dc10640ccc199f3856680c25d3673eaf4e9da", func := "vitrine/vitrinelaw09.HeaderAnswers", spec := "headerAnswers", named := ["vitrine/header.names"], apart := false, laid := [("vitrine/header.names", laid_vitrine_header_names)], narrowed := true }
def HeaderAnswersUptoSaid : Prop := headerAnswersUptoRow.holds Tryd.pinned (OpenSpec.upto headerAnswersSpec)

/-- 'vitrinelaw09.HeaderResponses', WHERE WHAT IT READS IS OF BULK AT MOST 1048576: true; the input reads as it did. -/
def headerResponsesUptoRow : OpenClaim := { program := "ytahminbgedmgcaadoor", sum := "8564dd95016b39a7d0013b72a80dc10640ccc199f3856680c25d3673eaf4e9da", func := "vitrine/vitrinelaw09.HeaderResponses", spec := "headerResponses", named := ["vitrine/header.names"], apart := false, laid := [("vitrine/header.names", laid_vitrine_header_names)], narrowed := true }
def HeaderResponsesUptoSaid : Prop := headerResponsesUptoRow.holds Tryd.pinned (OpenSpec.upto headerResponsesSpec)

end Rows
end Go.Proofs.YtahminbgedmgcaaDoor
