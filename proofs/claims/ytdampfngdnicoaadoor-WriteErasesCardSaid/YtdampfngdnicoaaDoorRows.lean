/-
  NARROWER THAN 'FOR EVERY INPUT', by the rows' own cells (each row's printed sentence says how): WriteAgain: laid · WriteErases: laid · WriteNames: laid.
  DERIVED. THE GIVEN ROWS OF THIS SEAT. 3 by the template 'for every input the law returns true; each argument reads behind the call as it read before'; 0 by the template 'total and deterministic' (their statements: YtdampfngdnicoaaDoorTotals.lean).
  GIVEN WITH THE SEED: the statements are not yours to turn. If you find one false, say at which input.
  Laid BY PROGRAM, IN A SANDBOX (cutbox-rows.mjs): the forced cells as the released guide's own fill.sh prints them over the translation ad288c5e087be1cd… (all of the seat's roots in one cut). By AI agents, Wed Nov 11 2026. No macro, syntax, notation, axiom, sorry.
-/
import Derived.Test.YtdampfngdnicoaaDoorChecked
import GoSem.Claim
import GoSem.ClaimJoined
import GoSem.ClaimMapViews
import Derived.JoinedTies
import Derived.KernelRfl
namespace Go.Proofs.YtdampfngdnicoaaDoor
/- THE CELL 'sum', in the pinned program and in every row, IS THE sha256 OF THE DUMP (.gsa) THAT YtdampfngdnicoaaDoorProg.lean LOADS. Nothing in Lean hashes anything: it is a label: what it is worth is what the hold of that sum in a sandbox is worth. -/
noncomputable def Tryd.pinned : Pinned := { name := "ytdampfngdnicoaadoor", sum := "ad288c5e087be1cd515d042b585871e5f800f516e7bc1755eccdbf283435138b", checked := Tryd.checked }
namespace Rows
def none {H : Type} : Left H := { results := [], args := [] }

/- WHAT THE LISTED PACKAGE-LEVEL VARIABLES READ AS WHEN THE CALL BEGINS. Each datum BY PROGRAM (the guide's laid-datum.mjs) off the statement by which the dump's own 'gosem.cut.vars' lays the variable. In a bare row this is a premise. The card (YtdampfngdnicoaaDoorCards.lean) ties it to the program's text. -/
def laid_vitrine_write_codings {H : Type} : DataW H := .agg [.agg [.lit (.string [78, 111, 116, 104, 105, 110, 103]), .lit (.int .u8 3), .lit (.int .u8 3)], .agg [.lit (.string [87, 114, 105, 116, 101]), .lit (.int .u8 1), .lit (.int .u8 241)], .agg [.lit (.string [69, 114, 97, 115, 101, 87, 114, 105, 116, 101]), .lit (.int .u8 5), .lit (.int .u8 245)], .agg [.lit (.string [69, 114, 97, 115, 101, 65, 108, 116, 101, 114, 110, 97, 116, 101]), .lit (.int .u8 13), .lit (.int .u8 126)], .agg [.lit (.string [69, 114, 97, 115, 101, 85, 110, 112, 114, 111, 116, 101, 99, 116, 101, 100]), .lit (.int .u8 15), .lit (.int .u8 111)], .agg [.lit (.string [82, 101, 97, 100, 66, 117, 102, 102, 101, 114]), .lit (.int .u8 2), .lit (.int .u8 242)], .agg [.lit (.string [82, 101, 97, 100, 77, 111, 100, 105, 102, 105, 101, 100]), .lit (.int .u8 6), .lit (.int .u8 246)], .agg [.lit (.string [82, 101, 97, 100, 65, 108, 108]), .lit (.int .u8 14), .lit (.int .u8 110)], .agg [.lit (.string [83, 116, 114, 117, 99, 116, 117, 114, 101, 100]), .lit (.int .u8 17), .lit (.int .u8 243)]]

/-- 'vitrinelaw17.WriteAgain': WHATEVER THE INPUT: true; the input reads as it did. -/
def writeAgainSpec : ChangeSpec := { name := "writeAgain", fn := fun _ => fun
  | [d1, d2, d3, d4, d5] => { results := [.lit (.bool true)], args := [d1, d2, d3, d4, d5] }
  | _ => none }
def writeAgainRow : OpenClaim := { program := "ytdampfngdnicoaadoor", sum := "ad288c5e087be1cd515d042b585871e5f800f516e7bc1755eccdbf283435138b", func := "vitrine/vitrinelaw17.WriteAgain", spec := "writeAgain", unfollowed := true, recurses := true, named := ["vitrine/write.codings"], apart := false, laid := [("vitrine/write.codings", laid_vitrine_write_codings)] }
def WriteAgainSaid : Prop := writeAgainRow.holds Tryd.pinned (OpenSpec.ofChange writeAgainSpec)

/-- ITS FALSE NEIGHBOUR: 'it returns false'. Refute it at one input. -/
def writeAgainWrong : ChangeSpec := { name := "writeAgain", fn := fun _ => fun
  | [d1, d2, d3, d4, d5] => { results := [.lit (.bool false)], args := [d1, d2, d3, d4, d5] }
  | _ => none }
def WriteAgainWrongFalsely : Prop := writeAgainRow.holds Tryd.pinned (OpenSpec.ofChange writeAgainWrong)

/-- 'vitrinelaw17.WriteErases': WHATEVER THE INPUT: true; the input reads as it did. -/
def writeErasesSpec : ChangeSpec := { name := "writeErases", fn := fun _ => fun
  | [d1, d2] => { results := [.lit (.bool true)], args := [d1, d2] }
  | _ => none }
def writeErasesRow : OpenClaim := { program := "ytdampfngdnicoaadoor", sum := "ad288c5e087be1cd515d042b585871e5f800f516e7bc1755eccdbf283435138b", func := "vitrine/vitrinelaw17.WriteErases", spec := "writeErases", unfollowed := true, recurses := true, named := ["vitrine/write.codings"], apart := false, laid := [("vitrine/write.codings", laid_vitrine_write_codings)] }
def WriteErasesSaid : Prop := writeErasesRow.holds Tryd.pinned (OpenSpec.ofChange writeErasesSpec)

/-- ITS FALSE NEIGHBOUR: 'it returns false'. Refute it at one input. -/
def writeErasesWrong : ChangeSpec := { name := "writeErases", fn := fun _ => fun
  | [d1, d2] => { results := [.lit (.bool false)], args := [d1, d2] }
  | _ => none }
def WriteErasesWrongFalsely : Prop := writeErasesRow.holds Tryd.pinned (OpenSpec.ofChange writeErasesWrong)

/-- 'vitrinelaw17.WriteNames': WHATEVER THE INPUT: true; the input reads as it did. -/
def writeNamesSpec : ChangeSpec := { name := "writeNames", fn := fun _ => fun
  | [d1, d2, d3] => { results := [.lit (.bool true)], args := [d1, d2, d3] }
  | _ => none }
def writeNamesRow : OpenClaim := { program := "ytdampfngdnicoaadoor", sum := "ad288c5e087be1cd515d042b585871e5f800f516e7bc1755eccdbf283435138b", func := "vitrine/vitrinelaw17.WriteNames", spec := "writeNames", unfollowed := true, recurses := true, named := ["vitrine/write.codings"], apart := false, laid := [("vitrine/write.codings", laid_vitrine_write_codings)] }
def WriteNamesSaid : Prop := writeNamesRow.holds Tryd.pinned (OpenSpec.ofChange writeNamesSpec)

/-- ITS FALSE NEIGHBOUR: 'it returns false'. Refute it at one input. -/
def writeNamesWrong : ChangeSpec := { name := "writeNames", fn := fun _ => fun
  | [d1, d2, d3] => { results := [.lit (.bool false)], args := [d1, d2, d3] }
  | _ => none }
def WriteNamesWrongFalsely : Prop := writeNamesRow.holds Tryd.pinned (OpenSpec.ofChange writeNamesWrong)

/- THE SECOND FORM. 'bulk': how many values and letters a reading holds, each counted each time it is reached (what is shared counts as often as it is met; a slice's spare places count too). A statement '..UptoSaid' is the law's where the arguments, and the package variables that the reading takes, are together of bulk at most 1048576: NARROWER than '..Said'. Prove '..Said' where nothing that the law and all that it calls make is longer than what came in: it says more and counts as full. Else prove '..UptoSaid'. A law counts once. -/
mutual
def uptoBulk {H : Type} : DataW H → Nat
  | .lit (.string bytes) => bytes.length + 1
  | .lit _ => 1
  | .nil => 1
  | .ptr d => uptoBulk d + 1
  | .slice elems spare => uptoBulkAll elems + uptoBulkAll spare + 1
  | .agg parts => uptoBulkAll parts + 1
  | .iface _ d => uptoBulk d + 1
  | .map entries => uptoBulkEntries entries + 1
  | .held _ => 1
def uptoBulkAll {H : Type} : List (DataW H) → Nat
  | [] => 0
  | d :: r => uptoBulk d + uptoBulkAll r
def uptoBulkEntries {H : Type} : List (Lit × DataW H) → Nat
  | [] => 0
  | x :: r => uptoBulkEntry x + uptoBulkEntries r
def uptoBulkEntry {H : Type} : Lit × DataW H → Nat
  | (.string bytes, d) => bytes.length + uptoBulk d + 1
  | (_, d) => uptoBulk d + 1
 end
def uptoSmall : (H : Type) → List (DataW H) → Bool := fun _ ds => decide (uptoBulkAll ds ≤ 1048576)
def OpenSpec.upto (s : _root_.Go.ChangeSpec) : _root_.Go.OpenSpec := { _root_.Go.OpenSpec.ofChange s with cond := some uptoSmall }

/-- 'vitrinelaw17.WriteAgain', WHERE WHAT IT READS IS OF BULK AT MOST 1048576: true; the input reads as it did. -/
def writeAgainUptoRow : OpenClaim := { program := "ytdampfngdnicoaadoor", sum := "ad288c5e087be1cd515d042b585871e5f800f516e7bc1755eccdbf283435138b", func := "vitrine/vitrinelaw17.WriteAgain", spec := "writeAgain", unfollowed := true, recurses := true, named := ["vitrine/write.codings"], apart := false, laid := [("vitrine/write.codings", laid_vitrine_write_codings)], narrowed := true }
def WriteAgainUptoSaid : Prop := writeAgainUptoRow.holds Tryd.pinned (OpenSpec.upto writeAgainSpec)

/-- 'vitrinelaw17.WriteErases', WHERE WHAT IT READS IS OF BULK AT MOST 1048576: true; the input reads as it did. -/
def writeErasesUptoRow : OpenClaim := { program := "ytdampfngdnicoaadoor", sum := "ad288c5e087be1cd515d042b585871e5f800f516e7bc1755eccdbf283435138b", func := "vitrine/vitrinelaw17.WriteErases", spec := "writeErases", unfollowed := true, recurses := true, named := ["vitrine/write.codings"], apart := false, laid := [("vitrine/write.codings", laid_vitrine_write_codings)], narrowed := true }
def WriteErasesUptoSaid : Prop := writeErasesUptoRow.holds Tryd.pinned (OpenSpec.upto writeErasesSpec)

/-- 'vitrinelaw17.WriteNames', WHERE WHAT IT READS IS OF BULK AT MOST 1048576: true; the input reads as it did. -/
def writeNamesUptoRow : OpenClaim := { program := "ytdampfngdnicoaadoor", sum := "ad288c5e087be1cd515d042b585871e5f800f516e7bc1755eccdbf283435138b", func := "vitrine/vitrinelaw17.WriteNames", spec := "writeNames", unfollowed := true, recurses := true, named := ["vitrine/write.codings"], apart := false, laid := [("vitrine/write.codings", laid_vitrine_write_codings)], narrowed := true }
def WriteNamesUptoSaid : Prop := writeNamesUptoRow.holds Tryd.pinned (OpenSpec.upto writeNamesSpec)

end Rows
end Go.Proofs.YtdampfngdnicoaaDoor
